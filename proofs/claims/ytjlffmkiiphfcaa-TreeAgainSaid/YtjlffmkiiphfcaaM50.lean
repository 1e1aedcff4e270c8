/- TreeAgain: the walk. -/
import Derived.Test.YtjlffmkiiphfcaaM49
namespace Go.Proofs.Ytjlffmkiiphfcaa
open Go.ChangeShapes Go.WideShapes Go.ChangeAt Go.RowKit Go.Maps
set_option linter.unusedVariables false
set_option linter.unusedSimpArgs false
structure AgL (w : World) (B : Nat) (v : Value) (H : List HE) (q : TB) (iv : Value) (wr : World) : Prop where
  ex : ∃ i : Nat, iv = .int .i64 i ∧ i ≤ H.length ∧ HsN w B v H [(q, runH newM (H.take i))] (1 + 2000002 * i) wr
structure AgK (w : World) (B : Nat) (v : Value) (H : List HE) (q r : TB) (kv : Value) (wr : World) : Prop where
  ex : ∃ k : Nat, kv = .int .i64 k ∧ k ≤ 3 ∧ HsN w B v H [(q, runH newM H), (r, runH newM H)] (1000000000 + 1000000000 * k) wr
structure AgI (w : World) (B : Nat) (v : Value) (H : List HE) (q r : TB) (n k : Nat) (iv : Value) (wr : World) : Prop where
  ex : ∃ i : Nat, iv = .int .i64 i ∧ n ≤ i ∧ i ≤ H.length ∧ HsN w B v H [(q, runH newM H), (r, runH (runH newM H) ((H.take i).drop n))] (1000000000 + 1000000000 * k + 2000002 * i) wr
theorem runH_next {H : List HE} {i n : Nat} {E : HE} (h : H[i]? = some E) (hn : n ≤ i) (M : TM) : (applyM (runH M ((H.take i).drop n)) E.tx E.e.zx).1 = runH M ((H.take (i + 1)).drop n) := by
  obtain ⟨hi, rfl⟩ := List.getElem?_eq_some_iff.1 h
  rw [List.take_succ_eq_append_getElem hi, List.drop_append_of_le_length (by simp; omega), runH_snoc]
theorem tdiv_fit {a m : Int} (hm : 0 < m) (h : -9223372036854775808 ≤ a ∧ a ≤ 9223372036854775807) : -9223372036854775808 ≤ a.tdiv m ∧ a.tdiv m ≤ 9223372036854775807 := by
  rcases Int.le_total 0 a with h0 | h0
  · have h1 := Int.tdiv_nonneg h0 (Int.le_of_lt hm)
    have h2 := Int.tdiv_le_self m h0
    omega
  · obtain ⟨b, rfl⟩ : ∃ b, a = -b := ⟨-a, by omega⟩
    rw [Int.neg_tdiv]
    have h1 := Int.tdiv_nonneg (show 0 ≤ b by omega) (Int.le_of_lt hm)
    have h2 := Int.tdiv_le_self m (show 0 ≤ b by omega)
    omega
set_option maxRecDepth 100000 in
set_option maxHeartbeats 4000000 in
theorem ag_walk (w : World) (a0 : Option Addr) (cap0 : Nat) (l0 : List ActD) (fr tm : Int) (h0 : ActsD w a0 l0) (hf : -9223372036854775808 ≤ fr ∧ fr ≤ 9223372036854775807) (ht : -9223372036854775808 ≤ tm ∧ tm ≤ 9223372036854775807) :
    Calls Try.prog 3 #[.slice a0 l0.length cap0, .int .i64 fr, .int .i64 tm] w (QPost true w) := by
  have H0 := Lib.hid h0
  have HF := Lib.hid hf
  obtain ⟨f0, hf0⟩ : ∃ f0 : Int, (absN fr : Int) % 1099511627776 = f0 := ⟨_, rfl⟩
  have f1 : 0 ≤ f0 := by omega
  have f2 : f0 < 1099511627776 := by omega
  have HPF : Hid (∀ W, Calls Try.prog 13 #[.int .i64 fr, .int .i64 1099511627776] W fun e w' => e = .returned (.int .i64 f0) ∧ W = w') := Lib.hid (fun W => by rw [← hf0]; exact tpick_any fr 1099511627776 W hf.1 hf.2 (by decide) (by decide))
  obtain ⟨t3, ht3⟩ : ∃ t3 : Nat, absN tm % 3 = t3 := ⟨_, rfl⟩
  have t4 : t3 < 3 := by omega
  have HPT : Hid (∀ W, Calls Try.prog 13 #[.int .i64 tm, .int .i64 3] W fun e w' => e = .returned (.int .i64 t3) ∧ W = w') := Lib.hid (fun W => tpick_nat tm 3 W ht.1 ht.2 (by decide) (by decide) ht3)
  clear h0 hf ht hf0 ht3
  go_enter Try.func3, Try.ntmps3
  go_wp2_with fail
  refine (tawake_any w).mono ?_
  rintro e w1 ⟨rfl, hk1⟩
  have HK1 := Lib.hid hk1
  have HHI := Lib.hid (hist_any a0 cap0 l0 (H0.out.kept0 hk1) (1 + f0) (by omega) (by omega))
  clear hk1
  go_wp2_with fail
  refine (HPF.out _).mono ?_
  rintro e w1' ⟨rfl, rfl⟩
  go_wp2_with fail
  have h9 : IntKind.i64.wrap (1 + f0) = 1 + f0 := wrapI_id _ (by omega) (by omega)
  (try rw [h9])
  refine HHI.out.mono ?_
  rintro e w2 ⟨v, b, H, R, rfl, hat, hhi, _, hlen, _, _, hk2⟩
  have hk2' := HK1.out.trans hk2
  have HLEN := Lib.hid hlen
  have HAG := Lib.hid (again hhi)
  have HS0 : Hid (HsN w w2.heap.size v H [] 1 w2) := Lib.hid ⟨fun p hp => (List.not_mem_nil hp).elim, .nil, hat.low HK1.out.size, fun p hp => (List.not_mem_nil hp).elim, hk2'⟩
  obtain ⟨av, cv, rfl⟩ := own_shape hat.own
  obtain ⟨B, HB⟩ : ∃ B, Hid (w2.heap.size = B) := ⟨_, Lib.hid rfl⟩
  have HN1 := Lib.hid (tnew_any w2 (B := B) (Nat.le_of_eq HB.out.symm))
  rw [HB.out] at HS0
  clear hat hhi hlen hk2 hk2' HHI HK1 h9
  go_wp2_with fail
  refine HN1.out.mono ?_
  rintro e w3 ⟨q, rfl, hT, hk3, hq⟩
  have HS : Hid (HsN w B _ H [(q, newM)] 1 w3) := Lib.hid (HS0.out.more HS0.out.less hT hk3 hq)
  clear hT hk3 hq HN1 HS0 HB
  go_wp2_with fail
  go_loopw [11] (fun iv wr => AgL w B (.slice av H.length cv) H q iv wr) (fun iv _ => H.length - (intOf iv).toNat)
  case atStart => exact ⟨0, rfl, Nat.zero_le _, HS.out⟩
  case round =>
    obtain ⟨i, rfl, hi, hs⟩ := hrel.ex
    have HS := Lib.hid hs
    have hlen := HLEN.out
    clear hrel hs
    by_cases hlt : i < H.length
    · obtain ⟨E, hE⟩ : ∃ E, H[i]? = some E := ⟨_, List.getElem?_eq_getElem hlt⟩
      have HE' := Lib.hid hE
      obtain ⟨g, rfl⟩ := HS.out.blk hE
      have HA1 := Lib.hid (hs_apply HS.out (i := 0) (q := q) (M := runH newM (H.take i)) rfl hE (by omega))
      obtain ⟨x0, x1, x2, x3, x4, x5, x6, x7, x8, x9, x10⟩ := HS.out.ent hE
      clear hE
      unfold entV at HA1
      go_wp2_with fail
      refine HA1.out.mono ?_
      rintro e w5 ⟨va, vm, rfl, hs⟩
      have HS1 : Hid (HsN w B _ H [(q, runH newM (H.take (i + 1)))] _ w5) := Lib.hid (by have h9 := runH_next HE'.out (Nat.zero_le _) newM; simp only [List.drop_zero] at h9; rw [← h9]; exact hs)
      clear hs HA1 x0 x1 x2 x3 x4 x5 x6 x7 x8 x9 x10
      go_wp2_with fail
      exact ⟨⟨i + 1, by go_num, by omega, HS1.out.to (by omega)⟩, by show H.length - ((i : Int) + 1).toNat < H.length - (i : Int).toNat; omega⟩
    · have hkn : i = H.length := by omega
      have hs9 := HS.out
      rw [hkn, List.take_length] at hs9
      have HS := Lib.hid hs9
      clear hs9 hkn
      have HCL := Lib.hid (tclone_any (HS.out.t (q, runH newM H) (by simp)))
      go_wp2_with fail
      refine HCL.out.mono ?_
      rintro e w6 ⟨r, rfl, hr1, hq1, hrb, hk6⟩
      have HS2 : Hid (HsN w B _ H [(q, runH newM H), (r, runH newM H)] _ w6) := Lib.hid (HS.out.more HS.out.less hr1 hk6 hrb)
      clear hr1 hq1 hrb hk6 HCL
      go_wp2_with fail
      go_loopw [13] (fun kv wr => AgK w B (.slice av H.length cv) H q r kv wr) (fun kv _ => 4 - (intOf kv).toNat)
      case atStart => exact ⟨0, rfl, by omega, HS2.out.to (by have := HLEN.out; omega)⟩
      case round =>
        obtain ⟨k, rfl, hk, hs⟩ := hrel.ex
        have HS := Lib.hid hs
        clear hrel hs
        go_wp2_with fail
        refine (HPT.out _).mono ?_
        rintro e w7 ⟨rfl, rfl⟩
        by_cases hkt : k ≤ t3
        · obtain ⟨n, hn⟩ : ∃ n : Nat, (if 0 < H.length then absN (fr.tdiv ((k : Int) + 1)) % H.length else 0) = n := ⟨_, rfl⟩
          have hnl : n ≤ H.length := by
            rw [← hn]; split
            · exact Nat.le_of_lt (Nat.mod_lt _ (by assumption))
            · omega
          have HIQQ : Hid (∀ W, HsN w B (.slice av H.length cv) H [(q, runH newM H), (r, runH newM H)] (1000000000 + 1000000000 * k) W → AgI w B (.slice av H.length cv) H q r n k (.int .i64 n) W) := Lib.hid (fun W h => ⟨n, rfl, Nat.le_refl _, hnl, by
            rw [List.drop_eq_nil_of_le (by simp; omega)]; exact h.to (by omega)⟩)
          by_cases hz : 0 < H.length
          · rw [if_pos hz] at hn
            obtain ⟨d, hd⟩ : ∃ d, fr.tdiv ((k : Int) + 1) = d := ⟨_, rfl⟩
            have hdd : -9223372036854775808 ≤ d ∧ d ≤ 9223372036854775807 := hd ▸ tdiv_fit (by omega) HF.out
            rw [hd] at hn
            have hl5 := HLEN.out
            have HPD : Hid (∀ W, Calls Try.prog 13 #[.int .i64 d, .int .i64 H.length] W fun e w' => e = .returned (.int .i64 n) ∧ W = w') := Lib.hid (fun W => tpick_nat d H.length W hdd.1 hdd.2 hz (by omega) hn)
            have hk0 : (0 : Int) < (k : Int) + 1 := by omega
            have hw := wrapI_id _ hdd.1 hdd.2
            go_wp2_with fail
            refine (HPD.out _).mono ?_
            rintro e w7' ⟨rfl, rfl⟩
            go_wp2_with fail
            go_loopw [15] (fun iv wr => AgI w B (.slice av H.length cv) H q r n k iv wr) (fun iv _ => H.length - (intOf iv).toNat)
            case atStart => exact HIQQ.out _ HS.out
            case round =>
              obtain ⟨i, rfl, hni, hi, hs⟩ := hrel.ex
              have HS := Lib.hid hs
              have hlen := HLEN.out
              clear hrel hs
              by_cases hlt : i < H.length
              · obtain ⟨E, hE⟩ : ∃ E, H[i]? = some E := ⟨_, List.getElem?_eq_getElem hlt⟩
                have HE' := Lib.hid hE
                obtain ⟨g, rfl⟩ := HS.out.blk hE
                have HA1 := Lib.hid (hs_apply HS.out (i := 1) (q := r) (M := runH (runH newM H) ((H.take i).drop n)) rfl hE (by omega))
                obtain ⟨x0, x1, x2, x3, x4, x5, x6, x7, x8, x9, x10⟩ := HS.out.ent hE
                clear hE
                unfold entV at HA1
                go_wp2_with fail
                refine HA1.out.mono ?_
                rintro e w8 ⟨va, vm, rfl, hs⟩
                have HS1 : Hid (HsN w B _ H [(q, runH newM H), (r, runH (runH newM H) ((H.take (i + 1)).drop n))] _ w8) := Lib.hid (by have h9 := runH_next HE'.out hni (runH newM H); rw [← h9]; exact hs)
                clear hs HA1 x0 x1 x2 x3 x4 x5 x6 x7 x8 x9 x10
                go_wp2_with fail
                exact ⟨⟨i + 1, by go_num, by omega, by omega, HS1.out.to (by omega)⟩, by show H.length - ((i : Int) + 1).toNat < H.length - (i : Int).toNat; omega⟩
              · have hkn : i = H.length := by omega
                have hs9 := HS.out
                rw [hkn, List.take_length, HAG.out n] at hs9
                have HS := Lib.hid hs9
                clear hs9 hkn
                have HSM := Lib.hid (same_true (HS.out.t (r, runH newM H) (by simp)) (HS.out.t (q, runH newM H) (by simp)) (by omega) (by omega) rfl rfl rfl)
                go_wp2_with fail
                refine HSM.out.mono ?_
                rintro e w9 ⟨rfl, hk9⟩
                have HS3 := Lib.hid (HS.out.kept0 hk9)
                clear hk9
                go_wp2_with fail
                exact ⟨⟨k + 1, by go_num, by omega, HS3.out.to (by omega)⟩, by show 4 - ((k : Int) + 1).toNat < 4 - (k : Int).toNat; omega⟩
          · rw [if_neg hz] at hn
            subst hn
            go_wp2_with fail
            go_loopw [15] (fun iv wr => AgI w B (.slice av H.length cv) H q r 0 k iv wr) (fun iv _ => H.length - (intOf iv).toNat)
            case atStart => exact HIQQ.out _ HS.out
            case round =>
              obtain ⟨i, rfl, hni, hi, hs⟩ := hrel.ex
              have HS := Lib.hid hs
              have hlen := HLEN.out
              clear hrel hs
              by_cases hlt : i < H.length
              · obtain ⟨E, hE⟩ : ∃ E, H[i]? = some E := ⟨_, List.getElem?_eq_getElem hlt⟩
                have HE' := Lib.hid hE
                obtain ⟨g, rfl⟩ := HS.out.blk hE
                have HA1 := Lib.hid (hs_apply HS.out (i := 1) (q := r) (M := runH (runH newM H) ((H.take i).drop 0)) rfl hE (by omega))
                obtain ⟨x0, x1, x2, x3, x4, x5, x6, x7, x8, x9, x10⟩ := HS.out.ent hE
                clear hE
                unfold entV at HA1
                go_wp2_with fail
                refine HA1.out.mono ?_
                rintro e w8 ⟨va, vm, rfl, hs⟩
                have HS1 : Hid (HsN w B _ H [(q, runH newM H), (r, runH (runH newM H) ((H.take (i + 1)).drop 0))] _ w8) := Lib.hid (by have h9 := runH_next HE'.out hni (runH newM H); rw [← h9]; exact hs)
                clear hs HA1 x0 x1 x2 x3 x4 x5 x6 x7 x8 x9 x10
                go_wp2_with fail
                exact ⟨⟨i + 1, by go_num, by omega, by omega, HS1.out.to (by omega)⟩, by show H.length - ((i : Int) + 1).toNat < H.length - (i : Int).toNat; omega⟩
              · have hkn : i = H.length := by omega
                have hs9 := HS.out
                rw [hkn, List.take_length, HAG.out 0] at hs9
                have HS := Lib.hid hs9
                clear hs9 hkn
                have HSM := Lib.hid (same_true (HS.out.t (r, runH newM H) (by simp)) (HS.out.t (q, runH newM H) (by simp)) (by omega) (by omega) rfl rfl rfl)
                go_wp2_with fail
                refine HSM.out.mono ?_
                rintro e w9 ⟨rfl, hk9⟩
                have HS3 := Lib.hid (HS.out.kept0 hk9)
                clear hk9
                go_wp2_with fail
                exact ⟨⟨k + 1, by go_num, by omega, HS3.out.to (by omega)⟩, by show 4 - ((k : Int) + 1).toNat < 4 - (k : Int).toNat; omega⟩
        · go_wp2_with fail
          go_ret
          exact ⟨rfl, HS.out.kept⟩
end Go.Proofs.Ytjlffmkiiphfcaa
