/- CodecAgain: the walk. -/
import Derived.Test.YtkfpkfbahkmakaaAgm
import Derived.Test.YtkfpkfbahkmakaaRead
import Derived.Test.YtkfpkfbahkmakaaAwake
import Derived.Deep.RegionHeld3
namespace Go.Proofs.Ytkfpkfbahkmakaa.codecAgain
open Go.ChangeShapes Go.WideShapes Go.ChangeAt Go.RowKit
set_option linter.unusedVariables false

structure Rel (w0 : World) (b1 : Nat) (v1 : Value) (b2 : Nat) (l : List UInt8) (n : Nat) (iv : Value) (wr : World) : Prop where
  ex : ∃ (k pos e : Nat) (la : List UInt8) (va : Value), iv = .int .i64 k ∧ k ≤ n ∧ RAt wr b1 v1 l pos e ∧ WAt wr b2 va la ∧ Good l pos e la k ∧ Disj (WS b1 v1) (WS b2 va) ∧ Off w0.heap.size (WS b2 va) ∧ Old w0 wr

theorem kept_drew {S : Nat → Prop} {w w' : World} (h : Kept S w.drew w') : Kept S w w' := ⟨h.os, h.tape, h.output, h.size, h.block⟩

theorem bytes_of (t : List UInt8) : (⟨t.toArray⟩ : ByteArray).data.toList = t := by simp

/-- one item's step -/
theorem step {w0 wr w4 w5 : World} {b1 b2 n k q x : Nat} {v1 va v5 : Value} {l la B : List UInt8} (hk : k < n) (hA : WAt wr b2 va la) (hO : Old w0 wr) (hd : Disj (WS b1 v1) (WS b2 va)) (o1 : Off w0.heap.size (WS b1 v1)) (o2 : Off w0.heap.size (WS b2 va))
    (hR4 : RAt w4 b1 v1 l q x) (k4 : Kept (RS b1) wr w4) (hW5 : WAt w5 b2 v5 (la ++ B)) (k5 : Kept (WS b2 va) w4 w5) (s5 : Sep w4 va.ownBlock v5) (hG : Good l q x (la ++ B) (k + 1)) :
    Rel w0 b1 v1 b2 l n (.int .i64 ((k : Int) + 1)) w5 := by
  have hO4 := hO.rs k4 o1
  exact ⟨k + 1, q, x, la ++ B, v5, by simp, hk, hR4.keep k5 hd, hW5, hG, (hd.symm.sep hR4.inn s5).symm, o2.sep hO4.size s5, hO4.step k5 o2⟩

set_option maxRecDepth 100000 in
set_option maxHeartbeats 1000000 in
theorem walk (s : ByteArray) (a : Option Addr) (len cap : Nat) (its : List Item) (w : World) (ws : s.size ≤ 140737488351232) (wl : len ≤ 3518437208883) (hI : ItemsAt w a len its) :
    Calls Try.prog 6 #[.string s, .slice a len cap] w fun e w' => e = .returned (.bool true) ∧ Below w.heap.size w w' := by
  have hsl : s.data.toList.length = s.size := by simp
  generalize hl : s.data.toList = l at hsl
  have HL := Lib.hid hl
  go_enter Try.func6, Try.ntmps6
  go_wp2_with fail
  refine (awake_any _).mono ?_
  rintro e w1 ⟨rfl, hO1⟩
  go_wp2_with fail
  refine (read_any s _ (by unfold maxLen; omega)).mono ?_
  rintro e w2 ⟨b1, v1, rfl, hR2, hb1, hv1, k2⟩
  rw [hl] at hR2
  clear hl
  have hO2 := hO1.none k2
  have o1 := off_of hO1 hb1 hv1
  clear hO1 k2 hb1 hv1
  go_wp2_with fail
  refine (new_any _).mono ?_
  rintro e w3 ⟨rfl, rfl⟩
  have kk : Kept (fun _ => False) w2 (w2.alloc (.cells #[.slice none 0 0] 59)) := Kept.alloc (Kept.refl _ _) _
  have hO3 := hO2.none kk
  have hR3 := hR2.keep kk (disj_none _)
  have hA3 := new_at w2
  have o2 := new_off w w2 hO2
  have hd := (Off.disj (new_off' w2) hR2.inn).symm
  have hstart : Rel w b1 v1 w2.heap.size l len (.int .i64 0) _ := ⟨0, 0, 0, [], _, rfl, Nat.zero_le _, hR3, hA3, ⟨fun _ => by simp, by simp⟩, hd, o2, hO3⟩
  clear kk hO3 hR3 hA3 o2 hd hR2 hO2
  have HST := Lib.hid hstart; clear hstart
  generalize w2.heap.size = b2 at HST ⊢
  generalize w2.alloc (.cells #[.slice none 0 0] 59) = w3 at HST ⊢
  go_wp2_with fail
  go_loopw [8] (fun iv wr => Rel w b1 v1 b2 l len iv wr) (fun iv _ => len - (intOf iv).toNat)
  case atStart => exact HST.out
  case round =>
    obtain ⟨k, pos, e, la, va, rfl, hk, hR, hA, hG, hd, o2, hO⟩ := hrel.ex
    clear hrel HST
    have hI2 := hI.below hO.below
    have hlal := hG.len
    by_cases hlt : k < len
    · obtain ⟨hlen, hfits, hroom, hat⟩ := hI2
      rcases hat with h0 | ⟨b, off, rfl, hb, hc⟩
      · omega
      obtain ⟨c0, c1, c2, c3⟩ := hc k (by omega)
      have hfit := hfits _ (List.getElem_mem (show k < its.length by omega))
      obtain ⟨hn1, hn2⟩ := hfit.n
      clear hfit
      have hkl : (k : Int) < (len : Int) := by omega
      have hnn : (0 : Int) ≤ (k : Int) := by omega
      generalize its[k] = x at c0 c1 c2 c3 hn1 hn2
      obtain ⟨kd, n, f, t⟩ := x
      simp only at c0 c1 c2 c3 hn1 hn2
      clear hc hfits hlen
      have hgn := good_num hG
      have hgf := good_flag hG
      have hgt := good_text (most := n) hG
      have hgc := good_count (most := n) hG
      have hfin : ∀ (w4 w5 : World) (q x : Nat) (v5 : Value) (B : List UInt8), RAt w4 b1 v1 l q x → Kept (RS b1) wr w4 → WAt w5 b2 v5 (la ++ B) → Kept (WS b2 va) w4 w5 → Sep w4 va.ownBlock v5 → Good l q x (la ++ B) (k + 1) → Rel w b1 v1 b2 l len (.int .i64 ((k : Int) + 1)) w5 :=
        fun w4 w5 q x v5 B h1 h2 h3 h4 h5 h6 => step hlt hA hO hd o1 o2 h1 h2 h3 h4 h5 h6
      have HFIN := Lib.hid hfin; clear hfin
      by_cases h1 : kd = 1
      · subst h1
        clear hgf hgt hgc
        have hfit := rSev_fit l pos e
        have hcall := fun W h => rnum_any W b1 v1 l pos e h
        rcases hr : rSev l pos e with ⟨z, q, x⟩
        rw [hr] at hcall hgn hfit
        simp only at hcall hgn hfit
        have HC := Lib.hid hcall; have HG := Lib.hid hgn; have HR := Lib.hid hr
        have HZ := Lib.hid (zz_unzz z)
        have z1 := unzz_lo hfit
        have z2 := unzz_hi hfit
        clear hcall hgn hr
        generalize unzz z = zn at HC HZ z1 z2
        go_wp2_with (first | (go_at_call 20; refine (HC.out _ hR).mono ?_; rintro en w4 ⟨rfl, hR4, k4⟩) | (go_at_call 24; refine (wnum_wide zn _ b2 va la (hA.keep k4 hd.symm.rs) z1 z2 (by omega)).mono ?_; rw [HZ.out]; rintro en w5 ⟨v5, rfl, hW5, k5, s5⟩))
        exact ⟨HFIN.out _ _ _ _ _ _ hR4 k4 hW5 k5 s5 HG.out, by simp [intOf]; omega⟩
      · by_cases h2 : kd = 2
        · subst h2
          clear hgn hgt hgc
          have hcall := fun W h => rflag_any W b1 v1 l pos e h
          rcases hr : rFlag l pos e with ⟨fl, q, x⟩
          rw [hr] at hcall hgf
          simp only at hcall hgf
          have HC := Lib.hid hcall; have HG := Lib.hid hgf; have HR := Lib.hid hr
          clear hcall hgf hr
          go_wp2_with (first | (go_at_call 21; refine (HC.out _ hR).mono ?_; rintro en w4 ⟨rfl, hR4, k4⟩) | (go_at_call 25; refine (wflag_wide fl _ b2 va la (hA.keep k4 hd.symm.rs) (by omega)).mono ?_; rintro en w5 ⟨v5, rfl, hW5, k5, s5⟩))
          exact ⟨HFIN.out _ _ _ _ _ _ hR4 k4 hW5 k5 s5 HG.out, by simp [intOf]; omega⟩
        · by_cases h3 : kd = 3
          · subst h3
            clear hgn hgf hgc
            have hcall := fun W h => rtext_any n W b1 v1 l pos e h hn1 hn2
            have ht1 := rText_len (most := n) hG
            have ht2 := rText_le (l := l) (most := n) (pos := pos) (e := e)
            rcases hr : rText l n pos e with ⟨tx, q, x⟩
            rw [hr] at hcall hgt ht1 ht2
            simp only at hcall hgt ht1 ht2
            obtain ⟨tb, htb⟩ : ∃ tb : ByteArray, tb = ⟨tx.toArray⟩ := ⟨_, rfl⟩
            have htd : tb.data.toList = tx := by rw [htb]
            have hts : tb.size = tx.length := by rw [← htd]; simp
            rw [← htb] at hcall
            rw [← hts] at hgt
            rw [← htd] at hgt
            have HC := Lib.hid hcall; have HG := Lib.hid hgt; have HR := Lib.hid hr
            clear hcall hgt hr htb htd
            go_wp2_with (first | (go_at_call 22; refine (HC.out _ hR).mono ?_; rintro en w4 ⟨rfl, hR4, k4⟩) | (go_at_call 26; refine (wtext_wide tb _ b2 va la (hA.keep k4 hd.symm.rs) (by omega) (by omega)).mono ?_; rintro en w5 ⟨v5, rfl, hW5, k5, s5⟩))
            exact ⟨HFIN.out _ _ _ _ _ _ hR4 k4 hW5 k5 s5 HG.out, by simp [intOf]; omega⟩
          · by_cases h4 : kd = 4
            · subst h4
              clear hgn hgf hgt
              have hcall := fun W h => rcount_any n W b1 v1 l pos e h hn1 hn2
              have hcl := rCount_le l n pos e
              rcases hr : rCount l n pos e with ⟨z, q, x⟩
              rw [hr] at hcall hgc hcl
              simp only at hcall hgc hcl
              have hz : z ≤ 9223372036854775807 := by omega
              have HC := Lib.hid hcall; have HG := Lib.hid hgc; have HR := Lib.hid hr
              clear hcall hgc hr hcl
              go_wp2_with (first | (go_at_call 23; refine (HC.out _ hR).mono ?_; rintro en w4 ⟨rfl, hR4, k4⟩) | (go_at_call 27; refine (wcount_wide z _ b2 va la (hA.keep k4 hd.symm.rs) hz (by omega)).mono ?_; rintro en w5 ⟨v5, rfl, hW5, k5, s5⟩))
              exact ⟨HFIN.out _ _ _ _ _ _ hR4 k4 hW5 k5 s5 HG.out, by simp [intOf]; omega⟩
            · clear hgn hgf hgt hgc HFIN
              have hnone := good_none hG
              have HN := Lib.hid hnone; clear hnone
              go_wp2_with fail
              exact ⟨⟨k + 1, pos, e, la, va, rfl, hlt, hR, hA, HN.out, hd, o2, hO⟩, by simp [intOf]; omega⟩
    · have hkl : ¬ (k : Int) < (len : Int) := by omega
      have hcall := rend_e wr b1 v1 l pos e hR
      by_cases hE : rEndE l.length pos e = 0
      · obtain ⟨rfl, hpos⟩ := rEndE_zero hE
        have hla : la = l := by rw [hG.same rfl, hpos, List.take_length]
        have hs : (⟨la.toArray⟩ : ByteArray) = s := by rw [hla, ← HL.out]
        rw [hE] at hcall
        have HS := Lib.hid hs; have HC := Lib.hid hcall
        clear hs hla hcall hE hG hlal hpos
        go_wp2_with fail
        refine HC.out.mono ?_
        rintro en w4 ⟨rfl, hR4, k4⟩
        go_wp2_with fail
        refine (wbytes_any _ b2 va la (hA.keep k4 hd.symm.rs)).mono ?_
        rw [HS.out]
        rintro en w5 ⟨rfl, n5, rfl⟩
        go_wp2_with fail
        go_ret
        exact ⟨ret_val (congrArg Value.bool (by simp)), ((hO.rs k4 o1).drewN n5).below⟩
      · have hb : ¬ (((rEndE l.length pos e : Nat) : Int) = 0) := by omega
        generalize rEndE l.length pos e = en at hcall hb
        have HC := Lib.hid hcall
        clear hcall hE hG hlal
        go_wp2_with fail
        refine HC.out.mono ?_
        rintro en w4 ⟨rfl, hR4, k4⟩
        go_wp2_with fail
        go_ret
        exact ⟨rfl, (hO.rs k4 o1).below⟩
end Go.Proofs.Ytkfpkfbahkmakaa.codecAgain
