/- The law's own functions: pick, same, awake; a script that came in. -/
import Derived.Test.YtlfcccckghnffaaSd
import Derived.IntWalk
import Derived.Deep.Slices
import Derived.Deep.Fields
import Derived.OpenShut
namespace Go.Proofs.Ytlfcccckghnffaa
open Go.ChangeShapes Go.WideShapes Go.ChangeAt Go.RowKit Go.Maps
set_option linter.unusedVariables false
set_option linter.unusedSimpArgs false
def absN (f : Int) : Nat := (if f < 0 then -(f + 1) else f).toNat
theorem pick_any (c n : Int) (w : World) (hc64 : I64 c) (hn : 0 < n) (hn2 : n ≤ 9223372036854775807) :
    Calls Try.prog 9 #[.int .i64 c, .int .i64 n] w fun e w' => e = .returned (.int .i64 ((absN c : Int) % n)) ∧ w = w' := by
  obtain ⟨h1, h2⟩ := hc64
  by_cases hc : c < 0
  · have HF : Hid (-(c + 1).tmod n = (absN c : Int) % n) := Lib.hid (by
      rw [← Int.neg_tmod, Int.tmod_eq_emod_of_nonneg (by omega)]
      unfold absN; rw [if_pos hc]; congr 1; omega)
    have hp : 0 ≤ -(c + 1) := by omega
    go_enter Try.func9, Try.ntmps9
    go_wp2
    go_ret
    exact ⟨ret_int HF.out, rfl⟩
  · have HF : Hid ((c % n) = (absN c : Int) % n) := Lib.hid (by unfold absN; rw [if_neg hc]; congr 1; omega)
    have hp : 0 ≤ c := by omega
    go_enter Try.func9, Try.ntmps9
    go_wp2
    go_ret
    exact ⟨ret_int HF.out, rfl⟩
theorem pick_nat (c : Int) (n : Nat) (w : World) (h64 : I64 c) (hn : 0 < n) (hn2 : n ≤ 1000000) {x : Nat} (hx : absN c % n = x) :
    Calls Try.prog 9 #[.int .i64 c, .int .i64 n] w fun e w' => e = .returned (.int .i64 x) ∧ w = w' := by
  have := pick_any c n w h64 (by omega) (by omega)
  rw [show (absN c : Int) % (n : Int) = (x : Int) by rw [← hx]; omega] at this
  exact this
section
variable {w w' : World}
theorem zrow_at {B : Nat} {v : Value} {l : List Int} (h : ZRow B w v l) {i : Nat} (hi : i < l.length) : ∃ g cap, v = .slice (some ⟨g, 0, none⟩) l.length cap ∧ B ≤ g ∧ g < w.heap.size ∧ w.cell? ⟨g, 0 + i, none⟩ = some (.int .i64 l[i]) ∧ w.frozen? ⟨g, 0 + i, none⟩ = false := by
  rcases h.2 with ⟨_, h0⟩ | ⟨g, cap, cur, rfl, hb, hh, r1, r2, r3, r4⟩
  · exact absurd h0 (by omega)
  · refine ⟨g, cap, rfl, hb, lt_of_block hh, ?_, by simp [World.frozen?, hh]⟩
    have h1 : (cur.toList.take (l.length * 1))[i]? = (l.map encZ)[i]? := by rw [r4]
    rw [List.getElem?_take_of_lt (by omega), Array.getElem?_toList] at h1
    rw [Nat.zero_add, cell_of_row _ g i _ _ (0, 0) hh, h1]
    simp [hi]
structure SaRel (w : World) (l m : List Int) (iv : Value) (wr : World) : Prop where
  ex : ∃ (i n : Nat), iv = .int .i64 i ∧ i ≤ l.length ∧ wr = w.drewN n ∧ ∀ j, j < i → l[j]? = m[j]?
set_option maxHeartbeats 1000000 in
theorem same_any {BA BB : Nat} {va vb : Value} {l m : List Int} (hA : ZRow BA w va l) (hB : ZRow BB w vb m) (hl : l.length ≤ 9223372036854775807) :
    Calls Try.prog 15 #[va, vb] w fun e w' => e = .returned (.bool (decide (l = m))) ∧ ∃ n, w' = w.drewN n := by
  obtain ⟨aa, ca, rfl⟩ := zrow_shape hA
  obtain ⟨ab, cb, rfl⟩ := zrow_shape hB
  have HA := Lib.hid hA
  have HB := Lib.hid hB
  clear hA hB
  by_cases hlen : l.length = m.length
  · have hE : ((l.length : Int) == (m.length : Int)) = true := by simp [hlen]
    have hE2 : (l.length : Int) = (m.length : Int) := by omega
    have HLEN := Lib.hid hlen
    clear hlen
    go_enter Try.func15, Try.ntmps15
    go_wp2_with fail
    go_loopw [5] (fun iv wr => SaRel w l m iv wr) (fun iv _ => l.length - (Go.RowKit.intOf iv).toNat)
    case atStart => exact ⟨0, 0, rfl, Nat.zero_le _, rfl, fun j hj => absurd hj (by omega)⟩
    case round =>
      obtain ⟨i, n, rfl, hi, rfl, hj⟩ := hrel.ex
      clear hrel
      have HJ := Lib.hid hj
      clear hj
      by_cases hlt : i < l.length
      · have hlm : i < m.length := by rw [← HLEN.out]; exact hlt
        obtain ⟨g, off, e1, _, _, hc, _⟩ := zrow_at HA.out hlt
        obtain ⟨g', off', e2, _, _, hc', _⟩ := zrow_at HB.out hlm
        injection e1 with e1a e1b e1c
        injection e2 with e2a e2b e2c
        subst e1a; subst e2a; subst e1c; subst e2c
        obtain ⟨x, hx⟩ : ∃ x, l[i] = x := ⟨_, rfl⟩
        obtain ⟨y, hy⟩ : ∃ y, m[i] = y := ⟨_, rfl⟩
        rw [hx] at hc
        rw [hy] at hc'
        have HX : Hid (l[i]? = some x) := Lib.hid (by rw [List.getElem?_eq_getElem hlt, hx])
        have HY : Hid (m[i]? = some y) := Lib.hid (by rw [List.getElem?_eq_getElem hlm, hy])
        rw [Nat.zero_add] at hc hc'
        clear hx hy e1b e2b
        by_cases hxy : x = y
        · subst hxy
          go_wp2_with fail
          go_quiet (fail)
          go_wp2_with fail
          go_roundw
          case rel => exact ⟨i + 1, n + nq, by go_num, by omega, rfl, fun j hj => by
            by_cases e : j = i
            · subst e; rw [HX.out, HY.out]
            · exact HJ.out j (by omega)⟩
          case measure => simp [Go.RowKit.intOf]; omega
        · have HNE : Hid (decide (l = m) = false) := Lib.hid (decide_eq_false (fun e => hxy (by
            have h1 := HX.out; rw [e, HY.out] at h1; exact (Option.some.inj h1).symm)))
          have hb : (x != y) = true := by simp [hxy]
          have hb2 : (x == y) = false := by simp [hxy]
          clear hxy
          go_wp2_with fail
          go_quiet (fail)
          go_wp2_with fail
          go_ret
          exact ⟨ret_bool (a := false) HNE.out.symm, n + nq, World.drewN_drewN w n nq⟩
      · have hge : l.length ≤ i := by omega
        have HEQ : Hid (decide (l = m) = true) := Lib.hid (decide_eq_true (List.ext_getElem? (fun j => by
          by_cases hjl : j < l.length
          · exact HJ.out j (by omega)
          · rw [List.getElem?_eq_none (by omega), List.getElem?_eq_none (by rw [← HLEN.out]; omega)])))
        go_wp2_with fail
        go_ret
        exact ⟨ret_bool (a := true) HEQ.out.symm, _, rfl⟩
  · have hE : ((l.length : Int) == (m.length : Int)) = false := by simp; omega
    have hE2 : ¬ (l.length : Int) = (m.length : Int) := by omega
    have HNE : Hid (decide (l = m) = false) := Lib.hid (decide_eq_false (fun e => hlen (by rw [e])))
    rw [HNE.out]
    go_enter Try.func15, Try.ntmps15
    go_wp2_with fail
    go_ret
    exact ⟨rfl, 0, rfl⟩
/-- a slice of one number, just made -/
theorem one_row (w : World) (x : Int) : ZRow w.heap.size (w.alloc (.cells #[.int .i64 x] 3)) (.slice (some ⟨w.heap.size, 0, none⟩) 1 1) [x] :=
  ⟨rfl, .inr ⟨w.heap.size, 1, _, rfl, Nat.le_refl _, World.alloc_heap_new w _, by simp, by unfold maxLen; omega, rfl, rfl⟩⟩
def awL : SL := [⟨7, 10, 12⟩]
theorem aw_open : openE [] 7 10 0 = 0 ∧ openL [] 7 10 0 = awL := ⟨rfl, rfl⟩
theorem aw_rest : deadN awL 7 = 12 ∧ deadE awL 7 = 0 ∧ expL awL 12 = [7] ∧ expL awL 11 = [] ∧ touchE awL 8 0 = 90 := ⟨rfl, rfl, rfl, rfl, rfl⟩
theorem kept_drewN (w : World) (n : Nat) : Kept (fun _ => False) w (w.drewN n) := (Kept.refl _ w).drewN n
set_option maxHeartbeats 1000000 in
theorem awake_any (w : World) : Calls Try.prog 6 #[] w fun e w' => e = .returned (.bool true) ∧ Kept (fun _ => False) w w' := by
  obtain ⟨o1, o2⟩ := aw_open
  obtain ⟨r1, r2, r3, r4, r5⟩ := aw_rest
  have HO1 := Lib.hid o1
  have HO2 := Lib.hid o2
  have HR1 := Lib.hid r1
  have HR2 := Lib.hid r2
  have HR3 := Lib.hid r3
  have HR4 := Lib.hid r4
  have HR5 := Lib.hid r5
  clear o1 o2 r1 r2 r3 r4 r5
  go_enter Try.func6, Try.ntmps6
  go_wp2_with fail
  refine (new_any _).mono ?_
  rintro e w1 ⟨q1, rfl, hq1, hb1, hk1⟩
  have HQ1 := Lib.hid hq1
  have HB1 := Lib.hid hb1
  have HK1 := Lib.hid hk1
  clear hq1 hb1 hk1
  go_wp2_with fail
  refine (open_any HQ1.out 7 10 0 (by unfold I64; omega) (by omega)).mono ?_
  rintro e w2 ⟨rfl, q2, hq2, ht2, hb2, hk2⟩
  rw [HO1.out, ← ht2]
  rw [HO2.out] at hq2
  have HQ2 := Lib.hid hq2
  have hk2' : Kept (fun _ => False) w w2 := HK1.out.trans' hk2 (fun k hk hs => by have := HB1.out k hs; omega)
  have HK2 := Lib.hid hk2'
  have HB2 : Hid (∀ k, SQs q2 k → w.heap.size ≤ k) := Lib.hid (fun k hk => by
    rcases hb2 k hk with h | h
    · exact HB1.out k h
    · have := HK1.out.size; omega)
  clear hq2 ht2 hb2 hk2 hk2'
  go_wp2_with fail
  refine (dead_any HQ2.out 7 (by unfold I64; omega)).mono ?_
  rintro e w3 ⟨rfl, hk3⟩
  rw [HR1.out, HR2.out]
  have HQ3 := Lib.hid (HQ2.out.kept0 hk3)
  have HK3 := Lib.hid (HK2.out.trans hk3)
  clear hk3
  go_wp2_with fail
  refine (exp_any HQ3.out 12 (by unfold I64; omega)).mono ?_
  rintro e w4 ⟨v4, rfl, hr4, hk4⟩
  rw [HR3.out] at hr4
  obtain ⟨a4, c4, rfl⟩ := zrow_shape hr4
  have HQ4 := Lib.hid (HQ3.out.kept0 hk4)
  have HK4 := Lib.hid (HK3.out.trans hk4)
  have hal := (Kept.refl (fun _ => False) w4).alloc (.cells #[.int .i64 7] 3)
  have HS := Lib.hid (same_any (zrow_kept hr4 hal (fun _ _ f => f)) (one_row w4 7) (by decide))
  have HA := Lib.hid hal
  clear hk4 hr4 hal
  go_wp2_with fail
  refine HS.out.mono ?_
  rintro e w5 ⟨rfl, n5, rfl⟩
  have hk5 := HA.out.trans (kept_drewN _ n5)
  have HQ5 := Lib.hid (HQ4.out.kept0 hk5)
  have HK5 := Lib.hid (HK4.out.trans hk5)
  clear hk5
  generalize World.drewN _ n5 = w5 at HQ5 HK5 ⊢
  go_wp2_with fail
  refine (exp_any HQ5.out 11 (by unfold I64; omega)).mono ?_
  rintro e w6 ⟨v6, rfl, hr6, hk6⟩
  rw [HR4.out] at hr6
  obtain ⟨a6, c6, rfl⟩ := zrow_shape hr6
  have HQ6 := Lib.hid (HQ5.out.kept0 hk6)
  have HK6 := Lib.hid (HK5.out.trans hk6)
  clear hk6 hr6
  go_wp2_with fail
  refine (touch_any HQ6.out 8 0 (by unfold I64; omega) (by omega)).mono ?_
  rintro e w7 ⟨rfl, q7, hq7, ht7, hb7, hk7⟩
  rw [HR5.out]
  have HK7 := Lib.hid (HK6.out.trans' hk7 (fun k hk hs => by have := HB2.out k hs; omega))
  clear hq7 ht7 hb7 hk7
  go_wp2_with fail
  go_ret
  exact ⟨rfl, HK7.out⟩
end
end Go.Proofs.Ytlfcccckghnffaa
