/- The document's own given and May. -/
import Derived.Test.YtpjanfclobpkjaaDoorUc
namespace Go.Proofs.YtpjanfclobpkjaaDoor
open Go.ChangeShapes Go.WideShapes Go.ChangeAt Go.RowKit
set_option linter.unusedVariables false
set_option linter.unusedSimpArgs false

def gvB (bit : Int) (ids : List ByteArray) (r : Row) : Bool := !(P64 r.perms &&& P64 bit == 0#64) && hits ids r
theorem bits_and_zero (x y : Int) : (bits .and .i64 x y == 0) = (P64 x &&& P64 y == 0#64) := by
  rw [bits_and, Bool.eq_iff_iff, beq_iff_eq, beq_iff_eq, toInt_zero]
theorem any_all_false {α : Type} {P : α → Bool} {l : List α} {k : Nat} (hk : ¬ k < l.length) (h : (l.take k).any P = false) : l.any P = false := by
  rwa [List.take_of_length_le (by omega)] at h

structure GiRel (w : World) (l : List Row) (ids : List ByteArray) (bit : Int) (iv : Value) (wr : World) : Prop where
  ex : ∃ k n : Nat, k ≤ l.length ∧ iv = .int .i64 k ∧ wr = w.drewN n ∧ (l.take k).any (gvB bit ids) = false
structure GjRel (w : World) (ids : List ByteArray) (r : Row) (jv : Value) (wr : World) : Prop where
  ex : ∃ k n : Nat, k ≤ ids.length ∧ jv = .int .i64 k ∧ wr = w.drewN n ∧ (ids.take k).any (fun y => y.data.toList == r.id.data.toList) = false

set_option maxHeartbeats 2000000 in
theorem given_any {w : World} {v iv : Value} {l : List Row} {ids : List ByteArray} (h : RowsAt w v l) (hi : IdsAt w iv ids) (bit : Int) (p1 : -9223372036854775808 ≤ bit) (p2 : bit ≤ 9223372036854775807) {x : Bool} (hx : l.any (gvB bit ids) = x) :
    Calls Tryd.prog 18 #[v, .int .i64 bit, iv] w fun e w' => e = .returned (.bool x) ∧ ∃ n, w' = w.drewN n := by
  have HX := Lib.hid hx; clear hx
  have H := Lib.hid h
  have HI := Lib.hid hi
  have hroom := h.room
  have hiroom := hi.room
  have HF := Lib.hid h.fits
  obtain ⟨a, cap, rfl, _⟩ := h.ex
  obtain ⟨ia, icap, rfl, _⟩ := hi.ex
  clear h hi
  go_enter Tryd.func18, Tryd.ntmps18
  go_wp2
  go_loopw [7, 8] (fun iv _ wr => GiRel w l ids bit iv wr) (fun iv _ _ => l.length - (intOf iv).toNat)
  case atStart => exact ⟨0, 0, Nat.zero_le _, rfl, rfl, rfl⟩
  case round =>
    obtain ⟨k, n, hk, rfl, rfl, hno⟩ := hrel.ex
    clear hrel
    have HNO := Lib.hid hno; clear hno
    by_cases hlt : k < l.length
    · obtain ⟨r, hr⟩ : ∃ r, l[k] = r := ⟨_, rfl⟩
      obtain ⟨g, off, rfl, hg, hc1, hc2⟩ := H.out.at_ hlt hr
      have HS : Hid (gvB bit ids r = false → (l.take (k + 1)).any (gvB bit ids) = false) := Lib.hid (fun e => by rw [any_snoc _ l k hlt, HNO.out, hr, e]; rfl)
      have HT : Hid (gvB bit ids r = true → x = true) := Lib.hid (fun e => by rw [← HX.out]; exact any_true hlt (by rw [hr]; exact e))
      clear hr
      have hb := bits_and_zero r.perms bit
      cases hz : (P64 r.perms &&& P64 bit == 0#64)
      · rw [hz] at hb
        have HZ := Lib.hid hz
        clear hz
        by_cases hw : r.id.toList = [119, 111, 114, 108, 100]
        · have g1 : (r.id.toList == [119, 111, 114, 108, 100]) = true := by simpa using hw
          have HM := Lib.hid (HT.out (by rw [gvB, HZ.out, hits, ← Lib.toList_data, hw]; rfl))
          clear hw
          go_wp2
          go_ret
          exact ⟨ret_bool HM.out.symm, _, rfl⟩
        · have g1 : (r.id.toList == [119, 111, 114, 108, 100]) = false := by simpa using hw
          have G2 : Hid ((r.id.data.toList == worldL) = false) := Lib.hid (by rw [← Lib.toList_data]; exact g1)
          clear hw
          go_wp2
          clear hb g1
          go_loopw [8] (fun jv wr => GjRel w ids r jv wr) (fun jv _ => ids.length - (intOf jv).toNat)
          case atStart => exact ⟨0, _, Nat.zero_le _, rfl, rfl, rfl⟩
          case round =>
            obtain ⟨j, m, hj, rfl, rfl, hjo⟩ := hrel.ex
            clear hrel
            have HJO := Lib.hid hjo; clear hjo
            by_cases hjlt : j < ids.length
            · obtain ⟨s, hs⟩ : ∃ s, ids[j] = s := ⟨_, rfl⟩
              obtain ⟨g', off', rfl, hg', hc3⟩ := HI.out.at_ hjlt hs
              cases he : (s.data.toList == r.id.data.toList)
              · have HSN : Hid ((ids.take (j + 1)).any (fun y => y.data.toList == r.id.data.toList) = false) := Lib.hid (by rw [any_snoc _ ids j hjlt, HJO.out, hs, he]; rfl)
                have g3 : (s.toList == r.id.toList) = false := by rw [Lib.toList_data, Lib.toList_data]; exact he
                clear hs he
                go_wp2
                go_quiet (fail)
                go_wp2
                go_roundw
                case rel => exact ⟨j + 1, m + nq, by omega, by go_num, rfl, HSN.out⟩
                case measure => simp [intOf]; omega
              · have HHT : Hid (x = true) := Lib.hid (HT.out (by
                  rw [gvB, HZ.out, hits, G2.out]
                  have : (ids.any fun y => y.data.toList == r.id.data.toList) = true := any_true hjlt (by rw [hs]; exact he)
                  rw [this]; rfl))
                have g3 : (s.toList == r.id.toList) = true := by rw [Lib.toList_data, Lib.toList_data]; exact he
                clear hs he
                go_wp2
                go_quiet (fail)
                go_wp2
                go_ret
                exact ⟨ret_bool HHT.out.symm, m + nq, by first | rfl | exact World.drewN_drewN _ _ _⟩
            · have HN := Lib.hid (HS.out (by
                rw [gvB, HZ.out, hits, G2.out, any_all_false hjlt HJO.out]; rfl))
              go_wp2
              go_roundw
              case rel => exact ⟨k + 1, m, by omega, by go_num, rfl, HN.out⟩
              case measure => simp [intOf]; omega
      · rw [hz] at hb
        have HM := Lib.hid (HS.out (by rw [gvB, hz]; rfl))
        clear hz
        go_wp2
        go_roundw
        case rel => exact ⟨k + 1, n, by omega, by go_num, rfl, HM.out⟩
        case measure => simp [intOf]; omega
    · have HN : Hid (x = false) := Lib.hid (by rw [← HX.out]; exact any_all_false hlt HNO.out)
      go_wp2
      go_ret
      exact ⟨ret_bool HN.out.symm, n, rfl⟩

/-! ### the document's May -/
theorem bit_zero (x : BitVec 64) {j : Nat} (hj : j < 5) : (x &&& P64 ((2 ^ j : Nat) : Int) == 0#64) = !x.getLsbD j := by
  have e : P64 ((2 ^ j : Nat) : Int) = BitVec.twoPow 64 j := by
    rcases (show j = 0 ∨ j = 1 ∨ j = 2 ∨ j = 3 ∨ j = 4 by omega) with rfl | rfl | rfl | rfl | rfl <;> decide
  rw [e, BitVec.and_twoPow]
  cases x.getLsbD j
  · simp
  · simp only [if_true, Bool.not_true, beq_eq_false_iff_ne]
    intro h
    have := congrArg (BitVec.getLsbD · j) h
    simp [BitVec.getLsbD_twoPow] at this
    omega
theorem gv_grant (l : List Row) (ids : List ByteArray) {j : Nat} (hj : j < 5) : l.any (gvB ((2 ^ j : Nat) : Int) ids) = (grant l ids).getLsbD j := by
  rw [grant_bit]
  congr 1
  funext r
  rw [gvB, bit_zero _ hj, Bool.not_not, Bool.and_comm]
theorem may_false {l : List Row} {p : Int} {ids : List ByteArray} {j : Nat} (h1 : -9223372036854775808 ≤ p) (h2 : p ≤ 9223372036854775807) (hp : (P64 p).getLsbD j = true) (hg : (grant l ids).getLsbD j = false) : mayB l p ids = false := by
  cases h : mayB l p ids
  · rfl
  · obtain ⟨_, r, hr, hh, hb⟩ := (may_iff h1 h2).1 h j hp
    rw [grant_bit, List.any_eq_false] at hg
    have := hg r hr
    simp [hh, hb] at this
theorem may_true {l : List Row} {p : Int} {ids : List ByteArray} (h1 : -9223372036854775808 ≤ p) (h2 : p ≤ 9223372036854775807) (hs : small p = true) (h : ∀ j, j < 5 → (P64 p).getLsbD j = true → (grant l ids).getLsbD j = true) : mayB l p ids = true := by
  rw [may_iff h1 h2]
  intro k hk
  have hk5 : k < 5 := Nat.lt_of_not_le fun h => by rw [(small_bits h1 h2).1 hs k h] at hk; cases hk
  have := h k hk5 hk
  rw [grant_bit, List.any_eq_true] at this
  obtain ⟨r, hr, hb⟩ := this
  rw [Bool.and_eq_true] at hb
  exact ⟨hk5, r, hr, hb⟩

structure RmRel (w : World) (l : List Row) (ids : List ByteArray) (p : Int) (bv : Value) (wr : World) : Prop where
  ex : ∃ j : Nat, j ≤ 5 ∧ bv = .int .i64 ((2 ^ j : Nat) : Int) ∧ (∃ n, wr = w.drewN n) ∧ ∀ i, i < j → (P64 p).getLsbD i = true → (grant l ids).getLsbD i = true

set_option maxHeartbeats 2000000 in
theorem refMay_any {w : World} {v iv : Value} {l : List Row} {ids : List ByteArray} (h : RowsAt w v l) (hi : IdsAt w iv ids) (p : Int) (p1 : -9223372036854775808 ≤ p) (p2 : p ≤ 9223372036854775807) {x : Bool} (hx : mayB l p ids = x) :
    Calls Tryd.prog 12 #[v, .int .i64 p, iv] w fun e w' => e = .returned (.bool x) ∧ ∃ n, w' = w.drewN n := by
  have HX := Lib.hid hx; clear hx
  have H := Lib.hid h
  have HI := Lib.hid hi
  obtain ⟨a, cap, rfl, _⟩ := h.ex
  obtain ⟨ia, icap, rfl, _⟩ := hi.ex
  clear h hi
  by_cases h1 : p < 0
  · have HG : Hid (x = false) := Lib.hid (by rw [← HX.out]; simp [mayB, small]; intro; omega)
    go_enter Tryd.func12, Tryd.ntmps12
    go_wp2
    go_ret
    exact ⟨ret_bool HG.out.symm, 0, rfl⟩
  by_cases h4 : 31 < p
  · have HG : Hid (x = false) := Lib.hid (by rw [← HX.out]; simp [mayB, small]; intro; omega)
    go_enter Tryd.func12, Tryd.ntmps12
    go_wp2
    go_ret
    exact ⟨ret_bool HG.out.symm, 0, rfl⟩
  have HS : Hid (small p = true) := Lib.hid (by simp [small]; omega)
  go_enter Tryd.func12, Tryd.ntmps12
  go_wp2
  go_loopw [7, 8] (fun bv _ wr => RmRel w l ids p bv wr) (fun bv _ _ => 32 - (intOf bv).toNat)
  case atStart => exact ⟨0, Nat.zero_le _, rfl, ⟨0, rfl⟩, fun i hi => absurd hi (by omega)⟩
  case round =>
    obtain ⟨j, hj, rfl, ⟨n, rfl⟩, hall⟩ := hrel.ex
    clear hrel
    have HA := Lib.hid hall; clear hall
    by_cases hj5 : j < 5
    · have hlt : 2 ^ j < 32 := Nat.pow_lt_pow_right (by decide) hj5
      have hpos : 1 ≤ 2 ^ j := Nat.one_le_two_pow
      have HP2 : Hid (2 ^ (j + 1) = 2 ^ j * 2) := Lib.hid (Nat.pow_succ 2 j)
      obtain ⟨y, hy⟩ : ∃ y, l.any (gvB ((2 ^ j : Nat) : Int) ids) = y := ⟨_, rfl⟩
      have HY := Lib.hid hy
      rw [gv_grant l ids hj5] at hy
      have hb := bits_and_zero p ((2 ^ j : Nat) : Int)
      rw [bit_zero _ hj5] at hb
      have hR : RowsAt (w.drewN n) (.slice a l.length cap) l := H.out.below (below_drewN w n)
      have hI : IdsAt (w.drewN n) (.slice ia ids.length icap) ids := HI.out.below (below_drewN w n)
      have HR := Lib.hid hR
      have HII := Lib.hid hI
      clear hR hI
      cases hp : (P64 p).getLsbD j
      · rw [hp] at hb
        have HN : Hid (∀ i, i < j + 1 → (P64 p).getLsbD i = true → (grant l ids).getLsbD i = true) := Lib.hid (fun i hi hbi => by
          by_cases e : i = j
          · subst e; rw [hp] at hbi; cases hbi
          · exact HA.out i (by omega) hbi)
        have hb1 : (bits .and .i64 p ((2 ^ j : Nat) : Int) != 0) = false := by simpa [bne] using hb
        clear hp hb hy
        generalize 2 ^ j = q at hlt hpos HP2 HY hb1
        go_wp2_with (go_at_call 18; refine (given_any HR.out HII.out _ (by omega) (by omega) HY.out).mono ?_; rintro e w1 ⟨rfl, m, rfl⟩)
        go_roundw
        case rel => exact ⟨j + 1, by omega, by rw [HP2.out]; go_num, ⟨n + m, rfl⟩, HN.out⟩
        case measure => simp [intOf]; omega
      · rw [hp] at hb
        have hb1 : (bits .and .i64 p ((2 ^ j : Nat) : Int) != 0) = true := by simpa [bne] using hb
        cases y
        · have HF : Hid (x = false) := Lib.hid (by rw [← HX.out]; exact may_false p1 p2 hp hy)
          clear hp hb hy
          generalize 2 ^ j = q at hlt hpos HP2 HY hb1
          go_wp2_with (go_at_call 18; refine (given_any HR.out HII.out _ (by omega) (by omega) HY.out).mono ?_; rintro e w1 ⟨rfl, m, rfl⟩)
          go_ret
          exact ⟨ret_bool HF.out.symm, n + m, rfl⟩
        · have HN : Hid (∀ i, i < j + 1 → (P64 p).getLsbD i = true → (grant l ids).getLsbD i = true) := Lib.hid (fun i hi hbi => by
            by_cases e : i = j
            · subst e; exact hy
            · exact HA.out i (by omega) hbi)
          clear hp hb hy
          generalize 2 ^ j = q at hlt hpos HP2 HY hb1
          go_wp2_with (go_at_call 18; refine (given_any HR.out HII.out _ (by omega) (by omega) HY.out).mono ?_; rintro e w1 ⟨rfl, m, rfl⟩)
          go_roundw
          case rel => exact ⟨j + 1, by omega, by rw [HP2.out]; go_num, ⟨n + m, rfl⟩, HN.out⟩
          case measure => simp [intOf]; omega
    · obtain rfl : j = 5 := by omega
      have HN : Hid (x = true) := Lib.hid (by rw [← HX.out]; exact may_true p1 p2 HS.out HA.out)
      go_wp2
      go_ret
      exact ⟨ret_bool HN.out.symm, n, rfl⟩
end Go.Proofs.YtpjanfclobpkjaaDoor
