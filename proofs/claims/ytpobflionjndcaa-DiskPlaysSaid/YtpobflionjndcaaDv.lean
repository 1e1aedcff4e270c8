/- same. -/
import Derived.Test.YtpobflionjndcaaDt
namespace Go.Proofs.Ytpobflionjndcaa
open Go.ChangeShapes Go.WideShapes Go.ChangeAt Go.RowKit
open Go.Maps Go.Sort Go.Shelf Go.Proofs
set_option linter.unusedVariables false
set_option linter.unusedSimpArgs false

structure SaRel (w : World) (l m : List Int) (iv : Value) (wr : World) : Prop where
  ex : ∃ (i n : Nat), iv = .int .i64 i ∧ i ≤ l.length ∧ wr = w.drewN n ∧ ∀ j, j < i → l[j]? = m[j]?

set_option maxHeartbeats 1000000 in
theorem same_any {w : World} {okA okB : Nat → Prop} {va vb : Value} {l m : List Int} (hA : HowAt w okA va l) (hB : HowAt w okB vb m) (hl : l.length ≤ 9223372036854775807) :
    Calls Try.prog 28 #[va, vb] w fun e w' => e = .returned (.bool (decide (l = m))) ∧ ∃ n, w' = w.drewN n := by
  obtain ⟨aa, ca, rfl, _⟩ := hA.ex
  obtain ⟨ab, cb, rfl, _⟩ := hB.ex
  have HA := Lib.hid hA
  have HB := Lib.hid hB
  clear hA hB
  by_cases hlen : l.length = m.length
  · have hE : ((l.length : Int) == (m.length : Int)) = true := by simp [hlen]
    have hE2 : (l.length : Int) = (m.length : Int) := by omega
    have HLEN := Lib.hid hlen
    clear hlen
    go_enter Try.func28, Try.ntmps28
    go_wp2_with fail
    go_loopw [5] (fun iv wr => SaRel w l m iv wr) (fun iv _ => l.length - (Go.RowKit.intOf iv).toNat)
    case atStart => exact ⟨0, 0, rfl, Nat.zero_le _, rfl, fun j hj => absurd hj (by omega)⟩
    case round =>
      obtain ⟨i, n, rfl, hi, rfl, hj⟩ := hrel.ex
      clear hrel
      have HJ := Lib.hid hj
      clear hj
      by_cases hlt : i < l.length
      · have hlm : i < m.length := by rw [← HLEN.out]; exact hlt
        obtain ⟨g, off, rfl, _, hc⟩ := HA.out.ex_at hlt
        obtain ⟨g', off', rfl, _, hc'⟩ := HB.out.ex_at hlm
        obtain ⟨x, hx⟩ : ∃ x, l[i] = x := ⟨_, rfl⟩
        obtain ⟨y, hy⟩ : ∃ y, m[i] = y := ⟨_, rfl⟩
        rw [hx] at hc
        rw [hy] at hc'
        have HX : Hid (l[i]? = some x) := Lib.hid (by rw [List.getElem?_eq_getElem hlt, hx])
        have HY : Hid (m[i]? = some y) := Lib.hid (by rw [List.getElem?_eq_getElem hlm, hy])
        clear hx hy
        by_cases hxy : x = y
        · subst hxy
          go_wp2_with fail
          go_quiet (fail)
          go_wp2_with fail
          go_roundw
          case rel => exact ⟨i + 1, n + nq, by go_num, by omega, rfl, fun j hj => by
            by_cases e : j = i
            · subst e; rw [HX.out, HY.out]
            · exact HJ.out j (by omega)⟩
          case measure => simp [Go.RowKit.intOf]; omega
        · have HNE : Hid (decide (l = m) = false) := Lib.hid (decide_eq_false (fun e => hxy (by
            have h1 := HX.out; rw [e, HY.out] at h1; exact (Option.some.inj h1).symm)))
          have hb : (x != y) = true := by simp [hxy]
          have hb2 : (x == y) = false := by simp [hxy]
          clear hxy
          go_wp2_with fail
          go_quiet (fail)
          go_wp2_with fail
          go_ret
          exact ⟨ret_bool (a := false) HNE.out.symm, n + nq, World.drewN_drewN w n nq⟩
      · have hge : l.length ≤ i := by omega
        have HEQ : Hid (decide (l = m) = true) := Lib.hid (decide_eq_true (List.ext_getElem? (fun j => by
          by_cases hjl : j < l.length
          · exact HJ.out j (by omega)
          · rw [List.getElem?_eq_none (by omega), List.getElem?_eq_none (by rw [← HLEN.out]; omega)])))
        go_wp2_with fail
        go_ret
        exact ⟨ret_bool (a := true) HEQ.out.symm, _, rfl⟩
  · have hE : ((l.length : Int) == (m.length : Int)) = false := by simp; omega
    have hE2 : ¬ (l.length : Int) = (m.length : Int) := by omega
    have HNE : Hid (decide (l = m) = false) := Lib.hid (decide_eq_false (fun e => hlen (by rw [e])))
    rw [HNE.out]
    go_enter Try.func28, Try.ntmps28
    go_wp2_with fail
    go_ret
    exact ⟨rfl, 0, rfl⟩
end Go.Proofs.Ytpobflionjndcaa
