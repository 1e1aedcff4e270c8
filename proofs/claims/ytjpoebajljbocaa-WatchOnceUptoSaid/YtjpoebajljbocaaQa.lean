/- path.inName, path.isName, and the document's own letter, IsName. -/
import Derived.Test.YtjpoebajljbocaaProg
import Derived.Test.YtjpoebajljbocaaQp
import Derived.WalkKit
import Derived.ProofKit
import Derived.Lib.Hide
import Derived.Outline
import Derived.Deep.Light
namespace Go.Proofs.Ytjpoebajljbocaa
open Go.ChangeShapes Go.WideShapes Go.ChangeAt Go.RowKit
set_option linter.unusedVariables false
set_option linter.unusedSimpArgs false

theorem ret_val {a b : Value} (h : a = b) : Ending.returned a = .returned b := by rw [h]
theorem ret_bool {a b : Bool} (h : a = b) : Ending.returned (.bool a) = .returned (.bool b) := by rw [h]
theorem ret_int {k : IntKind} {a b : Int} (h : a = b) : Ending.returned (.int k a) = .returned (.int k b) := by rw [h]

set_option maxHeartbeats 400000 in
theorem inName_any (r : Nat) (w : World) (hr : r ≤ 2147483647) :
    Calls Try.prog 116 #[.int .i32 r] w fun e w' => e = .returned (.bool (lettN r)) ∧ w = w' := by
  go_enter Try.func116, Try.ntmps116
  go_wp2
  all_goals go_ret
  all_goals (refine ⟨ret_bool ?_, rfl⟩; go_light; rw [Bool.eq_iff_iff]; simp [lettN]; omega)

set_option maxHeartbeats 400000 in
theorem letter_any (r : Nat) (w : World) (hr : r ≤ 255) :
    Calls Try.prog 146 #[.int .u8 r] w fun e w' => e = .returned (.bool (lettN r)) ∧ w = w' := by
  go_enter Try.func146, Try.ntmps146
  go_wp2
  all_goals go_ret
  all_goals (refine ⟨ret_bool ?_, rfl⟩; go_light; rw [Bool.eq_iff_iff]; simp [lettN]; omega)

set_option maxHeartbeats 400000 in
theorem isName_any (s : ByteArray) (w : World) :
    Calls Try.prog 117 #[.string s] w fun e w' => e = .returned (.bool (nameB s.data.toList)) ∧ w = w' := by
  go_enter Try.func117, Try.ntmps117
  go_wp2
  all_goals go_ret
  all_goals (refine ⟨ret_bool ?_, rfl⟩; go_light; simp_all [nameB, Lib.toList_data, bne, List.isEmpty_iff])

theorem size_toList (s : ByteArray) : s.data.toList.length = s.size := rfl

set_option maxHeartbeats 400000 in
theorem refIsName_any (s : ByteArray) (w : World) (hs : s.size ≤ maxLen) :
    Calls Try.prog 136 #[.string s] w fun e w' => e = .returned (.bool (okName s.data.toList)) ∧ w = w' := by
  unfold maxLen at hs
  by_cases hn : nameB s.data.toList = true
  · obtain ⟨⟨h1, h2⟩, h3⟩ : (s.data.toList ≠ [] ∧ s.data.toList ≠ [46]) ∧ s.data.toList ≠ [46, 46] := by simpa [nameB, bne] using hn
    rw [← Lib.toList_data] at h1 h2 h3
    have g1 : s.toList.isEmpty = false := by simpa using h1
    have g2 : (s.toList == [46]) = false := by simpa using h2
    have g3 : (s.toList == [46, 46]) = false := by simpa using h3
    have HN := Lib.hid hn; clear hn
    go_enter Try.func136, Try.ntmps136
    go_wp2
    clear h1 h2 h3 g1 g2 g3
    go_loop [3] (fun i => ∃ k : Nat, k ≤ s.size ∧ i = .int .i64 k ∧ (s.data.toList.take k).all lett = true) (fun i => s.size - (intOf i).toNat)
    case atStart => exact ⟨0, Nat.zero_le _, rfl, rfl⟩
    case round =>
      obtain ⟨k, hk, rfl, hall⟩ := hrel
      have HA := Lib.hid hall; clear hall
      by_cases hlt : k < s.size
      · have hb : lettN (s[k].toNat) = lett s[k] := rfl
        have ht : s.data.toList.take (k + 1) = s.data.toList.take k ++ [s[k]] := by
          rw [List.take_succ_eq_append_getElem (by simpa using hlt)]; rfl
        have h256 := s[k].toNat_lt
        by_cases hl : lett s[k] = true
        · have HT : Hid ((s.data.toList.take (k + 1)).all lett = true) := by
            have := HA.out
            have : (s.data.toList.take (k + 1)).all lett = true := by rw [ht]; simp [this, hl]
            exact Lib.hid this
          rw [hl] at hb
          clear ht
          go_wp2_with (go_at_call 146; refine (letter_any _ _ (by omega)).mono ?_; rintro e w' ⟨rfl, rfl⟩)
          go_round
          case rel => exact ⟨k + 1, by omega, by go_num, HT.out⟩
          case measure => simp [intOf]; omega
        · have hl' : lett s[k] = false := by simpa using hl
          have HF : Hid (okName s.data.toList = false) := by
            refine Lib.hid ?_
            have : s.data.toList.all lett = false := by
              rw [List.all_eq_false]
              exact ⟨s[k], List.getElem_mem (l := s.data.toList) (n := k) (by simpa using hlt), by simp [hl']⟩
            simp [okName, this]
          rw [hl'] at hb
          clear ht hl hl'
          go_wp2_with (go_at_call 146; refine (letter_any _ _ (by omega)).mono ?_; rintro e w' ⟨rfl, rfl⟩)
          go_ret
          exact ⟨ret_bool HF.out.symm, rfl⟩
      · have HF : Hid (okName s.data.toList = true) := by
          refine Lib.hid ?_
          have h := HA.out
          rw [List.take_of_length_le (by rw [size_toList]; omega)] at h
          simp [okName, HN.out, h]
        go_wp2
        go_ret
        exact ⟨ret_bool HF.out.symm, rfl⟩
  · have hn' : nameB s.data.toList = false := by simpa using hn
    have HF : Hid (okName s.data.toList = false) := Lib.hid (by simp [okName, hn'])
    have h : s.toList = [] ∨ s.toList = [46] ∨ s.toList = [46, 46] := by
      rw [Lib.toList_data]
      by_cases a : s.data.toList = []
      · exact .inl a
      by_cases b : s.data.toList = [46]
      · exact .inr (.inl b)
      by_cases c : s.data.toList = [46, 46]
      · exact .inr (.inr c)
      simp only [nameB, bne_iff_ne, ne_eq, Bool.and_eq_false_iff, bne_eq_false_iff_eq] at hn'
      rcases hn' with (h | h) | h
      · exact absurd h a
      · exact absurd h b
      · exact absurd h c
    clear hn hn'
    rcases h with h | h | h
    all_goals
      go_enter Try.func136, Try.ntmps136
      go_wp2
      go_ret
      exact ⟨ret_bool HF.out.symm, rfl⟩
end Go.Proofs.Ytjpoebajljbocaa
