/- New, and its first sectors. -/
import Derived.Test.YtmfngbgdmlnlcaaDw
import Derived.Laws.MakeOwn
import Derived.OwnWalk
namespace Go.Proofs.Ytmfngbgdmlnlcaa
open Go.ChangeShapes Go.WideShapes Go.ChangeAt Go.RowKit
set_option linter.unusedVariables false
set_option linter.unusedSimpArgs false

theorem sector_info : (Try.prog.info? 64).map (fun i => (i.zero, i.size, i.bytes)) = some (some (sec zeros), 64, 64) := by kernel_rfl

theorem secs_zero (n : Nat) : madeCells (sec zeros).cells (n * 64) = (secs n (fun _ => zeros)).toArray := by
  have hl : ∀ i, i < n → ((fun _ => zeros : Nat → List UInt8) i).length = 64 := fun _ _ => rfl
  apply Array.ext_getElem?
  intro j
  have hz : ((sec zeros).cells).size = 64 := by rfl
  by_cases hj : j < n * 64
  · obtain ⟨q, r, hq, hr, rfl⟩ : ∃ q r, q < n ∧ r < 64 ∧ j = q * 64 + r := ⟨j / 64, j % 64, by omega, by omega, by omega⟩
    have hR : (secs n (fun _ => zeros)).toArray[q * 64 + r]? = (secL zeros)[r]? := by
      rw [List.getElem?_toArray]; exact secs_get n _ hl q r hq hr
    rw [hR]
    have h1 : (secL zeros)[r]? = some (bcell 0) := by
      have : zeros[r]? = some 0 := by rw [zeros, List.getElem?_replicate, if_pos hr]
      simp [secL, this]
    rw [h1]
    have h3 : (sec zeros).cells[r]! = bcell 0 := by
      rw [getElem!_pos _ r (by rw [hz]; exact hr)]
      have : (sec zeros).cells[r]? = some (bcell 0) := by rw [show (sec zeros).cells = (secL zeros).toArray from rfl, List.getElem?_toArray]; exact h1
      exact (Array.getElem?_eq_some_iff.1 this).2
    simp only [madeCells, Array.getElem?_map]
    rw [Array.getElem?_eq_getElem (by simpa using hj)]
    simp [hz, Nat.mod_eq_of_lt hr]
    exact h3
  · rw [Array.getElem?_eq_none (by simp [madeCells]; omega), Array.getElem?_eq_none (by simp [secs_length n _ hl]; omega)]

theorem make_sectors (w : World) (n : Nat) (hn : n ≤ 32768) : Sem.run Try.prog (Instr.makeSlice 54 (.int .i64 n) (.int .i64 n)) w = .ok (.slice (some ⟨w.heap.size, 0, none⟩) n n) (w.alloc (.cells (secs n (fun _ => zeros)).toArray 64)) := by
  obtain ⟨i0, hi, hz0, hz1, hz2⟩ := info_parts sector_info
  have := run_makeSlice (P := Try.prog) w 54 64 i0 (sec zeros) Try.underlying54 hi hz0 .i64 .i64 n n (by omega) (by omega) (by rw [hz1]; omega) (by rw [hz2]; omega) (by omega)
  rw [hz1] at this
  rw [this]
  simp only [Int.toNat_natCast]
  rw [secs_zero]

def newD (n : Nat) : DSt := ⟨n, fun _ => zeros, fun _ => none, 0, 0, false⟩

theorem new_at (w : World) (n : Nat) (h1 : 16 ≤ n) (h2 : n ≤ 32768) :
    DAt (((w.alloc (.cells (secs n (fun _ => zeros)).toArray 64)).alloc (.map #[] 0)).alloc (.cells #[.slice (some ⟨w.heap.size, 0, none⟩) n n, .map (some (w.heap.size + 1)), .int .i64 0, .int .i64 0, .bool false] 57))
      (w.heap.size + 1 + 1) w.heap.size (w.heap.size + 1) 0 (newD n) := by
  have a1 := heap_alloc_last w (.cells (secs n (fun _ => zeros)).toArray 64)
  have hm := made_old (w.alloc (.cells (secs n (fun _ => zeros)).toArray 64))
  have e1 : (w.alloc (.cells (secs n (fun _ => zeros)).toArray 64)).heap.size = w.heap.size + 1 := by simp
  rw [e1] at hm
  refine ⟨?_, ⟨?_, fun _ _ => rfl⟩, ?_, by omega, by omega, by omega, fun k l h => absurd h (by simp [newD]), Nat.zero_le _, h1, h2, by simp [newD]⟩
  · have := heap_alloc_last ((w.alloc (.cells (secs n (fun _ => zeros)).toArray 64)).alloc (.map #[] 0)) (.cells #[.slice (some ⟨w.heap.size, 0, none⟩) n n, .map (some (w.heap.size + 1)), .int .i64 0, .int .i64 0, .bool false] 57)
    simpa [newD] using this
  · rw [Below.heap_alloc _ _ _ (by simp; omega), Below.heap_alloc _ _ _ (by simp)]; exact a1
  · exact hm.kept ((Kept.refl (fun _ => False) _).alloc _) (fun f => f)

def NewPost (w : World) (k : Int) (e : Ending) (w' : World) : Prop :=
  (16 ≤ k ∧ k ≤ 32768 ∧ e = .returned (.tuple #[.pointer (some ⟨w.heap.size + 1 + 1, 0, none⟩), .int .i64 0]) ∧ DAt w' (w.heap.size + 1 + 1) w.heap.size (w.heap.size + 1) 0 (newD k.toNat) ∧ Kept (fun _ => False) w w') ∨
  ((k < 16 ∨ 32768 < k) ∧ e = .returned (.tuple #[.pointer none, .int .i64 1]) ∧ w = w')

set_option maxHeartbeats 1000000 in
theorem new_any (w : World) (k : Int) : Calls Try.prog 5 #[.int .i64 k] w (NewPost w k) := by
  by_cases hlo : k < 16
  · go_enter Try.func5, Try.ntmps5
    go_wp2
    go_ret2
    exact .inr ⟨.inl hlo, rfl, rfl⟩
  · by_cases hhi : 32768 < k
    · go_enter Try.func5, Try.ntmps5
      go_wp2
      go_ret2
      exact .inr ⟨.inr hhi, rfl, rfl⟩
    · obtain ⟨n, rfl⟩ := Int.eq_ofNat_of_zero_le (show 0 ≤ k by omega)
      have hmk := make_sectors w n (by omega)
      have hmm := fun W => make_map W
      have HN := Lib.hid (new_at w n (by omega) (by omega))
      go_enter Try.func5, Try.ntmps5
      go_wp2
      go_ret2
      refine .inl ⟨by omega, by omega, rfl, ?_, (((Kept.refl _ w).alloc _).alloc _).alloc _⟩
      simpa using HN.out
end Go.Proofs.Ytmfngbgdmlnlcaa
