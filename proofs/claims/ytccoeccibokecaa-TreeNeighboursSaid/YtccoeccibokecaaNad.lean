/- The law's under. -/
import Derived.Test.YtccoeccibokecaaNac
namespace Go.Proofs.Ytccoeccibokecaa
open Go.ChangeShapes Go.WideShapes Go.ChangeAt Go.RowKit Go.Maps
set_option linter.unusedVariables false
set_option linter.unusedSimpArgs false
def namesC : List Value := [.string ⟨#[120]⟩, .string ⟨#[121]⟩, .string ⟨#[122]⟩, .string ⟨#[120, 47, 120]⟩, .string ⟨#[120, 47, 121]⟩, .string ⟨#[121, 47, 120]⟩]
def nmB (i : Nat) : ByteArray := ⟨(nameT i).toArray⟩
theorem names_at (i : Nat) (h : i < 6) : namesC[i]? = some (.string (nmB i)) := by
  have : i = 0 ∨ i = 1 ∨ i = 2 ∨ i = 3 ∨ i = 4 ∨ i = 5 := by omega
  rcases this with rfl | rfl | rfl | rfl | rfl | rfl <;> rfl
def topB (c : UInt8) : ByteArray := ⟨#[47, c]⟩
theorem path_eq (c : UInt8) (i : Nat) : topB c ++ ⟨#[47]⟩ ++ nmB i = pathT c i := by
  apply ba_inj
  rw [ByteArray.data_append, ByteArray.data_append, Array.toList_append, Array.toList_append]
  simp [topB, nmB, pathT]
structure UnRel (w : World) (B nb : Nat) (c : UInt8) (l : List OpN) (lv iv : Value) (wr : World) : Prop where
  ex : ∃ k : Nat, k ≤ 60 ∧ k ≤ l.length ∧ iv = .int .i64 k ∧ EntsAt B wr lv ((undL c l).take k) ∧ Kept (fun _ => False) w wr ∧ wr.heap[nb]? = some (.cells namesC.toArray 9 (0, 0))
end Go.Proofs.Ytccoeccibokecaa
