/- What each call that acts defers, where the disk has not died. -/
import Derived.Test.YtmfngbgdmlnlcaaJx
import Derived.Defers
namespace Go.Proofs.Ytmfngbgdmlnlcaa
open Go.ChangeShapes Go.WideShapes Go.ChangeAt Go.RowKit
set_option linter.unusedVariables false
set_option linter.unusedSimpArgs false

set_option maxRecDepth 100000 in
set_option maxHeartbeats 1000000 in
theorem right_not {lb eb : Nat} {v : Int} (c0 c1 c2 c3 c4 c5 c6 c7 c8 c9 : Value) {w : World} (he : w.cell? ⟨eb, 0, none⟩ = some (.int .i64 v)) (hv : v ≠ 2) (u : FrameMode) :
    CallsD Try.prog 34 #[.pointer (some ⟨lb, 0, none⟩), .agg #[c0, c1, c2, c3, c4, c5, c6, c7, c8, c9], .pointer (some ⟨eb, 0, none⟩)] u w fun e u' w' => u' = u ∧ e = .returned (.tuple #[]) ∧ Kept (fun _ => False) w w' := by
  have hb : eb < w.heap.size := World.block_lt_of_cell? w _ he
  have he1 : (w.alloc (.cells #[c0, c1, c2, c3, c4, c5, c6, c7, c8, c9] 75)).cell? ⟨eb, 0, none⟩ = some (.int .i64 v) := by
    rw [World.cell?_of_block (w := w) (Below.heap_alloc _ _ _ hb)]; exact he
  have hvb : (v == 2) = false := by simpa using hv
  have hk : Kept (fun _ => False) w (w.alloc (.cells #[c0, c1, c2, c3, c4, c5, c6, c7, c8, c9] 75)) := (Kept.refl _ w).alloc _
  go_enter_d Try.func34, Try.ntmps34
  go_wp2
  go_end0
  exact ⟨rfl, hk⟩
end Go.Proofs.Ytmfngbgdmlnlcaa
