/- The document's disk: Zeros. -/
import Derived.Test.YtpobflionjndcaaDv
namespace Go.Proofs.Ytpobflionjndcaa
open Go.ChangeShapes Go.WideShapes Go.ChangeAt Go.RowKit
set_option linter.unusedVariables false
set_option linter.unusedSimpArgs false

theorem conv_zeros_w (w : World) : Sem.run Try.prog (convert 39 9 (.slice (some ⟨w.heap.size, 0, none⟩) 64 64)) (w.alloc (.cells (secL zeros).toArray 5)) = .ok (.string ⟨zeros.toArray⟩) (w.alloc (.cells (secL zeros).toArray 5)) :=
  run_convert_bytes_back (P := Try.prog) _ 39 9 5 ⟨w.heap.size, 0, none⟩ 64 zeros Try.underlying39 Try.underlying5 Try.underlying9 (fun j hj => by
    rw [Addr.add_mid, cell_of_row _ w.heap.size (0 + j) _ _ (0, 0) (heap_alloc_last w _), List.getElem?_toArray]
    simp [secL, bcell, hj])
theorem xzeros_any (w : World) : Calls Try.prog 23 #[] w fun e w' => e = .returned (.string ⟨zeros.toArray⟩) ∧ w' = w.alloc (.cells (secL zeros).toArray 5) := by
  have hmk := make_64 w
  have hcv := conv_zeros_w w
  go_enter Try.func23, Try.ntmps23
  go_wp2_with fail
  go_ret
  exact ⟨rfl, rfl⟩
end Go.Proofs.Ytpobflionjndcaa
