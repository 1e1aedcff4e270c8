/- The right mark of the greater count. -/
import Derived.Test.YtmfngbgdmlnlcaaJkc
namespace Go.Proofs.Ytmfngbgdmlnlcaa
open Go.ChangeShapes Go.WideShapes Go.ChangeAt Go.RowKit
set_option linter.unusedVariables false
set_option linter.unusedSimpArgs false
theorem valS_in (z : Int) (c : UInt8) : -9223372036854775808 ≤ valS z c ∧ valS z c ≤ 9223372036854775807 := by
  unfold valS bits
  simp only [IntKind.wrap_i64]
  omega
theorem valI_in (l : List UInt8) : -9223372036854775808 ≤ valI l ∧ valI l ≤ 9223372036854775807 := by
  rcases l.eq_nil_or_concat with rfl | ⟨t, c, rfl⟩
  · decide
  · rw [List.concat_eq_append, valI_snoc]; exact valS_in _ _
theorem markIn_in (l : List UInt8) : (markIn l).In := ⟨valI_in _, valI_in _, valI_in _, valI_in _, valI_in _, valI_in _⟩
theorem rightZ_eq (l : List UInt8) (sector space : Int) : rightZ (markIn l) l sector space = rightB l sector space := rfl
end Go.Proofs.Ytmfngbgdmlnlcaa
