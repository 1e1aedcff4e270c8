/- slices.ContainsFunc of tooLong. -/
import Derived.Test.YtmfngbgdmlnlcaaJaf
namespace Go.Proofs.Ytmfngbgdmlnlcaa
open Go.ChangeShapes Go.WideShapes Go.ChangeAt Go.RowKit
set_option linter.unusedVariables false
set_option linter.unusedSimpArgs false
def Alls (l : List ByteArray) : Prop := ∀ s ∈ l, s.size ≤ 4000
def IdxP (l : List ByteArray) (w : World) (e : Ending) (w' : World) : Prop := ∃ r : Int, e = .returned (.int .i64 r) ∧ (Alls l → r = -1) ∧ (¬ Alls l → 0 ≤ r ∧ r ≤ l.length) ∧ w = w'
end Go.Proofs.Ytmfngbgdmlnlcaa
