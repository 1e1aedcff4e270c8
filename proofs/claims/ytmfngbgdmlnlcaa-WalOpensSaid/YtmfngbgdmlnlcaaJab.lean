/- Mark of a log whose disk does not die at it. -/
import Derived.Test.YtmfngbgdmlnlcaaJaa
namespace Go.Proofs.Ytmfngbgdmlnlcaa
open Go.ChangeShapes Go.WideShapes Go.ChangeAt Go.RowKit
set_option linter.unusedVariables false
set_option linter.unusedSimpArgs false
def LSt.put (g : LSt) (a b : Nat) : LSt := { g with m := { g.m with a := a, b := b } }
section
variable {Z Z' : Nat → Prop} {w w' : World} {lb db sb mb nn : Nat} {rv : Value} {g g' : LSt} {d d' : DSt}
end
end Go.Proofs.Ytmfngbgdmlnlcaa
