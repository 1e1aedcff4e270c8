/- A number of 64 bits. -/
import Derived.Test.YtngcfnffbggniaaFoot
namespace Go.Proofs.Ytngcfnffbggniaa
open Go.ChangeShapes Go.WideShapes Go.ChangeAt Go.RowKit

def I64 (x : Int) : Prop := -9223372036854775808 ≤ x ∧ x ≤ 9223372036854775807
theorem I64.of_wf {x : Int} (h : (Lit.int .i64 x).wf = true) : I64 x := by
  simp [Lit.wf, IntKind.min, IntKind.max, IntKind.bits, IntKind.signed] at h
  unfold I64; omega

end Go.Proofs.Ytngcfnffbggniaa
