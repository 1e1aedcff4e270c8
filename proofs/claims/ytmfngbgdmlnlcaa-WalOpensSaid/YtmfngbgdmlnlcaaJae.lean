/- Cut of a log whose disk does not die at it. -/
import Derived.Test.YtmfngbgdmlnlcaaJad
namespace Go.Proofs.Ytmfngbgdmlnlcaa
open Go.ChangeShapes Go.WideShapes Go.ChangeAt Go.RowKit
set_option linter.unusedVariables false
set_option linter.unusedSimpArgs false
section
variable {Z Z' : Nat → Prop} {w w' : World} {lb db sb mb nn : Nat} {rv : Value} {g g' : LSt} {d d' : DSt}
theorem TsAt.take {w : World} {ok : Nat → Prop} {a : Option Addr} {n cap : Nat} {l : List ByteArray} (h : TsAt w ok (.slice a n cap) l) (k : Nat) (hk : k ≤ l.length) : TsAt w ok (.slice a k cap) (l.take k) := by
  obtain ⟨a', cap', e, hc⟩ := h.ex
  obtain ⟨rfl, rfl⟩ : a = a' ∧ cap = cap' := by injection e with e1 _ e3; exact ⟨e1, e3⟩
  refine ⟨⟨a, cap, by rw [List.length_take, Nat.min_eq_left hk], fun i hi => ?_⟩⟩
  rw [List.length_take] at hi
  obtain ⟨gg, off, e1, e2, e3⟩ := hc i (by omega)
  exact ⟨gg, off, e1, e2, by rw [List.getElem_take]; exact e3⟩
end
end Go.Proofs.Ytmfngbgdmlnlcaa
