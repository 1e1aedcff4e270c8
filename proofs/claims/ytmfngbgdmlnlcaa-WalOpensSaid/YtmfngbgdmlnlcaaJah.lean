/- Renew of a log: records that fit. -/
import Derived.Test.YtmfngbgdmlnlcaaJag
namespace Go.Proofs.Ytmfngbgdmlnlcaa
open Go.ChangeShapes Go.WideShapes Go.ChangeAt Go.RowKit
set_option linter.unusedVariables false
set_option linter.unusedSimpArgs false
def LSt.ren (g : LSt) (l : List ByteArray) : LSt := { g with recs := l, used := sizeN l, m := { g.m with ar := 1 - g.m.ar } }
def renD (g : LSt) (d : DSt) (l : List ByteArray) : DSt × Int := if (wriD (g.ren l) d 0 (laidL l)).2 = 0 then setD (g.ren l) (wriD (g.ren l) d 0 (laidL l)).1 else wriD (g.ren l) d 0 (laidL l)
def renL (g : LSt) (d : DSt) (l : List ByteArray) : LSt := if (wriD (g.ren l) d 0 (laidL l)).2 = 0 then setL (g.ren l) (wriD (g.ren l) d 0 (laidL l)).1 else g.ren l
section
variable {Z Z' : Nat → Prop} {w w' : World} {lb db sb mb nn : Nat} {rv : Value} {g g' : LSt} {d d' : DSt}
theorem readD_zero_or (d : DSt) (k : Int) : (readD d k).2 = 0 ∨ True := .inr trivial
theorem putD_acts : ∀ (f : Nat) (d : DSt) (n : Nat) (s : List UInt8), (putD f d n s).1.acts ≤ d.acts + s.length ∧ (putD f d n s).1.n = d.n
  | 0, d, n, s => by rw [putD]; exact ⟨Nat.le_add_right _ _, rfl⟩
  | f + 1, d, n, s => by
    rw [putD]
    by_cases h0 : s.length = 0
    · rw [if_pos h0]; exact ⟨Nat.le_add_right _ _, rfl⟩
    · rw [if_neg h0]
      have hw := writeD_le d (n : Int) (chunkL s)
      split
      · have ih := putD_acts f (writeD d (n : Int) (chunkL s)).1 (n + 1) (s.drop 64)
        rw [List.length_drop] at ih
        exact ⟨by omega, by rw [ih.2]; exact hw.2⟩
      · exact ⟨by omega, hw.2⟩
theorem wriD_acts0 (g : LSt) (d : DSt) (s : List UInt8) : (wriD g d 0 s).1.acts ≤ d.acts + s.length ∧ (wriD g d 0 s).1.n = d.n := by
  unfold wriD
  rw [if_neg (by decide)]
  exact putD_acts _ _ _ _
end
end Go.Proofs.Ytmfngbgdmlnlcaa
