/- hold: other records, in memory alone. -/
import Derived.Test.YtmfngbgdmlnlcaaJac
namespace Go.Proofs.Ytmfngbgdmlnlcaa
open Go.ChangeShapes Go.WideShapes Go.ChangeAt Go.RowKit
set_option linter.unusedVariables false
set_option linter.unusedSimpArgs false
def LSt.held (g : LSt) (l : List ByteArray) : LSt := { g with recs := l, used := sizeN l }
section
variable {Z : Nat → Prop} {w w' : World} {lb db sb mb nn : Nat} {rv : Value} {g : LSt} {d : DSt}
theorem Wp.hold {w2 : World} {v : Value} {l : List ByteArray} (h : Wp Z w lb db sb mb nn rv g d) (hk : Kept (fun _ => False) w w2) (hr : w2.ownsRow w.heap.size 9 1 v l.length (l.map Value.string)) :
    Wp Z ((w2.setCell ⟨lb, 7, none⟩ v).setCell ⟨lb, 8, none⟩ (.int .i64 (sizeN l))) lb db sb mb nn v (g.held l) d := by
  have h2 := h.kept0 hk
  have hlb := lt_of_block h.l.at_
  have hks : Kept (fun k => k = lb) w2 ((w2.setCell ⟨lb, 7, none⟩ v).setCell ⟨lb, 8, none⟩ (.int .i64 (sizeN l))) := (kept_set w2 lb 7 v).trans (kept_set _ lb 8 _)
  refine ⟨h2.d.kept hks (fun k hk e => by have e : k = lb := e; subst e; exact h.ap hk), ⟨heap_set _ (heap_set _ h2.l.at_), ?_⟩, h.b1, h.b2, fun k e => h.nw k (hr.lt k e).1, h.ap, fun k hk e => by have := (hr.lt k e).1; have := h.d.inn k hk; omega, fun k hk' => h2.nw k (Nat.le_trans hks.size hk')⟩
  refine ⟨hr.1, ?_⟩
  rcases hr.2 with hx | ⟨gg, cap, cur, hv, hb, hh, r⟩
  · exact .inl hx
  · exact .inr ⟨gg, cap, cur, hv, Nat.zero_le _, by rw [hks.block gg (lt_of_block hh) (by omega)]; exact hh, r⟩
end
end Go.Proofs.Ytmfngbgdmlnlcaa
