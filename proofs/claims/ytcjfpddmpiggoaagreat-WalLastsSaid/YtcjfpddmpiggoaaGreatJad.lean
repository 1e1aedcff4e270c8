/- hold: other records, in memory alone. -/
import Derived.Test.YtcjfpddmpiggoaaGreatJac
namespace Go.Proofs.YtcjfpddmpiggoaaGreat
open Go.ChangeShapes Go.WideShapes Go.ChangeAt Go.RowKit
set_option linter.unusedVariables false
set_option linter.unusedSimpArgs false
def LSt.held (g : LSt) (l : List ByteArray) : LSt := { g with recs := l, used := sizeN l }
section
variable {Z : Nat → Prop} {w w' : World} {lb db sb mb nn : Nat} {rv : Value} {g : LSt} {d : DSt}
theorem Wp.hold {w2 : World} {v : Value} {l : List ByteArray} (h : Wp Z w lb db sb mb nn rv g d) (hk : Kept (fun _ => False) w w2) (hr : w2.ownsRow w.heap.size 9 1 v l.length (l.map Value.string)) :
    Wp Z ((w2.setCell ⟨lb, 7, none⟩ v).setCell ⟨lb, 8, none⟩ (.int .i64 (sizeN l))) lb db sb mb nn v (g.held l) d := by
  have h2 := h.kept0 hk
  have hlb := lt_of_block h.l.at_
  have hks : Kept (fun k => k = lb) w2 ((w2.setCell ⟨lb, 7, none⟩ v).setCell ⟨lb, 8, none⟩ (.int .i64 (sizeN l))) := (kept_set w2 lb 7 v).trans (kept_set _ lb 8 _)
  refine ⟨h2.d.kept hks (fun k hk e => by have e : k = lb := e; subst e; exact h.ap hk), ⟨heap_set _ (heap_set _ h2.l.at_), ?_⟩, h.b1, h.b2, fun k e => h.nw k (hr.lt k e).1, h.ap, fun k hk e => by have := (hr.lt k e).1; have := h.d.inn k hk; omega, fun k hk' => h2.nw k (Nat.le_trans hks.size hk')⟩
  refine ⟨hr.1, ?_⟩
  rcases hr.2 with hx | ⟨gg, cap, cur, hv, hb, hh, r⟩
  · exact .inl hx
  · exact .inr ⟨gg, cap, cur, hv, Nat.zero_le _, by rw [hks.block gg (lt_of_block hh) (by omega)]; exact hh, r⟩
set_option maxRecDepth 100000 in
set_option maxHeartbeats 2000000 in
theorem hold_any {ok : Nat → Prop} {v : Value} {l : List ByteArray} (h : Wl Z w lb db g d) (ht : TsAt w ok v l) (hl : l.length * 16 ≤ 140737488355328) (hs : sizeN l ≤ 9223372036854775807) :
    Calls Tryz.prog 51 #[.pointer (some ⟨lb, 0, none⟩), v] w fun e w' => e = .returned (.tuple #[]) ∧ Wl Z w' lb db (g.held l) d ∧ Kept Z w w' := by
  obtain ⟨sb, mb, nn, rv, hp⟩ := h.open_
  have HP := Lib.hid hp
  have HT := Lib.hid ht
  have HL := Lib.hid (And.intro hl hs)
  clear h hp ht hl hs
  go_enter Tryz.func51, Tryz.ntmps51
  go_wp2_with fail
  refine (clone_any HT.out HL.out.1).mono ?_
  rintro e w2 ⟨v', rfl, hr, hk⟩
  obtain ⟨ao, n', cap', rfl⟩ : ∃ ao n' cap', v' = .slice ao n' cap' := by
    rcases hr.2 with ⟨hv, _⟩ | ⟨gg, cap, cur, hv, _⟩ <;> exact ⟨_, _, _, hv⟩
  have HR := Lib.hid hr
  have HK := Lib.hid hk
  clear hr hk
  go_wp2_with fail
  refine (wsize_any (HT.out.kept HK.out (fun _ _ f => f)) (by have := HL.out.1; omega) HL.out.2).mono ?_
  rintro e w3 ⟨rfl, rfl⟩
  have h2 := HP.out.kept0 HK.out
  have c7 : w2.cell? ⟨lb, 7, none⟩ = some rv := h2.l.cell 7
  have c8 : w2.cell? ⟨lb, 8, none⟩ = some (.int .i64 g.used) := h2.l.cell 8
  have f7 : w2.frozen? ⟨lb, 7, none⟩ = false := by simp [World.frozen?, h2.l.at_]
  have f8 : w2.frozen? ⟨lb, 8, none⟩ = false := by simp [World.frozen?, h2.l.at_]
  clear h2
  go_wp2_with fail
  go_end0
  exact ⟨rfl, (HP.out.hold HK.out HR.out).close, ((HK.out.mono (T := Z) (fun _ _ f => f.elim)).setCell (a := ⟨lb, 7, none⟩) (.inl HP.out.b1) _).setCell (a := ⟨lb, 8, none⟩) (.inl HP.out.b1) _⟩
end
end Go.Proofs.YtcjfpddmpiggoaaGreat
