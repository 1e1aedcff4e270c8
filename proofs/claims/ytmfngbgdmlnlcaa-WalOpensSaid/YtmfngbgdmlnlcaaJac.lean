/- slices.Clone of texts. -/
import Derived.Test.YtmfngbgdmlnlcaaJab
namespace Go.Proofs.Ytmfngbgdmlnlcaa
open Go.ChangeShapes Go.WideShapes Go.ChangeAt Go.RowKit
set_option linter.unusedVariables false
set_option linter.unusedSimpArgs false
theorem clone_any {ok : Nat → Prop} {v : Value} {l : List ByteArray} {w : World} (h : TsAt w ok v l) (hl : l.length * 16 ≤ 140737488355328) :
    Calls Try.prog 42 #[v] w fun e w' => ∃ v', e = .returned v' ∧ w'.ownsRow w.heap.size 9 1 v' l.length (l.map Value.string) ∧ Kept (fun _ => False) w w' := by
  obtain ⟨a, cap, rfl, hc⟩ := h.ex
  rcases l with _ | ⟨s, l⟩
  · cases a with
    | none => exact (Try.slices_Clone_string_nil 0 cap w).mono fun e w' ⟨he, hw⟩ => ⟨_, he, by rw [hw]; exact World.ownsRow_nil _ _ _ _, by rw [hw]; exact Kept.refl _ _⟩
    | some a => exact (Try.slices_Clone_string_zero a cap w).mono fun e w' ⟨v', he, hr, _, hb⟩ => ⟨v', he, hr, keptB hb⟩
  · obtain ⟨g, off, rfl, _, _⟩ := hc 0 (by simp)
    refine (Try.slices_Clone_string g off (s :: l).length cap (s :: l) w (Nat.le_refl _) hl (fun j hj => ?_)).mono fun e w' ⟨v', he, hr, _, hb⟩ => ⟨v', he, by rw [List.take_length] at hr; exact hr, keptB hb⟩
    obtain ⟨g', off', e, _, hcell⟩ := hc j hj
    obtain ⟨rfl, rfl⟩ : g = g' ∧ off = off' := by simpa using e
    rw [hcell, List.getD_eq_getElem?_getD, List.getElem?_eq_getElem hj]; rfl
/-- the log's own row, as texts -/
theorem LgAt.texts {w : World} {lb db : Nat} {rv : Value} {g : LSt} (h : LgAt w lb db rv g) : TsAt w (fun k => rv.ownBlock = some k) rv g.recs := by
  rcases h.row.2 with ⟨hv, h0⟩ | ⟨gg, cap, cur, hv, hb, hh, h1, h2, h3, h4⟩
  · exact ⟨⟨none, 0, by rw [hv, h0], fun i hi => by omega⟩⟩
  · refine ⟨⟨some ⟨gg, 0, none⟩, cap, hv, fun i hi => ⟨gg, 0, rfl, by rw [hv]; rfl, ?_⟩⟩⟩
    have e : cur.toList.take (g.recs.length * 1) = g.recs.map Value.string := h4
    simp only [World.cell?, hh, Nat.zero_add]
    have e2 : (cur.toList.take (g.recs.length * 1))[i]? = some (.string g.recs[i]) := by rw [e, List.getElem?_map, List.getElem?_eq_getElem hi]; rfl
    rw [List.getElem?_take, if_pos (by omega)] at e2
    rw [← Array.getElem?_toList]; exact e2
end Go.Proofs.Ytmfngbgdmlnlcaa
