/- The document's tracker: Close. -/
import Derived.Test.YtlfcccckghnffaaSi
namespace Go.Proofs.Ytlfcccckghnffaa
open Go.ChangeShapes Go.WideShapes Go.ChangeAt Go.RowKit Go.Maps
set_option linter.unusedVariables false
set_option linter.unusedSimpArgs false
section
variable {w w' : World} {t B : Nat} {v : Value} {L : SL}
theorem seC_take (L : SL) {k : Nat} (hk : k ≤ L.length) : (seC L).take (k * 3) = seC (L.take k) := by
  conv => lhs; rw [← List.take_append_drop k L, seC_append]
  rw [List.take_append_of_le_length (by rw [seC_len, List.length_take]; omega), List.take_of_length_le (by rw [seC_len, List.length_take]; omega)]
theorem seC_drop (L : SL) {k : Nat} (hk : k ≤ L.length) : (seC L).drop (k * 3) = seC (L.drop k) := by
  conv => lhs; rw [← List.take_append_drop k L, seC_append]
  rw [List.drop_append_of_le_length (by rw [seC_len, List.length_take]; omega), List.drop_of_length_le (by rw [seC_len, List.length_take]; omega), List.nil_append]
/-- another row is the tracker's -/
theorem RD.store (h : RD w t v B L) {v2 : Value} {B2 : Nat} {L2 : SL} {w2 : World} (hk : Kept (fun _ => False) w w2) (hr : SRow B2 w2 v2 L2) (hB : w.heap.size ≤ B2) (hok : SlOk L2) : RMoved w t v L2 (w2.setCell ⟨t, 0, none⟩ v2) := by
  have ht := lt_of_block h.at_
  have hb : w2.heap[t]? = some (.cells #[v] 51 (0, 0)) := by rw [hk.block t ht (fun f => f)]; exact h.at_
  have hkp := kept_set w2 t 0 v2
  refine ⟨v2, B2, ⟨heap_set (c := [v]) v2 hb, ownKept hr hkp (fun k e e2 => by have := (own_lo hr e).1; omega), hok⟩, ?_, (hk.mono (fun _ _ f => f.elim)).trans' hkp (fun k _ e => .inl e)⟩
  rintro k (e | e)
  · exact .inl (.inl e)
  · exact .inr (by have := (own_lo hr e).1; omega)
set_option maxHeartbeats 2000000 in
theorem rclose_any (h : RD w t v B L) (i : Int) :
    Calls Try.prog 22 #[.pointer (some ⟨t, 0, none⟩), .int .i64 i] w (RSPost w t v (delL L i) (closeE L i)) := by
  have HP := Lib.hid (place_any h i)
  have HH := Lib.hid h
  have hl := h.ok.few
  rcases find_idx (L := L) (i := i) with ⟨h1, h2⟩ | ⟨k, hk, h3, h4, h5, _⟩
  · have HE : Hid (delL L i = L ∧ closeE L i = 90) := Lib.hid ⟨del_none h.ok.up h1, by unfold closeE; rw [h1]; rfl⟩
    have HM := Lib.hid (RMoved.same h (Kept.refl _ w))
    rw [h2] at HP
    rw [HE.out.1, HE.out.2]
    clear h h1 h2
    go_enter Try.func22, Try.ntmps22
    go_wp2_with (first | (go_at_call 24; refine HP.out.mono ?_; rintro e w' ⟨rfl, rfl⟩) | go_in)
    go_ret
    exact ⟨rfl, HM.out⟩
  · rw [h4] at HP
    have HE : Hid (closeE L i = 0) := Lib.hid (by unfold closeE; rw [h3]; rfl)
    have hd := del_at h.ok.up hk
    rw [h5] at hd
    have hok : SlOk (delL L i) := h.ok.del i
    rw [HE.out, hd]
    rw [hd] at hok
    obtain ⟨g, cap, e, _, hglt, _, _, _, _⟩ := h.at3 hk
    subst e
    obtain ⟨c0, f0⟩ := h.two
    have hcl := own_cell h.row
    obtain ⟨a9, c9, e9, hcell⟩ := hcl
    injection e9 with e91 e92 e93
    subst e91; subst e93
    have hcap : L.length ≤ cap := by
      rcases h.row.2 with ⟨e, _⟩ | ⟨g', cap', cur, e, _, _, r1, _⟩
      · cases e
      · injection e with _ _ e3; subst e3; exact r1
    have hcapm : cap ≤ 9223372036854775807 := by
      rcases h.row.2 with ⟨e, _⟩ | ⟨g', cap', cur, e, _, _, r1, r2, _⟩
      · cases e
      · injection e with _ _ e3; subst e3; unfold maxLen at r2; omega
    have HC : Hid (∀ W, Kept (fun _ => False) w W → ∀ j u, (seC L)[j]? = some u → W.cell? ⟨g, j, none⟩ = some u) := Lib.hid (fun W hK j u hj => by
      obtain ⟨g2, e2, _, _, c2, _⟩ := hcell j u hj
      cases e2
      rw [World.cell?_of_block (w := w) (hK.block g hglt (fun f => f))]; exact c2)
    have HST := Lib.hid (fun (v2 : Value) (w2 : World) (hK : Kept (fun _ => False) w w2) (hr : SRow w.heap.size w2 v2 (L.take k ++ L.drop (k + 1))) => h.store hK hr (Nat.le_refl _) hok)
    have HT : Hid (∀ W, Kept (fun _ => False) w W → W.cell? ⟨t, 0, none⟩ = some (.slice (some ⟨g, 0, none⟩) L.length cap) ∧ W.frozen? ⟨t, 0, none⟩ = false) := Lib.hid (fun W hK => (HH.out.kept0 hK).two)
    clear h h3 h4 h5 hd hok hcell e92 HE
    go_enter Try.func22, Try.ntmps22
    go_wp2_with (first
      | (go_at_call 24; refine HP.out.mono ?_; rintro e w' ⟨rfl, rfl⟩)
      | (at_builtin; refine wpList_rows (B := w.heap.size) (n := 0) (xs := []) rowSe rfl _ _ rfl rfl (World.ownsRow_nil _ _ _ _) _ k _ (seC (L.take k)) rfl (by rw [seC_len, List.length_take]; omega) (.inr ⟨g, 0, rfl, fun j u hj => by rw [Nat.zero_add]; exact HC.out _ (Kept.refl _ _) j u (by rw [← seC_take L (by omega)] at hj; rw [List.getElem?_take] at hj; split at hj; exact hj; cases hj)⟩) (fun u hu => seC_one hu) (by unfold maxLen; omega) (by omega) (Nat.le_refl _) (fun v2 w2 hv2 hg2 => ?_); rw [Nat.zero_add, List.nil_append] at hv2; have hg2' : Kept (fun _ => False) w w2 := (Kept.of_grownBy hg2).mono (fun _ _ e => by cases e); have HV2 := Lib.hid hv2; have HG2 := Lib.hid hg2'; clear hv2 hg2 hg2'; obtain ⟨c2, f2⟩ := HT.out w2 HG2.out; obtain ⟨av, cv, rfl⟩ := own_shape HV2.out)
      | (at_builtin; refine wpList_rows rowSe rfl _ _ rfl rfl HV2.out _ (L.length - (k + 1)) _ (seC (L.drop (k + 1))) rfl (by rw [seC_len, List.length_drop]) (if hcp : cap = k + 1 then .inl (by omega) else .inr ⟨g, (k + 1) * 3, if_neg hcp, fun j u hj => HC.out _ HG2.out _ u (by rw [← seC_drop L (by omega), List.getElem?_drop] at hj; exact hj)⟩) (fun u hu => seC_one hu) (by unfold maxLen; omega) (by omega) HG2.out.size (fun v3 w3 hv3 hg3 => ?_); have hk3 : Kept (fun _ => False) w w3 := kept_own HG2.out HV2.out (Nat.le_refl _) hg3; have HV3 := Lib.hid hv3; have HK3 := Lib.hid hk3; clear hv3 hg3 hk3; obtain ⟨c3, f3⟩ := HT.out w3 HK3.out; obtain ⟨av3, cv3, rfl⟩ := own_shape HV3.out)
      | go_in)
    all_goals
      go_ret
      refine ⟨rfl, HST.out _ _ HK3.out ?_⟩
      have h9 := HV3.out
      unfold SRow
      rw [seC_append, List.length_append, List.length_take, List.length_drop, Nat.min_eq_left (by omega)]
      exact h9
end
end Go.Proofs.Ytlfcccckghnffaa
