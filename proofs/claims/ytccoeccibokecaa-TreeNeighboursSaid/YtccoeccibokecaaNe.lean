/- removeUnder; New. -/
import Derived.Test.YtccoeccibokecaaNd
import Derived.Maps.RangeWalk
namespace Go.Proofs.Ytccoeccibokecaa
open Go.ChangeShapes Go.WideShapes Go.ChangeAt Go.RowKit Go.Maps
set_option linter.unusedVariables false
set_option linter.unusedSimpArgs false
theorem keyOf_string_inv {key : Value} {kl : Lit} (h : keyOf Try.prog 9 key = some kl) : ∃ x : ByteArray, key = .string x ∧ kl = .string x.data.toList ∧ x.size ≤ maxLen := by
  cases key <;> simp [keyOf, Try.underlying9, mapKey] at h
  rename_i s
  refine ⟨s, rfl, ?_⟩
  rcases h with ⟨h1, h2⟩
  exact ⟨h2.symm, by simpa [Lit.wf] using h1⟩
section
variable {Z : Nat → Prop} {w w' : World} {q : TB} {M : TM} {c : Nat} {D E : DV}
theorem TD.cut (h : TD Z w q M c D E) {D' : DV} {N' : List UInt8 → Option Nd} (hown : w'.ownsMap Try.prog 9 tok q.n c D') (hk : Kept (fun j => j = q.n) w w')
    (hL : ∀ k, (lookV D' (.string k) = lookV D (.string k) ∧ N' k = M.N k) ∨ (lookV D' (.string k) = none ∧ N' k = none)) : TD Z w' q { M with N := N' } c D' E := by
  have hnt := h.nt
  have hk2 : Kept (TBs q) w w' := hk.mono (fun j _ e => .inr (.inl e))
  refine ⟨?_, hown, fun x => ?_, ownsMap_kept h.s hk (fun e => h.ns e.symm), h.S, h.ns, fun x hx => ?_, h.inZ, fun j hj => h.new j (Nat.le_trans hk.size hj)⟩
  · rw [hk.block q.t (h.lt _ (.inl rfl)) (fun e => hnt.1 e.symm)]; exact h.at_
  · rcases hL x with ⟨h1, h2⟩ | ⟨h1, h2⟩
    · show NdAt w' Z _ (N' x)
      rw [h1, h2]
      exact (h.N x).kept hk2 (fun b cur hb _ => h.noAcl b cur hb)
    · show NdAt w' Z _ (N' x)
      rw [h1, h2]; exact True.intro
  · rcases hL x with ⟨_, h2⟩ | ⟨_, h2⟩
    · exact h.okk x (by rw [← h2]; exact hx)
    · exact absurd h2 hx
def underM (M : TM) (p : ByteArray) : TM := { M with N := fun k => if underL k p = true then none else M.N k }
theorem ba_mk (x : ByteArray) : (⟨x.data.toList.toArray⟩ : ByteArray) = x := by
  cases x; simp
theorem kept_grown {row : Option Nat} (h : w.grownBy w' row) {b : Nat} (e : row = some b) : Kept (fun j => j = b) w w' := (Kept.of_grownBy h).mono (fun k _ e' => by rw [e] at e'; injection e')
set_option maxRecDepth 100000 in
set_option maxHeartbeats 1000000 in
theorem removeUnder_any (h : TAt Z w q M c) (p : ByteArray) (hp : p.size ≤ 140737488355328) :
    Calls Try.prog 75 #[.pointer (some ⟨q.t, 0, none⟩), .string p] w fun e w' => e = .returned (.tuple #[]) ∧ TAt Z w' q (underM M p) c ∧ Kept (TBs q) w w' := by
  obtain ⟨D, E, h⟩ := h
  obtain ⟨c0, c1, c2, f⟩ := h.three
  have HD := Lib.hid h
  have hlt := h.lt _ (.inl rfl)
  have hown := h.n
  have hnt := h.nt.1
  clear h
  go_enter Try.func75, Try.ntmps75
  go_wp2_with (first
    | (at_range; refine wpList_range_own _ rfl _ 75 rfl 9 85 keyS Try.underlying75 _ q.n c _ rfl hown ?_; intro w0 hrg0 hg0 hs0)
    | go_in)
  go_frame
  go_loopw [4] (fun _ wr => ∃ (D' : DV) (left : Lit → Bool) (cnt : Nat), wr.ranges Try.prog 9 tok q.n w.heap.size c D' left cnt ∧ w.grownBy wr (some q.n) ∧
      (∀ k, lookV D' (.string k) = if underL k p = true ∧ left (.string k) = false then none else lookV D (.string k)) ∧ (∀ k, left (.string k) = true → (lookV D (.string k)).isSome = true))
    (fun _ wr => wr.rangeLeft q.n w.heap.size)
  case atStart =>
    refine ⟨_, _, _, hrg0, hg0.but _, fun k => ?_, fun k hk => by rw [lookV_isSome]; exact hk⟩
    split
    · rename_i hh
      have := lookV_isSome D (.string k)
      rw [hh.2] at this
      cases hl : lookV D (.string k) with
      | none => rfl
      | some v => rw [hl] at this; cases this
    · rfl
  case round =>
    obtain ⟨D', left, cnt, hrg, hgw, hI, hJ⟩ := hrel
    have HI := Lib.hid hI
    have HJ := Lib.hid hJ
    clear hI hJ
    go_wp2_with (first
      | (at_next; refine wpList_next_ranges _ rfl _ rfl 9 keyS tok (fun x : ByteArray => Value.string x) id (fun key kl hkey => by obtain ⟨x, rfl, _⟩ := keyOf_string_inv hkey; exact ⟨x, rfl⟩) (fun v _ _ => ⟨v, rfl⟩) q.n w.heap.size c _ _ _ rfl hrg ?_ ?_)
      | go_in)
    · intro _ hl0
      go_wp2
      go_end0
      refine ⟨rfl, ⟨D', E, HD.out.cut hrg.owns (kept_grown hgw rfl) (fun k => ?_)⟩, (kept_grown hgw rfl).mono (fun j _ e => .inr (.inl e))⟩
      rw [HI.out k, hl0]
      by_cases hu : underL k p = true
      · right; simp [hu]
      · left; simp [hu]
    · intro x v kl yd yp w1 cnt1 hkey hlx hv hat hrg1 hlt1 hg1 hs1 hen
      obtain ⟨x', ex, rfl, hx⟩ := keyOf_string_inv hkey
      cases ex
      have hxl : x.data.toList.length ≤ 60 := by
        have h1 := HJ.out _ hlx
        have h2 := HD.out.N x.data.toList
        apply HD.out.okk
        intro e
        rw [e] at h2
        cases hl : lookV D (.string x.data.toList) with
        | none => rw [hl] at h1; cases h1
        | some v => rw [hl] at h2; exact h2
      have hxs : x.size ≤ 140737488355328 := by
        have : x.size = x.data.toList.length := (Array.length_toList (xs := x.data)).symm
        omega
      have hgw1 := hgw.andThen hg1 (fun j hj => by cases hj; exact Or.inl (Nat.le_refl _))
      have e0 : w1.cell? ⟨q.t, 0, none⟩ = some (.map (some q.n)) := by
        rw [World.cell?_of_block (w := w) ((kept_grown hgw1 rfl).block q.t hlt (fun e => hnt e.symm))]; exact c0
      have HU := Lib.hid (under_any x p w1 hxs hp)
      have HUL : Hid (underL x.data.toList p = underS x p) := Lib.hid (by unfold underL; rw [ba_mk])
      have HIx : ∀ k, (Lit.string k).sameKey (.string x.data.toList) = true → k = x.data.toList := fun k e => by
        have := WideAt.sameKey_eq e; injection this
      have HXs : (Lit.string x.data.toList).sameKey (.string x.data.toList) = true := WideAt.sameKey_self trivial
      by_cases hu : underS x p = true
      · rw [hu] at HU
        go_wp2_with (first
          | (go_at_call 101; refine HU.out.mono ?_; rintro e w2 ⟨rfl, rfl⟩)
          | (at_delete; refine wpList_delete_ranges _ rfl _ _ 75 9 rfl 85 keyS Try.underlying75 _ q.n w.heap.size c _ _ _ rfl hrg1 _ _ rfl hkey ?_; intro w3 cnt3 hrg3 hle hturn; go_frame)
          | go_in)
        rw [strike_twice] at hrg3
        go_roundw
        case rel =>
          refine ⟨_, _, cnt3, hrg3, hgw1.andThen hturn.grown (fun j hj => by cases hj; exact Or.inr rfl), fun k => ?_, fun k hk => HJ.out k (by simp at hk; exact hk.1)⟩
          by_cases e : k = x.data.toList
          · subst e
            rw [lookV_del_same, if_pos ⟨by rw [HUL.out]; exact hu, by rw [HXs]; simp⟩]
          · have hs : (Lit.string k).sameKey (.string x.data.toList) = false := by
              cases hh : (Lit.string k).sameKey (.string x.data.toList) with
              | false => rfl
              | true => exact absurd (HIx k hh) e
            rw [lookV_del_other (fun e' => e (by injection e')), HI.out k, hs]; simp
        case measure => rw [hrg3.left_eq, hrg.left_eq]; omega
      · have hu : underS x p = false := by simpa using hu
        rw [hu] at HU
        go_wp2_with (first
          | (go_at_call 101; refine HU.out.mono ?_; rintro e w2 ⟨rfl, rfl⟩)
          | go_in)
        go_roundw
        case rel =>
          refine ⟨_, _, cnt1, hrg1, hgw1, fun k => ?_, fun k hk => HJ.out k (by simp at hk; exact hk.1)⟩
          by_cases e : k = x.data.toList
          · subst e
            rw [HI.out, if_neg (by rw [HUL.out, hu]; simp), if_neg (by rw [HUL.out, hu]; simp)]
          · have hs : (Lit.string k).sameKey (.string x.data.toList) = false := by
              cases hh : (Lit.string k).sameKey (.string x.data.toList) with
              | false => rfl
              | true => exact absurd (HIx k hh) e
            rw [HI.out k, hs]; simp
        case measure => rw [hrg1.left_eq, hrg.left_eq]; exact hlt1
end
end Go.Proofs.Ytccoeccibokecaa
