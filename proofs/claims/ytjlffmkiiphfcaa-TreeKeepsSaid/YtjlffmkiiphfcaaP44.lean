/- A history's entries: plainly, and in memory. -/
import Derived.Test.YtjlffmkiiphfcaaP43
import Derived.Test.YtjlffmkiiphfcaaP31
namespace Go.Proofs.Ytjlffmkiiphfcaa
open Go.ChangeShapes Go.WideShapes Go.ChangeAt Go.RowKit Go.Maps
set_option linter.unusedVariables false
set_option linter.unusedSimpArgs false
structure HE where
  e : EX
  x : T1
  y : TX
  l : List (T1 × TX)
def HE.subs (h : HE) : List T1 := h.l.map (·.1)
def heL (h : HE) : List Value := [.int .i64 h.e.zx, .int .i64 h.e.sess, .int .i64 h.e.xid, .int .i64 h.x.kind, .string h.x.path, .string h.x.data, .slice h.y.aa h.y.an h.y.ac, .int .i64 h.x.owner, .int .i64 h.x.number, .int .i64 h.y.err, .slice h.y.sa h.y.sn h.y.sc]
def heC (l : List HE) : List Value := l.flatMap heL
theorem heL_one (h : HE) : ∀ u ∈ heL h, u.oneCell' = true := by
  intro u hu
  simp only [heL, List.mem_cons, List.not_mem_nil, or_false] at hu
  rcases hu with rfl | rfl | rfl | rfl | rfl | rfl | rfl | rfl | rfl | rfl | rfl <;> rfl
theorem heC_snoc (l : List HE) (h : HE) : heC l ++ heL h = heC (l ++ [h]) := by unfold heC; simp
theorem ents_row : RowTy Try.prog 24 40 11 136 := RowTy.of (z := .agg #[.int .i64 0, .int .i64 0, .int .i64 0, .int .i64 0, .string ByteArray.empty, .string ByteArray.empty, .slice none 0 0, .int .i64 0, .int .i64 0, .int .i64 0, .slice none 0 0]) Try.underlying24 (by kernel_rfl) rfl (by decide)
/-- a sound history from a number on, and the tree that comes of it -/
inductive Hist (fr : Int) : List HE → RT → Prop
  | nil : Hist fr [] newR
  | snoc {H : List HE} {R : RT} {h : HE} : Hist fr H R → h.e.zx = fr + H.length → TxnOk R h.x h.subs → soundB R h.x h.subs h.e.zx = true → Hist fr (H ++ [h]) (applyR R h.x h.subs h.e.zx)
structure HistAt (B : Nat) (w : World) (v : Value) (H : List HE) : Prop where
  own : w.ownsRow B 40 11 v H.length (heC H)
  txw : ∀ h ∈ H, TxW w h.x h.y h.l
theorem HistAt.nil (B : Nat) (w : World) : HistAt B w (.slice none 0 0) [] := ⟨World.ownsRow_nil _ _ _ _, fun _ h => (List.not_mem_nil h).elim⟩
theorem HistAt.kept0 {B : Nat} {w w' : World} {v : Value} {H : List HE} (h : HistAt B w v H) (hk : Kept (fun _ => False) w w') : HistAt B w' v H := ⟨ownKept h.own hk (fun _ _ f => f), fun e he => (h.txw e he).kept0 hk⟩
theorem HistAt.step {B : Nat} {w w' : World} {b : Nat} {R : RT} {v : Value} {H : List HE} (h : HistAt B w v H) (hR : RAt w b R) (hs : RStep w b w') : HistAt B w' v H := ⟨row_step h.own hR hs (by decide) (by decide) (by decide), fun e he => (h.txw e he).step hR hs⟩
/-- an entry more -/
theorem HistAt.app {B : Nat} {w w6 : World} {v v6 : Value} {H : List HE} {h : HE} (hh : HistAt B w v H) (hx : TxW w h.x h.y h.l) (hown : w6.ownsRow B 40 11 v6 (H.length + 1) (heC H ++ heL h)) (hg : (w.alloc (.cells (heL h).toArray 40)).grownBy w6 v.ownBlock) :
    HistAt B w6 v6 (H ++ [h]) ∧ Kept (fun k => some k = v.ownBlock) w w6 ∧ ∀ b R, RAt w b R → RAt w6 b R ∧ ∀ j, RBs w6 b j → RBs w b j := by
  have ka : Kept (fun _ => False) w (w.alloc (.cells (heL h).toArray 40)) := (Kept.refl _ w).alloc _
  have hra := ownKept hh.own ka (fun _ _ f => f)
  have kg : Kept (fun k => some k = v.ownBlock) w w6 := (ka.mono (fun _ _ f => f.elim)).trans (Kept.of_grownBy hg)
  have hT : ∀ x y l, TxW w x y l → TxW w6 x y l := fun x y l hx => hx.kept kg (fun k cur e hc he e' => by
    obtain ⟨_, _, cur', hc'⟩ := own_lo hh.own e'.symm
    rw [hc] at hc'
    rcases he with rfl | rfl <;> simp at hc')
  refine ⟨⟨by rw [← heC_snoc, List.length_append]; exact hown, fun e he => ?_⟩, kg, fun b R hR => ⟨(hR.kept0 ka).app hra hg (by decide) (by decide) (by decide) (by decide), fun j hj => ?_⟩⟩
  · rcases List.mem_append.1 he with he | he
    · exact hT _ _ _ (hh.txw e he)
    · simp at he; subst he; exact hT _ _ _ hx
  · have h2 := (rbs_kept (Kept.of_grownBy hg) (Nat.lt_of_lt_of_le hR.ltb ka.size) (fun e => by
      obtain ⟨_, _, cur', hc'⟩ := own_lo hra e.symm
      exact (hR.kept0 ka).other hc' (by decide) (by decide) (by decide) (.inl rfl)) j).1 hj
    exact (rbs_kept ka hR.ltb (fun f => f) j).1 h2
/-- a variable of the entries' type, whatever it holds -/
def EntRow (w : World) (g : Nat) : Prop := ∃ c : Array Value, w.heap[g]? = some (.cells c 40 (0, 0)) ∧ c.size = 11
theorem EntRow.drew {w : World} {g : Nat} (h : EntRow w g) : EntRow w.drew g := h
theorem EntRow.kept0 {w w1 : World} {g : Nat} (h : EntRow w g) (hk : Kept (fun _ => False) w w1) : EntRow w1 g := by
  obtain ⟨c, hc, hs⟩ := h
  exact ⟨c, box_kept0 hc hk, hs⟩
theorem EntRow.new (w : World) (c0 c1 c2 c3 c4 c5 c6 c7 c8 c9 c10 : Value) : EntRow (w.alloc (.cells #[c0, c1, c2, c3, c4, c5, c6, c7, c8, c9, c10] 40)) w.heap.size := ⟨_, heap_alloc_new w _, rfl⟩
theorem EntRow.open {w : World} {g : Nat} (h : EntRow w g) : ∃ c0 c1 c2 c3 c4 c5 c6 c7 c8 c9 c10, w.heap[g]? = some (.cells #[c0, c1, c2, c3, c4, c5, c6, c7, c8, c9, c10] 40 (0, 0)) := by
  obtain ⟨⟨l⟩, hc, hs⟩ := h
  obtain _ | ⟨c0, _ | ⟨c1, _ | ⟨c2, _ | ⟨c3, _ | ⟨c4, _ | ⟨c5, _ | ⟨c6, _ | ⟨c7, _ | ⟨c8, _ | ⟨c9, _ | ⟨c10, _ | ⟨c11, l⟩⟩⟩⟩⟩⟩⟩⟩⟩⟩⟩⟩ := l <;> simp at hs
  exact ⟨c0, c1, c2, c3, c4, c5, c6, c7, c8, c9, c10, hc⟩
theorem EntRow.cells {w : World} {g : Nat} (h : EntRow w g) : ∃ c0 c1 c2 c3 c4 c5 c6 c7 c8 c9 c10, w.cell? ⟨g, 0, none⟩ = some c0 ∧ w.cell? ⟨g, 1, none⟩ = some c1 ∧ w.cell? ⟨g, 2, none⟩ = some c2 ∧ w.cell? ⟨g, 3, none⟩ = some c3 ∧ w.cell? ⟨g, 4, none⟩ = some c4 ∧ w.cell? ⟨g, 5, none⟩ = some c5 ∧ w.cell? ⟨g, 6, none⟩ = some c6 ∧ w.cell? ⟨g, 7, none⟩ = some c7 ∧ w.cell? ⟨g, 8, none⟩ = some c8 ∧ w.cell? ⟨g, 9, none⟩ = some c9 ∧ w.cell? ⟨g, 10, none⟩ = some c10 ∧ ∀ j, w.frozen? ⟨g, j, none⟩ = false := by
  obtain ⟨c0, c1, c2, c3, c4, c5, c6, c7, c8, c9, c10, hg⟩ := h.open
  have c : ∀ i, w.cell? ⟨g, i, none⟩ = ([c0, c1, c2, c3, c4, c5, c6, c7, c8, c9, c10] : List Value)[i]? := fun i => by
    rw [cell_of_row w g i _ _ (0, 0) hg, ← Array.getElem?_toList]
  exact ⟨c0, c1, c2, c3, c4, c5, c6, c7, c8, c9, c10, c 0, c 1, c 2, c 3, c 4, c 5, c 6, c 7, c 8, c 9, c 10, fun j => by simp [World.frozen?, hg]⟩
theorem EntRow.set11 {W : World} {g : Nat} (h : EntRow W g) (v0 v1 v2 v3 v4 v5 v6 v7 v8 v9 v10 : Value) : (((((((((((W.setCell ⟨g, 0, none⟩ v0).setCell ⟨g, 1, none⟩ v1).setCell ⟨g, 2, none⟩ v2).setCell ⟨g, 3, none⟩ v3).setCell ⟨g, 4, none⟩ v4).setCell ⟨g, 5, none⟩ v5).setCell ⟨g, 6, none⟩ v6).setCell ⟨g, 7, none⟩ v7).setCell ⟨g, 8, none⟩ v8).setCell ⟨g, 9, none⟩ v9).setCell ⟨g, 10, none⟩ v10).heap[g]? = some (.cells #[v0, v1, v2, v3, v4, v5, v6, v7, v8, v9, v10] 40 (0, 0)) := by
  obtain ⟨c0, c1, c2, c3, c4, c5, c6, c7, c8, c9, c10, h0⟩ := h.open
  have h1 := heap_set (c := [c0, c1, c2, c3, c4, c5, c6, c7, c8, c9, c10]) (i := 0) v0 h0
  have h2 := heap_set (c := [v0, c1, c2, c3, c4, c5, c6, c7, c8, c9, c10]) (i := 1) v1 h1
  have h3 := heap_set (c := [v0, v1, c2, c3, c4, c5, c6, c7, c8, c9, c10]) (i := 2) v2 h2
  have h4 := heap_set (c := [v0, v1, v2, c3, c4, c5, c6, c7, c8, c9, c10]) (i := 3) v3 h3
  have h5 := heap_set (c := [v0, v1, v2, v3, c4, c5, c6, c7, c8, c9, c10]) (i := 4) v4 h4
  have h6 := heap_set (c := [v0, v1, v2, v3, v4, c5, c6, c7, c8, c9, c10]) (i := 5) v5 h5
  have h7 := heap_set (c := [v0, v1, v2, v3, v4, v5, c6, c7, c8, c9, c10]) (i := 6) v6 h6
  have h8 := heap_set (c := [v0, v1, v2, v3, v4, v5, v6, c7, c8, c9, c10]) (i := 7) v7 h7
  have h9 := heap_set (c := [v0, v1, v2, v3, v4, v5, v6, v7, c8, c9, c10]) (i := 8) v8 h8
  have h10 := heap_set (c := [v0, v1, v2, v3, v4, v5, v6, v7, v8, c9, c10]) (i := 9) v9 h9
  have h11 := heap_set (c := [v0, v1, v2, v3, v4, v5, v6, v7, v8, v9, c10]) (i := 10) v10 h10
  exact h11
theorem kept11 {W : World} {g : Nat} (v0 v1 v2 v3 v4 v5 v6 v7 v8 v9 v10 : Value) : Kept (fun k => k = g) W (((((((((((W.setCell ⟨g, 0, none⟩ v0).setCell ⟨g, 1, none⟩ v1).setCell ⟨g, 2, none⟩ v2).setCell ⟨g, 3, none⟩ v3).setCell ⟨g, 4, none⟩ v4).setCell ⟨g, 5, none⟩ v5).setCell ⟨g, 6, none⟩ v6).setCell ⟨g, 7, none⟩ v7).setCell ⟨g, 8, none⟩ v8).setCell ⟨g, 9, none⟩ v9).setCell ⟨g, 10, none⟩ v10) := by
  have e0 := Kept.refl (fun k => k = g) W
  have e1 := e0.setCell (a := ⟨g, 0, none⟩) (.inl (show (⟨g, 0, none⟩ : Addr).block = g from rfl)) v0
  have e2 := e1.setCell (a := ⟨g, 1, none⟩) (.inl (show (⟨g, 1, none⟩ : Addr).block = g from rfl)) v1
  have e3 := e2.setCell (a := ⟨g, 2, none⟩) (.inl (show (⟨g, 2, none⟩ : Addr).block = g from rfl)) v2
  have e4 := e3.setCell (a := ⟨g, 3, none⟩) (.inl (show (⟨g, 3, none⟩ : Addr).block = g from rfl)) v3
  have e5 := e4.setCell (a := ⟨g, 4, none⟩) (.inl (show (⟨g, 4, none⟩ : Addr).block = g from rfl)) v4
  have e6 := e5.setCell (a := ⟨g, 5, none⟩) (.inl (show (⟨g, 5, none⟩ : Addr).block = g from rfl)) v5
  have e7 := e6.setCell (a := ⟨g, 6, none⟩) (.inl (show (⟨g, 6, none⟩ : Addr).block = g from rfl)) v6
  have e8 := e7.setCell (a := ⟨g, 7, none⟩) (.inl (show (⟨g, 7, none⟩ : Addr).block = g from rfl)) v7
  have e9 := e8.setCell (a := ⟨g, 8, none⟩) (.inl (show (⟨g, 8, none⟩ : Addr).block = g from rfl)) v8
  have e10 := e9.setCell (a := ⟨g, 9, none⟩) (.inl (show (⟨g, 9, none⟩ : Addr).block = g from rfl)) v9
  have e11 := e10.setCell (a := ⟨g, 10, none⟩) (.inl (show (⟨g, 10, none⟩ : Addr).block = g from rfl)) v10
  exact e11
end Go.Proofs.Ytjlffmkiiphfcaa
