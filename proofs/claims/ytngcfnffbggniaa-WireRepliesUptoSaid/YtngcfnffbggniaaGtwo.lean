/- A thing that is taken up in two steps: its part in a block of its own, then its lists. -/
import Derived.Test.YtngcfnffbggniaaGacl
namespace Go.Proofs.Ytngcfnffbggniaa
open Go.ChangeShapes Go.WideShapes Go.ChangeAt Go.RowKit
set_option linter.unusedVariables false

/-- the reader b; the block of the answer behind w's, still as made; the block g that bears the cells cur -/
structure TBox (w : World) (b : Nat) (v : Value) (l : List UInt8) (T : TypeId) (zc : Array Value) (g : Nat) (W : World) (cur : List Value) (p e : Nat) : Prop where
  old : ∀ k, WS b v k → k < w.heap.size
  rd : RAt W b v l p e
  kept : Kept (RS b) w W
  res : W.heap[w.heap.size]? = some (.cells zc T (0, 0))
  box : W.heap[g]? = some (.cells cur.toArray T (0, 0))
  gt : w.heap.size < g

def Ok1 (w : World) (g : Nat) : Nat → Prop := fun k => w.heap.size + 1 ≤ k ∧ k ≠ g

theorem TBox.start {w w1 : World} {b : Nat} {v : Value} {l : List UInt8} {T : TypeId} {zc : Array Value} {cs : List Value} {p e q e' : Nat} (hR : RAt w b v l p e) (hR1 : RAt w1 b v l q e') (hk : Kept (RS b) (w.alloc (.cells zc T)) w1) :
    TBox w b v l T zc w1.heap.size (w1.alloc (.cells cs.toArray T)) cs q e' := by
  have h1 : (w.alloc (.cells zc T)).heap.size ≤ w1.heap.size := hk.size
  have h2 : (w.alloc (.cells zc T)).heap.size = w.heap.size + 1 := by simp
  have hA : Kept (fun _ => False) w1 (w1.alloc (.cells cs.toArray T)) := (Kept.refl _ w1).alloc _
  have hK : Kept (RS b) w w1 := Kept.trans' ((Kept.refl (RS b) w).alloc _) hk (fun _ _ s => s)
  refine ⟨hR.inn, hR1.alloc _, Kept.trans' hK hA (fun _ _ f => f.elim), ?_, heap_alloc_new w1 _, by omega⟩
  rw [hA.block _ (by omega) id, hk.block _ (by omega) (rbox_new hR)]
  exact heap_alloc_new w _

section
variable {w W W' : World} {b g : Nat} {v : Value} {l : List UInt8} {T : TypeId} {zc : Array Value} {cur : List Value} {p e q e' : Nat}

theorem TBox.list (h : TBox w b v l T zc g W cur p e) (hR : RAt W' b v l q e') (hk : Kept (RS b) W W') : TBox w b v l T zc g W' cur q e' := by
  have hb : b < w.heap.size := h.old b (Or.inl rfl)
  have hg := h.gt
  exact ⟨h.old, hR, h.kept.trans hk, by rw [hk.block _ (lt_of_block h.res) (fun hs => by have hs' : w.heap.size = b := hs; omega)]; exact h.res,
    by rw [hk.block _ (lt_of_block h.box) (fun hs => by have hs' : g = b := hs; omega)]; exact h.box, h.gt⟩

theorem TBox.cell (h : TBox w b v l T zc g W cur p e) (i : Nat) (hi : i < cur.length) : W.cell? ⟨g, i, none⟩ = some cur[i] ∧ W.frozen? ⟨g, i, none⟩ = false := by
  refine ⟨?_, by simp [World.frozen?, h.box]⟩
  rw [cell_of_row _ _ i _ _ (0, 0) h.box]
  simp [List.getElem?_eq_getElem hi]

theorem set_kept (W : World) (g i : Nat) (u : Value) : Kept (fun k => k = g) W (W.setCell ⟨g, i, none⟩ u) :=
  Kept.setCell (S := fun k => k = g) (Kept.refl _ _) (a := ⟨g, i, none⟩) (Or.inl rfl) u

theorem TBox.set (h : TBox w b v l T zc g W cur p e) (i : Nat) (u : Value) : TBox w b v l T zc g (W.setCell ⟨g, i, none⟩ u) (cur.set i u) p e := by
  have hb : b < w.heap.size := h.old b (Or.inl rfl)
  have hg := h.gt
  have hk := set_kept W g i u
  refine ⟨h.old, h.rd.keep hk (fun k hk1 hs => by have := h.old k hk1; have hs' : k = g := hs; omega), Kept.trans' h.kept hk (fun k hk1 hs => by have hs' : k = g := hs; omega), ?_, ?_, h.gt⟩
  · rw [hk.block _ (lt_of_block h.res) (by omega)]; exact h.res
  · have hb := h.box
    simp [World.setCell, Array.getElem?_modify, hb]

theorem TBox.finR (h : TBox w b v l T zc g W cur p e) (c : Array Value) : RAt (W.setRow w.heap.size c) b v l p e :=
  h.rd.keep (setRow_kept W w.heap.size c) (fun k hk hs => by have := h.old k hk; have hs' : k = w.heap.size := hs; omega)
theorem TBox.finK (h : TBox w b v l T zc g W cur p e) (c : Array Value) : Kept (RS b) w (W.setRow w.heap.size c) :=
  Kept.trans' h.kept (setRow_kept W w.heap.size c) (fun k hk hs => by have hs' : k = w.heap.size := hs; omega)

section
variable {α : Type} {E : CellsOf α} {cs : List Value} {x : α} {sz : Nat} {sv : Value} {xs : List α}

theorem rel_start (hE : E.Ok) {w1 : World} {o : Obj} {zc' : Array Value} (h : E w1 (New (w.alloc (.cells zc' T))) cs x) : E (w1.alloc o) (Ok1 w w1.heap.size) cs x :=
  hE.keep (hE.mono h (fun k hk hn => ⟨by have hn' : (w.alloc (.cells zc' T)).heap.size ≤ k := hn; simpa using hn', by omega⟩)) ((Kept.refl (fun _ => False) w1).alloc o) (disj_none _)
theorem TBox.ok_rs (h : TBox w b v l T zc g W cur p e) : Disj (Ok1 w g) (RS b) := fun k hk hs => by have hb : b < w.heap.size := h.old b (Or.inl rfl); have hs' : k = b := hs; have := hk.1; omega
theorem ok_g (w : World) (g : Nat) : Disj (Ok1 w g) (fun k => k = g) := fun k hk hs => hk.2 hs
theorem ok_w (w : World) (g : Nat) : Disj (Ok1 w g) (fun k => k = w.heap.size) := fun k hk hs => by have := hk.1; have hs' : k = w.heap.size := hs; omega
theorem TBox.rel_list (hE : E.Ok) (h : TBox w b v l T zc g W cur p e) (hL : ListR E W' (New W) sz sv xs) : ListR E W' (Ok1 w g) sz sv xs :=
  hL.mono hE (fun k _ hk => by have hk' : W.heap.size ≤ k := hk; have := lt_of_block h.box; have := h.gt; exact ⟨by omega, by omega⟩)
theorem rel_fin (hE : E.Ok) (h : E W (Ok1 w g) cs x) (c : Array Value) : E (W.setRow w.heap.size c) (New w) cs x :=
  hE.mono (hE.keep h (setRow_kept W w.heap.size c) (ok_w w g)) (fun k _ hk => by have := hk.1; unfold New; omega)
theorem rel_finL (hE : E.Ok) (h : ListR E W (Ok1 w g) sz sv xs) (c : Array Value) : ListR E (W.setRow w.heap.size c) (New w) sz sv xs :=
  (h.keep hE (setRow_kept W w.heap.size c) (ok_w w g)).mono hE (fun k _ hk => by have := hk.1; unfold New; omega)
end
end

theorem partQ_set {w : World} {ok : Nat → Prop} {cs : List Value} {x : Part} (h : partE w ok cs x) {u : Value} (hu : IsSl u) : partQ w ok (cs.set 7 u) x u := by
  obtain ⟨vsubs, vacl, rfl, h1, h2, h3, h4, h5, h6, h7, _⟩ := h
  exact ⟨vacl, rfl, h1, h2, h3, h4, h5, h6, h7, hu⟩
theorem oper1Q_set {w : World} {ok : Nat → Prop} {cs : List Value} {x : Oper1} (h : oper1E w ok cs x) {u t : Value} (hu : IsSl u) (ht : IsSl t) : oper1Q w ok ((cs.set 8 u).set 9 t) x u t := by
  obtain ⟨_, _, vacl, rfl, h1, h2, h3, h4, h5, h6, h7, _⟩ := h
  exact ⟨vacl, rfl, h1, h2, h3, h4, h5, h6, h7, hu, ht⟩
theorem ansQ_set {w : World} {ok : Nat → Prop} {cs : List Value} {x : Ans} (h : ansE w ok cs x) {u : Value} (hu : IsSl u) : ansQ w ok (cs.set 16 u) x u := by
  obtain ⟨_, vacl, vkids, rfl, h1, h2, a1, a2, a3, a4, a5, b1, b2, b3, b4, b5, b6, b7, b8, b9, _⟩ := h
  exact ⟨vacl, vkids, rfl, h1, h2, a1, a2, a3, a4, a5, b1, b2, b3, b4, b5, b6, b7, b8, b9, hu⟩
theorem flat_set {n : Nat} {cs : List Value} (h : Flat n cs) (i : Nat) {u : Value} (hu : u.oneCell' = true) : Flat n (cs.set i u) :=
  ⟨by rw [List.length_set]; exact h.1, fun v hv => by
    rcases List.mem_or_eq_of_mem_set hv with hv | rfl
    · exact h.2 v hv
    · exact hu⟩
end Go.Proofs.Ytngcfnffbggniaa
