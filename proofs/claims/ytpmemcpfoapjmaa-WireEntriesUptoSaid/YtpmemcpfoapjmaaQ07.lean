/- Lists that came out own their blocks: they may be written over, and grown. What writing over and growing lists that came out leaves: every block keeps its type and its size; the lists inside of the rows stay such lists. Parts, taken up. A thing that is taken up in two steps: its part in a block of its own, then its lists. Transactions and entries, taken up. -/
import Derived.Test.YtpmemcpfoapjmaaQ03
import Derived.Test.YtpmemcpfoapjmaaQ06
import Derived.Test.YtpmemcpfoapjmaaQ04
namespace Go.Proofs.Ytpmemcpfoapjmaa
open Go.ChangeShapes Go.WideShapes Go.ChangeAt Go.RowKit
set_option linter.unusedVariables false

/-- v is nil, or a block of its own of that type between base and top, with room for its capacity -/
structure OwnL (w : World) (base top : Nat) (T : TypeId) (sz : Nat) (v : Value) : Prop where
  ex : ∃ A n c, v = .slice A n c ∧ n ≤ c ∧ c ≤ maxLen ∧ (c = 0 ∨ ∃ g cur, A = some ⟨g, 0, none⟩ ∧ base ≤ g ∧ g < top ∧ w.heap[g]? = some (.cells cur T (0, 0)) ∧ cur.size = c * sz)

theorem ListR.owns {α : Type} {E : CellsOf α} {w : World} {ok : Nat → Prop} {sz : Nat} {v : Value} {l : List α} (h : ListR E w ok sz v l) {T : TypeId} (hT : ∀ T', TyOf sz T' → T' = T) (h0 : ¬ ok 0) {base : Nat} (hb : ∀ k, ok k → base ≤ k) : OwnL w base w.heap.size T sz v := by
  obtain ⟨rows, ⟨A, c, rfl, hc, hm, hat⟩, hlen, hel⟩ := h
  refine ⟨A, rows.length, c, rfl, hc, hm, ?_⟩
  rcases hat with ⟨_, h1 | h1⟩ | ⟨g, off, hA, hok, hg, hcell⟩
  · exact Or.inl h1
  · exact absurd h1.1 h0
  · obtain ⟨rfl, cur, T', h2, h3, h4⟩ := hok.2.2 h0
    rw [hT T' h4] at h2
    exact Or.inr ⟨g, cur, hA, hb g hok.1, hg, h2, h3⟩

theorem setCells_block (w : World) (b o : Nat) (vs : List Value) {g : Nat} {cur : Array Value} {T : TypeId} (h : w.heap[g]? = some (.cells cur T (0, 0))) : ∃ cur', (w.setCells b o vs).heap[g]? = some (.cells cur' T (0, 0)) ∧ cur'.size = cur.size := by
  induction vs generalizing o w cur with
  | nil => exact ⟨cur, h, rfl⟩
  | cons v vs ih =>
    rw [World.setCells]
    by_cases hb : b = g
    · subst hb
      have h1 := setCell_row (w := w) (g := b) (i := o) (c := cur.toList) (T := T) (v := v) (by simpa using h)
      rw [h1]
      obtain ⟨cur', h2, h3⟩ := ih (w.setRow b (cur.toList.set o v).toArray) (o + 1) (setRow_heap _ _ _ _ _ _ h)
      exact ⟨cur', h2, by rw [h3]; simp⟩
    · have h1 : (w.setCell ⟨b, o, none⟩ v).heap[g]? = some (.cells cur T (0, 0)) := by
        rw [(Kept.setCell (S := fun k => k = b) (Kept.refl _ w) (a := ⟨b, o, none⟩) (Or.inl rfl) v).block g (lt_of_block h) (fun e => hb (by have e' : g = b := e; exact e'.symm))]
        exact h
      exact ih _ (o + 1) h1

section
variable {w w' : World} {base top : Nat} {T : TypeId} {sz : Nat} {v : Value}
theorem OwnL.keep {S : Nat → Prop} (h : OwnL w base top T sz v) (hk : Kept S w w') (hs : ∀ k, base ≤ k → k < top → ¬ S k) : OwnL w' base top T sz v := by
  obtain ⟨A, n, c, rfl, hc, hm, hx⟩ := h.ex
  refine ⟨A, n, c, rfl, hc, hm, ?_⟩
  rcases hx with h0 | ⟨g, cur, hA, hb, hg, hh, hz⟩
  · exact Or.inl h0
  · exact Or.inr ⟨g, cur, hA, hb, hg, by rw [hk.block g (lt_of_block hh) (hs g hb hg)]; exact hh, hz⟩
theorem OwnL.set (h : OwnL w base top T sz v) (b o : Nat) (vs : List Value) : OwnL (w.setCells b o vs) base top T sz v := by
  obtain ⟨A, n, c, rfl, hc, hm, hx⟩ := h.ex
  refine ⟨A, n, c, rfl, hc, hm, ?_⟩
  rcases hx with h0 | ⟨g, cur, hA, hb, hg, hh, hz⟩
  · exact Or.inl h0
  · obtain ⟨cur', h1, h2⟩ := setCells_block w b o vs hh
    exact Or.inr ⟨g, cur', hA, hb, hg, h1, by rw [h2, hz]⟩
theorem OwnL.shape (h : OwnL w base top T sz v) : IsSl v := by
  obtain ⟨A, n, c, rfl, _⟩ := h.ex
  exact ⟨A, n, c, rfl⟩
theorem OwnL.len {A : Option Addr} {n c : Nat} (h : OwnL w base top T sz (.slice A n c)) : n ≤ c ∧ c ≤ maxLen := by
  obtain ⟨A', n', c', hv, hc, hm, hx⟩ := h.ex
  simp only [Value.slice.injEq] at hv
  obtain ⟨rfl, rfl, rfl⟩ := hv
  exact ⟨hc, hm⟩
/-- the place of the element i -/
theorem OwnL.at_ {A : Option Addr} {n c : Nat} (h : OwnL w base top T sz (.slice A n c)) {i : Nat} (hi : i < n) : ∃ g, A = some ⟨g, 0, none⟩ ∧ base ≤ g ∧ g < top ∧ w.there g (i * sz) sz ∧ ∃ cur, w.heap[g]? = some (.cells cur T (0, 0)) := by
  obtain ⟨A', n', c', hv, hc, hm, hx⟩ := h.ex
  simp only [Value.slice.injEq] at hv
  obtain ⟨rfl, rfl, rfl⟩ := hv
  rcases hx with h0 | ⟨g, cur, hA, hb, hg, hh, hz⟩
  · omega
  · refine ⟨g, hA, hb, hg, fun j hj => ?_, cur, hh⟩
    have hm' : (i + 1) * sz ≤ c * sz := Nat.mul_le_mul_right _ (by omega)
    rw [Nat.add_mul, Nat.one_mul] at hm'
    have hlt : i * sz + j < cur.size := by omega
    refine ⟨?_, by simp [World.frozen?, hh]⟩
    have := cell_of_row w g (i * sz + j) cur T (0, 0) hh
    rw [this]
    simp [hlt]
theorem OwnL.block {g n c : Nat} (h : OwnL w base top T sz (.slice (some ⟨g, 0, none⟩) n c)) (hn : 0 < n) : base ≤ g ∧ g < top ∧ ∃ cur : Array Value, w.heap[g]? = some (.cells cur T (0, 0)) := by
  obtain ⟨A', n', c', hv, hc, hm, hx⟩ := h.ex
  simp only [Value.slice.injEq] at hv
  obtain ⟨rfl, rfl, rfl⟩ := hv
  rcases hx with h0 | ⟨g', cur, hA, hb, hg, hh, hz⟩
  · omega
  · simp only [Option.some.injEq, Addr.mk.injEq, and_true] at hA
    subst hA
    exact ⟨hb, hg, cur, hh⟩
end

/-- of the rows from i on, the list in the cell at is such a one -/
def RowsOwn (w : World) (base top : Nat) (vs : Value) (i : Nat) : Prop :=
  ∀ gs n c, vs = .slice (some ⟨gs, 0, none⟩) n c → ∀ j, i ≤ j → j < n → ∃ v, w.cell? ⟨gs, j * 8 + 3, none⟩ = some v ∧ OwnL w base top 47 2 v

theorem rows_own {w : World} {ok : Nat → Prop} {vs : Value} {l : List Part} (h : ListR partE w ok 8 vs l) (h0 : ¬ ok 0) {base : Nat} (hb : ∀ k, ok k → base ≤ k) : RowsOwn w base w.heap.size vs 0 := by
  obtain ⟨rows, ⟨A, c, rfl, hc, hm, hat⟩, hlen, hel⟩ := h
  intro gs n c' hv j _ hj
  simp only [Value.slice.injEq] at hv
  obtain ⟨rfl, rfl, rfl⟩ := hv
  rcases hat with ⟨h1, _⟩ | ⟨g, off, hA, hok, hg, hcell⟩
  · rw [h1] at hj; simp at hj
  · obtain ⟨hoff, _⟩ := hok.2.2 h0
    subst hoff
    simp only [Option.some.injEq, Addr.mk.injEq, and_true] at hA
    subst hA
    obtain ⟨vsubs, vacl, hrow, hacl, _⟩ := hel j (by omega) hj
    have hlr := (hcell j hj).1
    have h3 := (hcell j hj).2 3 (by omega)
    refine ⟨vacl, ?_, hacl.owns (fun T' h => h.1 rfl) h0 hb⟩
    rw [Nat.zero_add] at h3
    rw [h3]
    simp [hrow]

theorem types_apart {w : World} {g g' : Nat} {cur cur' : Array Value} (h : w.heap[g]? = some (.cells cur 26 (0, 0))) (h' : w.heap[g']? = some (.cells cur' 47 (0, 0))) : g ≠ g' := by
  intro e
  subst e
  rw [h] at h'
  simp at h'
end Go.Proofs.Ytpmemcpfoapjmaa

namespace Go.Proofs.Ytpmemcpfoapjmaa
open Go.ChangeShapes Go.WideShapes Go.ChangeAt Go.RowKit
set_option linter.unusedVariables false

structure Soft (base top : Nat) (w0 w : World) : Prop where
  kept : Kept (Mid base top) w0 w
  own : ∀ (g : Nat) (cur : Array Value) (T : TypeId), w0.heap[g]? = some (.cells cur T (0, 0)) → ∃ cur' : Array Value, w.heap[g]? = some (.cells cur' T (0, 0)) ∧ cur'.size = cur.size
  entry : ∀ (g : Nat) (cur : Array Value), w0.heap[g]? = some (.cells cur 28 (0, 0)) → w.heap[g]? = w0.heap[g]?
  rows : ∀ (g : Nat) (cur : Array Value), w0.heap[g]? = some (.cells cur 26 (0, 0)) → ∀ j : Nat, w.cell? ⟨g, j * 8 + 3, none⟩ = w0.cell? ⟨g, j * 8 + 3, none⟩ ∨ w.cell? ⟨g, j * 8 + 3, none⟩ = some (.slice none 0 0)

theorem RowsOwn.keep {w w' : World} {base top : Nat} {vs : Value} {i : Nat} {S : Nat → Prop} (h : RowsOwn w base top vs i) (ho : OwnL w base top 26 8 vs) (hk : Kept S w w') (hs : ∀ k, base ≤ k → k < top → ¬ S k) : RowsOwn w' base top vs i := by
  intro gs n c hv j hij hj
  obtain ⟨v, hc, hv'⟩ := h gs n c hv j hij hj
  rw [hv] at ho
  obtain ⟨h1, h2, cur, h3⟩ := ho.block (by omega)
  exact ⟨v, by rw [World.cell?_of_block (hk.block gs (lt_of_block h3) (hs gs h1 h2))]; exact hc, hv'.keep hk hs⟩
theorem Soft.refl (base top : Nat) (w : World) : Soft base top w w := ⟨Kept.refl _ _, fun g cur T h => ⟨cur, h, rfl⟩, fun _ _ _ => rfl, fun _ _ _ _ => Or.inl rfl⟩
theorem own_nil (w : World) (base top : Nat) (T : TypeId) (sz : Nat) : OwnL w base top T sz (.slice none 0 0) := ⟨none, 0, 0, rfl, Nat.le_refl _, by unfold maxLen; omega, Or.inl rfl⟩
section
variable {w0 w w' : World} {base top : Nat} {T : TypeId} {sz : Nat} {v : Value}
theorem OwnL.soft (h : OwnL w0 base top T sz v) (hs : Soft base top w0 w) : OwnL w base top T sz v := by
  obtain ⟨A, n, c, rfl, hc, hm, hx⟩ := h.ex
  refine ⟨A, n, c, rfl, hc, hm, ?_⟩
  rcases hx with h0 | ⟨g, cur, rfl, hb, hg, hh, hz⟩
  · exact Or.inl h0
  · obtain ⟨cur', h1, h2⟩ := hs.own g cur T hh
    exact Or.inr ⟨g, cur', rfl, hb, hg, h1, by rw [h2, hz]⟩
theorem RowsOwn.soft {i : Nat} (h : RowsOwn w0 base top v i) (ho : OwnL w0 base top 26 8 v) (hs : Soft base top w0 w) : RowsOwn w base top v i := by
  intro gs n c hv j hij hj
  obtain ⟨u, hc, hu⟩ := h gs n c hv j hij hj
  rw [hv] at ho
  obtain ⟨_, _, cur, hh⟩ := ho.block (by omega)
  rcases hs.rows gs cur hh j with h1 | h1
  · exact ⟨u, by rw [h1]; exact hc, hu.soft hs⟩
  · exact ⟨_, h1, own_nil _ _ _ _ _⟩
theorem Soft.old (h : Soft base top w0 w) (hk : Old w w') : Soft base top w0 w' := by
  have hl : ∀ (g : Nat) (cur : Array Value) (T : TypeId), w0.heap[g]? = some (.cells cur T (0, 0)) → w'.heap[g]? = w.heap[g]? := fun g cur T hg => by
    obtain ⟨cur', h1, _⟩ := h.own g cur T hg
    exact hk.block g (lt_of_block h1) id
  refine ⟨h.kept.trans (hk.mono (fun _ _ f => f.elim)), fun g cur T hg => ?_, fun g cur hg => ?_, fun g cur hg j => ?_⟩
  · rw [hl g cur T hg]; exact h.own g cur T hg
  · rw [hl g cur _ hg]; exact h.entry g cur hg
  · rw [World.cell?_of_block (a := ⟨g, j * 8 + 3, none⟩) (hl g cur _ hg)]; exact h.rows g cur hg j
theorem Soft.trans_ (h : Soft base top w0 w) (k : Soft base top w w') : Soft base top w0 w' := by
  refine ⟨h.kept.trans k.kept, fun g cur T hg => ?_, fun g cur hg => ?_, fun g cur hg j => ?_⟩
  · obtain ⟨c1, h1, h2⟩ := h.own g cur T hg
    obtain ⟨c2, h3, h4⟩ := k.own g c1 T h1
    exact ⟨c2, h3, h4.trans h2⟩
  · have h1 := h.entry g cur hg
    exact (k.entry g cur (h1.trans hg)).trans h1
  · obtain ⟨c1, h1, h2⟩ := h.own g cur _ hg
    rcases k.rows g c1 h1 j with h3 | h3
    · rw [h3]; exact h.rows g cur hg j
    · exact Or.inr h3
/-- a block that was not there at first -/
theorem Soft.newer (h : Soft base top w0 w) {g : Nat} (hg : w0.heap.size ≤ g) (o : Nat) (vs : List Value) : Soft base top w0 (w.setCells g o vs) := by
  have hne : ∀ (k : Nat) (cur : Array Value) (T : TypeId), w0.heap[k]? = some (.cells cur T (0, 0)) → k ≠ g := fun k cur T hk => by have := lt_of_block hk; omega
  refine ⟨Kept.trans' h.kept (setCells_kept w g o vs) (fun k hk hs => by have hs' : k = g := hs; omega), fun k cur T hk => ?_, fun k cur hk => ?_, fun k cur hk j => ?_⟩
  · rw [heap_setCells w g o vs (hne k cur T hk)]; exact h.own k cur T hk
  · rw [heap_setCells w g o vs (hne k cur _ hk)]; exact h.entry k cur hk
  · rw [World.cell?_of_block (a := ⟨k, j * 8 + 3, none⟩) (heap_setCells w g o vs (hne k cur _ hk))]; exact h.rows k cur hk j
/-- a block of another type than those of the rows -/
theorem Soft.misc (h : Soft base top w0 w) {g : Nat} {cur : Array Value} (hg : w.heap[g]? = some (.cells cur T (0, 0))) (hT : T ≠ 26) (hE : T ≠ 28) (hb : base ≤ g) (ht : g < top) (o : Nat) (vs : List Value) : Soft base top w0 (w.setCells g o vs) := by
  have hne : ∀ (k : Nat) (cur' : Array Value) (T' : TypeId), w0.heap[k]? = some (.cells cur' T' (0, 0)) → T' ≠ T → k ≠ g := fun k cur' T' hk hT' e => by
    obtain ⟨c2, h1, _⟩ := h.own k cur' T' hk
    rw [e, hg] at h1
    simp only [Option.some.injEq, Obj.cells.injEq] at h1
    exact hT' h1.2.1.symm
  refine ⟨Mid.set h.kept hb ht, fun k c2 T2 hk => ?_, fun k c2 hk => ?_, fun k c2 hk j => ?_⟩
  · obtain ⟨c3, h1, h2⟩ := h.own k c2 T2 hk
    obtain ⟨c4, h3, h4⟩ := setCells_block w g o vs h1
    exact ⟨c4, h3, by rw [h4, h2]⟩
  · rw [heap_setCells w g o vs (hne k c2 _ hk (Ne.symm hE))]; exact h.entry k c2 hk
  · rw [World.cell?_of_block (a := ⟨k, j * 8 + 3, none⟩) (heap_setCells w g o vs (hne k c2 _ hk (Ne.symm hT)))]; exact h.rows k c2 hk j
theorem txn_entry (h : 26 = (28 : Nat)) : False := by revert h; decide
/-- cells of a block of rows, none of them a list of its own but one that is nil then -/
theorem Soft.txn (h : Soft base top w0 w) {g : Nat} {cur : Array Value} (hg : w.heap[g]? = some (.cells cur 26 (0, 0))) (hb : base ≤ g) (ht : g < top) (o : Nat) (vs : List Value)
    (hr : ∀ j : Nat, (w.setCells g o vs).cell? ⟨g, j * 8 + 3, none⟩ = w.cell? ⟨g, j * 8 + 3, none⟩ ∨ (w.setCells g o vs).cell? ⟨g, j * 8 + 3, none⟩ = some (.slice none 0 0)) : Soft base top w0 (w.setCells g o vs) := by
  have hne : ∀ (k : Nat) (cur' : Array Value) (T' : TypeId), w0.heap[k]? = some (.cells cur' T' (0, 0)) → T' ≠ 26 → k ≠ g := fun k cur' T' hk hT' e => by
    obtain ⟨c2, h1, _⟩ := h.own k cur' T' hk
    rw [e, hg] at h1
    simp only [Option.some.injEq, Obj.cells.injEq] at h1
    exact hT' h1.2.1.symm
  refine ⟨Mid.set h.kept hb ht, fun k c2 T2 hk => ?_, fun k c2 hk => ?_, fun k c2 hk j => ?_⟩
  · obtain ⟨c3, h1, h2⟩ := h.own k c2 T2 hk
    obtain ⟨c4, h3, h4⟩ := setCells_block w g o vs h1
    exact ⟨c4, h3, by rw [h4, h2]⟩
  · rw [heap_setCells w g o vs (hne k c2 _ hk (fun e => txn_entry e.symm))]; exact h.entry k c2 hk
  · by_cases hkg : k = g
    · subst hkg
      rcases hr j with h1 | h1
      · rw [h1]; exact h.rows k c2 hk j
      · exact Or.inr h1
    · rw [World.cell?_of_block (a := ⟨k, j * 8 + 3, none⟩) (heap_setCells w g o vs hkg)]; exact h.rows k c2 hk j
theorem row_nil {g i : Nat} {vs : List Value} (hth : w.there g (i * 8) 8) (hl : vs.length = 8) (h3 : vs[3]? = some (.slice none 0 0)) (j : Nat) : (w.setCells g (i * 8) vs).cell? ⟨g, j * 8 + 3, none⟩ = w.cell? ⟨g, j * 8 + 3, none⟩ ∨ (w.setCells g (i * 8) vs).cell? ⟨g, j * 8 + 3, none⟩ = some (.slice none 0 0) := by
  by_cases hj : j = i
  · subst hj
    right
    have h := World.cell?_setCells_in g vs (j * 8) w (fun k hk => (hth k (by omega)).1) 3 (by omega)
    rw [h]
    obtain ⟨_, h4⟩ := List.getElem?_eq_some_iff.1 h3
    rw [h4]
  · left
    refine World.cell?_setCells_out g vs (i * 8) w _ (fun _ _ => ?_)
    simp only
    omega
theorem Soft.row (h : Soft base top w0 w) {g i : Nat} {cur : Array Value} (hg : w.heap[g]? = some (.cells cur 26 (0, 0))) (hb : base ≤ g) (ht : g < top) (vs : List Value) (hth : w.there g (i * 8) 8) (hl : vs.length = 8) (h3 : vs[3]? = some (.slice none 0 0)) : Soft base top w0 (w.setCells g (i * 8) vs) :=
  h.txn hg hb ht _ _ (row_nil hth hl h3)
theorem Soft.cell4 (h : Soft base top w0 w) {g i : Nat} {cur : Array Value} (hg : w.heap[g]? = some (.cells cur 26 (0, 0))) (hb : base ≤ g) (ht : g < top) (u : Value) : Soft base top w0 (w.setCells g (i * 8 + 4) [u]) :=
  h.txn hg hb ht _ _ (fun j => Or.inl (World.cell?_setCells_out g [u] (i * 8 + 4) w _ (fun _ _ => by simp only [List.length_cons, List.length_nil]; omega)))
end

/-- one row more: where it lies, in place or in a block that is new -/
theorem run_append_soft {P : Program} {w : World} {base top : Nat} {T : TypeId} {sz bytes : Nat} {A : Option Addr} {n c : Nat} (h : OwnL w base top T sz (.slice A n c)) {B c1 : Nat} {cs : List Value} (hB : w.rangeAt B 0 cs) (hfl : Flat sz cs)
    (t ty : TypeId) (i : TypeInfo) (z : Value) (ht : P.underlying t = some (.slice T)) (hi : P.info? T = some i) (hz : i.zero = some z) (hsize : i.size = sz) (hby : i.bytes = bytes) (hzs : z.cells.size = sz) (hsz : 0 < sz)
    (hn : n ≤ 1000) (hbs : bytes ≤ 1000) :
    ∃ g c' w', (Builtin.append_ #[t, t] ty #[.slice A n c, .slice (some ⟨B, 0, none⟩) 1 c1]).run P w = .ok (.slice (some ⟨g, 0, none⟩) (n + 1) c') w' ∧ n + 1 ≤ c' ∧ c' ≤ maxLen ∧ w'.there g (n * sz) sz ∧ (∃ cur : Array Value, w'.heap[g]? = some (.cells cur T (0, 0))) ∧
      ((g = w.heap.size ∧ Old w w') ∨ (base ≤ g ∧ g < top ∧ (∃ cur : Array Value, w.heap[g]? = some (.cells cur T (0, 0))) ∧ w.there g (n * sz) sz ∧ w' = w.setCells g (n * sz) cs)) := by
  subst hsize
  subst hby
  have hbytes : (n + 1) * i.bytes ≤ 140737488355328 := by
    have : (n + 1) * i.bytes ≤ 1001 * 1000 := Nat.mul_le_mul (by omega) hbs
    omega
  have hnew : ∀ (xs : List Value) (old : Nat), xs.length = n * i.size → old < n + 1 → ∃ g c' w', w.drew.alloc (.cells (xs.toArray ++ cs.toArray ++ Builtin.zeroCells z.cells (grownCap w (n + 1) old T - (n + 1))) T) = w' ∧ g = w.heap.size ∧ c' = grownCap w (n + 1) old T ∧ n + 1 ≤ c' ∧ c' ≤ maxLen ∧ w'.there g (n * i.size) i.size ∧ (∃ cur : Array Value, w'.heap[g]? = some (.cells cur T (0, 0))) ∧ Old w w' := by
    intro xs old hx ho
    have hh : (w.drew.alloc (.cells (xs.toArray ++ cs.toArray ++ Builtin.zeroCells z.cells (grownCap w (n + 1) old T - (n + 1))) T)).heap[w.heap.size]? = some (.cells (xs.toArray ++ cs.toArray ++ Builtin.zeroCells z.cells (grownCap w (n + 1) old T - (n + 1))) T (0, 0)) := heap_alloc_new w.drew _
    refine ⟨_, _, _, rfl, rfl, rfl, grownCap_ge w (n + 1) old T, grownCap_le_maxLen w (n + 1) old T (by unfold maxLen; omega), fun j hj => ⟨?_, ?_⟩, ⟨_, hh⟩, ((Kept.refl (fun _ => False) w).drewN 1).alloc _⟩
    · rw [cell_of_row _ _ (n * i.size + j) _ T (0, 0) hh]
      have hlt : n * i.size + j < (xs.toArray ++ cs.toArray ++ Builtin.zeroCells z.cells (grownCap w (n + 1) old T - (n + 1))).size := by
        simp only [Array.size_append, List.size_toArray, hx, hfl.1]; omega
      rw [Array.getElem?_eq_getElem hlt]; rfl
    · unfold World.frozen?
      rw [hh]
      simp
  obtain ⟨A', n', c', hv, hnc, hcm, hx⟩ := h.ex
  simp only [Value.slice.injEq] at hv
  obtain ⟨rfl, rfl, rfl⟩ := hv
  rcases hx with rfl | ⟨g, cur, rfl, hb, hg, hh, hcz⟩
  · obtain rfl : n = 0 := by omega
    obtain ⟨g, c', w', h1, h2, h3, h4, h5, h6, h7, h8⟩ := hnew [] 0 (by simp) (by omega)
    have hcb : ∀ j u, cs[j]? = some u → w.cell? ((⟨B, 0, none⟩ : Addr).add j) = some u := fun j u hu => by rw [Addr.add_mid]; exact hB j u hu
    have hsm : 1 * i.bytes ≤ 281474976710656 := by have hb := hbytes; simp only [Nat.zero_add] at hb; omega
    cases A with
    | none =>
      have hr := run_append_nil (P := P) w t ty T i z ht hi hz ⟨B, 0, none⟩ 1 c1 cs (by rw [hfl.1, Nat.one_mul]) hcb (by omega) (by omega) hsm
      simp only [Array.empty_append, Nat.zero_add] at h1 h3
      exact ⟨g, c', w', by rw [hr, h1, h2, h3], h4, h5, h6, h7, Or.inl ⟨h2, h8⟩⟩
    | some a =>
      have hr := run_append_grow (P := P) w t ty T i z ht hi hz a 0 0 [] (by simp) (fun j u hu => by simp at hu) ⟨B, 0, none⟩ 1 c1 cs (by rw [hfl.1, Nat.one_mul]) hcb (by omega) (by omega) (growslice_fits (by omega) hbytes)
      exact ⟨g, c', w', by rw [hr, h1, h2, h3], h4, h5, h6, h7, Or.inl ⟨h2, h8⟩⟩
  · by_cases hroom : n + 1 ≤ c
    · have hle : (n + 1) * i.size ≤ c * i.size := Nat.mul_le_mul_right _ hroom
      rw [Nat.add_mul, Nat.one_mul] at hle
      have hth : w.there g (n * i.size) i.size := fun j hj => by
        have hlt : n * i.size + j < cur.size := by omega
        refine ⟨?_, by simp [World.frozen?, hh]⟩
        rw [cell_of_row w g (n * i.size + j) cur T (0, 0) hh, Array.getElem?_eq_getElem hlt]; rfl
      have hf := run_firstCells_some (P := P) w i.size 1 ⟨B, 0, none⟩ 1 c1 cs (by rw [hfl.1, Nat.one_mul]) (fun j u hu => by rw [Addr.add_mid]; exact hB j u hu)
      have hst := run_storeCells_cells (P := P) g (n * i.size) cs 0 w (fun j hj => by rw [Nat.add_zero]; exact (hth j (by rw [hfl.1] at hj; exact hj)).1) (fun j hj => by rw [Nat.add_zero]; exact (hth j (by rw [hfl.1] at hj; exact hj)).2) hfl.2
      simp only [Nat.add_zero] at hst
      have hr : (Builtin.append_ #[t, t] ty #[.slice (some ⟨g, 0, none⟩) n c, .slice (some ⟨B, 0, none⟩) 1 c1]).run P w = .ok (.slice (some ⟨g, 0, none⟩) (n + 1) c) (w.setCells g (n * i.size) cs) := by
        simp [Builtin.append_, run_underlying ht, sizeOf, typeInfo, hi, Builtin.lenOf, hroom, hf, Addr.add_lit, hst]
      obtain ⟨cur', h1, h2⟩ := setCells_block w g (n * i.size) cs hh
      exact ⟨g, c, _, hr, hroom, hcm, World.there_setCells hth _ _ _, ⟨cur', h1⟩, Or.inr ⟨hb, hg, ⟨cur, hh⟩, hth, rfl⟩⟩
    · have hcn : c = n := by omega
      subst hcn
      have hl : (cur.toList.take (c * i.size)).length = c * i.size := by rw [List.length_take, Array.length_toList, hcz]; omega
      have hr := run_append_grow (P := P) w t ty T i z ht hi hz ⟨g, 0, none⟩ c c (cur.toList.take (c * i.size)) hl (fun j u hu => by
        rw [Addr.add_mid, Nat.zero_add, cell_of_row w g j cur T (0, 0) hh]
        rw [List.getElem?_take] at hu
        split at hu
        · simpa using hu
        · cases hu) ⟨B, 0, none⟩ 1 c1 cs (by rw [hfl.1, Nat.one_mul]) (fun j u hu => by rw [Addr.add_mid]; exact hB j u hu) (by omega) (by omega) (growslice_fits (by omega) hbytes)
      obtain ⟨g', c', w', h1, h2, h3, h4, h5, h6, h7, h8⟩ := hnew _ c hl (by omega)
      exact ⟨g', c', w', by rw [hr, h1, h2, h3], h4, h5, h6, h7, Or.inl ⟨h2, h8⟩⟩
end Go.Proofs.Ytpmemcpfoapjmaa

namespace Go.Proofs.Ytpmemcpfoapjmaa
open Go.ChangeShapes Go.WideShapes Go.ChangeAt Go.RowKit
set_option linter.unusedVariables false

set_option maxRecDepth 100000 in
set_option maxHeartbeats 600000 in
theorem get_part (w : World) (b : Nat) (v : Value) (l : List UInt8) (p e : Nat) (hR : RAt w b v l p e) {x : Part} {q e' : Nat} (h : partF.get l p e = (x, q, e')) :
    Calls Try.prog 71 #[.pointer (some ⟨b, 0, none⟩)] w (GPost partE w b v l x q e') := by
  rcases h1 : numF.get l p e with ⟨x1, p1, e1⟩
  have hi1 : I64 x1 := by have := numF_i64 (l := l) (p := p) (e := e); rw [h1] at this; exact this
  rcases h2 : (textF 4096).get l p1 e1 with ⟨x2, p2, e2⟩
  have hi2 : Str x2 := by have := textF_str (most := 4096) (by omega) (l := l) (p := p1) (e := e1); rw [h2] at this; exact this
  rcases h3 : (textF 4096).get l p2 e2 with ⟨x3, p3, e3⟩
  have hi3 : Str x3 := by have := textF_str (most := 4096) (by omega) (l := l) (p := p2) (e := e2); rw [h3] at this; exact this
  rcases h4 : (listF aclF).get l p3 e3 with ⟨x4, p4, e4⟩
  rcases h5 : numF.get l p4 e4 with ⟨x5, p5, e5⟩
  have hi5 : I64 x5 := by have := numF_i64 (l := l) (p := p4) (e := e4); rw [h5] at this; exact this
  rcases h6 : numF.get l p5 e5 with ⟨x6, p6, e6⟩
  have hi6 : I64 x6 := by have := numF_i64 (l := l) (p := p5) (e := e5); rw [h6] at this; exact this
  rcases h7 : numF.get l p6 e6 with ⟨x7, p7, e7⟩
  have hi7 : I64 x7 := by have := numF_i64 (l := l) (p := p6) (e := e6); rw [h7] at this; exact this
  have hf : partF.get l p e = (⟨x1, x2, x3, x4, x5, x6, x7⟩, p7, e7) := by simp only [partF, isoF, seqF, h1, h2, h3, h4, h5, h6, h7]
  rw [hf] at h
  simp only [Prod.mk.injEq] at h
  obtain ⟨rfl, rfl, rfl⟩ := h
  have H1 := Lib.hid h1; clear h1
  have H2 := Lib.hid h2; clear h2
  have H3 := Lib.hid h3; clear h3
  have H4 := Lib.hid h4; clear h4
  have H5 := Lib.hid h5; clear h5
  have H6 := Lib.hid h6; clear h6
  have H7 := Lib.hid h7; clear h7
  clear hf
  have S0 := RSt.start (hR.alloc (.cells #[.int .i64 0, .string ⟨#[]⟩, .string ⟨#[]⟩, .slice none 0 0, .int .i64 0, .int .i64 0, .int .i64 0, .slice none 0 0] 26))
  have hbk := heap_alloc_new w (.cells #[.int .i64 0, .string ⟨#[]⟩, .string ⟨#[]⟩, .slice none 0 0, .int .i64 0, .int .i64 0, .int .i64 0, .slice none 0 0] 26)
  have hnb := rbox_new hR
  have hz0 : w.heap.size + 1 ≤ (w.alloc (.cells #[.int .i64 0, .string ⟨#[]⟩, .string ⟨#[]⟩, .slice none 0 0, .int .i64 0, .int .i64 0, .int .i64 0, .slice none 0 0] 26)).heap.size := by simp
  go_enter Try.func71, Try.ntmps71
  go_wp2_with fail
  refine (gnum_any _ b v l _ _ S0.at_ H1.out).mono ?_
  rintro en w1 ⟨rfl, hR1, hk1⟩
  have S1 : RSt (w.alloc (.cells #[.int .i64 0, .string ⟨#[]⟩, .string ⟨#[]⟩, .slice none 0 0, .int .i64 0, .int .i64 0, .int .i64 0, .slice none 0 0] 26)) b v l w1 p1 e1 := ⟨hR1, S0.kept.trans hk1⟩
  clear S0 hR1 hk1
  go_wp2_with fail
  refine (getText_any _ b v l _ _ S1.at_ H2.out).mono ?_
  rintro en w2 ⟨rfl, hR2, hk2⟩
  have S2 : RSt (w.alloc (.cells #[.int .i64 0, .string ⟨#[]⟩, .string ⟨#[]⟩, .slice none 0 0, .int .i64 0, .int .i64 0, .int .i64 0, .slice none 0 0] 26)) b v l w2 p2 e2 := ⟨hR2, S1.kept.trans hk2⟩
  clear S1 hR2 hk2
  go_wp2_with fail
  refine (getText_any _ b v l _ _ S2.at_ H3.out).mono ?_
  rintro en w3 ⟨rfl, hR3, hk3⟩
  have S3 : RSt (w.alloc (.cells #[.int .i64 0, .string ⟨#[]⟩, .string ⟨#[]⟩, .slice none 0 0, .int .i64 0, .int .i64 0, .int .i64 0, .slice none 0 0] 26)) b v l w3 p3 e3 := ⟨hR3, S2.kept.trans hk3⟩
  clear S2 hR3 hk3
  go_wp2_with fail
  refine (getList_acl _ b v l _ _ S3.at_ H4.out).mono ?_
  rintro en w4 ⟨sv4, rfl, hL4, hR4, hk4⟩
  obtain ⟨A4, n4, c4, rfl⟩ := hL4.shape
  have hd4 := new_rs S3.at_
  have hz4 : w.heap.size + 1 ≤ w3.heap.size := Nat.le_trans hz0 S3.kept.size
  have S4 : RSt (w.alloc (.cells #[.int .i64 0, .string ⟨#[]⟩, .string ⟨#[]⟩, .slice none 0 0, .int .i64 0, .int .i64 0, .int .i64 0, .slice none 0 0] 26)) b v l w4 p4 e4 := ⟨hR4, S3.kept.trans hk4⟩
  clear S3 hR4 hk4
  go_wp2_with fail
  refine (gnum_any _ b v l _ _ S4.at_ H5.out).mono ?_
  rintro en w5 ⟨rfl, hR5, hk5⟩
  replace hL4 := hL4.keep aclE_ok hk5 hd4
  have S5 : RSt (w.alloc (.cells #[.int .i64 0, .string ⟨#[]⟩, .string ⟨#[]⟩, .slice none 0 0, .int .i64 0, .int .i64 0, .int .i64 0, .slice none 0 0] 26)) b v l w5 p5 e5 := ⟨hR5, S4.kept.trans hk5⟩
  clear S4 hR5 hk5
  go_wp2_with fail
  refine (gnum_any _ b v l _ _ S5.at_ H6.out).mono ?_
  rintro en w6 ⟨rfl, hR6, hk6⟩
  replace hL4 := hL4.keep aclE_ok hk6 hd4
  have S6 : RSt (w.alloc (.cells #[.int .i64 0, .string ⟨#[]⟩, .string ⟨#[]⟩, .slice none 0 0, .int .i64 0, .int .i64 0, .int .i64 0, .slice none 0 0] 26)) b v l w6 p6 e6 := ⟨hR6, S5.kept.trans hk6⟩
  clear S5 hR6 hk6
  go_wp2_with fail
  refine (getErr_any _ b v l _ _ S6.at_ H7.out).mono ?_
  rintro en w7 ⟨rfl, hR7, hk7⟩
  replace hL4 := hL4.keep aclE_ok hk7 hd4
  have S7 : RSt (w.alloc (.cells #[.int .i64 0, .string ⟨#[]⟩, .string ⟨#[]⟩, .slice none 0 0, .int .i64 0, .int .i64 0, .int .i64 0, .slice none 0 0] 26)) b v l w7 p7 e7 := ⟨hR7, S6.kept.trans hk7⟩
  clear S6 hR7 hk7
  have hb := S7.blk hbk hnb
  have hsz : (Try.prog.info? 26).map (·.size) = some 8 := by kernel_rfl
  have HSZ := Lib.hid hsz; clear hsz
  have HB := Lib.hid hb; clear hb
  go_wp2_with (refine wpList_store_row _ rfl 26 _ _ rfl w.heap.size _ [.int .i64 x1, .string x2, .string x3, .slice A4 n4 c4, .int .i64 x5, .int .i64 x6, .int .i64 x7, .slice none 0 0] rfl rfl HB.out HSZ.out rfl (by simp [Value.oneCell']) ?_)
  have hrow := setRow_heap w7 w.heap.size _ ([.int .i64 x1, .string x2, .string x3, .slice A4 n4 c4, .int .i64 x5, .int .i64 x6, .int .i64 x7, .slice none 0 0] : List Value).toArray _ _ HB.out
  have hload := run_loadVar_row (P := Try.prog) _ w.heap.size 26 26 _ (0, 0) _ hrow Try.underlying26 rfl HSZ.out
  exact ret_cell 2 26 w.heap.size _ Try.results71 rfl hload rfl ⟨_, rfl, ⟨_, _, rfl, fin_list aclE_ok hL4 hz4 _, hi1, hi2, hi3, hi5, hi6, hi7, ⟨_, _, _, rfl⟩⟩, fin_R hR S7.at_ _, fin_K hR S7.kept _⟩

theorem info_part : (Try.prog.info? 26).map (fun i => (i.zero, i.size, i.bytes)) = some (some (.agg #[.int .i64 0, .string ⟨#[]⟩, .string ⟨#[]⟩, .slice none 0 0, .int .i64 0, .int .i64 0, .int .i64 0, .slice none 0 0]), 8, 112) := by kernel_rfl

set_option maxRecDepth 100000 in
set_option maxHeartbeats 600000 in
theorem getList_part (w : World) (b : Nat) (v : Value) (l : List UInt8) (p e : Nat) (hR : RAt w b v l p e) {xs : List Part} {q e' : Nat} (h : (listF partF).get l p e = (xs, q, e')) :
    Calls Try.prog 72 #[.pointer (some ⟨b, 0, none⟩), .func (.func 71) #[] #[]] w (LPost partE 8 w b v l xs q e') := by
  obtain ⟨i0, hi, hz0, hz1, hz2⟩ := info_parts info_part
  have hcl := rCount_le l 256 p e
  have hcc := rcount_any 256 w b v l p e hR (by omega) (by omega)
  rcases h1 : rCount l 256 p e with ⟨n, p1, e1⟩
  rw [h1] at hcl hcc
  simp only [listF, h1] at h hcl hcc
  have HH := Lib.hid h; clear h
  have HZ1 := Lib.hid hz1; clear hz1
  have HZ2 := Lib.hid hz2; clear hz2
  have HZ0 := Lib.hid hz0; clear hz0
  have HI := Lib.hid hi; clear hi
  clear h1
  have hn : n ≤ 256 := by omega
  clear hcl
  have HCC := Lib.hid hcc; clear hcc
  go_enter Try.func72, Try.ntmps72
  go_wp2_with fail
  refine HCC.out.mono ?_
  rintro en w0 ⟨rfl, hR0, hk0⟩
  go_wp2_with fail
  go_loopw [5, 8] (fun acc iv wr => GetRel partE partF w b v l 26 8 n p1 e1 acc iv wr) (fun _ iv _ => n - (intOf iv).toNat)
  case atStart => exact ⟨0, rfl, Nat.zero_le _, AccR.nil _ _ _ _ _, hR0, hk0⟩
  case round =>
    obtain ⟨k, rfl, hkn, hacc, hRk, hK⟩ := hrel.ex
    clear hrel HCC hR0 hk0
    by_cases hlt : k < n
    · have hkl : (k : Int) < (n : Int) := by omega
      go_wp2_with fail
      refine (get_part wr b v l _ _ hRk (eta3 _)).mono ?_
      rintro en w1 ⟨cs, rfl, hE1, hR1, hk1⟩
      have hfl := partE_flat hE1
      have hacc1 := hacc.keep partE_ok hk1 (new_rs hR)
      have hown := hacc.own
      have hE2 : partE w1 (fun g => w.heap.size ≤ g ∧ some g ≠ u5.ownBlock) _ _ := partE_ok.mono hE1 (fun g _ hg => ⟨Nat.le_trans hK.size hg, fun e => by have := (hown g e.symm).2; have hg' : wr.heap.size ≤ g := hg; omega⟩)
      have hsn := getN_snoc (partF).get k l p1 e1
      have hlen := getN_len (partF).get k l p1 e1
      have hwl : w.heap.size ≤ w1.heap.size := Nat.le_trans hK.size hk1.size
      have HSN := Lib.hid hsn; clear hsn
      have HLEN := Lib.hid hlen; clear hlen
      have hK1 := hK.trans hk1
      clear hacc hown hE1 hRk hK hk1
      go_wp2_with (first | (refine wpList_one rfl 24 26 (.tmp 13) rfl (.agg cs.toArray) cs rfl rfl i0 _ Try.underlying24 HI.out HZ0.out (by rw [HZ1.out, hfl.1]) (by rw [hfl.1]; omega) (by rw [hfl.1]; omega) ?_) | (at_builtin; go_loud (refine wpList_push partE_ok w w1 rfl (.tmp 10) (.tmp 14) 24 rfl 26 i0 _ 8 112 Try.underlying24 HI.out HZ0.out HZ1.out HZ2.out rfl (by decide) u5 _ hacc1 cs _ hE2 hfl rfl rfl (by rw [HLEN.out]; omega) (by decide) hwl ?_); intro v' w' hacc' hk'))
      go_roundw
      case rel => exact ⟨k + 1, by go_num, hlt, by rw [HSN.out]; dsimp only; exact hacc', by rw [HSN.out]; dsimp only; exact hR1.keep hk' (fun g hg hs => by have := hR.inn g hg; have hs' : w.heap.size ≤ g := hs; omega), Kept.trans' hK1 hk' (fun g hg hs => by have hs' : w.heap.size ≤ g := hs; omega)⟩
      case measure => simp [intOf]; omega
    · have hkl : ¬ (k : Int) < (n : Int) := by omega
      obtain rfl : k = n := by omega
      have hlist := hacc.list partE_ok
      rw [HH.out] at hlist hRk
      have HL := Lib.hid hlist
      have HR := Lib.hid hRk
      clear hacc hlist hRk
      go_wp2_with fail
      go_ret
      exact ⟨_, rfl, HL.out, HR.out, hK⟩

end Go.Proofs.Ytpmemcpfoapjmaa

namespace Go.Proofs.Ytpmemcpfoapjmaa
open Go.ChangeShapes Go.WideShapes Go.ChangeAt Go.RowKit
set_option linter.unusedVariables false

/-- the reader b; the block of the answer behind w's, still as made; the block g that bears the cells cur -/
structure TBox (w : World) (b : Nat) (v : Value) (l : List UInt8) (T : TypeId) (zc : Array Value) (g : Nat) (W : World) (cur : List Value) (p e : Nat) : Prop where
  old : ∀ k, WS b v k → k < w.heap.size
  rd : RAt W b v l p e
  kept : Kept (RS b) w W
  res : W.heap[w.heap.size]? = some (.cells zc T (0, 0))
  box : W.heap[g]? = some (.cells cur.toArray T (0, 0))
  gt : w.heap.size < g

def Ok1 (w : World) (g : Nat) : Nat → Prop := fun k => w.heap.size + 1 ≤ k ∧ k ≠ g

theorem TBox.start {w w1 : World} {b : Nat} {v : Value} {l : List UInt8} {T : TypeId} {zc : Array Value} {cs : List Value} {p e q e' : Nat} (hR : RAt w b v l p e) (hR1 : RAt w1 b v l q e') (hk : Kept (RS b) (w.alloc (.cells zc T)) w1) :
    TBox w b v l T zc w1.heap.size (w1.alloc (.cells cs.toArray T)) cs q e' := by
  have h1 : (w.alloc (.cells zc T)).heap.size ≤ w1.heap.size := hk.size
  have h2 : (w.alloc (.cells zc T)).heap.size = w.heap.size + 1 := by simp
  have hA : Kept (fun _ => False) w1 (w1.alloc (.cells cs.toArray T)) := (Kept.refl _ w1).alloc _
  have hK : Kept (RS b) w w1 := Kept.trans' ((Kept.refl (RS b) w).alloc _) hk (fun _ _ s => s)
  refine ⟨hR.inn, hR1.alloc _, Kept.trans' hK hA (fun _ _ f => f.elim), ?_, heap_alloc_new w1 _, by omega⟩
  rw [hA.block _ (by omega) id, hk.block _ (by omega) (rbox_new hR)]
  exact heap_alloc_new w _

section
variable {w W W' : World} {b g : Nat} {v : Value} {l : List UInt8} {T : TypeId} {zc : Array Value} {cur : List Value} {p e q e' : Nat}

theorem TBox.list (h : TBox w b v l T zc g W cur p e) (hR : RAt W' b v l q e') (hk : Kept (RS b) W W') : TBox w b v l T zc g W' cur q e' := by
  have hb : b < w.heap.size := h.old b (Or.inl rfl)
  have hg := h.gt
  exact ⟨h.old, hR, h.kept.trans hk, by rw [hk.block _ (lt_of_block h.res) (fun hs => by have hs' : w.heap.size = b := hs; omega)]; exact h.res,
    by rw [hk.block _ (lt_of_block h.box) (fun hs => by have hs' : g = b := hs; omega)]; exact h.box, h.gt⟩

theorem TBox.cell (h : TBox w b v l T zc g W cur p e) (i : Nat) (hi : i < cur.length) : W.cell? ⟨g, i, none⟩ = some cur[i] ∧ W.frozen? ⟨g, i, none⟩ = false := by
  refine ⟨?_, by simp [World.frozen?, h.box]⟩
  rw [cell_of_row _ _ i _ _ (0, 0) h.box]
  simp [List.getElem?_eq_getElem hi]

theorem set_kept (W : World) (g i : Nat) (u : Value) : Kept (fun k => k = g) W (W.setCell ⟨g, i, none⟩ u) :=
  Kept.setCell (S := fun k => k = g) (Kept.refl _ _) (a := ⟨g, i, none⟩) (Or.inl rfl) u

theorem TBox.set (h : TBox w b v l T zc g W cur p e) (i : Nat) (u : Value) : TBox w b v l T zc g (W.setCell ⟨g, i, none⟩ u) (cur.set i u) p e := by
  have hb : b < w.heap.size := h.old b (Or.inl rfl)
  have hg := h.gt
  have hk := set_kept W g i u
  refine ⟨h.old, h.rd.keep hk (fun k hk1 hs => by have := h.old k hk1; have hs' : k = g := hs; omega), Kept.trans' h.kept hk (fun k hk1 hs => by have hs' : k = g := hs; omega), ?_, ?_, h.gt⟩
  · rw [hk.block _ (lt_of_block h.res) (by omega)]; exact h.res
  · have hb := h.box
    simp [World.setCell, Array.getElem?_modify, hb]

theorem TBox.finR (h : TBox w b v l T zc g W cur p e) (c : Array Value) : RAt (W.setRow w.heap.size c) b v l p e :=
  h.rd.keep (setRow_kept W w.heap.size c) (fun k hk hs => by have := h.old k hk; have hs' : k = w.heap.size := hs; omega)
theorem TBox.finK (h : TBox w b v l T zc g W cur p e) (c : Array Value) : Kept (RS b) w (W.setRow w.heap.size c) :=
  Kept.trans' h.kept (setRow_kept W w.heap.size c) (fun k hk hs => by have hs' : k = w.heap.size := hs; omega)

section
variable {α : Type} {E : CellsOf α} {cs : List Value} {x : α} {sz : Nat} {sv : Value} {xs : List α}

theorem rel_start (hE : E.Ok) {w1 : World} {o : Obj} {zc' : Array Value} (h : E w1 (New (w.alloc (.cells zc' T))) cs x) : E (w1.alloc o) (Ok1 w w1.heap.size) cs x :=
  hE.keep (hE.mono h (fun k hk hn => ⟨by have hn' : (w.alloc (.cells zc' T)).heap.size ≤ k := hn; simpa using hn', by omega⟩)) ((Kept.refl (fun _ => False) w1).alloc o) (disj_none _)
theorem TBox.ok_rs (h : TBox w b v l T zc g W cur p e) : Disj (Ok1 w g) (RS b) := fun k hk hs => by have hb : b < w.heap.size := h.old b (Or.inl rfl); have hs' : k = b := hs; have := hk.1; omega
theorem ok_g (w : World) (g : Nat) : Disj (Ok1 w g) (fun k => k = g) := fun k hk hs => hk.2 hs
theorem ok_w (w : World) (g : Nat) : Disj (Ok1 w g) (fun k => k = w.heap.size) := fun k hk hs => by have := hk.1; have hs' : k = w.heap.size := hs; omega
theorem TBox.rel_list (hE : E.Ok) (h : TBox w b v l T zc g W cur p e) (hL : ListR E W' (New W) sz sv xs) : ListR E W' (Ok1 w g) sz sv xs :=
  hL.mono hE (fun k _ hk => by have hk' : W.heap.size ≤ k := hk; have := lt_of_block h.box; have := h.gt; exact ⟨by omega, by omega⟩)
theorem rel_fin (hE : E.Ok) (h : E W (Ok1 w g) cs x) (c : Array Value) : E (W.setRow w.heap.size c) (New w) cs x :=
  hE.mono (hE.keep h (setRow_kept W w.heap.size c) (ok_w w g)) (fun k _ hk => by have := hk.1; unfold New; omega)
theorem rel_finL (hE : E.Ok) (h : ListR E W (Ok1 w g) sz sv xs) (c : Array Value) : ListR E (W.setRow w.heap.size c) (New w) sz sv xs :=
  (h.keep hE (setRow_kept W w.heap.size c) (ok_w w g)).mono hE (fun k _ hk => by have := hk.1; unfold New; omega)
end
end

theorem partQ_set {w : World} {ok : Nat → Prop} {cs : List Value} {x : Part} (h : partE w ok cs x) {u : Value} (hu : IsSl u) : partQ w ok (cs.set 7 u) x u := by
  obtain ⟨vsubs, vacl, rfl, h1, h2, h3, h4, h5, h6, h7, _⟩ := h
  exact ⟨vacl, rfl, h1, h2, h3, h4, h5, h6, h7, hu⟩
theorem oper1Q_set {w : World} {ok : Nat → Prop} {cs : List Value} {x : Oper1} (h : oper1E w ok cs x) {u t : Value} (hu : IsSl u) (ht : IsSl t) : oper1Q w ok ((cs.set 8 u).set 9 t) x u t := by
  obtain ⟨_, _, vacl, rfl, h1, h2, h3, h4, h5, h6, h7, _⟩ := h
  exact ⟨vacl, rfl, h1, h2, h3, h4, h5, h6, h7, hu, ht⟩
theorem ansQ_set {w : World} {ok : Nat → Prop} {cs : List Value} {x : Ans} (h : ansE w ok cs x) {u : Value} (hu : IsSl u) : ansQ w ok (cs.set 16 u) x u := by
  obtain ⟨_, vacl, vkids, rfl, h1, h2, a1, a2, a3, a4, a5, b1, b2, b3, b4, b5, b6, b7, b8, b9, _⟩ := h
  exact ⟨vacl, vkids, rfl, h1, h2, a1, a2, a3, a4, a5, b1, b2, b3, b4, b5, b6, b7, b8, b9, hu⟩
theorem flat_set {n : Nat} {cs : List Value} (h : Flat n cs) (i : Nat) {u : Value} (hu : u.oneCell' = true) : Flat n (cs.set i u) :=
  ⟨by rw [List.length_set]; exact h.1, fun v hv => by
    rcases List.mem_or_eq_of_mem_set hv with hv | rfl
    · exact h.2 v hv
    · exact hu⟩
end Go.Proofs.Ytpmemcpfoapjmaa

namespace Go.Proofs.Ytpmemcpfoapjmaa
open Go.ChangeShapes Go.WideShapes Go.ChangeAt Go.RowKit
set_option linter.unusedVariables false

set_option maxRecDepth 100000 in
set_option maxHeartbeats 600000 in
theorem get_txn (w : World) (b : Nat) (v : Value) (l : List UInt8) (p e : Nat) (hR : RAt w b v l p e) {x : Txn} {q e' : Nat} (h : txnF.get l p e = (x, q, e')) :
    Calls Try.prog 57 #[.pointer (some ⟨b, 0, none⟩)] w (GPost txnE w b v l x q e') := by
  rcases h1 : partF.get l p e with ⟨x1, p1, e1⟩
  rcases h2 : (listF partF).get l p1 e1 with ⟨x2, p2, e2⟩
  have hf : txnF.get l p e = (⟨x1, x2⟩, p2, e2) := by simp only [txnF, isoF, seqF, h1, h2]
  rw [hf] at h
  simp only [Prod.mk.injEq] at h
  obtain ⟨rfl, rfl, rfl⟩ := h
  have H1 := Lib.hid h1; clear h1
  have H2 := Lib.hid h2; clear h2
  clear hf
  have hR0 := hR.alloc (.cells #[.int .i64 0, .string ⟨#[]⟩, .string ⟨#[]⟩, .slice none 0 0, .int .i64 0, .int .i64 0, .int .i64 0, .slice none 0 0] 26)
  have hsz : (Try.prog.info? 26).map (·.size) = some 8 := by kernel_rfl
  have HSZ := Lib.hid hsz; clear hsz
  go_enter Try.func57, Try.ntmps57
  go_wp2_with fail
  refine (get_part _ b v l _ _ hR0 H1.out).mono ?_
  rintro en w1 ⟨cs, rfl, hE1, hR1, hk1⟩
  have hfl := partE_flat hE1
  have HFL := Lib.hid hfl.1
  have HF1 := Lib.hid hfl.2
  have B0 := TBox.start (cs := cs) hR hR1 hk1
  replace hE1 := rel_start partE_ok (o := .cells cs.toArray 26) hE1
  clear hR1 hk1 hfl
  go_wp2_with (refine wpList_store_new w1 rfl 26 _ (.tmp 5) rfl _ cs rfl rfl (by rw [HFL.out]; exact HSZ.out) HFL.out.symm HF1.out ?_)
  refine (getList_part _ b v l _ _ B0.rd H2.out).mono ?_
  rintro en w2 ⟨sv2, rfl, hL2, hR2, hk2⟩
  obtain ⟨A2, n2, c2, rfl⟩ := hL2.shape
  replace hE1 := partE_ok.keep hE1 hk2 B0.ok_rs
  replace hL2 := B0.rel_list partE_ok hL2
  have B1a := B0.list hR2 hk2
  obtain ⟨hc2, hfz2⟩ := B1a.cell 7 (by rw [HFL.out]; omega)
  have B1 := B1a.set 7 (.slice A2 n2 c2)
  generalize cs[7]'(by rw [HFL.out]; omega) = u2 at hc2
  replace hE1 := partE_ok.keep hE1 (set_kept _ w1.heap.size 7 (.slice A2 n2 c2)) (ok_g w w1.heap.size)
  replace hL2 := hL2.keep partE_ok (set_kept _ w1.heap.size 7 (.slice A2 n2 c2)) (ok_g w w1.heap.size)
  clear B0 B1a hR2 hk2
  have hfl2 : Flat 8 (cs.set 7 (.slice A2 n2 c2)) := flat_set ⟨HFL.out, HF1.out⟩ 7 rfl
  have HL2 := Lib.hid hfl2.1
  have HF2 := Lib.hid hfl2.2
  have HB := Lib.hid B1.res
  have HX := Lib.hid (range_row B1.box)
  clear hfl2
  go_wp2_with (first | (refine wpList_load_mid rfl 26 (.tmp 3) rfl w1.heap.size 0 rfl (cs.set 7 (.slice A2 n2 c2)) _ HX.out Try.underlying26 rfl (by rw [HL2.out]; exact HSZ.out) ?_) | (refine wpList_store_row _ rfl 26 _ _ rfl w.heap.size _ (cs.set 7 (.slice A2 n2 c2)) rfl rfl HB.out (by rw [HL2.out]; exact HSZ.out) (by rw [HL2.out]; rfl) HF2.out ?_))
  have hrow := setRow_heap (w2.setCell ⟨w1.heap.size, 7, none⟩ (.slice A2 n2 c2)) w.heap.size _ ((cs.set 7 (.slice A2 n2 c2))).toArray _ _ HB.out
  have hload := run_loadVar_row (P := Try.prog) _ w.heap.size 26 26 _ (0, 0) _ hrow Try.underlying26 rfl (by rw [List.size_toArray, HL2.out]; exact HSZ.out)
  exact ret_cell 2 26 w.heap.size _ Try.results57 rfl hload rfl ⟨_, rfl, ⟨_, partQ_set (rel_fin partE_ok hE1 _) ⟨_, _, _, rfl⟩, rel_finL partE_ok hL2 _⟩, B1.finR _, B1.finK _⟩

set_option maxRecDepth 100000 in
set_option maxHeartbeats 600000 in
theorem get_entry (w : World) (b : Nat) (v : Value) (l : List UInt8) (p e : Nat) (hR : RAt w b v l p e) {x : Entry} {q e' : Nat} (h : entryF.get l p e = (x, q, e')) :
    Calls Try.prog 39 #[.pointer (some ⟨b, 0, none⟩)] w (GPost entryE w b v l x q e') := by
  rcases h1 : numF.get l p e with ⟨x1, p1, e1⟩
  have hi1 : I64 x1 := by have := numF_i64 (l := l) (p := p) (e := e); rw [h1] at this; exact this
  rcases h2 : numF.get l p1 e1 with ⟨x2, p2, e2⟩
  have hi2 : I64 x2 := by have := numF_i64 (l := l) (p := p1) (e := e1); rw [h2] at this; exact this
  rcases h3 : numF.get l p2 e2 with ⟨x3, p3, e3⟩
  have hi3 : I64 x3 := by have := numF_i64 (l := l) (p := p2) (e := e2); rw [h3] at this; exact this
  rcases h4 : txnF.get l p3 e3 with ⟨x4, p4, e4⟩
  have hf : entryF.get l p e = (⟨x1, x2, x3, x4⟩, p4, e4) := by simp only [entryF, isoF, seqF, h1, h2, h3, h4]
  rw [hf] at h
  simp only [Prod.mk.injEq] at h
  obtain ⟨rfl, rfl, rfl⟩ := h
  have H1 := Lib.hid h1; clear h1
  have H2 := Lib.hid h2; clear h2
  have H3 := Lib.hid h3; clear h3
  have H4 := Lib.hid h4; clear h4
  clear hf
  have S0 := RSt.start (hR.alloc (.cells #[.int .i64 0, .int .i64 0, .int .i64 0, .int .i64 0, .string ⟨#[]⟩, .string ⟨#[]⟩, .slice none 0 0, .int .i64 0, .int .i64 0, .int .i64 0, .slice none 0 0] 28))
  have hbk := heap_alloc_new w (.cells #[.int .i64 0, .int .i64 0, .int .i64 0, .int .i64 0, .string ⟨#[]⟩, .string ⟨#[]⟩, .slice none 0 0, .int .i64 0, .int .i64 0, .int .i64 0, .slice none 0 0] 28)
  have hnb := rbox_new hR
  have hz0 : w.heap.size + 1 ≤ (w.alloc (.cells #[.int .i64 0, .int .i64 0, .int .i64 0, .int .i64 0, .string ⟨#[]⟩, .string ⟨#[]⟩, .slice none 0 0, .int .i64 0, .int .i64 0, .int .i64 0, .slice none 0 0] 28)).heap.size := by simp
  go_enter Try.func39, Try.ntmps39
  go_wp2_with fail
  refine (gnum_any _ b v l _ _ S0.at_ H1.out).mono ?_
  rintro en w1 ⟨rfl, hR1, hk1⟩
  have S1 : RSt (w.alloc (.cells #[.int .i64 0, .int .i64 0, .int .i64 0, .int .i64 0, .string ⟨#[]⟩, .string ⟨#[]⟩, .slice none 0 0, .int .i64 0, .int .i64 0, .int .i64 0, .slice none 0 0] 28)) b v l w1 p1 e1 := ⟨hR1, S0.kept.trans hk1⟩
  clear S0 hR1 hk1
  go_wp2_with fail
  refine (gnum_any _ b v l _ _ S1.at_ H2.out).mono ?_
  rintro en w2 ⟨rfl, hR2, hk2⟩
  have S2 : RSt (w.alloc (.cells #[.int .i64 0, .int .i64 0, .int .i64 0, .int .i64 0, .string ⟨#[]⟩, .string ⟨#[]⟩, .slice none 0 0, .int .i64 0, .int .i64 0, .int .i64 0, .slice none 0 0] 28)) b v l w2 p2 e2 := ⟨hR2, S1.kept.trans hk2⟩
  clear S1 hR2 hk2
  go_wp2_with fail
  refine (gnum_any _ b v l _ _ S2.at_ H3.out).mono ?_
  rintro en w3 ⟨rfl, hR3, hk3⟩
  have S3 : RSt (w.alloc (.cells #[.int .i64 0, .int .i64 0, .int .i64 0, .int .i64 0, .string ⟨#[]⟩, .string ⟨#[]⟩, .slice none 0 0, .int .i64 0, .int .i64 0, .int .i64 0, .slice none 0 0] 28)) b v l w3 p3 e3 := ⟨hR3, S2.kept.trans hk3⟩
  clear S2 hR3 hk3
  go_wp2_with fail
  refine (get_txn _ b v l _ _ S3.at_ H4.out).mono ?_
  rintro en w4 ⟨cs4, rfl, hL4, hR4, hk4⟩
  obtain ⟨A4_acl, n4_acl, c4_acl, A4_subs, n4_subs, c4_subs, rfl⟩ := txnE_cells hL4
  have hd4 := new_rs S3.at_
  have hz4 : w.heap.size + 1 ≤ w3.heap.size := Nat.le_trans hz0 S3.kept.size
  have S4 : RSt (w.alloc (.cells #[.int .i64 0, .int .i64 0, .int .i64 0, .int .i64 0, .string ⟨#[]⟩, .string ⟨#[]⟩, .slice none 0 0, .int .i64 0, .int .i64 0, .int .i64 0, .slice none 0 0] 28)) b v l w4 p4 e4 := ⟨hR4, S3.kept.trans hk4⟩
  clear S3 hR4 hk4
  have hb := S4.blk hbk hnb
  have hsz : (Try.prog.info? 28).map (·.size) = some 11 := by kernel_rfl
  have HSZ := Lib.hid hsz; clear hsz
  have HB := Lib.hid hb; clear hb
  go_wp2_with (refine wpList_store_row _ rfl 28 _ _ rfl w.heap.size _ [.int .i64 x1, .int .i64 x2, .int .i64 x3, .int .i64 x4.part.kind, .string x4.part.path, .string x4.part.data, .slice A4_acl n4_acl c4_acl, .int .i64 x4.part.owner, .int .i64 x4.part.number, .int .i64 x4.part.err, .slice A4_subs n4_subs c4_subs] rfl rfl HB.out HSZ.out rfl (by simp [Value.oneCell']) ?_)
  have hrow := setRow_heap w4 w.heap.size _ ([.int .i64 x1, .int .i64 x2, .int .i64 x3, .int .i64 x4.part.kind, .string x4.part.path, .string x4.part.data, .slice A4_acl n4_acl c4_acl, .int .i64 x4.part.owner, .int .i64 x4.part.number, .int .i64 x4.part.err, .slice A4_subs n4_subs c4_subs] : List Value).toArray _ _ HB.out
  have hload := run_loadVar_row (P := Try.prog) _ w.heap.size 28 28 _ (0, 0) _ hrow Try.underlying28 rfl HSZ.out
  exact ret_cell 2 28 w.heap.size _ Try.results39 rfl hload rfl ⟨_, rfl, ⟨_, rfl, fin_E txnE_ok hL4 hz4 _, hi1, hi2, hi3⟩, fin_R hR S4.at_ _, fin_K hR S4.kept _⟩

theorem info_entry : (Try.prog.info? 28).map (fun i => (i.zero, i.size, i.bytes)) = some (some (.agg #[.int .i64 0, .int .i64 0, .int .i64 0, .int .i64 0, .string ⟨#[]⟩, .string ⟨#[]⟩, .slice none 0 0, .int .i64 0, .int .i64 0, .int .i64 0, .slice none 0 0]), 11, 136) := by kernel_rfl

end Go.Proofs.Ytpmemcpfoapjmaa
