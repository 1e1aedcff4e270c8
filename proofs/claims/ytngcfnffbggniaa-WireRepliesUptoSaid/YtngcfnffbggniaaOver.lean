/- A list that came out of a call may be written over: where it lies, and what that leaves of the rest. -/
import Derived.Test.YtngcfnffbggniaaStore
namespace Go.Proofs.Ytngcfnffbggniaa
open Go.ChangeShapes Go.WideShapes Go.ChangeAt Go.RowKit
set_option linter.unusedVariables false

/-- v is a slice whose elements, sz cells each, lie in a block between base and top, and may be written -/
structure ThL (w : World) (base top sz : Nat) (v : Value) : Prop where
  ex : ∃ A n c, v = .slice A n c ∧ n ≤ c ∧ c ≤ maxLen ∧ (n = 0 ∨ ∃ g off, A = some ⟨g, off, none⟩ ∧ base ≤ g ∧ g < top ∧ w.there g off (n * sz))

theorem row_index {k sz n : Nat} (h : k < n * sz) : k / sz < n ∧ k % sz < sz ∧ k = k / sz * sz + k % sz := by
  have hp : 0 < sz := by
    rcases Nat.eq_zero_or_pos sz with h0 | h0
    · subst h0; simp at h
    · exact h0
  refine ⟨(Nat.div_lt_iff_lt_mul hp).2 h, Nat.mod_lt _ hp, ?_⟩
  rw [Nat.mul_comm]
  exact (Nat.div_add_mod k sz).symm

theorem ListR.th {α : Type} {E : CellsOf α} {w : World} {ok : Nat → Prop} {sz : Nat} {v : Value} {l : List α} (h : ListR E w ok sz v l) {base : Nat} (hb : ∀ k, ok k → base ≤ k) : ThL w base w.heap.size sz v := by
  obtain ⟨rows, ⟨A, c, rfl, hc, hm, hat⟩, hlen, hel⟩ := h
  refine ⟨A, rows.length, c, rfl, hc, hm, ?_⟩
  rcases hat with h0 | ⟨g, off, hA, hok, hg, hcell⟩
  · exact Or.inl (by rw [h0]; rfl)
  · refine Or.inr ⟨g, off, hA, hb g hok.1, hg, fun j hj => ⟨?_, hok.2 j hj⟩⟩
    obtain ⟨h1, h2, h3⟩ := row_index hj
    have hl := (hcell (j / sz) h1).1
    have := (hcell (j / sz) h1).2 (j % sz) (by omega)
    rw [h3, ← Nat.add_assoc, this]
    rfl

theorem ThL.keep {S : Nat → Prop} {w w' : World} {base top sz : Nat} {v : Value} (h : ThL w base top sz v) (hk : Kept S w w') (hs : ∀ k, base ≤ k → k < top → ¬ S k) (ht : top ≤ w.heap.size) : ThL w' base top sz v := by
  obtain ⟨A, n, c, rfl, hc, hm, hx⟩ := h.ex
  refine ⟨A, n, c, rfl, hc, hm, ?_⟩
  rcases hx with h0 | ⟨g, off, hA, hb, hg, hth⟩
  · exact Or.inl h0
  · refine Or.inr ⟨g, off, hA, hb, hg, fun j hj => ?_⟩
    have hblk := hk.block g (by omega) (hs g hb hg)
    rw [World.cell?_of_block hblk, World.frozen?_of_block hblk]
    exact hth j hj
theorem ThL.set {w : World} {base top sz : Nat} {v : Value} (h : ThL w base top sz v) (b o : Nat) (vs : List Value) : ThL (w.setCells b o vs) base top sz v := by
  obtain ⟨A, n, c, rfl, hc, hm, hx⟩ := h.ex
  refine ⟨A, n, c, rfl, hc, hm, ?_⟩
  rcases hx with h0 | ⟨g, off, hA, hb, hg, hth⟩
  · exact Or.inl h0
  · exact Or.inr ⟨g, off, hA, hb, hg, World.there_setCells hth b o vs⟩
/-- the place of the element i -/
theorem ThL.at_ {w : World} {base top sz : Nat} {A : Option Addr} {n c : Nat} (h : ThL w base top sz (.slice A n c)) {i : Nat} (hi : i < n) : ∃ g off, A = some ⟨g, off, none⟩ ∧ base ≤ g ∧ g < top ∧ w.there g (off + i * sz) sz := by
  obtain ⟨A', n', c', hv, hc, hm, hx⟩ := h.ex
  simp only [Value.slice.injEq] at hv
  obtain ⟨rfl, rfl, rfl⟩ := hv
  rcases hx with h0 | ⟨g, off, hA, hb, hg, hth⟩
  · omega
  · refine ⟨g, off, hA, hb, hg, fun j hj => ?_⟩
    have hm' : (i + 1) * sz ≤ n * sz := Nat.mul_le_mul_right _ hi
    rw [Nat.add_mul, Nat.one_mul] at hm'
    have := hth (i * sz + j) (by omega)
    rwa [← Nat.add_assoc] at this
theorem ThL.len {w : World} {base top sz : Nat} {A : Option Addr} {n c : Nat} (h : ThL w base top sz (.slice A n c)) : n ≤ c ∧ c ≤ maxLen := by
  obtain ⟨A', n', c', hv, hc, hm, hx⟩ := h.ex
  simp only [Value.slice.injEq] at hv
  obtain ⟨rfl, rfl, rfl⟩ := hv
  exact ⟨hc, hm⟩

theorem heap_setCells (w : World) (g o : Nat) (vs : List Value) {k : Nat} (hk : k ≠ g) : (w.setCells g o vs).heap[k]? = w.heap[k]? := by
  induction vs generalizing o w with
  | nil => rfl
  | cons v vs ih =>
    rw [World.setCells, ih]
    by_cases hs : k < w.heap.size
    · exact Below.heap_setCell _ _ _ _ (by simpa using hk)
    · simp [World.setCell, Array.getElem?_modify]
      intro h; omega
theorem setCells_kept (w : World) (g o : Nat) (vs : List Value) : Kept (fun k => k = g) w (w.setCells g o vs) := by
  induction vs generalizing o w with
  | nil => exact Kept.refl _ w
  | cons v vs ih =>
    exact (Kept.setCell (S := fun k => k = g) (Kept.refl _ w) (a := ⟨g, o, none⟩) (Or.inl rfl) v).trans (ih _ _)

/-- between base and top only -/
def Mid (base top : Nat) : Nat → Prop := fun k => base ≤ k ∧ k < top
theorem Mid.set {w w' : World} {base top g o : Nat} {vs : List Value} (h : Kept (Mid base top) w w') (hb : base ≤ g) (ht : g < top) : Kept (Mid base top) w (w'.setCells g o vs) :=
  h.trans ((setCells_kept w' g o vs).mono (fun k _ hk => by have hk' : k = g := hk; subst hk'; exact ⟨hb, ht⟩))

/-- an element written over, as a whole -/
theorem wpList_store_over {P : Program} {ops : Array Oper} {rest : List Oper} {op : Oper} {a : Act} {w : World} {Q : Exit → Act → World → Prop} (hgd : op.guard = none) (ty : TypeId) (x y : Operand) (ho : op.op = .store ty x y)
    (b o : Nat) (cs : List Value) (sz : Nat) (hx : a.eval x = .pointer (some ⟨b, o, none⟩)) (hy : a.eval y = .agg cs.toArray) (ht : w.there b o sz) (hl : cs.length = sz) (hi : (P.info? ty).map (·.size) = some sz) (h1 : ∀ v ∈ cs, v.oneCell' = true)
    (w1 : World) (hw : w.setCells b o cs = w1) (h : wpList P ops Q rest (a.put op.dst undef) w1) : wpList P ops Q (op :: rest) a w := by
  subst hw
  subst hl
  exact wpList_store_mid hgd ty x y ho b o cs.toArray hx hy (by simpa using ht) (by simpa using hi) (all_oneCell_toArray h1) (by simpa using h)
end Go.Proofs.Ytngcfnffbggniaa
