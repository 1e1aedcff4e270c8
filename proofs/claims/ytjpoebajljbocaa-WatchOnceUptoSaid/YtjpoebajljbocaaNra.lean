/- Rows that the call owns, of whatever elements: append to them, in a plain region and in one that draws. -/
import Derived.Test.YtjpoebajljbocaaNa
import Derived.Deep.AppendSrc
import Derived.Deep.Upon
namespace Go.Proofs.Ytjpoebajljbocaa
open Go.ChangeShapes Go.WideShapes Go.ChangeAt Go.RowKit Go.Maps
set_option linter.unusedVariables false
set_option linter.unusedSimpArgs false
/-- a slice's type, its elements' type, cells and bytes -/
structure RowTy (P : Program) (tS e : TypeId) (size bytes : Nat) : Prop where
  und : P.underlying tS = some (.slice e)
  inf : ∃ i z, P.info? e = some i ∧ i.zero = some z ∧ i.size = size ∧ i.bytes = bytes ∧ z.cells.size = size
  pos : 0 < size
theorem RowTy.of {P : Program} {tS e : TypeId} {size bytes : Nat} {z : Value} (und : P.underlying tS = some (.slice e)) (h : (P.info? e).map (fun i => (i.zero, i.size, i.bytes)) = some (some z, size, bytes)) (hz : z.cells.size = size) (pos : 0 < size) : RowTy P tS e size bytes := by
  refine ⟨und, ?_, pos⟩
  cases hi : P.info? e with
  | none => rw [hi] at h; cases h
  | some i =>
    rw [hi] at h
    simp only [Option.map_some, Option.some.injEq, Prod.mk.injEq] at h
    exact ⟨i, z, rfl, h.1, h.2.1, h.2.2, hz⟩
section
variable {P : Program} {w w' : World} {tS e : TypeId} {size bytes B n : Nat} {v : Value} {xs : List Value}
/-- append of whatever row -/
theorem run_app (R : RowTy P tS e size bytes) (ty : TypeId) (hown : w.ownsRow B e size v n xs) {a : Option Addr} {m c : Nat} {news : List Value} (hl : news.length = m * size)
    (hn : m = 0 ∨ ∃ g off, a = some ⟨g, off, none⟩ ∧ ∀ j u, news[j]? = some u → w.cell? ⟨g, off + j, none⟩ = some u) (h1 : ∀ u ∈ news, u.oneCell' = true)
    (h63 : n + m ≤ maxLen) (hbytes : (n + m) * bytes ≤ 140737488355328) (hbase : B ≤ w.heap.size) :
    ∃ v' w', (Builtin.append_ #[tS, tS] ty #[v, .slice a m c]).run P w = .ok v' w' ∧ w'.ownsRow B e size v' (n + m) (xs ++ news) ∧ w.grownBy w' v.ownBlock := by
  obtain ⟨i, z, hi, hz, hsize, hby, hzs⟩ := R.inf
  rcases hn with rfl | ⟨g, off, rfl, hc⟩
  · have hnil : news = [] := List.eq_nil_of_length_eq_zero (by simpa using hl)
    subst hnil
    have hs : Src P i.size tS (.slice a 0 c) 0 [] w := by
      cases a with
      | none => exact Src.ofNil w R.und c
      | some a => exact Src.ofSlice w R.und a 0 c [] (by simp) (fun j u hu => by simp at hu) (by simp)
    refine ⟨v, w, ?_, by simpa using hown, ⟨rfl, rfl, rfl, Nat.le_refl _, fun _ _ _ => rfl⟩⟩
    rcases hown.2 with ⟨rfl, _⟩ | ⟨g, cap, cur, rfl, hb, hh, hnc, hcm, hcs, htake⟩
    · exact run_append_nothing w tS tS ty e i R.und hi none 0 0 (Nat.le_refl _) (.slice a 0 c) hs
    · exact run_append_nothing w tS tS ty e i R.und hi (some ⟨g, 0, none⟩) n cap hnc (.slice a 0 c) hs
  · obtain ⟨v', w', hr, h2, h3, _⟩ := run_append_own (P := P) w B tS ty e i z size bytes R.und hi hz hsize hby hzs R.pos v n xs hown ⟨g, off, none⟩ m c news hl (fun j u hj => by rw [Addr.add_mid]; exact hc j u hj) h1 h63 hbytes hbase
    exact ⟨v', w', hr, h2, h3⟩
section
variable {ops : Array Oper} {rest : List Oper} {o : Oper} {a : Act} {Q : Exit → Act → World → Prop} {K : Act → World → Prop} {F : Prop}
/-- at a plain region -/
theorem wpList_rows (R : RowTy P tS e size bytes) (hgd : o.guard = none) (s x : Operand) (ho : o.op = .call { callee := .builtin .append, args := #[s, x], argTypes := #[tS, tS] })
    (hs : a.eval s = v) (hown : w.ownsRow B e size v n xs) (ad : Option Addr) (m c : Nat) (news : List Value) (hx : a.eval x = .slice ad m c) (hl : news.length = m * size)
    (hn : m = 0 ∨ ∃ g off, ad = some ⟨g, off, none⟩ ∧ ∀ j u, news[j]? = some u → w.cell? ⟨g, off + j, none⟩ = some u) (h1 : ∀ u ∈ news, u.oneCell' = true)
    (h63 : n + m ≤ maxLen) (hbytes : (n + m) * bytes ≤ 140737488355328) (hbase : B ≤ w.heap.size)
    (h : ∀ v' w', w'.ownsRow B e size v' (n + m) (xs ++ news) → w.grownBy w' v.ownBlock → wpList P ops Q rest (a.put o.dst v') w') : wpList P ops Q (o :: rest) a w := by
  refine wpList_plain hgd fun K hK => ?_
  obtain ⟨v', w', hr, h2, h3⟩ := run_app (P := P) R o.type hown (a := ad) (c := c) hl hn h1 h63 hbytes hbase
  unfold Oper.wp execOp
  simp only [ho, resolve, invoke, builtin, Sem.run_bind, Sem.run_pure, Result.andThen_ok, List.map_toArray, List.map_cons, List.map_nil, hs, hx, hr]
  exact hK _ _ (h v' w' h2 h3)
/-- at a region that draws -/
theorem step_rows (R : RowTy P tS e size bytes) (hgd : o.guard = none) (s x : Operand) (ho : o.op = .call { callee := .builtin .append, args := #[s, x], argTypes := #[tS, tS] })
    (hs : a.eval s = v) (hown : w.ownsRow B e size v n xs) (ad : Option Addr) (m c : Nat) (news : List Value) (hx : a.eval x = .slice ad m c) (hl : news.length = m * size)
    (hn : m = 0 ∨ ∃ g off, ad = some ⟨g, off, none⟩ ∧ ∀ j u, news[j]? = some u → w.cell? ⟨g, off + j, none⟩ = some u) (h1 : ∀ u ∈ news, u.oneCell' = true)
    (h63 : n + m ≤ maxLen) (hbytes : (n + m) * bytes ≤ 140737488355328) (hbase : B ≤ w.heap.size)
    (h : ∀ v' w', w'.ownsRow B e size v' (n + m) (xs ++ news) → w.grownBy w' v.ownBlock → K (a.put o.dst v') w') :
    if Region.wanted o (yielded ops a.tmps) = true then Oper.wp P o a w K Q else F := by
  have hw : Region.wanted o (yielded ops a.tmps) = true := by simp [Region.wanted, hgd]
  rw [if_pos hw]
  obtain ⟨v', w', hr, h2, h3⟩ := run_app (P := P) R o.type hown (a := ad) (c := c) hl hn h1 h63 hbytes hbase
  unfold Oper.wp execOp
  simp only [ho, resolve, invoke, builtin, Sem.run_bind, Sem.run_pure, Result.andThen_ok, List.map_toArray, List.map_cons, List.map_nil, hs, hx, hr]
  exact h v' w' h2 h3
theorem new_cells (w : World) (c1 : List Value) (e : TypeId) : ∀ j u, c1[j]? = some u → (w.alloc (.cells c1.toArray e)).cell? ⟨w.heap.size, 0 + j, none⟩ = some u := by
  intro j u hj
  rw [Nat.zero_add, cell_of_row _ w.heap.size j _ _ (0, 0) (heap_alloc_new w _), ← Array.getElem?_toList]; exact hj
/-- one more, just built -/
theorem wpList_row1 (R : RowTy P tS e size bytes) (hgd : o.guard = none) (s x : Operand) (ho : o.op = .call { callee := .builtin .append, args := #[s, x], argTypes := #[tS, tS] })
    (hs : a.eval s = v) (hown : w.ownsRow B e size v n xs) (c1 : List Value) (hx : a.eval x = .slice (some ⟨w.heap.size, 0, none⟩) 1 1) (hl : c1.length = size) (h1 : ∀ u ∈ c1, u.oneCell' = true)
    (hb : (n + 1) * bytes ≤ 140737488355328) (hm : n + 1 ≤ maxLen) (hbase : B ≤ w.heap.size)
    (h : ∀ v' w', w'.ownsRow B e size v' (n + 1) (xs ++ c1) → (w.alloc (.cells c1.toArray e)).grownBy w' v.ownBlock → wpList P ops Q rest (a.put o.dst v') w') : wpList P ops Q (o :: rest) a (w.alloc (.cells c1.toArray e)) :=
  wpList_rows R hgd s x ho hs (ownKept hown ((Kept.refl (fun _ => False) w).alloc _) (fun _ _ f => f)) (some ⟨w.heap.size, 0, none⟩) 1 1 c1 hx (by omega) (.inr ⟨_, _, rfl, new_cells w c1 e⟩) h1 hm hb (by simp; omega) h
theorem step_row1 (R : RowTy P tS e size bytes) (hgd : o.guard = none) (s x : Operand) (ho : o.op = .call { callee := .builtin .append, args := #[s, x], argTypes := #[tS, tS] })
    (hs : a.eval s = v) (hown : w.ownsRow B e size v n xs) (c1 : List Value) (hx : a.eval x = .slice (some ⟨w.heap.size, 0, none⟩) 1 1) (hl : c1.length = size) (h1 : ∀ u ∈ c1, u.oneCell' = true)
    (hb : (n + 1) * bytes ≤ 140737488355328) (hm : n + 1 ≤ maxLen) (hbase : B ≤ w.heap.size)
    (h : ∀ v' w', w'.ownsRow B e size v' (n + 1) (xs ++ c1) → (w.alloc (.cells c1.toArray e)).grownBy w' v.ownBlock → K (a.put o.dst v') w') :
    if Region.wanted o (yielded ops a.tmps) = true then Oper.wp P o a (w.alloc (.cells c1.toArray e)) K Q else F :=
  step_rows R hgd s x ho hs (ownKept hown ((Kept.refl (fun _ => False) w).alloc _) (fun _ _ f => f)) (some ⟨w.heap.size, 0, none⟩) 1 1 c1 hx (by omega) (.inr ⟨_, _, rfl, new_cells w c1 e⟩) h1 hm hb (by simp; omega) h
theorem step_row1d (R : RowTy P tS e size bytes) (hgd : o.guard = none) (s x : Operand) (ho : o.op = .call { callee := .builtin .append, args := #[s, x], argTypes := #[tS, tS] })
    (hs : a.eval s = v) (hown : w.ownsRow B e size v n xs) (c1 : List Value) (hx : a.eval x = .slice (some ⟨w.heap.size, 0, none⟩) 1 1) (hl : c1.length = size) (h1 : ∀ u ∈ c1, u.oneCell' = true)
    (hb : (n + 1) * bytes ≤ 140737488355328) (hm : n + 1 ≤ maxLen) (hbase : B ≤ w.heap.size)
    (h : ∀ v' w', w'.ownsRow B e size v' (n + 1) (xs ++ c1) → (w.alloc (.cells c1.toArray e)).drew.grownBy w' v.ownBlock → K (a.put o.dst v') w') :
    if Region.wanted o (yielded ops a.tmps) = true then Oper.wp P o a (w.alloc (.cells c1.toArray e)).drew K Q else F :=
  step_rows (w := (w.alloc (.cells c1.toArray e)).drew) R hgd s x ho hs (ownKept hown (((Kept.refl (fun _ => False) w).alloc _).drew) (fun _ _ f => f)) (some ⟨w.heap.size, 0, none⟩) 1 1 c1 hx (by omega) (.inr ⟨_, _, rfl, new_cells w c1 e⟩) h1 hm hb (by show B ≤ (w.alloc _).heap.size; simp; omega) h
end
theorem own_lo {w : World} (h : w.ownsRow B e size v n xs) {k : Nat} (hk : v.ownBlock = some k) : B ≤ k ∧ k < w.heap.size ∧ ∃ cur, w.heap[k]? = some (.cells cur e (0, 0)) := by
  rcases h.2 with ⟨rfl, _⟩ | ⟨g, cap, cur, rfl, hb, hh, r⟩
  · simp [Value.ownBlock] at hk
  · simp only [Value.ownBlock, Option.some.injEq] at hk
    subst hk
    exact ⟨hb, lt_of_block hh, _, hh⟩
theorem own_shape {w : World} (h : w.ownsRow B e size v n xs) : ∃ a cap, v = .slice a n cap := by
  rcases h.2 with ⟨rfl, rfl⟩ | ⟨g, cap, cur, rfl, hb, hh, r⟩
  · exact ⟨_, _, rfl⟩
  · exact ⟨_, _, rfl⟩
/-- what an append leaves: all but the row's own block -/
theorem kept_own {X : Nat → Prop} {w0 w w' : World} (h : Kept X w0 w) (hv : w.ownsRow B e size v n xs) (hB : w0.heap.size ≤ B) (hg : w.grownBy w' v.ownBlock) : Kept X w0 w' :=
  h.trans' (Kept.of_grownBy hg) (fun k hk e => by have := (own_lo hv e.symm).1; omega)
theorem kept_own1 {X : Nat → Prop} {w0 w w' : World} {ob : Obj} (h : Kept X w0 w) (hv : w.ownsRow B e size v n xs) (hB : w0.heap.size ≤ B) (hg : (w.alloc ob).grownBy w' v.ownBlock) : Kept X w0 w' :=
  (h.alloc ob).trans' (Kept.of_grownBy hg) (fun k hk e => by have := (own_lo hv e.symm).1; omega)
theorem kept_own1d {X : Nat → Prop} {w0 w w' : World} {ob : Obj} (h : Kept X w0 w) (hv : w.ownsRow B e size v n xs) (hB : w0.heap.size ≤ B) (hg : (w.alloc ob).drew.grownBy w' v.ownBlock) : Kept X w0 w' :=
  ((h.alloc ob).drew).trans' (Kept.of_grownBy hg) (fun k hk e => by have := (own_lo hv e.symm).1; omega)
/-- a cell of an owned row -/
theorem own_cell {w : World} (h : w.ownsRow B e size v n xs) : ∃ a cap, v = .slice a n cap ∧ ∀ j u, xs[j]? = some u → ∃ g, a = some ⟨g, 0, none⟩ ∧ B ≤ g ∧ g < w.heap.size ∧ w.cell? ⟨g, j, none⟩ = some u ∧ w.frozen? ⟨g, j, none⟩ = false := by
  have hl := h.1
  rcases h.2 with ⟨rfl, rfl⟩ | ⟨g, cap, cur, rfl, hb, hh, hnc, hcm, hcs, htake⟩
  · have hx : xs = [] := List.eq_nil_of_length_eq_zero (by simpa using hl)
    exact ⟨_, _, rfl, fun j u hj => by rw [hx] at hj; simp at hj⟩
  · refine ⟨_, _, rfl, fun j u hj => ⟨g, rfl, hb, lt_of_block hh, ?_, by simp [World.frozen?, hh]⟩⟩
    rw [cell_of_row w g j _ _ (0, 0) hh, ← Array.getElem?_toList]
    have hj' : j < xs.length := (List.getElem?_eq_some_iff.1 hj).1
    rw [← htake, List.getElem?_take] at hj
    split at hj
    · exact hj
    · cases hj
end
end Go.Proofs.Ytjpoebajljbocaa
