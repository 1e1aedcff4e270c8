/- Events put behind one another; remove. -/
import Derived.Test.YtccoeccibokecaaNg
import Derived.Maps.OwnSet
import Derived.Deep.DeepCutAuto
namespace Go.Proofs.Ytccoeccibokecaa
open Go.ChangeShapes Go.WideShapes Go.ChangeAt Go.RowKit Go.Maps
set_option linter.unusedVariables false
set_option linter.unusedSimpArgs false
theorem ev_info : (Try.prog.info? 64).map (fun i => (i.zero, i.size, i.bytes)) = some (some (.agg #[.int .i64 0, .string ByteArray.empty, .int .i64 0]), 3, 32) := by kernel_rfl
theorem evsC_one (l : List Ev) : ∀ u ∈ evsC l, u.oneCell' = true := by
  intro u hu
  obtain ⟨r, _, hr⟩ := List.mem_flatMap.1 hu
  simp only [List.mem_cons, List.not_mem_nil, or_false] at hr
  rcases hr with rfl | rfl | rfl <;> rfl
theorem evsC_app (l m : List Ev) : evsC (l ++ m) = evsC l ++ evsC m := List.flatMap_append
theorem wpList_evs {w : World} {ops : Array Oper} {rest : List Oper} {o : Oper} {a : Act} {Q : Exit → Act → World → Prop} (hgd : o.guard = none) (s x : Operand)
    (ho : o.op = .call { callee := .builtin .append, args := #[s, x], argTypes := #[31, 31] }) (B : Nat) (v : Value) (l : List Ev) (hs : a.eval s = v) (hown : EvsAt B w v l)
    (ad : Addr) (c : Nat) (l2 : List Ev) (hx : a.eval x = .slice (some ad) l2.length c) (hnews : ∀ j u, (evsC l2)[j]? = some u → w.cell? (ad.add j) = some u) (hb : l.length + l2.length ≤ 1000000000) (hB : B ≤ w.heap.size)
    (h : ∀ v' w', EvsAt B w' v' (l ++ l2) → w.grownBy w' v.ownBlock → wpList Try.prog ops Q rest (a.put o.dst v') w') : wpList Try.prog ops Q (o :: rest) a w := by
  obtain ⟨i0, hi, hz0, hz1, hz2⟩ := info_parts ev_info
  refine wpList_append_own w hgd s x 31 ho B 64 i0 _ 3 32 Try.underlying31 hi hz0 hz1 hz2 rfl (by decide) v l.length (evsC l) hs hown ad l2.length c (evsC l2) hx (evsC_len l2) hnews (evsC_one l2) (by unfold maxLen; omega) (by omega) hB ?_
  intro v' w' h1 h2 _
  refine h v' w' ?_ h2
  unfold EvsAt
  rw [List.length_append, evsC_app]; exact h1
/-- a row just made -/
theorem cells_new {w : World} {l : List Ev} : ∀ j u, (evsC l)[j]? = some u → (w.alloc (.cells (evsC l).toArray 64)).cell? ((⟨w.heap.size, 0, none⟩ : Addr).add j) = some u := by
  intro j u hj
  rw [show (⟨w.heap.size, 0, none⟩ : Addr).add j = ⟨w.heap.size, j, none⟩ by cases j <;> simp [Addr.add]]
  rw [cell_of_row _ w.heap.size j _ _ (0, 0) (heap_alloc_new w _)]; simpa using hj
section
variable {Z : Nat → Prop} {w w' : World} {q : TB} {M : TM} {c : Nat} {D E : DV}
theorem TD.keptX {X : Nat → Prop} (h : TD Z w q M c D E) (hk : Kept X w w') (hb : ∀ k, TBs q k → ¬ X k) (ha : ∀ k cur, w.heap[k]? = some (.cells cur 81 (0, 0)) → ¬ X k) : TD Z w' q M c D E := by
  have hlt := h.lt
  refine ⟨?_, ownsMap_kept h.n hk (hb _ (.inr (.inl rfl))), fun k => (h.N k).kept hk (fun b cur hb _ => ha b cur hb), ownsMap_kept h.s hk (hb _ (.inr (.inr rfl))), h.S, h.ns, h.okk, h.inZ, fun k hk' => h.new k (Nat.le_trans hk.size hk')⟩
  rw [hk.block q.t (hlt _ (.inl rfl)) (hb _ (.inl rfl))]; exact h.at_
theorem TAt.keptX {X : Nat → Prop} (h : TAt Z w q M c) (hk : Kept X w w') (hb : ∀ k, TBs q k → ¬ X k) (ha : ∀ k cur, w.heap[k]? = some (.cells cur 81 (0, 0)) → ¬ X k) : TAt Z w' q M c := by
  obtain ⟨D, E, h⟩ := h; exact ⟨D, E, h.keptX hk hb ha⟩
theorem evs_block {B : Nat} {v : Value} {l : List Ev} (h : EvsAt B w v l) {k : Nat} (hk : v.ownBlock = some k) : B ≤ k ∧ ∃ cur, w.heap[k]? = some (.cells cur 64 (0, 0)) := by
  rcases h.2 with ⟨hv, h0⟩ | ⟨g, cap, cur, rfl, hb, hh, r⟩
  · rw [hv] at hk; cases hk
  · have : some g = some k := hk
    injection this with e; exact e ▸ ⟨hb, cur, hh⟩
/-- events are put behind events: the tree is as it was -/
theorem TAt.app {B : Nat} {v : Value} {l : List Ev} (h : TAt Z w q M c) (hv : EvsAt B w v l) (hg : w.grownBy w' v.ownBlock) : TAt Z w' q M c := by
  refine h.keptX (Kept.of_grownBy hg) (fun k hk e => ?_) (fun k cur hc e => ?_)
  · obtain ⟨_, cur, hh⟩ := evs_block hv e.symm
    obtain ⟨D, E, h⟩ := h
    rcases hk with rfl | rfl | rfl
    · rw [h.at_] at hh
      simp only [Option.some.injEq, Obj.cells.injEq] at hh
      have h9 : (78 : TypeId) = 64 := hh.2.1
      exact absurd h9 (by decide)
    · obtain ⟨es, cl, hb', _⟩ := h.n
      rw [hb'] at hh; cases hh
    · obtain ⟨es, cl, hb', _⟩ := h.s
      rw [hb'] at hh; cases hh
  · obtain ⟨_, cur', hh⟩ := evs_block hv e.symm
    rw [hc] at hh
    simp only [Option.some.injEq, Obj.cells.injEq] at hh
    have h9 : (81 : TypeId) = 64 := hh.2.1
    exact absurd h9 (by decide)
theorem kept_app {X : Nat → Prop} {w0 : World} {B : Nat} {v : Value} {l : List Ev} (h : Kept X w0 w) (hv : EvsAt B w v l) (hB : w0.heap.size ≤ B) (hg : w.grownBy w' v.ownBlock) : Kept X w0 w' :=
  h.trans' (Kept.of_grownBy hg) (fun k hk e => by have := (evs_block hv e.symm).1; omega)
theorem EvsAt.alloc {B : Nat} {v : Value} {l : List Ev} (h : EvsAt B w v l) (o : Obj) : EvsAt B (w.alloc o) v l := ownKept h ((Kept.refl (fun _ => False) w).alloc o) (fun _ _ f => f)
def delM (M : TM) (p : ByteArray) : TM := { M with N := updN M.N p.data.toList none }
theorem drop_eq (M : TM) (p : ByteArray) : underM (delM M p) p = dropM M p := by
  unfold underM delM dropM updN
  congr 1
  funext k
  by_cases h1 : k = p.data.toList <;> by_cases h2 : underL k p = true <;> simp [h1, h2]
theorem TD.delN (h : TD Z w q M c D E) (p : ByteArray) (hown : w'.ownsMap Try.prog 9 tok q.n c (D.del (.string p.data.toList))) (hk : Kept (fun j => j = q.n) w w') : TD Z w' q (delM M p) c (D.del (.string p.data.toList)) E :=
  h.cut hown hk (fun k => by
    by_cases e : k = p.data.toList
    · subst e; exact .inr ⟨lookV_del_same, updN_same _ _ _⟩
    · exact .inl ⟨lookV_del_other (fun e' => e (by injection e')), updN_other _ _ _ e⟩)
end
end Go.Proofs.Ytccoeccibokecaa
