/- Rows and IDs appended to memory that the call owns. -/
import Derived.Test.YtpjanfclobpkjaaDoorUo
import Derived.Laws.AppendOwn
import Derived.Maps.AppendAt
import Derived.Deep.AppendSrc
import Derived.Deep.Upon
import Derived.Deep.MidRow
namespace Go.Proofs.YtpjanfclobpkjaaDoor
open Go.ChangeShapes Go.WideShapes Go.ChangeAt Go.RowKit
set_option linter.unusedVariables false
set_option linter.unusedSimpArgs false

def rowC (l : List Row) : List Value := l.flatMap fun r => [.int .i64 r.perms, .string r.id]
def idC (l : List ByteArray) : List Value := l.map Value.string
theorem rowC_length : ∀ l : List Row, (rowC l).length = l.length * 2
  | [] => rfl
  | r :: l => by
    have := rowC_length l
    simp only [rowC, List.flatMap_cons, List.length_append, List.length_cons, List.length_nil] at this ⊢
    omega
theorem rowC_app (l m : List Row) : rowC (l ++ m) = rowC l ++ rowC m := by simp [rowC]
theorem idC_app (l m : List ByteArray) : idC (l ++ m) = idC l ++ idC m := by simp [idC]
theorem rowC_get : ∀ (l : List Row) (i : Nat) (h : i < l.length), (rowC l)[i * 2]? = some (.int .i64 l[i].perms) ∧ (rowC l)[i * 2 + 1]? = some (.string l[i].id)
  | r :: l, 0, _ => ⟨rfl, rfl⟩
  | r :: l, i + 1, h => by
    have := rowC_get l i (by simpa using h)
    have e : rowC (r :: l) = .int .i64 r.perms :: .string r.id :: rowC l := rfl
    rw [e, show (i + 1) * 2 = i * 2 + 1 + 1 by omega]
    simpa using this
theorem rowC_one (l : List Row) : ∀ u ∈ rowC l, u.oneCell' = true := by
  intro u hu
  simp only [rowC, List.mem_flatMap, List.mem_cons, List.not_mem_nil, or_false] at hu
  obtain ⟨r, _, rfl | rfl⟩ := hu <;> rfl
theorem idC_one (l : List ByteArray) : ∀ u ∈ idC l, u.oneCell' = true := by
  intro u hu
  obtain ⟨r, _, rfl⟩ := List.mem_map.1 hu; rfl

/-- what lies one behind the other at a row -/
theorem RowsAt.src {w : World} {a : Option Addr} {n c : Nat} {l : List Row} (h : RowsAt w (.slice a n c) l) : n = l.length ∧ (l = [] ∨ ∃ g off, a = some ⟨g, off, none⟩ ∧ ∀ j u, (rowC l)[j]? = some u → w.cell? ⟨g, off + j, none⟩ = some u) := by
  obtain ⟨a', c', hv, hc⟩ := h.ex
  injection hv with h1 h2 h3
  subst h1
  refine ⟨h2, ?_⟩
  cases l with
  | nil => exact .inl rfl
  | cons r l =>
    right
    obtain ⟨g, off, rfl, _⟩ := hc 0 (by simp)
    refine ⟨g, off, rfl, fun j u hj => ?_⟩
    have hjl : j < (rowC (r :: l)).length := (List.getElem?_eq_some_iff.1 hj).1
    rw [rowC_length] at hjl
    obtain ⟨g', off', e, _, c0, c1⟩ := hc (j / 2) (by omega)
    injection e with e
    injection e with e1 e2 _
    subst e1 e2
    obtain ⟨r0, r1⟩ := rowC_get (r :: l) (j / 2) (by omega)
    rcases (show j = j / 2 * 2 ∨ j = j / 2 * 2 + 1 by omega) with e | e
    · rw [e, r0] at hj; rw [e]; exact c0.trans hj
    · rw [e, r1] at hj; rw [e, ← Nat.add_assoc]; exact c1.trans hj
theorem IdsAt.src {w : World} {a : Option Addr} {n c : Nat} {l : List ByteArray} (h : IdsAt w (.slice a n c) l) : n = l.length ∧ (l = [] ∨ ∃ g off, a = some ⟨g, off, none⟩ ∧ ∀ j u, (idC l)[j]? = some u → w.cell? ⟨g, off + j, none⟩ = some u) := by
  obtain ⟨a', c', hv, hc⟩ := h.ex
  injection hv with h1 h2 h3
  subst h1
  refine ⟨h2, ?_⟩
  cases l with
  | nil => exact .inl rfl
  | cons r l =>
    right
    obtain ⟨g, off, rfl, _⟩ := hc 0 (by simp)
    refine ⟨g, off, rfl, fun j u hj => ?_⟩
    have hjl : j < (idC (r :: l)).length := (List.getElem?_eq_some_iff.1 hj).1
    have hjl' : j < (r :: l).length := by simpa [idC] using hjl
    obtain ⟨g', off', e, _, c0⟩ := hc j hjl'
    injection e with e
    injection e with e1 e2 _
    subst e1 e2
    rw [c0, ← hj, idC, List.getElem?_map, List.getElem?_eq_getElem hjl']; rfl
theorem RowsAt.own {w : World} {base : Nat} {v : Value} {l : List Row} (h : w.ownsRow base 27 2 v l.length (rowC l)) (hf : ∀ r ∈ l, r.Fits) : RowsAt w v l := by
  have hcell : ∀ g, v.ownBlock = some g → ∀ j u, (rowC l)[j]? = some u → w.cell? ((⟨g, 0, none⟩ : Addr).add j) = some u := fun g hg => World.ownsRow.cells h (g := g) hg
  have hlt := World.ownsRow.lt h
  rcases h.2 with ⟨rfl, h0⟩ | ⟨g, cap, cur, rfl, hb, hh, hnc, hcm, hcs, htake⟩
  · have : l = [] := List.eq_nil_of_length_eq_zero h0
    subst this
    exact RowsAt.nil w
  · refine ⟨⟨_, _, rfl, fun i hi => ⟨g, 0, rfl, (hlt g rfl).2, ?_⟩⟩, hf, by unfold maxLen at hcm; omega⟩
    obtain ⟨r0, r1⟩ := rowC_get l i hi
    have h0 := hcell g rfl _ _ r0
    have h1 := hcell g rfl _ _ r1
    rw [Addr.add_mid] at h0 h1
    exact ⟨h0, by rw [Nat.add_assoc]; exact h1⟩
theorem IdsAt.own {w : World} {base : Nat} {v : Value} {l : List ByteArray} (h : w.ownsRow base 9 1 v l.length (idC l)) : IdsAt w v l := by
  have hcell : ∀ g, v.ownBlock = some g → ∀ j u, (idC l)[j]? = some u → w.cell? ((⟨g, 0, none⟩ : Addr).add j) = some u := fun g hg => World.ownsRow.cells h (g := g) hg
  have hlt := World.ownsRow.lt h
  rcases h.2 with ⟨rfl, h0⟩ | ⟨g, cap, cur, rfl, hb, hh, hnc, hcm, hcs, htake⟩
  · have : l = [] := List.eq_nil_of_length_eq_zero h0
    subst this
    exact IdsAt.nil w
  · refine ⟨⟨_, _, rfl, fun i hi => ⟨g, 0, rfl, (hlt g rfl).2, ?_⟩⟩, by unfold maxLen at hcm; omega⟩
    have h0 := hcell g rfl i (.string l[i]) (by rw [idC, List.getElem?_map, List.getElem?_eq_getElem hi]; rfl)
    rwa [Addr.add_mid] at h0

/-- append of whatever rows -/
theorem run_app {P : Program} (w : World) (base : Nat) (t ty e : TypeId) (i : TypeInfo) (z : Value) (size bytes : Nat) (ht : P.underlying t = some (.slice e)) (hi : P.info? e = some i) (hz : i.zero = some z)
    (hsize : i.size = size) (hby : i.bytes = bytes) (hzs : z.cells.size = size) (hsz : 0 < size)
    {v : Value} {n : Nat} {xs : List Value} (hown : w.ownsRow base e size v n xs) {a : Option Addr} {m c : Nat} {news : List Value} (hl : news.length = m * size)
    (hn : m = 0 ∨ ∃ g off, a = some ⟨g, off, none⟩ ∧ ∀ j u, news[j]? = some u → w.cell? ⟨g, off + j, none⟩ = some u) (h1 : ∀ u ∈ news, u.oneCell' = true)
    (h63 : n + m ≤ maxLen) (hbytes : (n + m) * bytes ≤ 140737488355328) (hbase : base ≤ w.heap.size) :
    ∃ v' w', (Builtin.append_ #[t, t] ty #[v, .slice a m c]).run P w = .ok v' w' ∧ w'.ownsRow base e size v' (n + m) (xs ++ news) ∧ w.grownBy w' v.ownBlock := by
  rcases hn with rfl | ⟨g, off, rfl, hc⟩
  · have hnil : news = [] := List.eq_nil_of_length_eq_zero (by simpa using hl)
    subst hnil
    have hs : Src P i.size t (.slice a 0 c) 0 [] w := by
      cases a with
      | none => exact Src.ofNil w ht c
      | some a => exact Src.ofSlice w ht a 0 c [] (by simp) (fun j u hu => by simp at hu) (by simp)
    refine ⟨v, w, ?_, by simpa using hown, ⟨rfl, rfl, rfl, Nat.le_refl _, fun _ _ _ => rfl⟩⟩
    rcases hown.2 with ⟨rfl, _⟩ | ⟨g, cap, cur, rfl, hb, hh, hnc, hcm, hcs, htake⟩
    · exact run_append_nothing w t t ty e i ht hi none 0 0 (Nat.le_refl _) (.slice a 0 c) hs
    · exact run_append_nothing w t t ty e i ht hi (some ⟨g, 0, none⟩) n cap hnc (.slice a 0 c) hs
  · obtain ⟨v', w', hr, h2, h3, _⟩ := run_append_own (P := P) w base t ty e i z size bytes ht hi hz hsize hby hzs hsz v n xs hown ⟨g, off, none⟩ m c news hl (fun j u hj => by rw [Addr.add_mid]; exact hc j u hj) h1 h63 hbytes hbase
    exact ⟨v', w', hr, h2, h3⟩

theorem acl_info : (Tryd.prog.info? 27).map (fun i => (i.zero, i.size, i.bytes)) = some (some (.agg #[.int .i64 0, .string ByteArray.empty]), 2, 24) := by kernel_rfl
theorem str_info : (Tryd.prog.info? 9).map (fun i => (i.zero, i.size, i.bytes)) = some (some (.string ByteArray.empty), 1, 16) := by kernel_rfl

theorem wpList_app_rows (w : World) {ops : Array Oper} {rest : List Oper} {o : Oper} {a : Act} {Q : Exit → Act → World → Prop} (hgd : o.guard = none) (s x : Operand)
    (ho : o.op = .call { callee := .builtin .append, args := #[s, x], argTypes := #[22, 22] })
    {base : Nat} {v vx : Value} {l m : List Row} (hs : a.eval s = v) (hx : a.eval x = vx) (hown : w.ownsRow base 27 2 v l.length (rowC l)) (hm : RowsAt w vx m)
    (hb : (l.length + m.length) * 24 ≤ 140737488355328) (hbase : base ≤ w.heap.size)
    (h : ∀ v' w', w'.ownsRow base 27 2 v' (l ++ m).length (rowC (l ++ m)) → w.grownBy w' v.ownBlock → wpList Tryd.prog ops Q rest (a.put o.dst v') w') : wpList Tryd.prog ops Q (o :: rest) a w := by
  obtain ⟨i0, hi, hz0, hz1, hz2⟩ := info_parts acl_info
  obtain ⟨aa, cc, rfl, _⟩ := hm.ex
  obtain ⟨_, hsrc⟩ := hm.src
  refine wpList_plain hgd fun K hK => ?_
  obtain ⟨v', w', hr, h2, h3⟩ := run_app (P := Tryd.prog) w base 22 o.type 27 i0 _ 2 24 Tryd.underlying22 hi hz0 hz1 hz2 rfl (by decide) hown (a := aa) (m := m.length) (c := cc) (news := rowC m) (rowC_length m)
    (hsrc.imp (fun e => by rw [e]; rfl) id) (rowC_one m) (by unfold maxLen; omega) hb hbase
  unfold Oper.wp execOp
  simp only [ho, resolve, invoke, builtin, Sem.run_bind, Sem.run_pure, Result.andThen_ok, List.map_toArray, List.map_cons, List.map_nil, hs, hx, hr]
  exact hK _ _ (h v' w' (by rw [List.length_append, rowC_app]; exact h2) h3)
theorem wpList_app_ids (w : World) {ops : Array Oper} {rest : List Oper} {o : Oper} {a : Act} {Q : Exit → Act → World → Prop} (hgd : o.guard = none) (s x : Operand)
    (ho : o.op = .call { callee := .builtin .append, args := #[s, x], argTypes := #[25, 25] })
    {base : Nat} {v vx : Value} {l m : List ByteArray} (hs : a.eval s = v) (hx : a.eval x = vx) (hown : w.ownsRow base 9 1 v l.length (idC l)) (hm : IdsAt w vx m)
    (hb : (l.length + m.length) * 16 ≤ 140737488355328) (hbase : base ≤ w.heap.size)
    (h : ∀ v' w', w'.ownsRow base 9 1 v' (l ++ m).length (idC (l ++ m)) → w.grownBy w' v.ownBlock → wpList Tryd.prog ops Q rest (a.put o.dst v') w') : wpList Tryd.prog ops Q (o :: rest) a w := by
  obtain ⟨i0, hi, hz0, hz1, hz2⟩ := info_parts str_info
  obtain ⟨aa, cc, rfl, _⟩ := hm.ex
  obtain ⟨_, hsrc⟩ := hm.src
  refine wpList_plain hgd fun K hK => ?_
  obtain ⟨v', w', hr, h2, h3⟩ := run_app (P := Tryd.prog) w base 25 o.type 9 i0 _ 1 16 Tryd.underlying25 hi hz0 hz1 hz2 rfl (by decide) hown (a := aa) (m := m.length) (c := cc) (news := idC m) (by simp [idC])
    (hsrc.imp (fun e => by rw [e]; rfl) id) (idC_one m) (by unfold maxLen; omega) hb hbase
  unfold Oper.wp execOp
  simp only [ho, resolve, invoke, builtin, Sem.run_bind, Sem.run_pure, Result.andThen_ok, List.map_toArray, List.map_cons, List.map_nil, hs, hx, hr]
  exact hK _ _ (h v' w' (by rw [List.length_append, idC_app]; exact h2) h3)
/-- a row of one's own is below nothing that was there -/
theorem grown_below {w w' : World} {base : Nat} {e : TypeId} {size n : Nat} {v : Value} {xs : List Value} (h : w.ownsRow base e size v n xs) (hg : w.grownBy w' v.ownBlock) (hb : base ≤ w.heap.size) : Below base w w' :=
  ⟨hg.os, hg.tape, hg.output, hg.size, fun k hk => hg.block k (by omega) (fun e => by have := World.ownsRow.lt h k e.symm; omega)⟩
end Go.Proofs.YtpjanfclobpkjaaDoor
