/- A tree in memory. Rows that the call owns, of whatever elements: append to them, in a plain region and in one that draws. -/
import Derived.Test.YtjlffmkiiphfcaaP03
import Derived.Maps.OwnSet
import Derived.Maps.Keyed
import Derived.Deep.MidRow
import Derived.StillTailTactics
import Derived.Deep.AppendSrc
import Derived.Deep.Upon
namespace Go.Proofs.Ytjlffmkiiphfcaa
open Go.ChangeShapes Go.WideShapes Go.ChangeAt Go.RowKit Go.Maps
set_option linter.unusedVariables false
set_option linter.unusedSimpArgs false
theorem keyS : Keyed Try.prog 9 := string_keyed Try.underlying9
theorem keyI : Keyed Try.prog 3 := int_keyed Try.underlying3
def AR.cells (r : AR) : List Value := [.int .i64 r.perms, .string r.id]
def aclC (l : List AR) : List Value := l.flatMap AR.cells
/-- an ACL that nobody writes into -/
def AclAt (w : World) (Z : Nat → Prop) (av : Value) (l : List AR) : Prop := w.ownsRow 0 95 2 av l.length (aclC l) ∧ ∀ k, av.ownBlock = some k → Z k
def nodeV (nd : Nd) (av : Value) : Value := .agg #[.string nd.data, av, .int .i64 nd.st.cz, .int .i64 nd.st.mz, .int .i64 nd.st.pz, .int .i64 nd.st.ver, .int .i64 nd.st.cver, .int .i64 nd.st.aver, .int .i64 nd.st.owner, .int .i64 0, .int .i64 0]
def node0 : Value := .agg #[.string ByteArray.empty, .slice none 0 0, .int .i64 0, .int .i64 0, .int .i64 0, .int .i64 0, .int .i64 0, .int .i64 0, .int .i64 0, .int .i64 0, .int .i64 0]
def sessV (s : Int × ByteArray) : Value := .agg #[.int .i64 s.1, .string s.2]
def sess0 : Value := .agg #[.int .i64 0, .string ByteArray.empty]
theorem zero_node (w : World) : (zeroValue 99).run Try.prog w = .ok node0 w := by kernel_rfl
theorem zero_sess (w : World) : (zeroValue 102).run Try.prog w = .ok sess0 w := by kernel_rfl
/-- the model's node is what the map has -/
def NdAt (w : World) (Z : Nat → Prop) : Option Value → Option Nd → Prop
  | none, none => True
  | some v, some nd => ∃ av, v = nodeV nd av ∧ AclAt w Z av nd.acl
  | _, _ => False
/-- a tree's blocks -/
structure TB where
  t : Nat
  n : Nat
  s : Nat
def TBs (q : TB) : Nat → Prop := fun k => k = q.t ∨ k = q.n ∨ k = q.s
structure TD (Z : Nat → Prop) (w : World) (q : TB) (M : TM) (c : Nat) (D E : DV) : Prop where
  at_ : w.heap[q.t]? = some (.cells #[.map (some q.n), .map (some q.s), .int .i64 M.z] 92 (0, 0))
  n : w.ownsMap Try.prog 9 tok q.n c D
  N : ∀ k, NdAt w Z (lookV D (.string k)) (M.N k)
  s : w.ownsMap Try.prog 3 tok q.s c E
  S : ∀ i, lookV E (.int .i64 i) = (M.S i).map sessV
  ns : q.n ≠ q.s
  okk : ∀ k, M.N k ≠ none → k.length ≤ 60
  inZ : ∀ k, TBs q k → Z k
  new : ∀ k, w.heap.size ≤ k → Z k
def TAt (Z : Nat → Prop) (w : World) (q : TB) (M : TM) (c : Nat) : Prop := ∃ D E, TD Z w q M c D E
theorem ownKept {X : Nat → Prop} {w w' : World} {base : Nat} {e : TypeId} {size n : Nat} {v : Value} {xs : List Value} (h : w.ownsRow base e size v n xs) (hk : Kept X w w') (hx : ∀ k, v.ownBlock = some k → ¬ X k) : w'.ownsRow base e size v n xs := by
  refine ⟨h.1, ?_⟩
  rcases h.2 with h2 | ⟨g, cap, cur, rfl, hb, hh, r⟩
  · exact .inl h2
  · exact .inr ⟨g, cap, cur, rfl, hb, by rw [hk.block g (lt_of_block hh) (hx g rfl)]; exact hh, r⟩
theorem ownsMap_kept {w w' : World} {P : Program} {k : TypeId} {R : Value → Option (DV × List MemPlace)} {b n : Nat} {D : DV} {X : Nat → Prop} (h : w.ownsMap P k R b n D) (hk : Kept X w w') (hb : ¬ X b) : w'.ownsMap P k R b n D := by
  have hl := h.lt
  obtain ⟨es, cl, h1, r⟩ := h
  exact ⟨es, cl, (hk.block b hl hb).trans h1, r⟩
section
variable {Z : Nat → Prop} {w w' : World} {q : TB} {M : TM} {c : Nat} {D E : DV}
theorem NdAt.kept {X : Nat → Prop} {o : Option Value} {m : Option Nd} (h : NdAt w Z o m) (hk : Kept X w w') (hx : ∀ k cur, w.heap[k]? = some (.cells cur 95 (0, 0)) → Z k → ¬ X k) : NdAt w' Z o m := by
  cases o <;> cases m <;> try exact h
  obtain ⟨av, e, ha, hz⟩ := h
  refine ⟨av, e, ⟨ha.1, ?_⟩, hz⟩
  rcases ha.2 with h2 | ⟨g, cap, cur, rfl, hb, hh, r⟩
  · exact .inl h2
  · exact .inr ⟨g, cap, cur, rfl, hb, by rw [hk.block g (lt_of_block hh) (hx g cur hh (hz g rfl))]; exact hh, r⟩
theorem TD.nt (h : TD Z w q M c D E) : q.n ≠ q.t ∧ q.s ≠ q.t := by
  obtain ⟨es, cl, hb, _⟩ := h.n
  obtain ⟨es', cl', hb', _⟩ := h.s
  have ht := h.at_
  constructor
  · intro e; rw [e, ht] at hb; cases hb
  · intro e; rw [e, ht] at hb'; cases hb'
theorem TD.lt (h : TD Z w q M c D E) : ∀ k, TBs q k → k < w.heap.size := by
  rintro k (rfl | rfl | rfl)
  · exact lt_of_block h.at_
  · exact h.n.lt
  · exact h.s.lt
/-- no ACL lies in a tree's own blocks -/
theorem TD.noAcl (h : TD Z w q M c D E) : ∀ k cur, w.heap[k]? = some (.cells cur 95 (0, 0)) → ¬ TBs q k := by
  rintro k cur hb (rfl | rfl | rfl)
  · rw [h.at_] at hb
    simp only [Option.some.injEq, Obj.cells.injEq] at hb
    have h9 : (92 : TypeId) = 95 := hb.2.1
    exact absurd h9 (by decide)
  · obtain ⟨es, cl, hb', _⟩ := h.n
    rw [hb'] at hb; cases hb
  · obtain ⟨es, cl, hb', _⟩ := h.s
    rw [hb'] at hb; cases hb
/-- whatever is written elsewhere -/
theorem TD.kept {X : Nat → Prop} (h : TD Z w q M c D E) (hk : Kept X w w') (hx : ∀ k, k < w.heap.size → Z k → ¬ X k) : TD Z w' q M c D E := by
  have hlt := h.lt
  refine ⟨?_, ownsMap_kept h.n hk (hx _ h.n.lt (h.inZ _ (.inr (.inl rfl)))), fun k => (h.N k).kept hk (fun b cur hb hz => hx b (lt_of_block hb) hz), ownsMap_kept h.s hk (hx _ h.s.lt (h.inZ _ (.inr (.inr rfl)))), h.S, h.ns, h.okk, h.inZ, fun k hk' => h.new k (Nat.le_trans hk.size hk')⟩
  rw [hk.block q.t (hlt _ (.inl rfl)) (hx _ (hlt _ (.inl rfl)) (h.inZ _ (.inl rfl)))]; exact h.at_
theorem TD.kept0 (h : TD Z w q M c D E) (hk : Kept (fun _ => False) w w') : TD Z w' q M c D E := h.kept hk (fun _ _ _ f => f)
theorem TD.drewN (h : TD Z w q M c D E) (n : Nat) : TD Z (w.drewN n) q M c D E := h.kept0 ((Kept.refl _ w).drewN n)
theorem TD.drew (h : TD Z w q M c D E) : TD Z w.drew q M c D E := h.kept0 ((Kept.refl _ w).drew)
theorem TAt.kept {X : Nat → Prop} (h : TAt Z w q M c) (hk : Kept X w w') (hx : ∀ k, k < w.heap.size → Z k → ¬ X k) : TAt Z w' q M c := by
  obtain ⟨D, E, h⟩ := h; exact ⟨D, E, h.kept hk hx⟩
theorem TAt.kept0 (h : TAt Z w q M c) (hk : Kept (fun _ => False) w w') : TAt Z w' q M c := h.kept hk (fun _ _ _ f => f)
theorem TD.mono (h : TD Z w q M c D E) {c' : Nat} (hc : c ≤ c') : TD Z w q M c' D E := ⟨h.at_, h.n.mono hc, h.N, h.s.mono hc, h.S, h.ns, h.okk, h.inZ, h.new⟩
theorem TAt.mono (h : TAt Z w q M c) {c' : Nat} (hc : c ≤ c') : TAt Z w q M c' := by obtain ⟨D, E, h⟩ := h; exact ⟨D, E, h.mono hc⟩
theorem TAt.lt (h : TAt Z w q M c) : ∀ k, TBs q k → k < w.heap.size := by obtain ⟨D, E, h⟩ := h; exact h.lt
/-- what is done to another tree leaves this one as it is -/
theorem TAt.aside {q' : TB} {M' : TM} {c' : Nat} (h : TAt Z w q M c) (g : TAt Z w q' M' c') (hk : Kept (TBs q') w w') (hd : ∀ k, TBs q k → ¬ TBs q' k) : TAt Z w' q M c := by
  obtain ⟨D, E, h⟩ := h
  obtain ⟨D', E', g⟩ := g
  have hlt := h.lt
  refine ⟨D, E, ?_, ownsMap_kept h.n hk (hd _ (.inr (.inl rfl))), fun k => (h.N k).kept hk (fun b cur hb hz => g.noAcl b cur hb), ownsMap_kept h.s hk (hd _ (.inr (.inr rfl))), h.S, h.ns, h.okk, h.inZ, fun k hk' => h.new k (Nat.le_trans hk.size hk')⟩
  rw [hk.block q.t (hlt _ (.inl rfl)) (hd _ (.inl rfl))]; exact h.at_
theorem keptN {b : Nat} (h : w.mapTurned w' b) : Kept (fun k => k = b) w w' := (Kept.of_grownBy h.grown).mono (fun k _ e => by injection e)
/-- a node is laid -/
theorem TD.putN (h : TD Z w q M c D E) {k : List UInt8} {nd : Nd} {v : Value} (hv : NdAt w Z (some v) (some nd)) (hl : k.length ≤ 60) (hown : w'.ownsMap Try.prog 9 tok q.n (c + 1) (D.put (.string k) (.held v))) (hk : Kept (fun j => j = q.n) w w') :
    TD Z w' q { M with N := updN M.N k (some nd) } (c + 1) (D.put (.string k) (.held v)) E := by
  have hnt := h.nt
  have hk2 : Kept (TBs q) w w' := hk.mono (fun j _ e => .inr (.inl e))
  refine ⟨?_, hown, fun x => ?_, ownsMap_kept (h.s.mono (Nat.le_succ c)) hk (fun e => h.ns e.symm), h.S, h.ns, fun x hx => ?_, h.inZ, fun j hj => h.new j (Nat.le_trans hk.size hj)⟩
  · rw [hk.block q.t (h.lt _ (.inl rfl)) (fun e => hnt.1 e.symm)]; exact h.at_
  · by_cases e : x = k
    · subst e
      rw [lookV_put_same h.n.isMap (by simp [WideAt.IsKeyLit])]
      show NdAt w' Z (some v) (updN M.N x (some nd) x)
      rw [updN_same]
      exact hv.kept hk2 (fun b cur hb _ => h.noAcl b cur hb)
    · rw [lookV_put_other (fun e' => e (by injection e'))]
      show NdAt w' Z _ (updN M.N k (some nd) x)
      rw [updN_other _ _ _ e]
      exact (h.N x).kept hk2 (fun b cur hb _ => h.noAcl b cur hb)
  · by_cases e : x = k
    · subst e; exact hl
    · exact h.okk x (by have hx : updN M.N k (some nd) x ≠ none := hx; rw [updN_other _ _ _ e] at hx; exact hx)
/-- a session is laid -/
theorem TD.putS (h : TD Z w q M c D E) {i : Int} {s : Int × ByteArray} (hown : w'.ownsMap Try.prog 3 tok q.s (c + 1) (E.put (.int .i64 i) (.held (sessV s)))) (hk : Kept (fun j => j = q.s) w w') :
    TD Z w' q { M with S := updN M.S i (some s) } (c + 1) D (E.put (.int .i64 i) (.held (sessV s))) := by
  have hnt := h.nt
  have hk2 : Kept (TBs q) w w' := hk.mono (fun j _ e => .inr (.inr e))
  refine ⟨?_, ownsMap_kept (h.n.mono (Nat.le_succ c)) hk h.ns, fun x => (h.N x).kept hk2 (fun b cur hb _ => h.noAcl b cur hb), hown, fun x => ?_, h.ns, h.okk, h.inZ, fun j hj => h.new j (Nat.le_trans hk.size hj)⟩
  · rw [hk.block q.t (h.lt _ (.inl rfl)) (fun e => hnt.2 e.symm)]; exact h.at_
  · by_cases e : x = i
    · subst e
      rw [lookV_put_same h.s.isMap (by simp [WideAt.IsKeyLit])]
      show some (sessV s) = (updN M.S x (some s) x).map sessV
      rw [updN_same]; rfl
    · rw [lookV_put_other (fun e' => e (by injection e'))]
      show _ = (updN M.S i (some s) x).map sessV
      rw [updN_other _ _ _ e]; exact h.S x
theorem TD.look (h : TD Z w q M c D E) (k : List UInt8) : (∃ nd av, M.N k = some nd ∧ lookV D (.string k) = some (nodeV nd av) ∧ AclAt w Z av nd.acl) ∨ (M.N k = none ∧ lookV D (.string k) = none) := by
  have := h.N k
  cases hm : M.N k with
  | none =>
    rw [hm] at this
    cases hl : lookV D (.string k) with
    | none => exact .inr ⟨rfl, rfl⟩
    | some v => rw [hl] at this; exact this.elim
  | some nd =>
    rw [hm] at this
    cases hl : lookV D (.string k) with
    | none => rw [hl] at this; exact this.elim
    | some v =>
      rw [hl] at this
      obtain ⟨av, rfl, ha⟩ := this
      exact .inl ⟨nd, av, rfl, rfl, ha⟩
structure Three (w : World) (q : TB) (z : Int) : Prop where
  c0 : w.cell? ⟨q.t, 0, none⟩ = some (.map (some q.n))
  c1 : w.cell? ⟨q.t, 1, none⟩ = some (.map (some q.s))
  c2 : w.cell? ⟨q.t, 2, none⟩ = some (.int .i64 z)
  f : ∀ i, w.frozen? ⟨q.t, i, none⟩ = false
theorem TD.three (h : TD Z w q M c D E) : Three w q M.z := by
  have e : ∀ i, w.cell? ⟨q.t, i, none⟩ = ([.map (some q.n), .map (some q.s), .int .i64 M.z] : List Value)[i]? := fun i => by
    rw [cell_of_row w q.t i _ _ (0, 0) h.at_, ← Array.getElem?_toList]
  exact ⟨e 0, e 1, e 2, fun i => by simp [World.frozen?, h.at_]⟩
end
end Go.Proofs.Ytjlffmkiiphfcaa

namespace Go.Proofs.Ytjlffmkiiphfcaa
open Go.ChangeShapes Go.WideShapes Go.ChangeAt Go.RowKit Go.Maps
set_option linter.unusedVariables false
set_option linter.unusedSimpArgs false
/-- a slice's type, its elements' type, cells and bytes -/
structure RowTy (P : Program) (tS e : TypeId) (size bytes : Nat) : Prop where
  und : P.underlying tS = some (.slice e)
  inf : ∃ i z, P.info? e = some i ∧ i.zero = some z ∧ i.size = size ∧ i.bytes = bytes ∧ z.cells.size = size
  pos : 0 < size
theorem RowTy.of {P : Program} {tS e : TypeId} {size bytes : Nat} {z : Value} (und : P.underlying tS = some (.slice e)) (h : (P.info? e).map (fun i => (i.zero, i.size, i.bytes)) = some (some z, size, bytes)) (hz : z.cells.size = size) (pos : 0 < size) : RowTy P tS e size bytes := by
  refine ⟨und, ?_, pos⟩
  cases hi : P.info? e with
  | none => rw [hi] at h; cases h
  | some i =>
    rw [hi] at h
    simp only [Option.map_some, Option.some.injEq, Prod.mk.injEq] at h
    exact ⟨i, z, rfl, h.1, h.2.1, h.2.2, hz⟩
section
variable {P : Program} {w w' : World} {tS e : TypeId} {size bytes B n : Nat} {v : Value} {xs : List Value}
/-- append of whatever row -/
theorem run_app (R : RowTy P tS e size bytes) (ty : TypeId) (hown : w.ownsRow B e size v n xs) {a : Option Addr} {m c : Nat} {news : List Value} (hl : news.length = m * size)
    (hn : m = 0 ∨ ∃ g off, a = some ⟨g, off, none⟩ ∧ ∀ j u, news[j]? = some u → w.cell? ⟨g, off + j, none⟩ = some u) (h1 : ∀ u ∈ news, u.oneCell' = true)
    (h63 : n + m ≤ maxLen) (hbytes : (n + m) * bytes ≤ 140737488355328) (hbase : B ≤ w.heap.size) :
    ∃ v' w', (Builtin.append_ #[tS, tS] ty #[v, .slice a m c]).run P w = .ok v' w' ∧ w'.ownsRow B e size v' (n + m) (xs ++ news) ∧ w.grownBy w' v.ownBlock := by
  obtain ⟨i, z, hi, hz, hsize, hby, hzs⟩ := R.inf
  rcases hn with rfl | ⟨g, off, rfl, hc⟩
  · have hnil : news = [] := List.eq_nil_of_length_eq_zero (by simpa using hl)
    subst hnil
    have hs : Src P i.size tS (.slice a 0 c) 0 [] w := by
      cases a with
      | none => exact Src.ofNil w R.und c
      | some a => exact Src.ofSlice w R.und a 0 c [] (by simp) (fun j u hu => by simp at hu) (by simp)
    refine ⟨v, w, ?_, by simpa using hown, ⟨rfl, rfl, rfl, Nat.le_refl _, fun _ _ _ => rfl⟩⟩
    rcases hown.2 with ⟨rfl, _⟩ | ⟨g, cap, cur, rfl, hb, hh, hnc, hcm, hcs, htake⟩
    · exact run_append_nothing w tS tS ty e i R.und hi none 0 0 (Nat.le_refl _) (.slice a 0 c) hs
    · exact run_append_nothing w tS tS ty e i R.und hi (some ⟨g, 0, none⟩) n cap hnc (.slice a 0 c) hs
  · obtain ⟨v', w', hr, h2, h3, _⟩ := run_append_own (P := P) w B tS ty e i z size bytes R.und hi hz hsize hby hzs R.pos v n xs hown ⟨g, off, none⟩ m c news hl (fun j u hj => by rw [Addr.add_mid]; exact hc j u hj) h1 h63 hbytes hbase
    exact ⟨v', w', hr, h2, h3⟩
section
variable {ops : Array Oper} {rest : List Oper} {o : Oper} {a : Act} {Q : Exit → Act → World → Prop} {K : Act → World → Prop} {F : Prop}
/-- at a plain region -/
theorem wpList_rows (R : RowTy P tS e size bytes) (hgd : o.guard = none) (s x : Operand) (ho : o.op = .call { callee := .builtin .append, args := #[s, x], argTypes := #[tS, tS] })
    (hs : a.eval s = v) (hown : w.ownsRow B e size v n xs) (ad : Option Addr) (m c : Nat) (news : List Value) (hx : a.eval x = .slice ad m c) (hl : news.length = m * size)
    (hn : m = 0 ∨ ∃ g off, ad = some ⟨g, off, none⟩ ∧ ∀ j u, news[j]? = some u → w.cell? ⟨g, off + j, none⟩ = some u) (h1 : ∀ u ∈ news, u.oneCell' = true)
    (h63 : n + m ≤ maxLen) (hbytes : (n + m) * bytes ≤ 140737488355328) (hbase : B ≤ w.heap.size)
    (h : ∀ v' w', w'.ownsRow B e size v' (n + m) (xs ++ news) → w.grownBy w' v.ownBlock → wpList P ops Q rest (a.put o.dst v') w') : wpList P ops Q (o :: rest) a w := by
  refine wpList_plain hgd fun K hK => ?_
  obtain ⟨v', w', hr, h2, h3⟩ := run_app (P := P) R o.type hown (a := ad) (c := c) hl hn h1 h63 hbytes hbase
  unfold Oper.wp execOp
  simp only [ho, resolve, invoke, builtin, Sem.run_bind, Sem.run_pure, Result.andThen_ok, List.map_toArray, List.map_cons, List.map_nil, hs, hx, hr]
  exact hK _ _ (h v' w' h2 h3)
/-- at a region that draws -/
theorem step_rows (R : RowTy P tS e size bytes) (hgd : o.guard = none) (s x : Operand) (ho : o.op = .call { callee := .builtin .append, args := #[s, x], argTypes := #[tS, tS] })
    (hs : a.eval s = v) (hown : w.ownsRow B e size v n xs) (ad : Option Addr) (m c : Nat) (news : List Value) (hx : a.eval x = .slice ad m c) (hl : news.length = m * size)
    (hn : m = 0 ∨ ∃ g off, ad = some ⟨g, off, none⟩ ∧ ∀ j u, news[j]? = some u → w.cell? ⟨g, off + j, none⟩ = some u) (h1 : ∀ u ∈ news, u.oneCell' = true)
    (h63 : n + m ≤ maxLen) (hbytes : (n + m) * bytes ≤ 140737488355328) (hbase : B ≤ w.heap.size)
    (h : ∀ v' w', w'.ownsRow B e size v' (n + m) (xs ++ news) → w.grownBy w' v.ownBlock → K (a.put o.dst v') w') :
    if Region.wanted o (yielded ops a.tmps) = true then Oper.wp P o a w K Q else F := by
  have hw : Region.wanted o (yielded ops a.tmps) = true := by simp [Region.wanted, hgd]
  rw [if_pos hw]
  obtain ⟨v', w', hr, h2, h3⟩ := run_app (P := P) R o.type hown (a := ad) (c := c) hl hn h1 h63 hbytes hbase
  unfold Oper.wp execOp
  simp only [ho, resolve, invoke, builtin, Sem.run_bind, Sem.run_pure, Result.andThen_ok, List.map_toArray, List.map_cons, List.map_nil, hs, hx, hr]
  exact h v' w' h2 h3
theorem new_cells (w : World) (c1 : List Value) (e : TypeId) : ∀ j u, c1[j]? = some u → (w.alloc (.cells c1.toArray e)).cell? ⟨w.heap.size, 0 + j, none⟩ = some u := by
  intro j u hj
  rw [Nat.zero_add, cell_of_row _ w.heap.size j _ _ (0, 0) (heap_alloc_new w _), ← Array.getElem?_toList]; exact hj
/-- one more, just built -/
theorem wpList_row1 (R : RowTy P tS e size bytes) (hgd : o.guard = none) (s x : Operand) (ho : o.op = .call { callee := .builtin .append, args := #[s, x], argTypes := #[tS, tS] })
    (hs : a.eval s = v) (hown : w.ownsRow B e size v n xs) (c1 : List Value) (hx : a.eval x = .slice (some ⟨w.heap.size, 0, none⟩) 1 1) (hl : c1.length = size) (h1 : ∀ u ∈ c1, u.oneCell' = true)
    (hb : (n + 1) * bytes ≤ 140737488355328) (hm : n + 1 ≤ maxLen) (hbase : B ≤ w.heap.size)
    (h : ∀ v' w', w'.ownsRow B e size v' (n + 1) (xs ++ c1) → (w.alloc (.cells c1.toArray e)).grownBy w' v.ownBlock → wpList P ops Q rest (a.put o.dst v') w') : wpList P ops Q (o :: rest) a (w.alloc (.cells c1.toArray e)) :=
  wpList_rows R hgd s x ho hs (ownKept hown ((Kept.refl (fun _ => False) w).alloc _) (fun _ _ f => f)) (some ⟨w.heap.size, 0, none⟩) 1 1 c1 hx (by omega) (.inr ⟨_, _, rfl, new_cells w c1 e⟩) h1 hm hb (by simp; omega) h
theorem step_row1 (R : RowTy P tS e size bytes) (hgd : o.guard = none) (s x : Operand) (ho : o.op = .call { callee := .builtin .append, args := #[s, x], argTypes := #[tS, tS] })
    (hs : a.eval s = v) (hown : w.ownsRow B e size v n xs) (c1 : List Value) (hx : a.eval x = .slice (some ⟨w.heap.size, 0, none⟩) 1 1) (hl : c1.length = size) (h1 : ∀ u ∈ c1, u.oneCell' = true)
    (hb : (n + 1) * bytes ≤ 140737488355328) (hm : n + 1 ≤ maxLen) (hbase : B ≤ w.heap.size)
    (h : ∀ v' w', w'.ownsRow B e size v' (n + 1) (xs ++ c1) → (w.alloc (.cells c1.toArray e)).grownBy w' v.ownBlock → K (a.put o.dst v') w') :
    if Region.wanted o (yielded ops a.tmps) = true then Oper.wp P o a (w.alloc (.cells c1.toArray e)) K Q else F :=
  step_rows R hgd s x ho hs (ownKept hown ((Kept.refl (fun _ => False) w).alloc _) (fun _ _ f => f)) (some ⟨w.heap.size, 0, none⟩) 1 1 c1 hx (by omega) (.inr ⟨_, _, rfl, new_cells w c1 e⟩) h1 hm hb (by simp; omega) h
theorem step_row1d (R : RowTy P tS e size bytes) (hgd : o.guard = none) (s x : Operand) (ho : o.op = .call { callee := .builtin .append, args := #[s, x], argTypes := #[tS, tS] })
    (hs : a.eval s = v) (hown : w.ownsRow B e size v n xs) (c1 : List Value) (hx : a.eval x = .slice (some ⟨w.heap.size, 0, none⟩) 1 1) (hl : c1.length = size) (h1 : ∀ u ∈ c1, u.oneCell' = true)
    (hb : (n + 1) * bytes ≤ 140737488355328) (hm : n + 1 ≤ maxLen) (hbase : B ≤ w.heap.size)
    (h : ∀ v' w', w'.ownsRow B e size v' (n + 1) (xs ++ c1) → (w.alloc (.cells c1.toArray e)).drew.grownBy w' v.ownBlock → K (a.put o.dst v') w') :
    if Region.wanted o (yielded ops a.tmps) = true then Oper.wp P o a (w.alloc (.cells c1.toArray e)).drew K Q else F :=
  step_rows (w := (w.alloc (.cells c1.toArray e)).drew) R hgd s x ho hs (ownKept hown (((Kept.refl (fun _ => False) w).alloc _).drew) (fun _ _ f => f)) (some ⟨w.heap.size, 0, none⟩) 1 1 c1 hx (by omega) (.inr ⟨_, _, rfl, new_cells w c1 e⟩) h1 hm hb (by show B ≤ (w.alloc _).heap.size; simp; omega) h
end
theorem own_lo {w : World} (h : w.ownsRow B e size v n xs) {k : Nat} (hk : v.ownBlock = some k) : B ≤ k ∧ k < w.heap.size ∧ ∃ cur, w.heap[k]? = some (.cells cur e (0, 0)) := by
  rcases h.2 with ⟨rfl, _⟩ | ⟨g, cap, cur, rfl, hb, hh, r⟩
  · simp [Value.ownBlock] at hk
  · simp only [Value.ownBlock, Option.some.injEq] at hk
    subst hk
    exact ⟨hb, lt_of_block hh, _, hh⟩
theorem own_shape {w : World} (h : w.ownsRow B e size v n xs) : ∃ a cap, v = .slice a n cap := by
  rcases h.2 with ⟨rfl, rfl⟩ | ⟨g, cap, cur, rfl, hb, hh, r⟩
  · exact ⟨_, _, rfl⟩
  · exact ⟨_, _, rfl⟩
/-- what an append leaves: all but the row's own block -/
theorem kept_own {X : Nat → Prop} {w0 w w' : World} (h : Kept X w0 w) (hv : w.ownsRow B e size v n xs) (hB : w0.heap.size ≤ B) (hg : w.grownBy w' v.ownBlock) : Kept X w0 w' :=
  h.trans' (Kept.of_grownBy hg) (fun k hk e => by have := (own_lo hv e.symm).1; omega)
theorem kept_own1 {X : Nat → Prop} {w0 w w' : World} {ob : Obj} (h : Kept X w0 w) (hv : w.ownsRow B e size v n xs) (hB : w0.heap.size ≤ B) (hg : (w.alloc ob).grownBy w' v.ownBlock) : Kept X w0 w' :=
  (h.alloc ob).trans' (Kept.of_grownBy hg) (fun k hk e => by have := (own_lo hv e.symm).1; omega)
theorem kept_own1d {X : Nat → Prop} {w0 w w' : World} {ob : Obj} (h : Kept X w0 w) (hv : w.ownsRow B e size v n xs) (hB : w0.heap.size ≤ B) (hg : (w.alloc ob).drew.grownBy w' v.ownBlock) : Kept X w0 w' :=
  ((h.alloc ob).drew).trans' (Kept.of_grownBy hg) (fun k hk e => by have := (own_lo hv e.symm).1; omega)
/-- a cell of an owned row -/
theorem own_cell {w : World} (h : w.ownsRow B e size v n xs) : ∃ a cap, v = .slice a n cap ∧ ∀ j u, xs[j]? = some u → ∃ g, a = some ⟨g, 0, none⟩ ∧ B ≤ g ∧ g < w.heap.size ∧ w.cell? ⟨g, j, none⟩ = some u ∧ w.frozen? ⟨g, j, none⟩ = false := by
  have hl := h.1
  rcases h.2 with ⟨rfl, rfl⟩ | ⟨g, cap, cur, rfl, hb, hh, hnc, hcm, hcs, htake⟩
  · have hx : xs = [] := List.eq_nil_of_length_eq_zero (by simpa using hl)
    exact ⟨_, _, rfl, fun j u hj => by rw [hx] at hj; simp at hj⟩
  · refine ⟨_, _, rfl, fun j u hj => ⟨g, rfl, hb, lt_of_block hh, ?_, by simp [World.frozen?, hh]⟩⟩
    rw [cell_of_row w g j _ _ (0, 0) hh, ← Array.getElem?_toList]
    have hj' : j < xs.length := (List.getElem?_eq_some_iff.1 hj).1
    rw [← htake, List.getElem?_take] at hj
    split at hj
    · exact hj
    · cases hj
end
end Go.Proofs.Ytjlffmkiiphfcaa
