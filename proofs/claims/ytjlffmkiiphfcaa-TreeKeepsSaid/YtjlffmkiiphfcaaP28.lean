/- The law's part: what it answers, and how its named result lies. The law's part, its create ways: how the last region's worlds lie. -/
import Derived.Test.YtjlffmkiiphfcaaP24
import Derived.Test.YtjlffmkiiphfcaaP25
import Derived.Test.YtjlffmkiiphfcaaP26
import Derived.Test.YtjlffmkiiphfcaaP27
import Derived.IntWalk
import Derived.StillTailTactics
import Derived.Deep.RegionWith
namespace Go.Proofs.Ytjlffmkiiphfcaa
open Go.ChangeShapes Go.WideShapes Go.ChangeAt Go.RowKit Go.Maps
set_option linter.unusedVariables false
set_option linter.unusedSimpArgs false
abbrev actO (o : OpN) (v : Value) : Obj := .cells #[.int .i64 o.a, .int .i64 o.b, .int .i64 o.c, .string o.s, v] 81
structure ActB (w : World) (bb : Nat) (o : OpN) (v : Value) : Prop where
  a0 : w.cell? ⟨bb, 0, none⟩ = some (.int .i64 o.a)
  a1 : w.cell? ⟨bb, 1, none⟩ = some (.int .i64 o.b)
  a2 : w.cell? ⟨bb, 2, none⟩ = some (.int .i64 o.c)
  a3 : w.cell? ⟨bb, 3, none⟩ = some (.string o.s)
  a4 : w.cell? ⟨bb, 4, none⟩ = some v
theorem actB {w : World} {bb : Nat} {o : OpN} {v : Value} (h : w.heap[bb]? = some (actO o v)) : ActB w bb o v := by
  have c : ∀ i, w.cell? ⟨bb, i, none⟩ = ([.int .i64 o.a, .int .i64 o.b, .int .i64 o.c, .string o.s, v] : List Value)[i]? := fun i => by
    rw [cell_of_row w bb i _ _ (0, 0) h, ← Array.getElem?_toList]
  exact ⟨c 0, c 1, c 2, c 3, c 4⟩
/-- what the law's part answers -/
structure PartOk (R : RT) (x : T1) (y : TX) (ok : Bool) : Prop where
  kind : x.kind = 0 ∨ x.kind = 1 ∨ x.kind = 2 ∨ x.kind = 3 ∨ x.kind = 4
  owner : x.owner = 0 ∨ ∃ s ∈ R.S, s.id = x.owner
  err : y.err = 0
  subs : y.sa = none ∧ y.sn = 0 ∧ y.sc = 0
  kind0 : ok = true → x.kind ≠ 0
def LPartPost (w : World) (R : RT) (e : Ending) (w' : World) : Prop := ∃ x y ok, e = .returned (.tuple #[txnV x y, .bool ok]) ∧ TxW w' x y [] ∧ PartOk R x y ok ∧ Kept (fun _ => False) w w'
theorem txn_info : (Try.prog.info? 38).map (·.size) = some 8 := by kernel_rfl
theorem txnR_load {w : World} {g : Nat} {x : T1} {y : TX} (h : w.heap[g]? = some (.cells (txnL x y).toArray 38 (0, 0))) : (loadVar 38 ⟨g, 0, none⟩).run Try.prog w = .ok (txnV x y) w :=
  run_loadVar_row (P := Try.prog) _ g 38 38 _ (0, 0) _ h Try.underlying38 rfl txn_info
/-- a struct stored whole into a variable, at a region that draws -/
theorem step_store_row {P : Program} {ops : Array Oper} {op : Oper} {a : Act} {Q : Exit → Act → World → Prop} {K : Act → World → Prop} {F : Prop} (w : World) (hgd : op.guard = none) (ty : TypeId) (x y : Operand) (ho : op.op = .store ty x y)
    (g : Nat) (c : Array Value) (cs : List Value) (hx : a.eval x = .pointer (some ⟨g, 0, none⟩)) (hy : a.eval y = .agg cs.toArray) (hg : w.heap[g]? = some (.cells c ty (0, 0))) (hi : (P.info? ty).map (·.size) = some cs.length) (hc : c.size = cs.length) (h1 : ∀ v ∈ cs, v.oneCell' = true)
    (h : K (a.put op.dst undef) (w.setRow g cs.toArray)) : if Region.wanted op (yielded ops a.tmps) = true then Oper.wp P op a w K Q else F := by
  have hw : Region.wanted op (yielded ops a.tmps) = true := by simp [Region.wanted, hgd]
  rw [if_pos hw]
  unfold Oper.wp execOp
  simp only [ho, hx, hy, Instr.storeAt, Instr.sureAddr, Sem.run_bind, Sem.run_pure, Result.andThen_ok, run_storeVar_row (P := P) w g ty ty c cs.toArray hg (by simpa using hi) (by simpa using hc) (List.all_eq_true.2 (fun v hv => h1 v (by simpa using hv)) |> fun h => by simpa using h)]
  exact h
theorem txn8 {W : World} {g : Nat} {x : T1} {y : TX} (h : W.heap[g]? = some (txnO x y)) : W.cell? ⟨g, 0, none⟩ = some (.int .i64 x.kind) ∧ W.cell? ⟨g, 1, none⟩ = some (.string x.path) ∧ W.cell? ⟨g, 2, none⟩ = some (.string x.data) ∧ W.cell? ⟨g, 3, none⟩ = some (.slice y.aa y.an y.ac) ∧ W.cell? ⟨g, 4, none⟩ = some (.int .i64 x.owner) ∧ W.cell? ⟨g, 5, none⟩ = some (.int .i64 x.number) ∧ W.cell? ⟨g, 6, none⟩ = some (.int .i64 y.err) ∧ W.cell? ⟨g, 7, none⟩ = some (.slice y.sa y.sn y.sc) := by
  have c : ∀ i, W.cell? ⟨g, i, none⟩ = (txnL x y)[i]? := fun i => by
    rw [cell_of_row W g i _ _ (0, 0) h, ← Array.getElem?_toList]; rfl
  exact ⟨c 0, c 1, c 2, c 3, c 4, c 5, c 6, c 7⟩
def worldS : ByteArray := ⟨#[119, 111, 114, 108, 100]⟩
theorem acl_new {W : World} {g : Nat} {p : Int} {s : ByteArray} (h : W.heap[g]? = some (.cells #[.int .i64 p, .string s] 95 (0, 0))) : AclW W (.slice (some ⟨g, 0, none⟩) 1 1) [⟨p, s⟩] :=
  ⟨⟨rfl, .inr ⟨g, 1, _, rfl, Nat.zero_le _, h, Nat.le_refl _, by decide, rfl, rfl⟩⟩, by show 1 * 24 ≤ _; decide⟩
/-- the part stored into the named result -/
theorem fin_part {w w3 : World} {R : RT} {x : T1} {y : TX} {ok : Bool} {g : Nat} {c : Array Value} (hg : w.heap.size ≤ g) (hb : w3.heap[g]? = some (.cells c 38 (0, 0))) (hk : Kept (fun _ => False) w w3) (ha : AclW w3 (.slice y.aa y.an y.ac) x.acl) (hp : x.path.size ≤ 1000000) (ho : -9223372036854775808 ≤ x.owner ∧ x.owner ≤ 9223372036854775807) (hP : PartOk R x y ok) :
    LPartPost w R (.returned (.tuple #[txnV x y, .bool ok])) (w3.setRow g (txnL x y).toArray) := by
  have hk3 := setRow_kept w3 g (txnL x y).toArray
  refine ⟨x, y, ok, rfl, ⟨ha.kept hk3 (fun k cur hc e => ?_), ?_, hp, ho⟩, hP, kept_in hk3 hk hg⟩
  · subst e
    rw [hb] at hc
    simp at hc
  · rw [hP.subs.1, hP.subs.2.1, hP.subs.2.2]
    exact ⟨World.ownsRow_nil _ _ _ _, fun _ h => (List.not_mem_nil h).elim, fun _ h => (List.not_mem_nil h).elim, Nat.zero_le _⟩
/-- the named result as it stood, answered -/
theorem fin_none {w w3 : World} {R : RT} (hk : Kept (fun _ => False) w w3) : LPartPost w R (.returned (.tuple #[txnV ⟨0, ⟨#[]⟩, ⟨#[]⟩, [], 0, 0⟩ ⟨none, 0, 0, 0, none, 0, 0⟩, .bool false])) w3 :=
  ⟨_, _, false, rfl, ⟨AclW.nil _, ⟨World.ownsRow_nil _ _ _ _, fun _ h => (List.not_mem_nil h).elim, fun _ h => (List.not_mem_nil h).elim, Nat.zero_le _⟩, by decide, by decide⟩, ⟨.inl rfl, .inl rfl, rfl, ⟨rfl, rfl, rfl⟩, fun h => nomatch h⟩, hk⟩
theorem set8 {W : World} {g : Nat} {T : TypeId} {c0 c1 c2 c3 c4 c5 c6 c7 v0 v1 v2 v3 v4 v5 v6 v7 : Value} (h : W.heap[g]? = some (.cells #[c0, c1, c2, c3, c4, c5, c6, c7] T (0, 0))) :
    ((((((((W.setCell ⟨g, 0, none⟩ v0).setCell ⟨g, 1, none⟩ v1).setCell ⟨g, 2, none⟩ v2).setCell ⟨g, 3, none⟩ v3).setCell ⟨g, 4, none⟩ v4).setCell ⟨g, 5, none⟩ v5).setCell ⟨g, 6, none⟩ v6).setCell ⟨g, 7, none⟩ v7).heap[g]? = some (.cells #[v0, v1, v2, v3, v4, v5, v6, v7] T (0, 0)) := by
  have h0 := heap_set (c := [c0, c1, c2, c3, c4, c5, c6, c7]) (i := 0) v0 h
  have h1 := heap_set (c := [v0, c1, c2, c3, c4, c5, c6, c7]) (i := 1) v1 h0
  have h2 := heap_set (c := [v0, v1, c2, c3, c4, c5, c6, c7]) (i := 2) v2 h1
  have h3 := heap_set (c := [v0, v1, v2, c3, c4, c5, c6, c7]) (i := 3) v3 h2
  have h4 := heap_set (c := [v0, v1, v2, v3, c4, c5, c6, c7]) (i := 4) v4 h3
  have h5 := heap_set (c := [v0, v1, v2, v3, v4, c5, c6, c7]) (i := 5) v5 h4
  have h6 := heap_set (c := [v0, v1, v2, v3, v4, v5, c6, c7]) (i := 6) v6 h5
  exact heap_set (c := [v0, v1, v2, v3, v4, v5, v6, c7]) (i := 7) v7 h6
theorem kept8 {W : World} {g : Nat} (v0 v1 v2 v3 v4 v5 v6 v7 : Value) : Kept (fun k => k = g) W ((((((((W.setCell ⟨g, 0, none⟩ v0).setCell ⟨g, 1, none⟩ v1).setCell ⟨g, 2, none⟩ v2).setCell ⟨g, 3, none⟩ v3).setCell ⟨g, 4, none⟩ v4).setCell ⟨g, 5, none⟩ v5).setCell ⟨g, 6, none⟩ v6).setCell ⟨g, 7, none⟩ v7) := by
  have e0 := Kept.refl (fun k => k = g) W
  have e1 := e0.setCell (a := ⟨g, 0, none⟩) (.inl (show (⟨g, 0, none⟩ : Addr).block = g from rfl)) v0
  have e2 := e1.setCell (a := ⟨g, 1, none⟩) (.inl (show (⟨g, 1, none⟩ : Addr).block = g from rfl)) v1
  have e3 := e2.setCell (a := ⟨g, 2, none⟩) (.inl (show (⟨g, 2, none⟩ : Addr).block = g from rfl)) v2
  have e4 := e3.setCell (a := ⟨g, 3, none⟩) (.inl (show (⟨g, 3, none⟩ : Addr).block = g from rfl)) v3
  have e5 := e4.setCell (a := ⟨g, 4, none⟩) (.inl (show (⟨g, 4, none⟩ : Addr).block = g from rfl)) v4
  have e6 := e5.setCell (a := ⟨g, 5, none⟩) (.inl (show (⟨g, 5, none⟩ : Addr).block = g from rfl)) v5
  have e7 := e6.setCell (a := ⟨g, 6, none⟩) (.inl (show (⟨g, 6, none⟩ : Addr).block = g from rfl)) v6
  exact e7.setCell (a := ⟨g, 7, none⟩) (.inl (show (⟨g, 7, none⟩ : Addr).block = g from rfl)) v7
/-- a part that lies in the named result, with an ACL of its own -/
theorem fin_lies {w W : World} {R : RT} {x : T1} {y : TX} {ok : Bool} (hk : Kept (fun _ => False) w W) (ha : AclW W (.slice y.aa y.an y.ac) x.acl) (hp : x.path.size ≤ 1000000) (ho : -9223372036854775808 ≤ x.owner ∧ x.owner ≤ 9223372036854775807) (hP : PartOk R x y ok) :
    LPartPost w R (.returned (.tuple #[txnV x y, .bool ok])) W := by
  refine ⟨x, y, ok, rfl, ⟨ha, ?_, hp, ho⟩, hP, hk⟩
  rw [hP.subs.1, hP.subs.2.1, hP.subs.2.2]
  exact ⟨World.ownsRow_nil _ _ _ _, fun _ h => (List.not_mem_nil h).elim, fun _ h => (List.not_mem_nil h).elim, Nat.zero_le _⟩
/-- a part stored cell by cell into the named result, with an ACL of one row of its own -/
theorem fin_row {w wc : World} {R : RT} {g : Nat} {kind owner number : Int} {path data : ByteArray} {p : Int} {s : ByteArray} {ok : Bool} {x0 : T1} {y0 : TX} (hg : w.heap.size ≤ g) (hgw : g < wc.heap.size) (hb : wc.heap[g]? = some (txnO x0 y0)) (hk : Kept (fun _ => False) w wc) (hp : path.size ≤ 1000000) (ho : -9223372036854775808 ≤ owner ∧ owner ≤ 9223372036854775807)
    (hP : PartOk R ⟨kind, path, data, [⟨p, s⟩], owner, number⟩ ⟨some ⟨wc.heap.size, 0, none⟩, 1, 1, 0, none, 0, 0⟩ ok) {W N W8 : World} (hW : W = wc.alloc (.cells #[.int .i64 p, .string s] 95)) {v0 v1 v2 v3 v4 v5 v6 v7 : Value} (hv : [v0, v1, v2, v3, v4, v5, v6, v7] = txnL ⟨kind, path, data, [⟨p, s⟩], owner, number⟩ ⟨some ⟨wc.heap.size, 0, none⟩, 1, 1, 0, none, 0, 0⟩) (hN : N = ((((((((W.setCell ⟨g, 0, none⟩ v0).setCell ⟨g, 1, none⟩ v1).setCell ⟨g, 2, none⟩ v2).setCell ⟨g, 3, none⟩ v3).setCell ⟨g, 4, none⟩ v4).setCell ⟨g, 5, none⟩ v5).setCell ⟨g, 6, none⟩ v6).setCell ⟨g, 7, none⟩ v7)) (h8 : W8 = N.drew) :
    (loadVar 38 ⟨g, 0, none⟩).run Try.prog W8 = .ok (txnV ⟨kind, path, data, [⟨p, s⟩], owner, number⟩ ⟨some ⟨wc.heap.size, 0, none⟩, 1, 1, 0, none, 0, 0⟩) W8 ∧
    LPartPost w R (.returned (.tuple #[txnV ⟨kind, path, data, [⟨p, s⟩], owner, number⟩ ⟨some ⟨wc.heap.size, 0, none⟩, 1, 1, 0, none, 0, 0⟩, .bool ok])) W8 := by
  have hkW : Kept (fun _ => False) wc W := by rw [hW]; exact (Kept.refl _ wc).alloc _
  have hbW := box_kept0 hb hkW
  have ha : W.heap[wc.heap.size]? = some (.cells #[.int .i64 p, .string s] 95 (0, 0)) := by rw [hW]; exact heap_alloc_new wc _
  have hs : wc.heap.size < W.heap.size := lt_of_block ha
  have k8 : Kept (fun k => k = g) W W8 := by
    have e8 : Kept (fun k => k = g) W N := by rw [hN]; exact kept8 v0 v1 v2 v3 v4 v5 v6 v7
    rw [h8]; exact e8.drew
  have b8 : W8.heap[g]? = some (.cells (txnL ⟨kind, path, data, [⟨p, s⟩], owner, number⟩ ⟨some ⟨wc.heap.size, 0, none⟩, 1, 1, 0, none, 0, 0⟩).toArray 38 (0, 0)) := by
    rw [h8, World.heap_drew, hN, ← hv]; exact set8 hbW
  have a8 : W8.heap[wc.heap.size]? = some (.cells #[.int .i64 p, .string s] 95 (0, 0)) := by
    rw [k8.block _ hs (fun e => by omega)]; exact ha
  exact ⟨txnR_load b8, fin_lies (kept_in k8 (hk.trans hkW) hg) (acl_new a8) hp ho hP⟩
end Go.Proofs.Ytjlffmkiiphfcaa

namespace Go.Proofs.Ytjlffmkiiphfcaa
open Go.ChangeShapes Go.WideShapes Go.ChangeAt Go.RowKit Go.Maps
set_option linter.unusedVariables false
set_option linter.unusedSimpArgs false
/-- a variable of the transactions' type, whatever it holds -/
def TxRow (w : World) (g : Nat) : Prop := ∃ c : Array Value, w.heap[g]? = some (.cells c 38 (0, 0)) ∧ c.size = 8
theorem TxRow.drew {w : World} {g : Nat} (h : TxRow w g) : TxRow w.drew g := h
theorem TxRow.kept0 {w w1 : World} {g : Nat} (h : TxRow w g) (hk : Kept (fun _ => False) w w1) : TxRow w1 g := by
  obtain ⟨c, hc, hs⟩ := h
  exact ⟨c, box_kept0 hc hk, hs⟩
theorem TxRow.alloc {w : World} {g : Nat} (h : TxRow w g) (o : Obj) : TxRow (w.alloc o) g := h.kept0 ((Kept.refl _ w).alloc o)
theorem TxRow.set {w : World} {g : Nat} (h : TxRow w g) (cs : Array Value) : (w.setRow g cs).heap[g]? = some (.cells cs 38 (0, 0)) := by
  obtain ⟨c, hc, hs⟩ := h
  exact setRow_heap _ _ _ _ _ _ hc
theorem TxRow.setRow {w : World} {g : Nat} (h : TxRow w g) (cs : Array Value) (hs : cs.size = 8) : TxRow (w.setRow g cs) g := ⟨cs, h.set cs, hs⟩
theorem Kept.thru {S : Nat → Prop} {a b c : World} (h : Kept S a b) (k : Kept (fun _ => False) b c) : Kept S a c := h.trans' k fun _ _ f => f.elim
theorem Kept.row {S : Nat → Prop} {a b : World} {g : Nat} (h : Kept S a b) (hS : S g) (cs : Array Value) : Kept S a (b.setRow g cs) := h.trans' (setRow_kept b g cs) fun k _ e => by
  have e : k = g := e
  rw [e]; exact hS
theorem row_drew {w : World} {A : Nat} {o : Obj} (h : w.heap[A]? = some o) : w.drew.heap[A]? = some o := h
theorem row_aside {w : World} {A g : Nat} {c cs : Array Value} (ht : TxRow w g) (h : w.heap[A]? = some (.cells c 95 (0, 0))) : (w.setRow g cs).heap[A]? = some (.cells c 95 (0, 0)) := by
  rw [setRow_other]
  · exact h
  · intro e
    subst e
    obtain ⟨d, hd, _⟩ := ht
    rw [hd] at h
    simp at h
theorem storeVar_txn (w : World) (g : Nat) (k ow n e : Int) (p d : ByteArray) (aa sa : Option Addr) (an ac sn sc : Nat) (h : TxRow w g) :
    (storeVar 38 ⟨g, 0, none⟩ (.agg #[.int .i64 k, .string p, .string d, .slice aa an ac, .int .i64 ow, .int .i64 n, .int .i64 e, .slice sa sn sc])).run Try.prog w = .ok () (w.setRow g #[.int .i64 k, .string p, .string d, .slice aa an ac, .int .i64 ow, .int .i64 n, .int .i64 e, .slice sa sn sc]) := by
  obtain ⟨c, hc, hs⟩ := h
  exact run_storeVar_row (P := Try.prog) w g 38 38 c #[.int .i64 k, .string p, .string d, .slice aa an ac, .int .i64 ow, .int .i64 n, .int .i64 e, .slice sa sn sc] hc txn_info hs (by simp [Value.oneCell'])
theorem storeAt_txn (w : World) (g : Nat) (k ow n e : Int) (p d : ByteArray) (aa sa : Option Addr) (an ac sn sc : Nat) (h : TxRow w g) :
    (Instr.storeAt 38 (.pointer (some ⟨g, 0, none⟩)) (.agg #[.int .i64 k, .string p, .string d, .slice aa an ac, .int .i64 ow, .int .i64 n, .int .i64 e, .slice sa sn sc])).run Try.prog w = .ok () (w.setRow g #[.int .i64 k, .string p, .string d, .slice aa an ac, .int .i64 ow, .int .i64 n, .int .i64 e, .slice sa sn sc]) := by
  simp only [Instr.storeAt, Instr.sureAddr, Sem.run_bind, Sem.run_pure, Result.andThen_ok, storeVar_txn w g k ow n e p d aa sa an ac sn sc h]
theorem TxRow.open {w : World} {g : Nat} (h : TxRow w g) : ∃ c0 c1 c2 c3 c4 c5 c6 c7, w.heap[g]? = some (.cells #[c0, c1, c2, c3, c4, c5, c6, c7] 38 (0, 0)) := by
  obtain ⟨⟨l⟩, hc, hs⟩ := h
  obtain _ | ⟨c0, _ | ⟨c1, _ | ⟨c2, _ | ⟨c3, _ | ⟨c4, _ | ⟨c5, _ | ⟨c6, _ | ⟨c7, _ | ⟨c8, l⟩⟩⟩⟩⟩⟩⟩⟩⟩ := l <;> simp at hs
  exact ⟨c0, c1, c2, c3, c4, c5, c6, c7, hc⟩
theorem TxRow.cells {w : World} {g : Nat} (h : TxRow w g) : ∃ c0 c1 c2 c3 c4 c5 c6 c7, w.cell? ⟨g, 0, none⟩ = some c0 ∧ w.cell? ⟨g, 1, none⟩ = some c1 ∧ w.cell? ⟨g, 2, none⟩ = some c2 ∧ w.cell? ⟨g, 3, none⟩ = some c3 ∧ w.cell? ⟨g, 4, none⟩ = some c4 ∧ w.cell? ⟨g, 5, none⟩ = some c5 ∧ w.cell? ⟨g, 6, none⟩ = some c6 ∧ w.cell? ⟨g, 7, none⟩ = some c7 ∧ ∀ j, w.frozen? ⟨g, j, none⟩ = false := by
  obtain ⟨c0, c1, c2, c3, c4, c5, c6, c7, hg⟩ := h.open
  have c : ∀ i, w.cell? ⟨g, i, none⟩ = ([c0, c1, c2, c3, c4, c5, c6, c7] : List Value)[i]? := fun i => by
    rw [cell_of_row w g i _ _ (0, 0) hg, ← Array.getElem?_toList]
  exact ⟨c0, c1, c2, c3, c4, c5, c6, c7, c 0, c 1, c 2, c 3, c 4, c 5, c 6, c 7, fun j => by simp [World.frozen?, hg]⟩
theorem TxRow.set8 {W : World} {g : Nat} (h : TxRow W g) (v0 v1 v2 v3 v4 v5 v6 v7 : Value) : ((((((((W.setCell ⟨g, 0, none⟩ v0).setCell ⟨g, 1, none⟩ v1).setCell ⟨g, 2, none⟩ v2).setCell ⟨g, 3, none⟩ v3).setCell ⟨g, 4, none⟩ v4).setCell ⟨g, 5, none⟩ v5).setCell ⟨g, 6, none⟩ v6).setCell ⟨g, 7, none⟩ v7).heap[g]? = some (.cells #[v0, v1, v2, v3, v4, v5, v6, v7] 38 (0, 0)) := by
  obtain ⟨c0, c1, c2, c3, c4, c5, c6, c7, hg⟩ := h.open
  exact Go.Proofs.Ytjlffmkiiphfcaa.set8 hg
theorem TxRow.chain {W : World} {g : Nat} (h : TxRow W g) (v0 v1 v2 v3 v4 v5 v6 v7 : Value) : TxRow ((((((((W.setCell ⟨g, 0, none⟩ v0).setCell ⟨g, 1, none⟩ v1).setCell ⟨g, 2, none⟩ v2).setCell ⟨g, 3, none⟩ v3).setCell ⟨g, 4, none⟩ v4).setCell ⟨g, 5, none⟩ v5).setCell ⟨g, 6, none⟩ v6).setCell ⟨g, 7, none⟩ v7) g := ⟨_, h.set8 v0 v1 v2 v3 v4 v5 v6 v7, rfl⟩
theorem Kept.chain {a W : World} {g : Nat} (h : Kept (fun k => k = g) a W) (v0 v1 v2 v3 v4 v5 v6 v7 : Value) : Kept (fun k => k = g) a ((((((((W.setCell ⟨g, 0, none⟩ v0).setCell ⟨g, 1, none⟩ v1).setCell ⟨g, 2, none⟩ v2).setCell ⟨g, 3, none⟩ v3).setCell ⟨g, 4, none⟩ v4).setCell ⟨g, 5, none⟩ v5).setCell ⟨g, 6, none⟩ v6).setCell ⟨g, 7, none⟩ v7) := h.trans (kept8 v0 v1 v2 v3 v4 v5 v6 v7)
theorem row_chain {W : World} {A g : Nat} {c : Array Value} (ht : TxRow W g) (h : W.heap[A]? = some (.cells c 95 (0, 0))) (v0 v1 v2 v3 v4 v5 v6 v7 : Value) : ((((((((W.setCell ⟨g, 0, none⟩ v0).setCell ⟨g, 1, none⟩ v1).setCell ⟨g, 2, none⟩ v2).setCell ⟨g, 3, none⟩ v3).setCell ⟨g, 4, none⟩ v4).setCell ⟨g, 5, none⟩ v5).setCell ⟨g, 6, none⟩ v6).setCell ⟨g, 7, none⟩ v7).heap[A]? = some (.cells c 95 (0, 0)) := by
  rw [(kept8 (W := W) (g := g) v0 v1 v2 v3 v4 v5 v6 v7).block A (lt_of_block h)]
  · exact h
  · intro e
    have e : A = g := e
    subst e
    obtain ⟨d, hd, _⟩ := ht
    rw [hd] at h
    simp at h
theorem upon_pass {P : Program} {o : Oper} {a : Act} {K : Act → World → Prop} {Q : Exit → Act → World → Prop} {r : Result Next} (h : o.upon P a K Q r) : o.upon P a K Q r := h
/-- the end of a create way -/
theorem fin_gen {w we Wf : World} {R : RT} {g A : Nat} {x : T1} {p : Int} {s : ByteArray} {ok : Bool} (hx : x.acl = [⟨p, s⟩]) (hg : w.heap.size ≤ g) (hk : Kept (fun _ => False) w we) (hf : Kept (fun k => k = g) we Wf) (hrow : Wf.heap[A]? = some (.cells #[.int .i64 p, .string s] 95 (0, 0)))
    (hp : x.path.size ≤ 1000000) (ho : -9223372036854775808 ≤ x.owner ∧ x.owner ≤ 9223372036854775807) (hP : PartOk R x ⟨some ⟨A, 0, none⟩, 1, 1, 0, none, 0, 0⟩ ok) :
    LPartPost w R (.returned (.tuple #[txnV x ⟨some ⟨A, 0, none⟩, 1, 1, 0, none, 0, 0⟩, .bool ok])) Wf := by
  refine ⟨x, _, ok, rfl, ⟨?_, ⟨World.ownsRow_nil _ _ _ _, fun _ h => (List.not_mem_nil h).elim, fun _ h => (List.not_mem_nil h).elim, Nat.zero_le _⟩, hp, ho⟩, hP, kept_in hf hk hg⟩
  rw [hx]
  exact acl_new hrow
end Go.Proofs.Ytjlffmkiiphfcaa
