/- setAcl. Events put behind one another; remove. remove. -/
import Derived.Test.YtenbdoceaabecaaGreatP05
import Derived.Maps.OwnSet
import Derived.Deep.DeepCutAuto
namespace Go.Proofs.YtenbdoceaabecaaGreat
open Go.ChangeShapes Go.WideShapes Go.ChangeAt Go.RowKit Go.Maps
set_option linter.unusedVariables false
set_option linter.unusedSimpArgs false
section
variable {Z : Nat → Prop} {w w' : World} {q : TB} {M : TM} {c : Nat} {D E : DV}
theorem AclAt.keptO {X : Nat → Prop} {av : Value} {l : List AR} (h : AclAt w Z av l) (hk : Kept X w w') (hx : ∀ k, av.ownBlock = some k → ¬ X k) : AclAt w' Z av l := ⟨ownKept h.1 hk hx, h.2⟩
theorem own_ge {B n m : Nat} {e : TypeId} {v : Value} {xs : List Value} (h : w.ownsRow B e n v m xs) {k : Nat} (hk : v.ownBlock = some k) : B ≤ k := by
  rcases h.2 with ⟨hv, h0⟩ | ⟨g, cap, cur, rfl, hb, hh, r⟩
  · rw [hv] at hk; cases hk
  · have : some g = some k := hk
    injection this with e; exact e ▸ hb
theorem own_ne {B b n m : Nat} {e : TypeId} {v : Value} {xs : List Value} (h : w.ownsRow B e n v m xs) (hb : b < B) : ∀ k, v.ownBlock = some k → ¬ k = b := fun k hk e => by
  have := own_ge h hk
  omega
structure Eleven (w : World) (b : Nat) (d : ByteArray) (va : Option Addr) (vn vc : Nat) (s : St) : Prop where
  n0 : w.cell? ⟨b, 0, none⟩ = some (.string d)
  n1 : w.cell? ⟨b, 1, none⟩ = some (.slice va vn vc)
  n2 : w.cell? ⟨b, 2, none⟩ = some (.int .i64 s.cz)
  n3 : w.cell? ⟨b, 3, none⟩ = some (.int .i64 s.mz)
  n4 : w.cell? ⟨b, 4, none⟩ = some (.int .i64 s.pz)
  n5 : w.cell? ⟨b, 5, none⟩ = some (.int .i64 s.ver)
  n6 : w.cell? ⟨b, 6, none⟩ = some (.int .i64 s.cver)
  n7 : w.cell? ⟨b, 7, none⟩ = some (.int .i64 s.aver)
  n8 : w.cell? ⟨b, 8, none⟩ = some (.int .i64 s.owner)
  n9 : w.cell? ⟨b, 9, none⟩ = some (.int .i64 0)
  n10 : w.cell? ⟨b, 10, none⟩ = some (.int .i64 0)
  f : ∀ i, w.frozen? ⟨b, i, none⟩ = false
theorem eleven {b : Nat} {d : ByteArray} {va : Option Addr} {vn vc : Nat} {s : St} (h : w.heap[b]? = some (nodeO d va vn vc s)) : Eleven w b d va vn vc s := by
  have e : ∀ i, w.cell? ⟨b, i, none⟩ = ([.string d, .slice va vn vc, .int .i64 s.cz, .int .i64 s.mz, .int .i64 s.pz, .int .i64 s.ver, .int .i64 s.cver, .int .i64 s.aver, .int .i64 s.owner, .int .i64 0, .int .i64 0] : List Value)[i]? := fun i => by
    rw [cell_of_row w b i _ _ (0, 0) h, ← Array.getElem?_toList]
  exact ⟨e 0, e 1, e 2, e 3, e 4, e 5, e 6, e 7, e 8, e 9, e 10, fun i => by simp [World.frozen?, h]⟩
theorem node_acl {b : Nat} {d : ByteArray} {va : Option Addr} {vn vc : Nat} {s : St} (h : w.heap[b]? = some (nodeO d va vn vc s)) (va' : Option Addr) (vn' vc' : Nat) (n : Int) :
    ((w.setCell ⟨b, 1, none⟩ (.slice va' vn' vc')).setCell ⟨b, 7, none⟩ (.int .i64 n)).heap[b]? = some (nodeO d va' vn' vc' { s with aver := n }) := by
  have h1 := heap_set (c := [.string d, .slice va vn vc, .int .i64 s.cz, .int .i64 s.mz, .int .i64 s.pz, .int .i64 s.ver, .int .i64 s.cver, .int .i64 s.aver, .int .i64 s.owner, .int .i64 0, .int .i64 0]) (i := 1) (.slice va' vn' vc') h
  exact heap_set (c := [.string d, .slice va' vn' vc', .int .i64 s.cz, .int .i64 s.mz, .int .i64 s.pz, .int .i64 s.ver, .int .i64 s.cver, .int .i64 s.aver, .int .i64 s.owner, .int .i64 0, .int .i64 0]) (i := 7) (.int .i64 n) h1
theorem other_set {b b' i j : Nat} (hne : b ≠ b') (u v : Value) : ((w.setCell ⟨b', i, none⟩ u).setCell ⟨b', j, none⟩ v).heap[b]? = w.heap[b]? := by
  rw [Below.heap_setCell _ _ _ _ (fun e => hne (by simpa using e)), Below.heap_setCell _ _ _ _ (fun e => hne (by simpa using e))]
set_option maxRecDepth 100000 in
set_option maxHeartbeats 1000000 in
theorem setAcl_any (h : TAt Z w q M c) (x : T1) (y : TX) (hv : AclIn w (.slice y.aa y.an y.ac) x.acl) (hp : x.path.size ≤ 140737488355328) (hc : c < 4611686018427387904) :
    Calls Tryz.prog 120 #[.pointer (some ⟨q.t, 0, none⟩), txnV x y] w fun e w' => e = .returned (.tuple #[]) ∧ TAt Z w' q (aclM M x) (c + 1) ∧ Kept (TBs q) w w' := by
  obtain ⟨D, E, h⟩ := h
  unfold txnV txnL
  have HD := Lib.hid h
  have hlt := h.lt _ (.inl rfl)
  obtain ⟨c0, c1, c2, f⟩ := h.three
  have hk1 : Kept (fun _ => False) w (w.alloc (txnO x y)).drew := ((Kept.refl _ w).alloc _).drew
  have hk2 : Kept (fun _ => False) w ((w.alloc (txnO x y)).alloc (nodeO ⟨#[]⟩ none 0 0 ⟨0, 0, 0, 0, 0, 0, 0⟩)).drew := (((Kept.refl _ w).alloc _).alloc _).drew
  rcases h.look x.path.data.toList with ⟨nd, av, hM, hL, ha⟩ | ⟨hM, hL⟩
  · obtain ⟨va, vn, vc, rfl⟩ := ha.shape
    have hrun := (h.kept0 hk1).lookNode x.path hp
    have hrun' := (h.kept0 hk2).lookNode x.path hp
    rw [hL] at hrun hrun'
    simp only [Option.getD_some, Option.isSome_some, nodeV] at hrun hrun'
    have HE : Hid (aclM M x = { M with N := updN M.N x.path.data.toList (some { nd with acl := x.acl, st := { nd.st with aver := x.number } }) }) := Lib.hid (by unfold aclM; rw [hM])
    have hk3 : Kept (fun _ => False) w ((w.alloc (txnO x y)).alloc (nodeO nd.data va vn vc nd.st)).drew.drew := (((Kept.refl _ w).alloc _).alloc _).drew.drew
    have HK3 := Lib.hid hk3
    have HV := Lib.hid (hv.kept hk3 (fun _ _ _ _ f => f))
    have HD3 := Lib.hid (h.kept0 hk3)
    have HB : Hid (((w.alloc (txnO x y)).alloc (nodeO nd.data va vn vc nd.st)).drew.drew.heap[w.heap.size]? = some (txnO x y)) := Lib.hid ((Below.heap_alloc _ _ _ (by simp)).trans (heap_alloc_new w _))
    have HN : Hid (((w.alloc (txnO x y)).alloc (nodeO nd.data va vn vc nd.st)).drew.drew.heap[w.heap.size + 1]? = some (nodeO nd.data va vn vc nd.st)) := Lib.hid (by have := heap_alloc_new (w.alloc (txnO x y)) (nodeO nd.data va vn vc nd.st); rw [show (w.alloc (txnO x y)).heap.size = w.heap.size + 1 by simp] at this; exact this)
    have hl := h.okk x.path.data.toList (by rw [hM]; exact fun e => nomatch e)
    clear h hL hk1 hk2 hk3 ha hM hv
    go_enter Tryz.func120, Tryz.ntmps120
    go_wp2
    go_region
    all_goals (
      go_wp2
      generalize ((w.alloc (txnO x y)).alloc (nodeO nd.data va vn vc nd.st)).drew = w2 at HK3 HV HD3 HB HN ⊢
      have e3 : w2.drew.cell? ⟨w.heap.size, 3, none⟩ = some (.slice y.aa y.an y.ac) := cell_kept (X := fun _ => False) (Kept.refl _ _) HB.out (fun f => f) 3 rfl
      have e5 : w2.drew.cell? ⟨w.heap.size, 5, none⟩ = some (.int .i64 x.number) := cell_kept (X := fun _ => False) (Kept.refl _ _) HB.out (fun f => f) 5 rfl
      clear c0 c1 c2 f hrun hrun'
      go_region_held3 (fun w' => w'.cell? ⟨w.heap.size, 3, none⟩ = some (.slice y.aa y.an y.ac) ∧ w'.cell? ⟨w.heap.size, 5, none⟩ = some (.int .i64 x.number))
        (first | assumption | go_keep)
        (first
          | (go_at_call 79; with_reducible refine (clone_any HV.out).mono ?_; rintro e w5 ⟨v', rfl, hown, hk5⟩; have ha5 := aclAt_new hown HD3.out.new HV.out.room; obtain ⟨va', vn', vc', rfl⟩ := ha5.shape; have HG : Hid (∀ k, (Value.slice va' vn' vc').ownBlock = some k → ¬ k = w.heap.size + 1) := Lib.hid (own_ne hown (lt_of_block HN.out)); have hn5 := (hk5.block _ (lt_of_block HN.out) (fun f => f)).trans HN.out; have hb5 := (hk5.block _ (lt_of_block HB.out) (fun f => f)).trans HB.out; have HA5 := Lib.hid ha5; have HN5 := Lib.hid hn5; have HB5 := Lib.hid hb5; have HK5 := Lib.hid hk5; obtain ⟨n0, n1, n2, n3, n4, n5, n6, n7, n8, n9, n10, nf⟩ := eleven hn5; clear e3 e5 ha5 hn5 hown; have e3 : w5.cell? ⟨w.heap.size, 3, none⟩ = some (.slice y.aa y.an y.ac) := cell_kept (X := fun _ => False) (Kept.refl _ _) hb5 (fun f => f) 3 rfl; have e5 : w5.cell? ⟨w.heap.size, 5, none⟩ = some (.int .i64 x.number) := cell_kept (X := fun _ => False) (Kept.refl _ _) hb5 (fun f => f) 5 rfl; clear hb5 hk5))
      all_goals (
        go_wp2_with fail
        have hk5 : Kept (fun k => k = w.heap.size + 1) w5 ((w5.setCell ⟨w.heap.size + 1, 1, none⟩ (.slice va' vn' vc')).setCell ⟨w.heap.size + 1, 7, none⟩ (.int .i64 x.number)) := (kept_set w5 (w.heap.size + 1) 1 _).setCell (a := ⟨w.heap.size + 1, 7, none⟩) (.inl rfl) _
        have hk6 := (kept_in hk5 (HK3.out.trans HK5.out) (Nat.le_succ _)).drew
        have hn6 := node_acl HN5.out va' vn' vc' x.number
        have hb6 := (other_set (w := w5) (b := w.heap.size) (b' := w.heap.size + 1) (i := 1) (j := 7) (by omega) (.slice va' vn' vc') (.int .i64 x.number)).trans HB5.out
        have ha6 := (HA5.out.keptO hk5 HG.out).kept0 ((Kept.refl (fun _ => False) _).drew)
        generalize ((w5.setCell ⟨w.heap.size + 1, 1, none⟩ (.slice va' vn' vc')).setCell ⟨w.heap.size + 1, 7, none⟩ (.int .i64 x.number)) = w6 at hk5 hk6 hn6 hb6 ha6 ⊢
        clear n0 n1 n2 n3 n4 n5 n6 n7 n8 n9 n10 nf e3 e5
        have hT6 := HD.out.kept0 hk6
        obtain ⟨n0, n1, n2, n3, n4, n5, n6, n7, n8, n9, n10, nf⟩ := eleven (w := w6.drew) hn6
        have e1 : w6.drew.cell? ⟨w.heap.size, 1, none⟩ = some (.string x.path) := cell_kept (X := fun _ => False) (Kept.refl _ _) (w := w6.drew) hb6 (fun f => f) 1 rfl
        have c0 := hT6.three.c0
        obtain ⟨W, hst, hT, hK⟩ := hT6.storeN x.path hp hl hc (nd := { nd with acl := x.acl, st := { nd.st with aver := x.number } }) ha6
        simp only [nodeV] at hst
        have HT := Lib.hid hT
        have HK := Lib.hid ((hk6.mono (T := TBs q) (fun _ _ f => f.elim)).trans hK)
        clear hT hK ha6 hn6 hb6 hk6 hk5 hT6
        go_region
        all_goals (
          go_wp2
          go_end0
          rw [HE.out]
          exact ⟨rfl, HT.out, HK.out⟩)))
  · have hrun := (h.kept0 hk1).lookNode x.path hp
    have hrun' := (h.kept0 hk2).lookNode x.path hp
    rw [hL] at hrun hrun'
    simp only [Option.getD_none, Option.isSome_none, node0, empty_eq] at hrun hrun'
    have HE : Hid (aclM M x = M) := Lib.hid (by unfold aclM; rw [hM])
    clear h hL hk1 hk2 hM
    go_enter Tryz.func120, Tryz.ntmps120
    go_wp2
    go_region
    all_goals go_wp2
    all_goals refine bodyPost_ret (results_none rfl _ _ _) rfl ?_
    all_goals rw [HE.out]
    all_goals exact ⟨rfl, TAt.mono ⟨_, _, HD.out.kept0 (((Kept.refl _ w).alloc _).alloc _).drew⟩ (Nat.le_succ _), (((Kept.refl _ w).alloc _).alloc _).drew⟩
end
end Go.Proofs.YtenbdoceaabecaaGreat

namespace Go.Proofs.YtenbdoceaabecaaGreat
open Go.ChangeShapes Go.WideShapes Go.ChangeAt Go.RowKit Go.Maps
set_option linter.unusedVariables false
set_option linter.unusedSimpArgs false
theorem ev_info : (Tryz.prog.info? 75).map (fun i => (i.zero, i.size, i.bytes)) = some (some (.agg #[.int .i64 0, .string ByteArray.empty, .int .i64 0]), 3, 32) := by kernel_rfl
theorem evsC_one (l : List Ev) : ∀ u ∈ evsC l, u.oneCell' = true := by
  intro u hu
  obtain ⟨r, _, hr⟩ := List.mem_flatMap.1 hu
  simp only [List.mem_cons, List.not_mem_nil, or_false] at hr
  rcases hr with rfl | rfl | rfl <;> rfl
theorem evsC_app (l m : List Ev) : evsC (l ++ m) = evsC l ++ evsC m := List.flatMap_append
theorem wpList_evs {w : World} {ops : Array Oper} {rest : List Oper} {o : Oper} {a : Act} {Q : Exit → Act → World → Prop} (hgd : o.guard = none) (s x : Operand)
    (ho : o.op = .call { callee := .builtin .append, args := #[s, x], argTypes := #[45, 45] }) (B : Nat) (v : Value) (l : List Ev) (hs : a.eval s = v) (hown : EvsAt B w v l)
    (ad : Addr) (c : Nat) (l2 : List Ev) (hx : a.eval x = .slice (some ad) l2.length c) (hnews : ∀ j u, (evsC l2)[j]? = some u → w.cell? (ad.add j) = some u) (hb : l.length + l2.length ≤ 1000000000) (hB : B ≤ w.heap.size)
    (h : ∀ v' w', EvsAt B w' v' (l ++ l2) → w.grownBy w' v.ownBlock → wpList Tryz.prog ops Q rest (a.put o.dst v') w') : wpList Tryz.prog ops Q (o :: rest) a w := by
  obtain ⟨i0, hi, hz0, hz1, hz2⟩ := info_parts ev_info
  refine wpList_append_own w hgd s x 45 ho B 75 i0 _ 3 32 Tryz.underlying45 hi hz0 hz1 hz2 rfl (by decide) v l.length (evsC l) hs hown ad l2.length c (evsC l2) hx (evsC_len l2) hnews (evsC_one l2) (by unfold maxLen; omega) (by omega) hB ?_
  intro v' w' h1 h2 _
  refine h v' w' ?_ h2
  unfold EvsAt
  rw [List.length_append, evsC_app]; exact h1
/-- a row just made -/
theorem cells_new {w : World} {l : List Ev} : ∀ j u, (evsC l)[j]? = some u → (w.alloc (.cells (evsC l).toArray 75)).cell? ((⟨w.heap.size, 0, none⟩ : Addr).add j) = some u := by
  intro j u hj
  rw [show (⟨w.heap.size, 0, none⟩ : Addr).add j = ⟨w.heap.size, j, none⟩ by cases j <;> simp [Addr.add]]
  rw [cell_of_row _ w.heap.size j _ _ (0, 0) (heap_alloc_new w _)]; simpa using hj
section
variable {Z : Nat → Prop} {w w' : World} {q : TB} {M : TM} {c : Nat} {D E : DV}
theorem TD.keptX {X : Nat → Prop} (h : TD Z w q M c D E) (hk : Kept X w w') (hb : ∀ k, TBs q k → ¬ X k) (ha : ∀ k cur, w.heap[k]? = some (.cells cur 89 (0, 0)) → ¬ X k) : TD Z w' q M c D E := by
  have hlt := h.lt
  refine ⟨?_, ownsMap_kept h.n hk (hb _ (.inr (.inl rfl))), fun k => (h.N k).kept hk (fun b cur hb _ => ha b cur hb), ownsMap_kept h.s hk (hb _ (.inr (.inr rfl))), h.S, h.ns, h.okk, h.inZ, fun k hk' => h.new k (Nat.le_trans hk.size hk')⟩
  rw [hk.block q.t (hlt _ (.inl rfl)) (hb _ (.inl rfl))]; exact h.at_
theorem TAt.keptX {X : Nat → Prop} (h : TAt Z w q M c) (hk : Kept X w w') (hb : ∀ k, TBs q k → ¬ X k) (ha : ∀ k cur, w.heap[k]? = some (.cells cur 89 (0, 0)) → ¬ X k) : TAt Z w' q M c := by
  obtain ⟨D, E, h⟩ := h; exact ⟨D, E, h.keptX hk hb ha⟩
theorem evs_block {B : Nat} {v : Value} {l : List Ev} (h : EvsAt B w v l) {k : Nat} (hk : v.ownBlock = some k) : B ≤ k ∧ ∃ cur, w.heap[k]? = some (.cells cur 75 (0, 0)) := by
  rcases h.2 with ⟨hv, h0⟩ | ⟨g, cap, cur, rfl, hb, hh, r⟩
  · rw [hv] at hk; cases hk
  · have : some g = some k := hk
    injection this with e; exact e ▸ ⟨hb, cur, hh⟩
/-- events are put behind events: the tree is as it was -/
theorem TAt.app {B : Nat} {v : Value} {l : List Ev} (h : TAt Z w q M c) (hv : EvsAt B w v l) (hg : w.grownBy w' v.ownBlock) : TAt Z w' q M c := by
  refine h.keptX (Kept.of_grownBy hg) (fun k hk e => ?_) (fun k cur hc e => ?_)
  · obtain ⟨_, cur, hh⟩ := evs_block hv e.symm
    obtain ⟨D, E, h⟩ := h
    rcases hk with rfl | rfl | rfl
    · rw [h.at_] at hh
      simp only [Option.some.injEq, Obj.cells.injEq] at hh
      have h9 : (86 : TypeId) = 75 := hh.2.1
      exact absurd h9 (by decide)
    · obtain ⟨es, cl, hb', _⟩ := h.n
      rw [hb'] at hh; cases hh
    · obtain ⟨es, cl, hb', _⟩ := h.s
      rw [hb'] at hh; cases hh
  · obtain ⟨_, cur', hh⟩ := evs_block hv e.symm
    rw [hc] at hh
    simp only [Option.some.injEq, Obj.cells.injEq] at hh
    have h9 : (89 : TypeId) = 75 := hh.2.1
    exact absurd h9 (by decide)
theorem kept_app {X : Nat → Prop} {w0 : World} {B : Nat} {v : Value} {l : List Ev} (h : Kept X w0 w) (hv : EvsAt B w v l) (hB : w0.heap.size ≤ B) (hg : w.grownBy w' v.ownBlock) : Kept X w0 w' :=
  h.trans' (Kept.of_grownBy hg) (fun k hk e => by have := (evs_block hv e.symm).1; omega)
theorem EvsAt.alloc {B : Nat} {v : Value} {l : List Ev} (h : EvsAt B w v l) (o : Obj) : EvsAt B (w.alloc o) v l := ownKept h ((Kept.refl (fun _ => False) w).alloc o) (fun _ _ f => f)
def delM (M : TM) (p : ByteArray) : TM := { M with N := updN M.N p.data.toList none }
theorem drop_eq (M : TM) (p : ByteArray) : underM (delM M p) p = dropM M p := by
  unfold underM delM dropM updN
  congr 1
  funext k
  by_cases h1 : k = p.data.toList <;> by_cases h2 : underL k p = true <;> simp [h1, h2]
theorem TD.delN (h : TD Z w q M c D E) (p : ByteArray) (hown : w'.ownsMap Tryz.prog 9 tok q.n c (D.del (.string p.data.toList))) (hk : Kept (fun j => j = q.n) w w') : TD Z w' q (delM M p) c (D.del (.string p.data.toList)) E :=
  h.cut hown hk (fun k => by
    by_cases e : k = p.data.toList
    · subst e; exact .inr ⟨lookV_del_same, updN_same _ _ _⟩
    · exact .inl ⟨lookV_del_other (fun e' => e (by injection e')), updN_other _ _ _ e⟩)
end
end Go.Proofs.YtenbdoceaabecaaGreat

namespace Go.Proofs.YtenbdoceaabecaaGreat
open Go.ChangeShapes Go.WideShapes Go.ChangeAt Go.RowKit Go.Maps
set_option linter.unusedVariables false
set_option linter.unusedSimpArgs false
theorem parS_le {s : ByteArray} (h : s.size ≤ 140737488355328) : (parS s).size ≤ 140737488355328 := by
  unfold parS
  split
  · decide
  · rw [ByteArray.size_extract]
    have := (lastS_bd s).2
    omega
theorem wpList_evs1 {w : World} {ops : Array Oper} {rest : List Oper} {o : Oper} {a : Act} {Q : Exit → Act → World → Prop} (hgd : o.guard = none) (s x : Operand)
    (ho : o.op = .call { callee := .builtin .append, args := #[s, x], argTypes := #[45, 45] }) (B : Nat) (v : Value) (l : List Ev) (hs : a.eval s = v) (hown : EvsAt B w v l)
    (k : Int) (p : ByteArray) (z : Int) (hx : a.eval x = .slice (some ⟨w.heap.size, 0, none⟩) 1 1) (hb : l.length ≤ 100000000) (hB : B ≤ w.heap.size)
    (h : ∀ v' w', EvsAt B w' v' (l ++ [⟨k, p, z⟩]) → (w.alloc (.cells #[.int .i64 k, .string p, .int .i64 z] 75)).grownBy w' v.ownBlock → wpList Tryz.prog ops Q rest (a.put o.dst v') w') : wpList Tryz.prog ops Q (o :: rest) a (w.alloc (.cells #[.int .i64 k, .string p, .int .i64 z] 75)) :=
  wpList_evs hgd s x ho B v l hs (hown.alloc _) ⟨w.heap.size, 0, none⟩ 1 [⟨k, p, z⟩] hx (cells_new (l := [⟨k, p, z⟩])) (by simp; omega) (by simp; omega) h
section
variable {Z : Nat → Prop} {w w' : World} {q : TB} {M : TM} {c : Nat} {D E : DV}
set_option maxRecDepth 100000 in
set_option maxHeartbeats 1000000 in
theorem remove_any (h : TAt Z w q M c) (x : T1) (y : TX) (zx : Int) (hp : x.path.size ≤ 140737488355328) (hc : c < 4611686018427387904) :
    Calls Tryz.prog 92 #[.pointer (some ⟨q.t, 0, none⟩), txnV x y, .int .i64 zx] w (CallPost Z q (c + 1) w (removeM M x zx)) := by
  unfold txnV txnL
  have HT0 := Lib.hid h
  have HTB := Lib.hid h.lt
  clear h
  have HC := Lib.hid (fun w => mayCome_any x.path w hp)
  by_cases hm : mayCome x.path = true
  · go_enter Tryz.func92, Tryz.ntmps92
    go_wp2_with fail
    refine (HC.out _).mono ?_
    rintro e w1 ⟨rfl, hk⟩
    rw [hm]
    have HK1 := Lib.hid (((Kept.refl (fun _ => False) w).alloc (txnO x y)).trans hk)
    have HB1 : Hid (w1.heap[w.heap.size]? = some (txnO x y)) := Lib.hid ((hk.block _ (by simp) (fun f => f)).trans (heap_alloc_new w _))
    obtain ⟨D, E, hD1⟩ := HT0.out.kept0 HK1.out
    have hbl : w.heap.size < w1.heap.size := lt_of_block HB1.out
    have e1 : w1.cell? ⟨w.heap.size, 1, none⟩ = some (.string x.path) := cell_kept (X := fun _ => False) (Kept.refl _ _) HB1.out (fun f => f) 1 rfl
    obtain ⟨c0, c1, c2, f⟩ := hD1.three
    have hlt := hD1.lt _ (.inl rfl)
    have HD1 := Lib.hid hD1
    clear hk hD1
    go_wp2_with fail
    go_cut [8] (fun v wx => v = .bool (hasN M x.path) ∧ Kept (fun _ => False) w1 wx)
    case first =>
      have hk1 : Kept (fun _ => False) w1 w1.drew := ((Kept.refl _ w1)).drew
      have hk2 : Kept (fun _ => False) w1 (w1.alloc (nodeO ⟨#[]⟩ none 0 0 ⟨0, 0, 0, 0, 0, 0, 0⟩)).drew := (((Kept.refl _ w1)).alloc _).drew
      rcases HD1.out.look x.path.data.toList with ⟨nd, av, hM, hL, ha⟩ | ⟨hM, hL⟩
      · obtain ⟨va, vn, vc, rfl⟩ := ha.shape
        have hrun := (HD1.out.kept0 hk1).lookNode x.path hp
        have hrun' := (HD1.out.kept0 hk2).lookNode x.path hp
        rw [hL] at hrun hrun'
        simp only [Option.getD_some, Option.isSome_some, nodeV] at hrun hrun'
        have HH : Hid (hasN M x.path = true) := Lib.hid (by unfold hasN; rw [hM]; rfl)
        clear hL ha hM hk1 hk2
        go_region
        all_goals go_wp2_with fail
        all_goals go_meet
        all_goals exact ⟨by rw [HH.out], (((Kept.refl _ w1)).alloc _).drew⟩
      · have hrun := (HD1.out.kept0 hk1).lookNode x.path hp
        have hrun' := (HD1.out.kept0 hk2).lookNode x.path hp
        rw [hL] at hrun hrun'
        simp only [Option.getD_none, Option.isSome_none, node0, empty_eq] at hrun hrun'
        have HH : Hid (hasN M x.path = false) := Lib.hid (by unfold hasN; rw [hM]; rfl)
        clear hL hM hk1 hk2
        go_region
        all_goals go_wp2_with fail
        all_goals go_meet
        all_goals exact ⟨by rw [HH.out], (((Kept.refl _ w1)).alloc _).drew⟩
    case rest =>
    obtain ⟨rfl, hkx⟩ := hcut
    have HNB : Hid (¬ TBs q w.heap.size) := Lib.hid (fun e => Nat.lt_irrefl _ (HTB.out _ e))
    have HDc := Lib.hid (HD1.out.kept0 hkx)
    have HKc := Lib.hid (hkx.mono (T := TBs q) (fun _ _ f => f.elim))
    clear e1 c0 c1 c2 f HD1 hkx
    have e1 : wc.cell? ⟨w.heap.size, 1, none⟩ = some (.string x.path) := cell_kept HKc.out HB1.out HNB.out 1 rfl
    have c0 := HDc.out.three.c0
    have hbl2 : w.heap.size < wc.heap.size := Nat.lt_of_lt_of_le hbl HKc.out.size
    go_wp2_with fail
    go_still_tail 6, (by kernel_rfl)
    change wpList _ _ _ _ _ wc.drew
    have HDd := Lib.hid HDc.out.drew
    have HKd := Lib.hid HKc.out.drew
    generalize wc.drew = w3 at HDd HKd ⊢
    clear e1 c0 HDc HKc hbl2
    go_wp2_with (at_delete; refine wpList_delete_own _ rfl _ _ 83 9 rfl 98 keyS Tryz.underlying83 tok q.n c D rfl HDd.out.n _ _ rfl (keyStr hp) ?_; intro w4 hown4 hturn4; have HD4 := Lib.hid (HDd.out.delN x.path hown4 (keptN hturn4)); have HK4 := Lib.hid (HKd.out.trans ((keptN hturn4).mono (T := TBs q) (fun j _ e => .inr (.inl e)))); clear hown4 hturn4; have e1 : w4.cell? ⟨w.heap.size, 1, none⟩ = some (.string x.path) := cell_kept HK4.out HB1.out HNB.out 1 rfl)
    refine (removeUnder_any ⟨_, _, HD4.out⟩ x.path hp).mono ?_
    rintro e w5 ⟨rfl, hT5, hk5⟩
    rw [drop_eq] at hT5
    have HT5 := Lib.hid hT5
    have HK5 := Lib.hid (HK4.out.trans hk5)
    clear e1 hT5 hk5 HD4 HK4 HDd HKd
    have e1 : w5.cell? ⟨w.heap.size, 1, none⟩ = some (.string x.path) := cell_kept HK5.out HB1.out HNB.out 1 rfl
    have e5 : w5.cell? ⟨w.heap.size, 5, none⟩ = some (.int .i64 x.number) := cell_kept HK5.out HB1.out HNB.out 5 rfl
    go_wp2_with fail
    refine (parent_any x.path _ hp).mono ?_
    rintro e w6 ⟨rfl, rfl⟩
    go_wp2_with fail
    refine (setKids_any HT5.out (parS x.path) x.number zx (parS_le hp) hc).mono ?_
    rintro e w6 ⟨rfl, hT6, hk6⟩
    have HT6 := Lib.hid hT6
    have HK6 := Lib.hid (HK5.out.trans hk6)
    clear e1 e5 hT6 hk6 HT5 HK5
    have e1 : w6.cell? ⟨w.heap.size, 1, none⟩ = some (.string x.path) := cell_kept HK6.out HB1.out HNB.out 1 rfl
    have HE : Hid (removeM M x zx = (kidsOf (dropM M x.path) (parS x.path) x.number zx,
      (if hasN M x.path = true then [⟨2, x.path, zx⟩] else []) ++ (if hasN M x.path = true ∧ hasN (dropM M x.path) (parS x.path) = true then [⟨4, parS x.path, zx⟩] else []))) := Lib.hid (by unfold removeM; rw [if_pos hm])
    have HKw := Lib.hid ((HK1.out.mono (T := TBs q) (fun _ _ f => f.elim)).trans HK6.out)
    generalize hasN M x.path = was at HE ⊢
    generalize hasN (dropM M x.path) (parS x.path) = has at HE ⊢
    clear HC hm HK1 HB1 HK6 hbl hlt
    have hsz := HKw.out.size
    cases was
    · go_wp2_with fail
      go_ret
      rw [HE.out]
      exact ⟨_, rfl, evsAt_nil _, HT6.out, HKw.out⟩
    · cases has
      · go_wp2_with (at_builtin; refine wpList_evs1 rfl _ _ rfl w.heap.size (.slice none 0 0) [] rfl (evsAt_nil _) 2 x.path zx rfl (by simp) hsz (fun v7 w7 hv7 hg7 => ?_); have HT7 := Lib.hid ((HT6.out.kept0 ((Kept.refl _ _).alloc _)).app (evsAt_nil 0) hg7); have HK7 := Lib.hid (kept_app (HKw.out.alloc _) (evsAt_nil w.heap.size) (Nat.le_refl _) hg7); have hsz7 := HK7.out.size; have HV7 := Lib.hid hv7; clear hv7 hg7)
        go_ret
        rw [HE.out]
        exact ⟨_, rfl, HV7.out, HT7.out, HK7.out⟩
      · go_wp2_with (first
          | (at_builtin; refine wpList_evs1 rfl _ _ rfl w.heap.size (.slice none 0 0) [] rfl (evsAt_nil _) 2 x.path zx rfl (by simp) hsz (fun v7 w7 hv7 hg7 => ?_); have HT7 := Lib.hid ((HT6.out.kept0 ((Kept.refl _ _).alloc _)).app (evsAt_nil 0) hg7); have HK7 := Lib.hid (kept_app (HKw.out.alloc _) (evsAt_nil w.heap.size) (Nat.le_refl _) hg7); have hsz7 := HK7.out.size; have HV7 := Lib.hid hv7; clear hv7 hg7)
          | (at_builtin; refine wpList_evs1 rfl _ _ rfl w.heap.size v7 [⟨2, x.path, zx⟩] rfl HV7.out 4 (parS x.path) zx rfl (by simp) hsz7 (fun v8 w8 hv8 hg8 => ?_); have HT8 := Lib.hid ((HT7.out.kept0 ((Kept.refl _ _).alloc _)).app (HV7.out.alloc _) hg8); have HK8 := Lib.hid (kept_app (HK7.out.alloc _) (HV7.out.alloc _) (Nat.le_refl _) hg8); have HV8 := Lib.hid hv8; clear hv8 hg8))
        go_ret
        rw [HE.out]
        exact ⟨_, rfl, HV8.out, HT8.out, HK8.out⟩
  · have hm : mayCome x.path = false := by simpa using hm
    have HE : Hid (removeM M x zx = (M, [])) := Lib.hid (by unfold removeM; rw [if_neg (by rw [hm]; simp)])
    go_enter Tryz.func92, Tryz.ntmps92
    go_wp2_with fail
    refine (HC.out _).mono ?_
    rintro e w1 ⟨rfl, hk⟩
    rw [hm]
    have HK1 := Lib.hid (((Kept.refl (fun _ => False) w).alloc (txnO x y)).trans hk)
    clear hk
    go_wp2_with fail
    go_ret
    rw [HE.out]
    exact ⟨_, rfl, evsAt_nil _, TAt.mono (HT0.out.kept0 HK1.out) (Nat.le_succ _), HK1.out.mono (fun _ _ f => f.elim)⟩
end
end Go.Proofs.YtenbdoceaabecaaGreat
