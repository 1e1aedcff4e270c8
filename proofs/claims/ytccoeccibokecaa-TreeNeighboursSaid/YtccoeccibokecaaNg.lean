/- setAcl. -/
import Derived.Test.YtccoeccibokecaaNf
namespace Go.Proofs.Ytccoeccibokecaa
open Go.ChangeShapes Go.WideShapes Go.ChangeAt Go.RowKit Go.Maps
set_option linter.unusedVariables false
set_option linter.unusedSimpArgs false
section
variable {Z : Nat → Prop} {w w' : World} {q : TB} {M : TM} {c : Nat} {D E : DV}
theorem AclAt.keptO {X : Nat → Prop} {av : Value} {l : List AR} (h : AclAt w Z av l) (hk : Kept X w w') (hx : ∀ k, av.ownBlock = some k → ¬ X k) : AclAt w' Z av l := ⟨ownKept h.1 hk hx, h.2⟩
theorem own_ge {B n m : Nat} {e : TypeId} {v : Value} {xs : List Value} (h : w.ownsRow B e n v m xs) {k : Nat} (hk : v.ownBlock = some k) : B ≤ k := by
  rcases h.2 with ⟨hv, h0⟩ | ⟨g, cap, cur, rfl, hb, hh, r⟩
  · rw [hv] at hk; cases hk
  · have : some g = some k := hk
    injection this with e; exact e ▸ hb
theorem own_ne {B b n m : Nat} {e : TypeId} {v : Value} {xs : List Value} (h : w.ownsRow B e n v m xs) (hb : b < B) : ∀ k, v.ownBlock = some k → ¬ k = b := fun k hk e => by
  have := own_ge h hk
  omega
structure Eleven (w : World) (b : Nat) (d : ByteArray) (va : Option Addr) (vn vc : Nat) (s : St) : Prop where
  n0 : w.cell? ⟨b, 0, none⟩ = some (.string d)
  n1 : w.cell? ⟨b, 1, none⟩ = some (.slice va vn vc)
  n2 : w.cell? ⟨b, 2, none⟩ = some (.int .i64 s.cz)
  n3 : w.cell? ⟨b, 3, none⟩ = some (.int .i64 s.mz)
  n4 : w.cell? ⟨b, 4, none⟩ = some (.int .i64 s.pz)
  n5 : w.cell? ⟨b, 5, none⟩ = some (.int .i64 s.ver)
  n6 : w.cell? ⟨b, 6, none⟩ = some (.int .i64 s.cver)
  n7 : w.cell? ⟨b, 7, none⟩ = some (.int .i64 s.aver)
  n8 : w.cell? ⟨b, 8, none⟩ = some (.int .i64 s.owner)
  n9 : w.cell? ⟨b, 9, none⟩ = some (.int .i64 0)
  n10 : w.cell? ⟨b, 10, none⟩ = some (.int .i64 0)
  f : ∀ i, w.frozen? ⟨b, i, none⟩ = false
theorem eleven {b : Nat} {d : ByteArray} {va : Option Addr} {vn vc : Nat} {s : St} (h : w.heap[b]? = some (nodeO d va vn vc s)) : Eleven w b d va vn vc s := by
  have e : ∀ i, w.cell? ⟨b, i, none⟩ = ([.string d, .slice va vn vc, .int .i64 s.cz, .int .i64 s.mz, .int .i64 s.pz, .int .i64 s.ver, .int .i64 s.cver, .int .i64 s.aver, .int .i64 s.owner, .int .i64 0, .int .i64 0] : List Value)[i]? := fun i => by
    rw [cell_of_row w b i _ _ (0, 0) h, ← Array.getElem?_toList]
  exact ⟨e 0, e 1, e 2, e 3, e 4, e 5, e 6, e 7, e 8, e 9, e 10, fun i => by simp [World.frozen?, h]⟩
theorem node_acl {b : Nat} {d : ByteArray} {va : Option Addr} {vn vc : Nat} {s : St} (h : w.heap[b]? = some (nodeO d va vn vc s)) (va' : Option Addr) (vn' vc' : Nat) (n : Int) :
    ((w.setCell ⟨b, 1, none⟩ (.slice va' vn' vc')).setCell ⟨b, 7, none⟩ (.int .i64 n)).heap[b]? = some (nodeO d va' vn' vc' { s with aver := n }) := by
  have h1 := heap_set (c := [.string d, .slice va vn vc, .int .i64 s.cz, .int .i64 s.mz, .int .i64 s.pz, .int .i64 s.ver, .int .i64 s.cver, .int .i64 s.aver, .int .i64 s.owner, .int .i64 0, .int .i64 0]) (i := 1) (.slice va' vn' vc') h
  exact heap_set (c := [.string d, .slice va' vn' vc', .int .i64 s.cz, .int .i64 s.mz, .int .i64 s.pz, .int .i64 s.ver, .int .i64 s.cver, .int .i64 s.aver, .int .i64 s.owner, .int .i64 0, .int .i64 0]) (i := 7) (.int .i64 n) h1
theorem other_set {b b' i j : Nat} (hne : b ≠ b') (u v : Value) : ((w.setCell ⟨b', i, none⟩ u).setCell ⟨b', j, none⟩ v).heap[b]? = w.heap[b]? := by
  rw [Below.heap_setCell _ _ _ _ (fun e => hne (by simpa using e)), Below.heap_setCell _ _ _ _ (fun e => hne (by simpa using e))]
set_option maxRecDepth 100000 in
set_option maxHeartbeats 1000000 in
theorem setAcl_any (h : TAt Z w q M c) (x : T1) (y : TX) (hv : AclIn w (.slice y.aa y.an y.ac) x.acl) (hp : x.path.size ≤ 140737488355328) (hc : c < 4611686018427387904) :
    Calls Try.prog 79 #[.pointer (some ⟨q.t, 0, none⟩), txnV x y] w fun e w' => e = .returned (.tuple #[]) ∧ TAt Z w' q (aclM M x) (c + 1) ∧ Kept (TBs q) w w' := by
  obtain ⟨D, E, h⟩ := h
  unfold txnV txnL
  have HD := Lib.hid h
  have hlt := h.lt _ (.inl rfl)
  obtain ⟨c0, c1, c2, f⟩ := h.three
  have hk1 : Kept (fun _ => False) w (w.alloc (txnO x y)).drew := ((Kept.refl _ w).alloc _).drew
  have hk2 : Kept (fun _ => False) w ((w.alloc (txnO x y)).alloc (nodeO ⟨#[]⟩ none 0 0 ⟨0, 0, 0, 0, 0, 0, 0⟩)).drew := (((Kept.refl _ w).alloc _).alloc _).drew
  rcases h.look x.path.data.toList with ⟨nd, av, hM, hL, ha⟩ | ⟨hM, hL⟩
  · obtain ⟨va, vn, vc, rfl⟩ := ha.shape
    have hrun := (h.kept0 hk1).lookNode x.path hp
    have hrun' := (h.kept0 hk2).lookNode x.path hp
    rw [hL] at hrun hrun'
    simp only [Option.getD_some, Option.isSome_some, nodeV] at hrun hrun'
    have HE : Hid (aclM M x = { M with N := updN M.N x.path.data.toList (some { nd with acl := x.acl, st := { nd.st with aver := x.number } }) }) := Lib.hid (by unfold aclM; rw [hM])
    have hk3 : Kept (fun _ => False) w ((w.alloc (txnO x y)).alloc (nodeO nd.data va vn vc nd.st)).drew.drew := (((Kept.refl _ w).alloc _).alloc _).drew.drew
    have HK3 := Lib.hid hk3
    have HV := Lib.hid (hv.kept hk3 (fun _ _ _ _ f => f))
    have HD3 := Lib.hid (h.kept0 hk3)
    have HB : Hid (((w.alloc (txnO x y)).alloc (nodeO nd.data va vn vc nd.st)).drew.drew.heap[w.heap.size]? = some (txnO x y)) := Lib.hid ((Below.heap_alloc _ _ _ (by simp)).trans (heap_alloc_new w _))
    have HN : Hid (((w.alloc (txnO x y)).alloc (nodeO nd.data va vn vc nd.st)).drew.drew.heap[w.heap.size + 1]? = some (nodeO nd.data va vn vc nd.st)) := Lib.hid (by have := heap_alloc_new (w.alloc (txnO x y)) (nodeO nd.data va vn vc nd.st); rw [show (w.alloc (txnO x y)).heap.size = w.heap.size + 1 by simp] at this; exact this)
    have hl := h.okk x.path.data.toList (by rw [hM]; exact fun e => nomatch e)
    clear h hL hk1 hk2 hk3 ha hM hv
    go_enter Try.func79, Try.ntmps79
    go_wp2
    go_region
    all_goals (
      go_wp2
      generalize ((w.alloc (txnO x y)).alloc (nodeO nd.data va vn vc nd.st)).drew = w2 at HK3 HV HD3 HB HN ⊢
      have e3 : w2.drew.cell? ⟨w.heap.size, 3, none⟩ = some (.slice y.aa y.an y.ac) := cell_kept (X := fun _ => False) (Kept.refl _ _) HB.out (fun f => f) 3 rfl
      have e5 : w2.drew.cell? ⟨w.heap.size, 5, none⟩ = some (.int .i64 x.number) := cell_kept (X := fun _ => False) (Kept.refl _ _) HB.out (fun f => f) 5 rfl
      clear c0 c1 c2 f hrun hrun'
      go_region_held3 (fun w' => w'.cell? ⟨w.heap.size, 3, none⟩ = some (.slice y.aa y.an y.ac) ∧ w'.cell? ⟨w.heap.size, 5, none⟩ = some (.int .i64 x.number))
        (first | assumption | go_keep)
        (first
          | (go_at_call 54; with_reducible refine (clone_any HV.out).mono ?_; rintro e w5 ⟨v', rfl, hown, hk5⟩; have ha5 := aclAt_new hown HD3.out.new; obtain ⟨va', vn', vc', rfl⟩ := ha5.shape; have HG : Hid (∀ k, (Value.slice va' vn' vc').ownBlock = some k → ¬ k = w.heap.size + 1) := Lib.hid (own_ne hown (lt_of_block HN.out)); have hn5 := (hk5.block _ (lt_of_block HN.out) (fun f => f)).trans HN.out; have hb5 := (hk5.block _ (lt_of_block HB.out) (fun f => f)).trans HB.out; have HA5 := Lib.hid ha5; have HN5 := Lib.hid hn5; have HB5 := Lib.hid hb5; have HK5 := Lib.hid hk5; obtain ⟨n0, n1, n2, n3, n4, n5, n6, n7, n8, n9, n10, nf⟩ := eleven hn5; clear e3 e5 ha5 hn5 hown; have e3 : w5.cell? ⟨w.heap.size, 3, none⟩ = some (.slice y.aa y.an y.ac) := cell_kept (X := fun _ => False) (Kept.refl _ _) hb5 (fun f => f) 3 rfl; have e5 : w5.cell? ⟨w.heap.size, 5, none⟩ = some (.int .i64 x.number) := cell_kept (X := fun _ => False) (Kept.refl _ _) hb5 (fun f => f) 5 rfl; clear hb5 hk5))
      all_goals (
        go_wp2_with fail
        have hk5 : Kept (fun k => k = w.heap.size + 1) w5 ((w5.setCell ⟨w.heap.size + 1, 1, none⟩ (.slice va' vn' vc')).setCell ⟨w.heap.size + 1, 7, none⟩ (.int .i64 x.number)) := (kept_set w5 (w.heap.size + 1) 1 _).setCell (a := ⟨w.heap.size + 1, 7, none⟩) (.inl rfl) _
        have hk6 := (kept_in hk5 (HK3.out.trans HK5.out) (Nat.le_succ _)).drew
        have hn6 := node_acl HN5.out va' vn' vc' x.number
        have hb6 := (other_set (w := w5) (b := w.heap.size) (b' := w.heap.size + 1) (i := 1) (j := 7) (by omega) (.slice va' vn' vc') (.int .i64 x.number)).trans HB5.out
        have ha6 := (HA5.out.keptO hk5 HG.out).kept0 ((Kept.refl (fun _ => False) _).drew)
        generalize ((w5.setCell ⟨w.heap.size + 1, 1, none⟩ (.slice va' vn' vc')).setCell ⟨w.heap.size + 1, 7, none⟩ (.int .i64 x.number)) = w6 at hk5 hk6 hn6 hb6 ha6 ⊢
        clear n0 n1 n2 n3 n4 n5 n6 n7 n8 n9 n10 nf e3 e5
        have hT6 := HD.out.kept0 hk6
        obtain ⟨n0, n1, n2, n3, n4, n5, n6, n7, n8, n9, n10, nf⟩ := eleven (w := w6.drew) hn6
        have e1 : w6.drew.cell? ⟨w.heap.size, 1, none⟩ = some (.string x.path) := cell_kept (X := fun _ => False) (Kept.refl _ _) (w := w6.drew) hb6 (fun f => f) 1 rfl
        have c0 := hT6.three.c0
        obtain ⟨W, hst, hT, hK⟩ := hT6.storeN x.path hp hl hc (nd := { nd with acl := x.acl, st := { nd.st with aver := x.number } }) ha6
        simp only [nodeV] at hst
        have HT := Lib.hid hT
        have HK := Lib.hid ((hk6.mono (T := TBs q) (fun _ _ f => f.elim)).trans hK)
        clear hT hK ha6 hn6 hb6 hk6 hk5 hT6
        go_region
        all_goals (
          go_wp2
          go_end0
          rw [HE.out]
          exact ⟨rfl, HT.out, HK.out⟩)))
  · have hrun := (h.kept0 hk1).lookNode x.path hp
    have hrun' := (h.kept0 hk2).lookNode x.path hp
    rw [hL] at hrun hrun'
    simp only [Option.getD_none, Option.isSome_none, node0, empty_eq] at hrun hrun'
    have HE : Hid (aclM M x = M) := Lib.hid (by unfold aclM; rw [hM])
    clear h hL hk1 hk2 hM
    go_enter Try.func79, Try.ntmps79
    go_wp2
    go_region
    all_goals go_wp2
    all_goals refine bodyPost_ret (results_none rfl _ _ _) rfl ?_
    all_goals rw [HE.out]
    all_goals exact ⟨rfl, TAt.mono ⟨_, _, HD.out.kept0 (((Kept.refl _ w).alloc _).alloc _).drew⟩ (Nat.le_succ _), (((Kept.refl _ w).alloc _).alloc _).drew⟩
end
end Go.Proofs.Ytccoeccibokecaa
