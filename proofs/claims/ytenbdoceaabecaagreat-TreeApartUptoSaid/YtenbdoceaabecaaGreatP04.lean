/- A tree in memory. The small calls of a tree: mayCome, Zxid, LayZxid, LaySession; an ACL cloned; setKids. setKids, Lay. -/
import Derived.Test.YtenbdoceaabecaaGreatP03
import Derived.Maps.OwnSet
import Derived.Maps.Keyed
import Derived.Deep.MidRow
import Derived.StillTailTactics
import Derived.Laws.AppendOwn
import Derived.StringKeys
import Derived.Deep.RegionHeld3
import Derived.IntWalk
import Derived.OwnWalk
import Derived.BigQuiet
import Derived.Lib.SliceRun
namespace Go.Proofs.YtenbdoceaabecaaGreat
open Go.ChangeShapes Go.WideShapes Go.ChangeAt Go.RowKit Go.Maps
set_option linter.unusedVariables false
set_option linter.unusedSimpArgs false
theorem keyS : Keyed Tryz.prog 9 := string_keyed Tryz.underlying9
theorem keyI : Keyed Tryz.prog 3 := int_keyed Tryz.underlying3
def AR.cells (r : AR) : List Value := [.int .i64 r.perms, .string r.id]
def aclC (l : List AR) : List Value := l.flatMap AR.cells
/-- an ACL that nobody writes into -/
def AclAt (w : World) (Z : Nat → Prop) (av : Value) (l : List AR) : Prop := w.ownsRow 0 89 2 av l.length (aclC l) ∧ (∀ k, av.ownBlock = some k → Z k) ∧ l.length * 24 ≤ 140737488355328
def nodeV (nd : Nd) (av : Value) : Value := .agg #[.string nd.data, av, .int .i64 nd.st.cz, .int .i64 nd.st.mz, .int .i64 nd.st.pz, .int .i64 nd.st.ver, .int .i64 nd.st.cver, .int .i64 nd.st.aver, .int .i64 nd.st.owner, .int .i64 0, .int .i64 0]
def node0 : Value := .agg #[.string ByteArray.empty, .slice none 0 0, .int .i64 0, .int .i64 0, .int .i64 0, .int .i64 0, .int .i64 0, .int .i64 0, .int .i64 0, .int .i64 0, .int .i64 0]
def sessV (s : Int × ByteArray) : Value := .agg #[.int .i64 s.1, .string s.2]
def sess0 : Value := .agg #[.int .i64 0, .string ByteArray.empty]
theorem zero_node (w : World) : (zeroValue 98).run Tryz.prog w = .ok node0 w := by kernel_rfl
theorem zero_sess (w : World) : (zeroValue 101).run Tryz.prog w = .ok sess0 w := by kernel_rfl
/-- the model's node is what the map has -/
def NdAt (w : World) (Z : Nat → Prop) : Option Value → Option Nd → Prop
  | none, none => True
  | some v, some nd => ∃ av, v = nodeV nd av ∧ AclAt w Z av nd.acl
  | _, _ => False
/-- a tree's blocks -/
structure TB where
  t : Nat
  n : Nat
  s : Nat
def TBs (q : TB) : Nat → Prop := fun k => k = q.t ∨ k = q.n ∨ k = q.s
structure TD (Z : Nat → Prop) (w : World) (q : TB) (M : TM) (c : Nat) (D E : DV) : Prop where
  at_ : w.heap[q.t]? = some (.cells #[.map (some q.n), .map (some q.s), .int .i64 M.z] 86 (0, 0))
  n : w.ownsMap Tryz.prog 9 tok q.n c D
  N : ∀ k, NdAt w Z (lookV D (.string k)) (M.N k)
  s : w.ownsMap Tryz.prog 3 tok q.s c E
  S : ∀ i, lookV E (.int .i64 i) = (M.S i).map sessV
  ns : q.n ≠ q.s
  okk : ∀ k, M.N k ≠ none → k.length ≤ 60
  inZ : ∀ k, TBs q k → Z k
  new : ∀ k, w.heap.size ≤ k → Z k
def TAt (Z : Nat → Prop) (w : World) (q : TB) (M : TM) (c : Nat) : Prop := ∃ D E, TD Z w q M c D E
theorem ownKept {X : Nat → Prop} {w w' : World} {base : Nat} {e : TypeId} {size n : Nat} {v : Value} {xs : List Value} (h : w.ownsRow base e size v n xs) (hk : Kept X w w') (hx : ∀ k, v.ownBlock = some k → ¬ X k) : w'.ownsRow base e size v n xs := by
  refine ⟨h.1, ?_⟩
  rcases h.2 with h2 | ⟨g, cap, cur, rfl, hb, hh, r⟩
  · exact .inl h2
  · exact .inr ⟨g, cap, cur, rfl, hb, by rw [hk.block g (lt_of_block hh) (hx g rfl)]; exact hh, r⟩
theorem ownsMap_kept {w w' : World} {P : Program} {k : TypeId} {R : Value → Option (DV × List MemPlace)} {b n : Nat} {D : DV} {X : Nat → Prop} (h : w.ownsMap P k R b n D) (hk : Kept X w w') (hb : ¬ X b) : w'.ownsMap P k R b n D := by
  have hl := h.lt
  obtain ⟨es, cl, h1, r⟩ := h
  exact ⟨es, cl, (hk.block b hl hb).trans h1, r⟩
section
variable {Z : Nat → Prop} {w w' : World} {q : TB} {M : TM} {c : Nat} {D E : DV}
theorem NdAt.kept {X : Nat → Prop} {o : Option Value} {m : Option Nd} (h : NdAt w Z o m) (hk : Kept X w w') (hx : ∀ k cur, w.heap[k]? = some (.cells cur 89 (0, 0)) → Z k → ¬ X k) : NdAt w' Z o m := by
  cases o <;> cases m <;> try exact h
  obtain ⟨av, e, ha, hz, hr⟩ := h
  refine ⟨av, e, ⟨ha.1, ?_⟩, hz, hr⟩
  rcases ha.2 with h2 | ⟨g, cap, cur, rfl, hb, hh, r⟩
  · exact .inl h2
  · exact .inr ⟨g, cap, cur, rfl, hb, by rw [hk.block g (lt_of_block hh) (hx g cur hh (hz g rfl))]; exact hh, r⟩
theorem TD.nt (h : TD Z w q M c D E) : q.n ≠ q.t ∧ q.s ≠ q.t := by
  obtain ⟨es, cl, hb, _⟩ := h.n
  obtain ⟨es', cl', hb', _⟩ := h.s
  have ht := h.at_
  constructor
  · intro e; rw [e, ht] at hb; cases hb
  · intro e; rw [e, ht] at hb'; cases hb'
theorem TD.lt (h : TD Z w q M c D E) : ∀ k, TBs q k → k < w.heap.size := by
  rintro k (rfl | rfl | rfl)
  · exact lt_of_block h.at_
  · exact h.n.lt
  · exact h.s.lt
/-- no ACL lies in a tree's own blocks -/
theorem TD.noAcl (h : TD Z w q M c D E) : ∀ k cur, w.heap[k]? = some (.cells cur 89 (0, 0)) → ¬ TBs q k := by
  rintro k cur hb (rfl | rfl | rfl)
  · rw [h.at_] at hb
    simp only [Option.some.injEq, Obj.cells.injEq] at hb
    have h9 : (86 : TypeId) = 89 := hb.2.1
    exact absurd h9 (by decide)
  · obtain ⟨es, cl, hb', _⟩ := h.n
    rw [hb'] at hb; cases hb
  · obtain ⟨es, cl, hb', _⟩ := h.s
    rw [hb'] at hb; cases hb
/-- whatever is written elsewhere -/
theorem TD.kept {X : Nat → Prop} (h : TD Z w q M c D E) (hk : Kept X w w') (hx : ∀ k, k < w.heap.size → Z k → ¬ X k) : TD Z w' q M c D E := by
  have hlt := h.lt
  refine ⟨?_, ownsMap_kept h.n hk (hx _ h.n.lt (h.inZ _ (.inr (.inl rfl)))), fun k => (h.N k).kept hk (fun b cur hb hz => hx b (lt_of_block hb) hz), ownsMap_kept h.s hk (hx _ h.s.lt (h.inZ _ (.inr (.inr rfl)))), h.S, h.ns, h.okk, h.inZ, fun k hk' => h.new k (Nat.le_trans hk.size hk')⟩
  rw [hk.block q.t (hlt _ (.inl rfl)) (hx _ (hlt _ (.inl rfl)) (h.inZ _ (.inl rfl)))]; exact h.at_
theorem TD.kept0 (h : TD Z w q M c D E) (hk : Kept (fun _ => False) w w') : TD Z w' q M c D E := h.kept hk (fun _ _ _ f => f)
theorem TD.drewN (h : TD Z w q M c D E) (n : Nat) : TD Z (w.drewN n) q M c D E := h.kept0 ((Kept.refl _ w).drewN n)
theorem TD.drew (h : TD Z w q M c D E) : TD Z w.drew q M c D E := h.kept0 ((Kept.refl _ w).drew)
theorem TAt.kept {X : Nat → Prop} (h : TAt Z w q M c) (hk : Kept X w w') (hx : ∀ k, k < w.heap.size → Z k → ¬ X k) : TAt Z w' q M c := by
  obtain ⟨D, E, h⟩ := h; exact ⟨D, E, h.kept hk hx⟩
theorem TAt.kept0 (h : TAt Z w q M c) (hk : Kept (fun _ => False) w w') : TAt Z w' q M c := h.kept hk (fun _ _ _ f => f)
theorem TD.mono (h : TD Z w q M c D E) {c' : Nat} (hc : c ≤ c') : TD Z w q M c' D E := ⟨h.at_, h.n.mono hc, h.N, h.s.mono hc, h.S, h.ns, h.okk, h.inZ, h.new⟩
theorem TAt.mono (h : TAt Z w q M c) {c' : Nat} (hc : c ≤ c') : TAt Z w q M c' := by obtain ⟨D, E, h⟩ := h; exact ⟨D, E, h.mono hc⟩
theorem TAt.lt (h : TAt Z w q M c) : ∀ k, TBs q k → k < w.heap.size := by obtain ⟨D, E, h⟩ := h; exact h.lt
/-- what is done to another tree leaves this one as it is -/
theorem TAt.aside {q' : TB} {M' : TM} {c' : Nat} (h : TAt Z w q M c) (g : TAt Z w q' M' c') (hk : Kept (TBs q') w w') (hd : ∀ k, TBs q k → ¬ TBs q' k) : TAt Z w' q M c := by
  obtain ⟨D, E, h⟩ := h
  obtain ⟨D', E', g⟩ := g
  have hlt := h.lt
  refine ⟨D, E, ?_, ownsMap_kept h.n hk (hd _ (.inr (.inl rfl))), fun k => (h.N k).kept hk (fun b cur hb hz => g.noAcl b cur hb), ownsMap_kept h.s hk (hd _ (.inr (.inr rfl))), h.S, h.ns, h.okk, h.inZ, fun k hk' => h.new k (Nat.le_trans hk.size hk')⟩
  rw [hk.block q.t (hlt _ (.inl rfl)) (hd _ (.inl rfl))]; exact h.at_
theorem keptN {b : Nat} (h : w.mapTurned w' b) : Kept (fun k => k = b) w w' := (Kept.of_grownBy h.grown).mono (fun k _ e => by injection e)
/-- a node is laid -/
theorem TD.putN (h : TD Z w q M c D E) {k : List UInt8} {nd : Nd} {v : Value} (hv : NdAt w Z (some v) (some nd)) (hl : k.length ≤ 60) (hown : w'.ownsMap Tryz.prog 9 tok q.n (c + 1) (D.put (.string k) (.held v))) (hk : Kept (fun j => j = q.n) w w') :
    TD Z w' q { M with N := updN M.N k (some nd) } (c + 1) (D.put (.string k) (.held v)) E := by
  have hnt := h.nt
  have hk2 : Kept (TBs q) w w' := hk.mono (fun j _ e => .inr (.inl e))
  refine ⟨?_, hown, fun x => ?_, ownsMap_kept (h.s.mono (Nat.le_succ c)) hk (fun e => h.ns e.symm), h.S, h.ns, fun x hx => ?_, h.inZ, fun j hj => h.new j (Nat.le_trans hk.size hj)⟩
  · rw [hk.block q.t (h.lt _ (.inl rfl)) (fun e => hnt.1 e.symm)]; exact h.at_
  · by_cases e : x = k
    · subst e
      rw [lookV_put_same h.n.isMap (by simp [WideAt.IsKeyLit])]
      show NdAt w' Z (some v) (updN M.N x (some nd) x)
      rw [updN_same]
      exact hv.kept hk2 (fun b cur hb _ => h.noAcl b cur hb)
    · rw [lookV_put_other (fun e' => e (by injection e'))]
      show NdAt w' Z _ (updN M.N k (some nd) x)
      rw [updN_other _ _ _ e]
      exact (h.N x).kept hk2 (fun b cur hb _ => h.noAcl b cur hb)
  · by_cases e : x = k
    · subst e; exact hl
    · exact h.okk x (by have hx : updN M.N k (some nd) x ≠ none := hx; rw [updN_other _ _ _ e] at hx; exact hx)
/-- a session is laid -/
theorem TD.putS (h : TD Z w q M c D E) {i : Int} {s : Int × ByteArray} (hown : w'.ownsMap Tryz.prog 3 tok q.s (c + 1) (E.put (.int .i64 i) (.held (sessV s)))) (hk : Kept (fun j => j = q.s) w w') :
    TD Z w' q { M with S := updN M.S i (some s) } (c + 1) D (E.put (.int .i64 i) (.held (sessV s))) := by
  have hnt := h.nt
  have hk2 : Kept (TBs q) w w' := hk.mono (fun j _ e => .inr (.inr e))
  refine ⟨?_, ownsMap_kept (h.n.mono (Nat.le_succ c)) hk h.ns, fun x => (h.N x).kept hk2 (fun b cur hb _ => h.noAcl b cur hb), hown, fun x => ?_, h.ns, h.okk, h.inZ, fun j hj => h.new j (Nat.le_trans hk.size hj)⟩
  · rw [hk.block q.t (h.lt _ (.inl rfl)) (fun e => hnt.2 e.symm)]; exact h.at_
  · by_cases e : x = i
    · subst e
      rw [lookV_put_same h.s.isMap (by simp [WideAt.IsKeyLit])]
      show some (sessV s) = (updN M.S x (some s) x).map sessV
      rw [updN_same]; rfl
    · rw [lookV_put_other (fun e' => e (by injection e'))]
      show _ = (updN M.S i (some s) x).map sessV
      rw [updN_other _ _ _ e]; exact h.S x
theorem TD.look (h : TD Z w q M c D E) (k : List UInt8) : (∃ nd av, M.N k = some nd ∧ lookV D (.string k) = some (nodeV nd av) ∧ AclAt w Z av nd.acl) ∨ (M.N k = none ∧ lookV D (.string k) = none) := by
  have := h.N k
  cases hm : M.N k with
  | none =>
    rw [hm] at this
    cases hl : lookV D (.string k) with
    | none => exact .inr ⟨rfl, rfl⟩
    | some v => rw [hl] at this; exact this.elim
  | some nd =>
    rw [hm] at this
    cases hl : lookV D (.string k) with
    | none => rw [hl] at this; exact this.elim
    | some v =>
      rw [hl] at this
      obtain ⟨av, rfl, ha⟩ := this
      exact .inl ⟨nd, av, rfl, rfl, ha⟩
structure Three (w : World) (q : TB) (z : Int) : Prop where
  c0 : w.cell? ⟨q.t, 0, none⟩ = some (.map (some q.n))
  c1 : w.cell? ⟨q.t, 1, none⟩ = some (.map (some q.s))
  c2 : w.cell? ⟨q.t, 2, none⟩ = some (.int .i64 z)
  f : ∀ i, w.frozen? ⟨q.t, i, none⟩ = false
theorem TD.three (h : TD Z w q M c D E) : Three w q M.z := by
  have e : ∀ i, w.cell? ⟨q.t, i, none⟩ = ([.map (some q.n), .map (some q.s), .int .i64 M.z] : List Value)[i]? := fun i => by
    rw [cell_of_row w q.t i _ _ (0, 0) h.at_, ← Array.getElem?_toList]
  exact ⟨e 0, e 1, e 2, fun i => by simp [World.frozen?, h.at_]⟩
end
end Go.Proofs.YtenbdoceaabecaaGreat

namespace Go.Proofs.YtenbdoceaabecaaGreat
open Go.ChangeShapes Go.WideShapes Go.ChangeAt Go.RowKit Go.Maps
set_option linter.unusedVariables false
set_option linter.unusedSimpArgs false
theorem checkS_len {p : ByteArray} (h : checkS p = 0) : p.data.toList.length ≤ 60 := by
  unfold checkS at h
  split at h
  · rename_i h1; rw [h1]; decide
  · show p.size ≤ 60
    cases hl : lens (parse p.data.toList) with
    | none => rw [hl] at h; simp [checkO] at h
    | some n =>
      rw [hl] at h
      unfold checkO at h
      split at h
      · exact absurd h (by omega)
      · omega
theorem keyStr {s : ByteArray} (h : s.size ≤ 140737488355328) : keyOf Tryz.prog 9 (.string s) = some (.string s.data.toList) := Go.WideMaps.keyOf_string_mk Tryz.underlying9 (by unfold maxLen; omega)
theorem mayCome_any (p : ByteArray) (w : World) (hp : p.size ≤ 140737488355328) : Calls Tryz.prog 115 #[.string p] w fun e w' => e = .returned (.bool (mayCome p)) ∧ Kept (fun _ => False) w w' := by
  have HC := Lib.hid (check_any p w hp)
  by_cases h : p.data.toList = [47]
  · have b1 : (p.toList == [47]) = true := by rw [eqSlash]; simpa using h
    have HE : Hid (mayCome p = false) := Lib.hid (by unfold mayCome; rw [decide_eq_false (fun e => e h)]; rfl)
    clear h
    go_enter Tryz.func115, Tryz.ntmps115
    go_wp2_with fail
    go_ret
    exact ⟨ret_bool HE.out.symm, Kept.refl _ _⟩
  · have b1 : (p.toList == [47]) = false := by rw [eqSlash]; simpa using h
    have HE : Hid (mayCome p = okP p) := Lib.hid (by unfold mayCome; rw [decide_eq_true h]; rfl)
    have HO : Hid (okP p = (checkS p == 0)) := Lib.hid (by unfold okP; by_cases h : checkS p = 0 <;> simp [h])
    clear h
    go_enter Tryz.func115, Tryz.ntmps115
    go_wp2_with fail
    refine HC.out.mono ?_
    rintro e w1 ⟨rfl, hb⟩
    have HB := Lib.hid hb
    clear hb
    go_wp2_with fail
    go_ret
    exact ⟨ret_bool (by rw [HE.out, HO.out]), keptB HB.out (Nat.le_refl _)⟩
section
variable {Z : Nat → Prop} {w w' : World} {q : TB} {M : TM} {c : Nat} {D E : DV}
theorem zxid_any (h : TAt Z w q M c) : Calls Tryz.prog 32 #[.pointer (some ⟨q.t, 0, none⟩)] w fun e w' => e = .returned (.int .i64 M.z) ∧ w = w' := by
  obtain ⟨D, E, h⟩ := h
  obtain ⟨c0, c1, c2, f⟩ := h.three
  clear h
  go_enter Tryz.func32, Tryz.ntmps32
  go_wp2
  go_ret
  exact ⟨rfl, rfl⟩
theorem TD.setZ (h : TD Z w q M c D E) (z : Int) : TD Z (w.setCell ⟨q.t, 2, none⟩ (.int .i64 z)) q { M with z := z } c D E := by
  have hk : Kept (fun k => k = q.t) w (w.setCell ⟨q.t, 2, none⟩ (.int .i64 z)) := kept_set w q.t 2 _
  have hnt := h.nt
  refine ⟨?_, ownsMap_kept h.n hk hnt.1, fun x => (h.N x).kept (hk.mono (T := TBs q) (fun j _ e => .inl e)) (fun b cur hb _ => h.noAcl b cur hb), ownsMap_kept h.s hk hnt.2, h.S, h.ns, h.okk, h.inZ, fun j hj => h.new j (Nat.le_trans hk.size hj)⟩
  have := heap_set (c := [.map (some q.n), .map (some q.s), .int .i64 M.z]) (i := 2) (.int .i64 z) h.at_
  exact this
theorem layZxid_any (h : TAt Z w q M c) (z : Int) : Calls Tryz.prog 57 #[.pointer (some ⟨q.t, 0, none⟩), .int .i64 z] w fun e w' => e = .returned (.tuple #[]) ∧ TAt Z w' q { M with z := z } c ∧ Kept (TBs q) w w' := by
  obtain ⟨D, E, h⟩ := h
  obtain ⟨c0, c1, c2, f⟩ := h.three
  have f2 := f 2
  have HZ := Lib.hid (h.setZ z)
  clear h f
  go_enter Tryz.func57, Tryz.ntmps57
  go_wp2
  go_end0
  exact ⟨rfl, ⟨D, E, HZ.out⟩, (kept_set w q.t 2 _).mono (fun j _ e => .inl e)⟩
set_option maxHeartbeats 1000000 in
theorem laySess_any (h : TAt Z w q M c) (id timeout : Int) (secret : ByteArray) (hi1 : -9223372036854775808 ≤ id) (hi2 : id ≤ 9223372036854775807) (hc : c < 4611686018427387904) :
    Calls Tryz.prog 55 #[.pointer (some ⟨q.t, 0, none⟩), .int .i64 id, .int .i64 timeout, .string secret] w fun e w' => e = .returned (.tuple #[]) ∧ TAt Z w' q (sessM M id timeout secret) (c + 1) ∧ Kept (TBs q) w w' := by
  obtain ⟨D, E, h⟩ := h
  obtain ⟨c0, c1, c2, f⟩ := h.three
  have HD := Lib.hid h
  by_cases hp : 0 < id
  · have HE : Hid (sessM M id timeout secret = { M with S := updN M.S id (some (timeout, secret)) }) := Lib.hid (by unfold sessM; rw [if_pos hp])
    obtain ⟨W', hrun, hown, hturn⟩ := h.s.store (t := 84) (e := 101) keyI Tryz.underlying84 (by unfold maxLen; omega) (key := .int .i64 id) (val := sessV (timeout, secret)) (keyOf_int_mk Tryz.underlying3 (WalkArith.wf_i64 (by omega))) (d := .held (sessV (timeout, secret))) (ps := []) rfl
    have HP := Lib.hid (h.putS hown (keptN hturn))
    have HK := Lib.hid ((keptN hturn).mono (T := TBs q) (fun j _ e => .inr (.inr e)))
    unfold sessV at hrun
    clear h hown hturn f
    go_enter Tryz.func55, Tryz.ntmps55
    go_wp2
    go_end0
    rw [HE.out]
    exact ⟨rfl, ⟨_, _, HP.out⟩, HK.out⟩
  · have HE : Hid (sessM M id timeout secret = M) := Lib.hid (by unfold sessM; rw [if_neg hp])
    clear h f
    go_enter Tryz.func55, Tryz.ntmps55
    go_wp2
    go_end0
    rw [HE.out]
    exact ⟨rfl, TAt.mono ⟨_, _, HD.out⟩ (Nat.le_succ _), Kept.refl _ _⟩
end
/-- an ACL that comes in -/
structure AclIn (w : World) (v : Value) (l : List AR) : Prop where
  ex : (v = .slice none 0 0 ∧ l = []) ∨ ∃ ad cap, v = .slice (some ad) l.length cap ∧ (∀ j u, (aclC l)[j]? = some u → w.cell? (ad.add j) = some u)
  room : l.length * 24 ≤ 140737488355328
theorem aclC_len (l : List AR) : (aclC l).length = l.length * 2 := by
  induction l with
  | nil => rfl
  | cons a l ih => unfold aclC at *; rw [List.flatMap_cons, List.length_append, ih]; simp [AR.cells]; omega
theorem aclC_one (l : List AR) : ∀ u ∈ aclC l, u.oneCell' = true := by
  intro u hu
  obtain ⟨r, _, hr⟩ := List.mem_flatMap.1 hu
  simp only [AR.cells, List.mem_cons, List.not_mem_nil, or_false] at hr
  rcases hr with rfl | rfl <;> rfl
theorem acl_info : (Tryz.prog.info? 89).map (fun i => (i.zero, i.size, i.bytes)) = some (some (.agg #[.int .i64 0, .string ByteArray.empty]), 2, 24) := by kernel_rfl
theorem aclIn_own {w : World} {B : Nat} {av : Value} {l : List AR} (h : w.ownsRow B 89 2 av l.length (aclC l)) (hr : l.length * 24 ≤ 140737488355328) : AclIn w av l := by
  refine ⟨?_, hr⟩
  rcases h.2 with ⟨hv, h0⟩ | ⟨g, cap, cur, hv, hb, hh, r⟩
  · exact .inl ⟨hv, List.length_eq_zero_iff.1 h0⟩
  · exact .inr ⟨_, _, hv, fun j u hj => h.cells (g := g) (by rw [hv]; rfl) j u hj⟩
theorem AclIn.kept {w w' : World} {v : Value} {l : List AR} (h : AclIn w v l) {X : Nat → Prop} (hk : Kept X w w') (hx : ∀ a n cap, v = .slice (some a) n cap → ¬ X a.block) : AclIn w' v l := by
  refine ⟨?_, h.room⟩
  rcases h.ex with hh | ⟨ad, cap, rfl, hc⟩
  · exact .inl hh
  · refine .inr ⟨ad, cap, rfl, fun j u hj => ?_⟩
    have h1 := hc j u hj
    have hb : (ad.add j).block = ad.block := by unfold Addr.add; split <;> rfl
    have hlt := World.block_lt_of_cell? w _ h1
    rw [World.cell?_of_block (w := w) (hk.block _ hlt (by rw [hb]; exact hx _ _ _ rfl))]; exact h1
theorem nil_eq (w : World) (a : Option Addr) (n c n' c' : Nat) : (binOp .eql 28 (.slice a n c) (.slice none n' c')).run Tryz.prog w = .ok (.bool a.isNone) w := Lib.run_eql_slice_nil w 28 _ a n c n' c' Tryz.underlying28
set_option maxRecDepth 100000 in
set_option maxHeartbeats 1000000 in
theorem clone_any {w : World} {v : Value} {l : List AR} (h : AclIn w v l) : Calls Tryz.prog 79 #[v] w fun e w' =>
    ∃ v', e = .returned v' ∧ w'.ownsRow w.heap.size 89 2 v' l.length (aclC l) ∧ Kept (fun _ => False) w w' := by
  have hr := h.room
  have hnil := nil_eq
  rcases h.ex with ⟨rfl, rfl⟩ | ⟨ad, cap, rfl, hc⟩
  · go_enter Tryz.func79, Tryz.ntmps79
    go_wp2
    go_ret
    exact ⟨_, rfl, World.ownsRow_nil _ _ _ _, Kept.refl _ _⟩
  · obtain ⟨i0, hi, hz0, hz1, hz2⟩ := info_parts acl_info
    have HSI := Lib.hid (And.intro hi (And.intro hz0 (And.intro hz1 hz2)))
    have hk0 : Kept (fun _ => False) w (w.alloc (.cells #[] 89)) := (Kept.refl _ w).alloc _
    have HK0 := Lib.hid hk0
    have HC0 : Hid (∀ j u, (aclC l)[j]? = some u → (w.alloc (.cells #[] 89)).cell? (ad.add j) = some u) := Lib.hid (fun j u hj => by
      have h1 := hc j u hj
      rw [World.cell?_alloc_some _ _ _ (by rw [h1]; rfl)]; exact h1)
    have HO : Hid ((w.alloc (.cells #[] 89)).ownsRow w.heap.size 89 2 (.slice (some ⟨w.heap.size, 0, none⟩) 0 0) 0 []) := Lib.hid ⟨rfl, .inr ⟨w.heap.size, 0, #[], rfl, Nat.le_refl _, heap_alloc_new w _, Nat.le_refl _, by decide, rfl, rfl⟩⟩
    clear hi hz0 hz1 hz2 hk0 hc h
    go_enter Tryz.func79, Tryz.ntmps79
    go_wp2_with (at_builtin; refine wpList_append_own _ rfl _ _ 28 rfl w.heap.size 89 i0 (.agg #[.int .i64 0, .string ByteArray.empty]) 2 24 Tryz.underlying28 HSI.out.1 HSI.out.2.1 HSI.out.2.2.1 HSI.out.2.2.2 rfl (by decide) (.slice (some ⟨w.heap.size, 0, none⟩) 0 0) 0 [] rfl HO.out ad l.length cap (aclC l) rfl (aclC_len l) HC0.out (aclC_one l) (by unfold maxLen; omega) (by omega) (by simp) (fun v6 w6 hown6 hg6 hnil6 => ?_); rw [Nat.zero_add, List.nil_append] at hown6; have HO6 := Lib.hid hown6; have HK6 : Hid (Kept (fun _ => False) w w6) := Lib.hid (by
      have h1 := ((HK0.out.mono (T := fun k => w.heap.size ≤ k) (fun _ _ f => f.elim)).trans' ((Kept.of_grownBy hg6).mono (T := fun k => w.heap.size ≤ k) (fun k _ e => by have e : some k = some w.heap.size := e; injection e with e; omega)) (fun _ _ h => h))
      exact ⟨h1.os, h1.tape, h1.output, h1.size, fun k hk _ => h1.block k hk (by omega)⟩); clear hown6 hg6 hnil6)
    go_ret
    exact ⟨_, rfl, HO6.out, HK6.out⟩
end Go.Proofs.YtenbdoceaabecaaGreat

namespace Go.Proofs.YtenbdoceaabecaaGreat
open Go.ChangeShapes Go.WideShapes Go.ChangeAt Go.RowKit Go.Maps
set_option linter.unusedVariables false
set_option linter.unusedSimpArgs false
section
variable {Z : Nat → Prop} {w w' : World} {q : TB} {M : TM} {c : Nat} {D E : DV}
theorem TD.lookNode (h : TD Z w q M c D E) (p : ByteArray) (hp : p.size ≤ 140737488355328) : (Instr.lookup 83 (.map (some q.n)) (.string p) true).run Tryz.prog w = .ok (.tuple #[(lookV D (.string p.data.toList)).getD node0, .bool (lookV D (.string p.data.toList)).isSome]) w :=
  owns_look h.n (t := 83) (e := 98) keyS Tryz.underlying83 (zero_node w) (keyStr hp)
theorem NdAt.some' {nd : Nd} {av : Value} (ha : AclAt w Z av nd.acl) : NdAt w Z (some (nodeV nd av)) (some nd) := ⟨av, rfl, ha⟩
theorem AclAt.shape {av : Value} {l : List AR} (h : AclAt w Z av l) : ∃ a n cap, av = .slice a n cap := by
  rcases h.1.2 with ⟨hv, h0⟩ | ⟨g, cap, cur, hv, hb, hh, r⟩
  · exact ⟨_, _, _, hv⟩
  · exact ⟨_, _, _, hv⟩
/-- a node is stored, at whatever world -/
theorem TD.storeN (h : TD Z w q M c D E) (p : ByteArray) (hp : p.size ≤ 140737488355328) (hl : p.data.toList.length ≤ 60) (hc : c < 4611686018427387904) {nd : Nd} {av : Value} (ha : AclAt w Z av nd.acl) :
    ∃ W, (Instr.mapUpdate 83 (.map (some q.n)) (.string p) (nodeV nd av)).run Tryz.prog w = .ok () W ∧ TAt Z W q { M with N := updN M.N p.data.toList (some nd) } (c + 1) ∧ Kept (TBs q) w W := by
  obtain ⟨W', hrun, hown, hturn⟩ := h.n.store (t := 83) (e := 98) keyS Tryz.underlying83 (by unfold maxLen; omega) (key := .string p) (val := nodeV nd av) (keyStr hp) (d := .held (nodeV nd av)) (ps := []) rfl
  exact ⟨W', hrun, ⟨_, _, h.putN (NdAt.some' ha) hl hown (keptN hturn)⟩, (keptN hturn).mono (fun j _ e => .inr (.inl e))⟩
theorem AclAt.kept {X : Nat → Prop} {av : Value} {l : List AR} (h : AclAt w Z av l) (hk : Kept X w w') (hx : ∀ k, k < w.heap.size → Z k → ¬ X k) : AclAt w' Z av l := by
  refine ⟨?_, h.2⟩
  rcases h.1.2 with h2 | ⟨g, cap, cur, rfl, hb, hh, r⟩
  · exact ⟨h.1.1, .inl h2⟩
  · exact ⟨h.1.1, .inr ⟨g, cap, cur, rfl, hb, by rw [hk.block g (lt_of_block hh) (hx g (lt_of_block hh) (h.2.1 g rfl))]; exact hh, r⟩⟩
theorem AclAt.kept0 {av : Value} {l : List AR} (h : AclAt w Z av l) (hk : Kept (fun _ => False) w w') : AclAt w' Z av l := h.kept hk (fun _ _ _ f => f)
set_option maxHeartbeats 400000 in
theorem setKids_any (h : TAt Z w q M c) (p : ByteArray) (cv zx : Int) (hp : p.size ≤ 140737488355328) (hc : c < 4611686018427387904) :
    Calls Tryz.prog 117 #[.pointer (some ⟨q.t, 0, none⟩), .string p, .int .i64 cv, .int .i64 zx] w fun e w' => e = .returned (.bool (hasN M p)) ∧ TAt Z w' q (kidsOf M p cv zx) (c + 1) ∧ Kept (TBs q) w w' := by
  obtain ⟨D, E, h⟩ := h
  obtain ⟨c0, c1, c2, f⟩ := h.three
  have HD := Lib.hid h
  have hlt := h.lt _ (.inl rfl)
  rcases h.look p.data.toList with ⟨nd, av, hM, hL, ha⟩ | ⟨hM, hL⟩
  · obtain ⟨va, vn, vc, rfl⟩ := ha.shape
    have hrun := h.lookNode p hp
    rw [hL] at hrun
    simp only [Option.getD_some, Option.isSome_some, nodeV] at hrun
    have HH : Hid (hasN M p = true) := Lib.hid (by unfold hasN; rw [hM]; rfl)
    have HE : Hid (kidsOf M p cv zx = { M with N := updN M.N p.data.toList (some { nd with st := { nd.st with cver := cv, pz := zx } }) }) := Lib.hid (by unfold kidsOf; rw [hM])
    have hk1 : Kept (fun _ => False) w ((w.alloc (Obj.cells #[.string nd.data, .slice va vn vc, .int .i64 nd.st.cz, .int .i64 nd.st.mz, .int .i64 zx, .int .i64 nd.st.ver, .int .i64 cv, .int .i64 nd.st.aver, .int .i64 nd.st.owner, .int .i64 0, .int .i64 0] 98)).drew) := ((Kept.refl _ w).alloc _).drew
    obtain ⟨W, hst, hT, hK⟩ := (h.kept0 hk1).storeN p hp (h.okk _ (by rw [hM]; exact fun e => nomatch e)) hc (nd := { nd with st := { nd.st with cver := cv, pz := zx } }) (ha.kept0 hk1)
    simp only [nodeV] at hst
    have HT := Lib.hid hT
    have HK := Lib.hid (hk1.mono (T := TBs q) (fun _ _ f => f.elim) |>.trans hK)
    clear h hL hT hK hk1 ha
    go_enter Tryz.func117, Tryz.ntmps117
    go_wp2_with (go_region)
    go_ret
    rw [HE.out]
    exact ⟨ret_bool HH.out.symm, HT.out, HK.out⟩
  · have hrun := h.lookNode p hp
    rw [hL] at hrun
    simp only [Option.getD_none, Option.isSome_none, node0] at hrun
    have HH : Hid (hasN M p = false) := Lib.hid (by unfold hasN; rw [hM]; rfl)
    have HE : Hid (kidsOf M p cv zx = M) := Lib.hid (by unfold kidsOf; rw [hM])
    clear h hL
    go_enter Tryz.func117, Tryz.ntmps117
    go_wp2
    go_ret
    rw [HE.out]
    exact ⟨ret_bool HH.out.symm, TAt.mono ⟨_, _, HD.out.kept0 ((Kept.refl _ w).alloc _)⟩ (Nat.le_succ _), (Kept.refl _ w).alloc _⟩
end
end Go.Proofs.YtenbdoceaabecaaGreat
