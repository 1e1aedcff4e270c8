/- The small calls of a tree: mayCome, Zxid, LayZxid, LaySession; an ACL cloned; setKids. setKids, Lay. Lay, New. -/
import Derived.Test.YtjlffmkiiphfcaaP04
import Derived.Laws.AppendOwn
import Derived.StringKeys
import Derived.Deep.RegionHeld3
import Derived.IntWalk
import Derived.OwnWalk
import Derived.BigQuiet
import Derived.Lib.SliceRun
namespace Go.Proofs.Ytjlffmkiiphfcaa
open Go.ChangeShapes Go.WideShapes Go.ChangeAt Go.RowKit Go.Maps
set_option linter.unusedVariables false
set_option linter.unusedSimpArgs false
theorem checkS_len {p : ByteArray} (h : checkS p = 0) : p.data.toList.length ≤ 60 := by
  unfold checkS at h
  split at h
  · rename_i h1; rw [h1]; decide
  · show p.size ≤ 60
    cases hl : lens (parse p.data.toList) with
    | none => rw [hl] at h; simp [checkO] at h
    | some n =>
      rw [hl] at h
      unfold checkO at h
      split at h
      · exact absurd h (by omega)
      · omega
theorem keyStr {s : ByteArray} (h : s.size ≤ 140737488355328) : keyOf Try.prog 9 (.string s) = some (.string s.data.toList) := Go.WideMaps.keyOf_string_mk Try.underlying9 (by unfold maxLen; omega)
theorem mayCome_any (p : ByteArray) (w : World) (hp : p.size ≤ 140737488355328) : Calls Try.prog 90 #[.string p] w fun e w' => e = .returned (.bool (mayCome p)) ∧ Kept (fun _ => False) w w' := by
  have HC := Lib.hid (check_any p w hp)
  by_cases h : p.data.toList = [47]
  · have b1 : (p.toList == [47]) = true := by rw [eqSlash]; simpa using h
    have HE : Hid (mayCome p = false) := Lib.hid (by unfold mayCome; rw [decide_eq_false (fun e => e h)]; rfl)
    clear h
    go_enter Try.func90, Try.ntmps90
    go_wp2_with fail
    go_ret
    exact ⟨ret_bool HE.out.symm, Kept.refl _ _⟩
  · have b1 : (p.toList == [47]) = false := by rw [eqSlash]; simpa using h
    have HE : Hid (mayCome p = okP p) := Lib.hid (by unfold mayCome; rw [decide_eq_true h]; rfl)
    have HO : Hid (okP p = (checkS p == 0)) := Lib.hid (by unfold okP; by_cases h : checkS p = 0 <;> simp [h])
    clear h
    go_enter Try.func90, Try.ntmps90
    go_wp2_with fail
    refine HC.out.mono ?_
    rintro e w1 ⟨rfl, hb⟩
    have HB := Lib.hid hb
    clear hb
    go_wp2_with fail
    go_ret
    exact ⟨ret_bool (by rw [HE.out, HO.out]), keptB HB.out (Nat.le_refl _)⟩
section
variable {Z : Nat → Prop} {w w' : World} {q : TB} {M : TM} {c : Nat} {D E : DV}
theorem zxid_any (h : TAt Z w q M c) : Calls Try.prog 23 #[.pointer (some ⟨q.t, 0, none⟩)] w fun e w' => e = .returned (.int .i64 M.z) ∧ w = w' := by
  obtain ⟨D, E, h⟩ := h
  obtain ⟨c0, c1, c2, f⟩ := h.three
  clear h
  go_enter Try.func23, Try.ntmps23
  go_wp2
  go_ret
  exact ⟨rfl, rfl⟩
theorem TD.setZ (h : TD Z w q M c D E) (z : Int) : TD Z (w.setCell ⟨q.t, 2, none⟩ (.int .i64 z)) q { M with z := z } c D E := by
  have hk : Kept (fun k => k = q.t) w (w.setCell ⟨q.t, 2, none⟩ (.int .i64 z)) := kept_set w q.t 2 _
  have hnt := h.nt
  refine ⟨?_, ownsMap_kept h.n hk hnt.1, fun x => (h.N x).kept (hk.mono (T := TBs q) (fun j _ e => .inl e)) (fun b cur hb _ => h.noAcl b cur hb), ownsMap_kept h.s hk hnt.2, h.S, h.ns, h.okk, h.inZ, fun j hj => h.new j (Nat.le_trans hk.size hj)⟩
  have := heap_set (c := [.map (some q.n), .map (some q.s), .int .i64 M.z]) (i := 2) (.int .i64 z) h.at_
  exact this
theorem layZxid_any (h : TAt Z w q M c) (z : Int) : Calls Try.prog 22 #[.pointer (some ⟨q.t, 0, none⟩), .int .i64 z] w fun e w' => e = .returned (.tuple #[]) ∧ TAt Z w' q { M with z := z } c ∧ Kept (TBs q) w w' := by
  obtain ⟨D, E, h⟩ := h
  obtain ⟨c0, c1, c2, f⟩ := h.three
  have f2 := f 2
  have HZ := Lib.hid (h.setZ z)
  clear h f
  go_enter Try.func22, Try.ntmps22
  go_wp2
  go_end0
  exact ⟨rfl, ⟨D, E, HZ.out⟩, (kept_set w q.t 2 _).mono (fun j _ e => .inl e)⟩
set_option maxHeartbeats 1000000 in
theorem laySess_any (h : TAt Z w q M c) (id timeout : Int) (secret : ByteArray) (hi1 : -9223372036854775808 ≤ id) (hi2 : id ≤ 9223372036854775807) (hc : c < 4611686018427387904) :
    Calls Try.prog 68 #[.pointer (some ⟨q.t, 0, none⟩), .int .i64 id, .int .i64 timeout, .string secret] w fun e w' => e = .returned (.tuple #[]) ∧ TAt Z w' q (sessM M id timeout secret) (c + 1) ∧ Kept (TBs q) w w' := by
  obtain ⟨D, E, h⟩ := h
  obtain ⟨c0, c1, c2, f⟩ := h.three
  have HD := Lib.hid h
  by_cases hp : 0 < id
  · have HE : Hid (sessM M id timeout secret = { M with S := updN M.S id (some (timeout, secret)) }) := Lib.hid (by unfold sessM; rw [if_pos hp])
    obtain ⟨W', hrun, hown, hturn⟩ := h.s.store (t := 90) (e := 102) keyI Try.underlying90 (by unfold maxLen; omega) (key := .int .i64 id) (val := sessV (timeout, secret)) (keyOf_int_mk Try.underlying3 (WalkArith.wf_i64 (by omega))) (d := .held (sessV (timeout, secret))) (ps := []) rfl
    have HP := Lib.hid (h.putS hown (keptN hturn))
    have HK := Lib.hid ((keptN hturn).mono (T := TBs q) (fun j _ e => .inr (.inr e)))
    unfold sessV at hrun
    clear h hown hturn f
    go_enter Try.func68, Try.ntmps68
    go_wp2
    go_end0
    rw [HE.out]
    exact ⟨rfl, ⟨_, _, HP.out⟩, HK.out⟩
  · have HE : Hid (sessM M id timeout secret = M) := Lib.hid (by unfold sessM; rw [if_neg hp])
    clear h f
    go_enter Try.func68, Try.ntmps68
    go_wp2
    go_end0
    rw [HE.out]
    exact ⟨rfl, TAt.mono ⟨_, _, HD.out⟩ (Nat.le_succ _), Kept.refl _ _⟩
end
/-- an ACL that comes in -/
structure AclIn (w : World) (v : Value) (l : List AR) : Prop where
  ex : (v = .slice none 0 0 ∧ l = []) ∨ ∃ ad cap, v = .slice (some ad) l.length cap ∧ (∀ j u, (aclC l)[j]? = some u → w.cell? (ad.add j) = some u)
  room : l.length * 24 ≤ 140737488355328
theorem aclC_len (l : List AR) : (aclC l).length = l.length * 2 := by
  induction l with
  | nil => rfl
  | cons a l ih => unfold aclC at *; rw [List.flatMap_cons, List.length_append, ih]; simp [AR.cells]; omega
theorem aclC_one (l : List AR) : ∀ u ∈ aclC l, u.oneCell' = true := by
  intro u hu
  obtain ⟨r, _, hr⟩ := List.mem_flatMap.1 hu
  simp only [AR.cells, List.mem_cons, List.not_mem_nil, or_false] at hr
  rcases hr with rfl | rfl <;> rfl
theorem acl_info : (Try.prog.info? 95).map (fun i => (i.zero, i.size, i.bytes)) = some (some (.agg #[.int .i64 0, .string ByteArray.empty]), 2, 24) := by kernel_rfl
theorem aclIn_own {w : World} {B : Nat} {av : Value} {l : List AR} (h : w.ownsRow B 95 2 av l.length (aclC l)) (hr : l.length * 24 ≤ 140737488355328) : AclIn w av l := by
  refine ⟨?_, hr⟩
  rcases h.2 with ⟨hv, h0⟩ | ⟨g, cap, cur, hv, hb, hh, r⟩
  · exact .inl ⟨hv, List.length_eq_zero_iff.1 h0⟩
  · exact .inr ⟨_, _, hv, fun j u hj => h.cells (g := g) (by rw [hv]; rfl) j u hj⟩
theorem AclIn.kept {w w' : World} {v : Value} {l : List AR} (h : AclIn w v l) {X : Nat → Prop} (hk : Kept X w w') (hx : ∀ a n cap, v = .slice (some a) n cap → ¬ X a.block) : AclIn w' v l := by
  refine ⟨?_, h.room⟩
  rcases h.ex with hh | ⟨ad, cap, rfl, hc⟩
  · exact .inl hh
  · refine .inr ⟨ad, cap, rfl, fun j u hj => ?_⟩
    have h1 := hc j u hj
    have hb : (ad.add j).block = ad.block := by unfold Addr.add; split <;> rfl
    have hlt := World.block_lt_of_cell? w _ h1
    rw [World.cell?_of_block (w := w) (hk.block _ hlt (by rw [hb]; exact hx _ _ _ rfl))]; exact h1
theorem nil_eq (w : World) (a : Option Addr) (n c n' c' : Nat) : (binOp .eql 35 (.slice a n c) (.slice none n' c')).run Try.prog w = .ok (.bool a.isNone) w := Lib.run_eql_slice_nil w 35 _ a n c n' c' Try.underlying35
set_option maxRecDepth 100000 in
set_option maxHeartbeats 1000000 in
theorem clone_any {w : World} {v : Value} {l : List AR} (h : AclIn w v l) : Calls Try.prog 67 #[v] w fun e w' =>
    ∃ v', e = .returned v' ∧ w'.ownsRow w.heap.size 95 2 v' l.length (aclC l) ∧ Kept (fun _ => False) w w' := by
  have hr := h.room
  have hnil := nil_eq
  rcases h.ex with ⟨rfl, rfl⟩ | ⟨ad, cap, rfl, hc⟩
  · go_enter Try.func67, Try.ntmps67
    go_wp2
    go_ret
    exact ⟨_, rfl, World.ownsRow_nil _ _ _ _, Kept.refl _ _⟩
  · obtain ⟨i0, hi, hz0, hz1, hz2⟩ := info_parts acl_info
    have HSI := Lib.hid (And.intro hi (And.intro hz0 (And.intro hz1 hz2)))
    have hk0 : Kept (fun _ => False) w (w.alloc (.cells #[] 95)) := (Kept.refl _ w).alloc _
    have HK0 := Lib.hid hk0
    have HC0 : Hid (∀ j u, (aclC l)[j]? = some u → (w.alloc (.cells #[] 95)).cell? (ad.add j) = some u) := Lib.hid (fun j u hj => by
      have h1 := hc j u hj
      rw [World.cell?_alloc_some _ _ _ (by rw [h1]; rfl)]; exact h1)
    have HO : Hid ((w.alloc (.cells #[] 95)).ownsRow w.heap.size 95 2 (.slice (some ⟨w.heap.size, 0, none⟩) 0 0) 0 []) := Lib.hid ⟨rfl, .inr ⟨w.heap.size, 0, #[], rfl, Nat.le_refl _, heap_alloc_new w _, Nat.le_refl _, by decide, rfl, rfl⟩⟩
    clear hi hz0 hz1 hz2 hk0 hc h
    go_enter Try.func67, Try.ntmps67
    go_wp2_with (at_builtin; refine wpList_append_own _ rfl _ _ 35 rfl w.heap.size 95 i0 (.agg #[.int .i64 0, .string ByteArray.empty]) 2 24 Try.underlying35 HSI.out.1 HSI.out.2.1 HSI.out.2.2.1 HSI.out.2.2.2 rfl (by decide) (.slice (some ⟨w.heap.size, 0, none⟩) 0 0) 0 [] rfl HO.out ad l.length cap (aclC l) rfl (aclC_len l) HC0.out (aclC_one l) (by unfold maxLen; omega) (by omega) (by simp) (fun v6 w6 hown6 hg6 hnil6 => ?_); rw [Nat.zero_add, List.nil_append] at hown6; have HO6 := Lib.hid hown6; have HK6 : Hid (Kept (fun _ => False) w w6) := Lib.hid (by
      have h1 := ((HK0.out.mono (T := fun k => w.heap.size ≤ k) (fun _ _ f => f.elim)).trans' ((Kept.of_grownBy hg6).mono (T := fun k => w.heap.size ≤ k) (fun k _ e => by have e : some k = some w.heap.size := e; injection e with e; omega)) (fun _ _ h => h))
      exact ⟨h1.os, h1.tape, h1.output, h1.size, fun k hk _ => h1.block k hk (by omega)⟩); clear hown6 hg6 hnil6)
    go_ret
    exact ⟨_, rfl, HO6.out, HK6.out⟩
end Go.Proofs.Ytjlffmkiiphfcaa

namespace Go.Proofs.Ytjlffmkiiphfcaa
open Go.ChangeShapes Go.WideShapes Go.ChangeAt Go.RowKit Go.Maps
set_option linter.unusedVariables false
set_option linter.unusedSimpArgs false
section
variable {Z : Nat → Prop} {w w' : World} {q : TB} {M : TM} {c : Nat} {D E : DV}
theorem TD.lookNode (h : TD Z w q M c D E) (p : ByteArray) (hp : p.size ≤ 140737488355328) : (Instr.lookup 89 (.map (some q.n)) (.string p) true).run Try.prog w = .ok (.tuple #[(lookV D (.string p.data.toList)).getD node0, .bool (lookV D (.string p.data.toList)).isSome]) w :=
  owns_look h.n (t := 89) (e := 99) keyS Try.underlying89 (zero_node w) (keyStr hp)
theorem NdAt.some' {nd : Nd} {av : Value} (ha : AclAt w Z av nd.acl) : NdAt w Z (some (nodeV nd av)) (some nd) := ⟨av, rfl, ha⟩
theorem AclAt.shape {av : Value} {l : List AR} (h : AclAt w Z av l) : ∃ a n cap, av = .slice a n cap := by
  rcases h.1.2 with ⟨hv, h0⟩ | ⟨g, cap, cur, hv, hb, hh, r⟩
  · exact ⟨_, _, _, hv⟩
  · exact ⟨_, _, _, hv⟩
/-- a node is stored, at whatever world -/
theorem TD.storeN (h : TD Z w q M c D E) (p : ByteArray) (hp : p.size ≤ 140737488355328) (hl : p.data.toList.length ≤ 60) (hc : c < 4611686018427387904) {nd : Nd} {av : Value} (ha : AclAt w Z av nd.acl) :
    ∃ W, (Instr.mapUpdate 89 (.map (some q.n)) (.string p) (nodeV nd av)).run Try.prog w = .ok () W ∧ TAt Z W q { M with N := updN M.N p.data.toList (some nd) } (c + 1) ∧ Kept (TBs q) w W := by
  obtain ⟨W', hrun, hown, hturn⟩ := h.n.store (t := 89) (e := 99) keyS Try.underlying89 (by unfold maxLen; omega) (key := .string p) (val := nodeV nd av) (keyStr hp) (d := .held (nodeV nd av)) (ps := []) rfl
  exact ⟨W', hrun, ⟨_, _, h.putN (NdAt.some' ha) hl hown (keptN hturn)⟩, (keptN hturn).mono (fun j _ e => .inr (.inl e))⟩
theorem AclAt.kept {X : Nat → Prop} {av : Value} {l : List AR} (h : AclAt w Z av l) (hk : Kept X w w') (hx : ∀ k, k < w.heap.size → Z k → ¬ X k) : AclAt w' Z av l := by
  refine ⟨?_, h.2⟩
  rcases h.1.2 with h2 | ⟨g, cap, cur, rfl, hb, hh, r⟩
  · exact ⟨h.1.1, .inl h2⟩
  · exact ⟨h.1.1, .inr ⟨g, cap, cur, rfl, hb, by rw [hk.block g (lt_of_block hh) (hx g (lt_of_block hh) (h.2 g rfl))]; exact hh, r⟩⟩
theorem AclAt.kept0 {av : Value} {l : List AR} (h : AclAt w Z av l) (hk : Kept (fun _ => False) w w') : AclAt w' Z av l := h.kept hk (fun _ _ _ f => f)
set_option maxHeartbeats 400000 in
theorem setKids_any (h : TAt Z w q M c) (p : ByteArray) (cv zx : Int) (hp : p.size ≤ 140737488355328) (hc : c < 4611686018427387904) :
    Calls Try.prog 92 #[.pointer (some ⟨q.t, 0, none⟩), .string p, .int .i64 cv, .int .i64 zx] w fun e w' => e = .returned (.bool (hasN M p)) ∧ TAt Z w' q (kidsOf M p cv zx) (c + 1) ∧ Kept (TBs q) w w' := by
  obtain ⟨D, E, h⟩ := h
  obtain ⟨c0, c1, c2, f⟩ := h.three
  have HD := Lib.hid h
  have hlt := h.lt _ (.inl rfl)
  rcases h.look p.data.toList with ⟨nd, av, hM, hL, ha⟩ | ⟨hM, hL⟩
  · obtain ⟨va, vn, vc, rfl⟩ := ha.shape
    have hrun := h.lookNode p hp
    rw [hL] at hrun
    simp only [Option.getD_some, Option.isSome_some, nodeV] at hrun
    have HH : Hid (hasN M p = true) := Lib.hid (by unfold hasN; rw [hM]; rfl)
    have HE : Hid (kidsOf M p cv zx = { M with N := updN M.N p.data.toList (some { nd with st := { nd.st with cver := cv, pz := zx } }) }) := Lib.hid (by unfold kidsOf; rw [hM])
    have hk1 : Kept (fun _ => False) w ((w.alloc (Obj.cells #[.string nd.data, .slice va vn vc, .int .i64 nd.st.cz, .int .i64 nd.st.mz, .int .i64 zx, .int .i64 nd.st.ver, .int .i64 cv, .int .i64 nd.st.aver, .int .i64 nd.st.owner, .int .i64 0, .int .i64 0] 99)).drew) := ((Kept.refl _ w).alloc _).drew
    obtain ⟨W, hst, hT, hK⟩ := (h.kept0 hk1).storeN p hp (h.okk _ (by rw [hM]; exact fun e => nomatch e)) hc (nd := { nd with st := { nd.st with cver := cv, pz := zx } }) (ha.kept0 hk1)
    simp only [nodeV] at hst
    have HT := Lib.hid hT
    have HK := Lib.hid (hk1.mono (T := TBs q) (fun _ _ f => f.elim) |>.trans hK)
    clear h hL hT hK hk1 ha
    go_enter Try.func92, Try.ntmps92
    go_wp2_with (go_region)
    go_ret
    rw [HE.out]
    exact ⟨ret_bool HH.out.symm, HT.out, HK.out⟩
  · have hrun := h.lookNode p hp
    rw [hL] at hrun
    simp only [Option.getD_none, Option.isSome_none, node0] at hrun
    have HH : Hid (hasN M p = false) := Lib.hid (by unfold hasN; rw [hM]; rfl)
    have HE : Hid (kidsOf M p cv zx = M) := Lib.hid (by unfold kidsOf; rw [hM])
    clear h hL
    go_enter Try.func92, Try.ntmps92
    go_wp2
    go_ret
    rw [HE.out]
    exact ⟨ret_bool HH.out.symm, TAt.mono ⟨_, _, HD.out.kept0 ((Kept.refl _ w).alloc _)⟩ (Nat.le_succ _), (Kept.refl _ w).alloc _⟩
end
end Go.Proofs.Ytjlffmkiiphfcaa

namespace Go.Proofs.Ytjlffmkiiphfcaa
open Go.ChangeShapes Go.WideShapes Go.ChangeAt Go.RowKit Go.Maps
set_option linter.unusedVariables false
set_option linter.unusedSimpArgs false
def statV (s : St) (len kids : Int) : Value := .agg #[.int .i64 s.cz, .int .i64 s.mz, .int .i64 s.pz, .int .i64 s.ver, .int .i64 s.cver, .int .i64 s.aver, .int .i64 s.owner, .int .i64 len, .int .i64 kids]
/-- a Stat in a box -/
def BoxS (w : World) (b : Nat) (s : St) (len kids : Int) : Prop := w.heap[b]? = some (.cells #[.int .i64 s.cz, .int .i64 s.mz, .int .i64 s.pz, .int .i64 s.ver, .int .i64 s.cver, .int .i64 s.aver, .int .i64 s.owner, .int .i64 len, .int .i64 kids] 56 (0, 0))
structure Nine (w : World) (b : Nat) (s : St) (len kids : Int) : Prop where
  b0 : w.cell? ⟨b, 0, none⟩ = some (.int .i64 s.cz)
  b1 : w.cell? ⟨b, 1, none⟩ = some (.int .i64 s.mz)
  b2 : w.cell? ⟨b, 2, none⟩ = some (.int .i64 s.pz)
  b3 : w.cell? ⟨b, 3, none⟩ = some (.int .i64 s.ver)
  b4 : w.cell? ⟨b, 4, none⟩ = some (.int .i64 s.cver)
  b5 : w.cell? ⟨b, 5, none⟩ = some (.int .i64 s.aver)
  b6 : w.cell? ⟨b, 6, none⟩ = some (.int .i64 s.owner)
  b7 : w.cell? ⟨b, 7, none⟩ = some (.int .i64 len)
  b8 : w.cell? ⟨b, 8, none⟩ = some (.int .i64 kids)
  f : ∀ i, w.frozen? ⟨b, i, none⟩ = false
theorem BoxS.nine {w : World} {b : Nat} {s : St} {len kids : Int} (h : BoxS w b s len kids) : Nine w b s len kids := by
  have e : ∀ i, w.cell? ⟨b, i, none⟩ = ([.int .i64 s.cz, .int .i64 s.mz, .int .i64 s.pz, .int .i64 s.ver, .int .i64 s.cver, .int .i64 s.aver, .int .i64 s.owner, .int .i64 len, .int .i64 kids] : List Value)[i]? := fun i => by
    rw [cell_of_row w b i _ _ (0, 0) h, ← Array.getElem?_toList]
  exact ⟨e 0, e 1, e 2, e 3, e 4, e 5, e 6, e 7, e 8, fun i => by simp [World.frozen?, (show w.heap[b]? = some _ from h)]⟩
theorem BoxS.kept0 {w w' : World} {b : Nat} {s : St} {len kids : Int} (h : BoxS w b s len kids) (hk : Kept (fun _ => False) w w') : BoxS w' b s len kids := (hk.block b (lt_of_block h) (fun f => f)).trans h
theorem BoxS.kept' {X : Nat → Prop} {w w' : World} {b : Nat} {s : St} {len kids : Int} (h : BoxS w b s len kids) (hk : Kept X w.drew w') (hx : ¬ X b) : BoxS w' b s len kids := (hk.block b (lt_of_block h) hx).trans h
theorem BoxS.zero {w : World} {b : Nat} {s : St} {len kids : Int} (h : BoxS w b s len kids) : BoxS ((w.setCell ⟨b, 7, none⟩ (.int .i64 0)).setCell ⟨b, 8, none⟩ (.int .i64 0)) b s 0 0 := by
  have h1 := heap_set (c := [.int .i64 s.cz, .int .i64 s.mz, .int .i64 s.pz, .int .i64 s.ver, .int .i64 s.cver, .int .i64 s.aver, .int .i64 s.owner, .int .i64 len, .int .i64 kids]) (i := 7) (.int .i64 0) h
  exact heap_set (c := [.int .i64 s.cz, .int .i64 s.mz, .int .i64 s.pz, .int .i64 s.ver, .int .i64 s.cver, .int .i64 s.aver, .int .i64 s.owner, .int .i64 0, .int .i64 kids]) (i := 8) (.int .i64 0) h1
section
variable {Z : Nat → Prop} {w w' : World} {q : TB} {M : TM} {c : Nat} {D E : DV}
theorem TAt.c0 (h : TAt Z w q M c) : w.cell? ⟨q.t, 0, none⟩ = some (.map (some q.n)) := by
  obtain ⟨D, E, h⟩ := h; exact h.three.c0
theorem aclAt_new {B : Nat} {v : Value} {l : List AR} (h : w.ownsRow B 95 2 v l.length (aclC l)) (hz : ∀ k, B ≤ k → Z k) : AclAt w Z v l := by
  rcases h.2 with ⟨hv, h0⟩ | ⟨g, cap, cur, rfl, hb, hh, r⟩
  · exact ⟨⟨h.1, .inl ⟨hv, h0⟩⟩, fun k hk => by rw [hv] at hk; cases hk⟩
  · exact ⟨⟨h.1, .inr ⟨g, cap, cur, rfl, Nat.zero_le _, hh, r⟩⟩, fun k hk => by have : some g = some k := hk; injection this with e; exact hz k (e ▸ hb)⟩
theorem TD.layStep (h : TD Z w q M c D E) {w5 : World} {v : Value} {l : List AR} (hk : Kept (fun _ => False) w w5) (hown : w5.ownsRow w.heap.size 95 2 v l.length (aclC l)) (p data : ByteArray) (s : St) (hp : p.size ≤ 140737488355328) (hl : p.data.toList.length ≤ 60) (hc : c < 4611686018427387904) :
    ∃ va vn vc W, v = .slice va vn vc ∧ (Instr.mapUpdate 89 (.map (some q.n)) (.string p) (.agg #[.string data, .slice va vn vc, .int .i64 s.cz, .int .i64 s.mz, .int .i64 s.pz, .int .i64 s.ver, .int .i64 s.cver, .int .i64 s.aver, .int .i64 s.owner, .int .i64 0, .int .i64 0])).run Try.prog w5 = .ok () W ∧ TAt Z W q { M with N := updN M.N p.data.toList (some ⟨data, l, s⟩) } (c + 1) ∧ Kept (TBs q) w W := by
  have ha : AclAt w5 Z v l := aclAt_new hown h.new
  obtain ⟨va, vn, vc, rfl⟩ := ha.shape
  obtain ⟨W, hst, hT, hK⟩ := (h.kept0 hk).storeN p hp hl hc (nd := ⟨data, l, s⟩) ha
  exact ⟨va, vn, vc, W, rfl, hst, hT, (hk.mono (T := TBs q) (fun _ _ f => f.elim)).trans hK⟩
theorem kept_in {B : Nat} (h : Kept (fun k => k = B) w w') {w0 : World} (h0 : Kept (fun _ => False) w0 w) (hB : w0.heap.size ≤ B) : Kept (fun _ => False) w0 w' :=
  ⟨h.os.trans h0.os, h.tape.trans h0.tape, h.output.trans h0.output, Nat.le_trans h0.size h.size, fun k hk _ => (h.block k (Nat.lt_of_lt_of_le hk h0.size) (by omega)).trans (h0.block k hk (fun f => f))⟩
set_option maxRecDepth 100000 in
set_option maxHeartbeats 1000000 in
theorem lay_any (h : TAt Z w q M c) (p data : ByteArray) {v : Value} {l : List AR} (hv : AclIn w v l) (s : St) (len kids : Int) (hp : p.size ≤ 140737488355328) (hc : c < 4611686018427387904) :
    Calls Try.prog 41 #[.pointer (some ⟨q.t, 0, none⟩), .string p, .string data, v, statV s len kids] w fun e w' => e = .returned (.tuple #[]) ∧ TAt Z w' q (layM M p data l s) (c + 1) ∧ Kept (TBs q) w w' := by
  obtain ⟨D, E, h⟩ := h
  have HD := Lib.hid h
  have hlt := h.lt _ (.inl rfl)
  have HNB : Hid (¬ TBs q w.heap.size) := Lib.hid (fun e => Nat.lt_irrefl _ (h.lt _ e))
  unfold statV
  have HV := Lib.hid hv
  have HB0 : Hid (BoxS (w.alloc (.cells #[.int .i64 s.cz, .int .i64 s.mz, .int .i64 s.pz, .int .i64 s.ver, .int .i64 s.cver, .int .i64 s.aver, .int .i64 s.owner, .int .i64 len, .int .i64 kids] 56)) w.heap.size s len kids) := Lib.hid (heap_alloc_new w _)
  have HC := Lib.hid (fun w => check_any p w hp)
  by_cases hk : checkS p = 0
  · have hl := checkS_len hk
    have HE : Hid (layM M p data l s = { M with N := updN M.N p.data.toList (some ⟨data, l, s⟩) }) := Lib.hid (by unfold layM okP; rw [if_pos (by simp [hk])])
    clear h hv
    go_enter Try.func41, Try.ntmps41
    go_wp2_with fail
    refine (HC.out _).mono ?_
    rintro e w1 ⟨rfl, hb⟩
    have HK1 := Lib.hid (keptB hb (Nat.le_refl _))
    have HB1 := Lib.hid (HB0.out.kept0 HK1.out)
    obtain ⟨b0, b1, b2, b3, b4, b5, b6, b7, b8, bf⟩ := HB1.out.nine
    clear hb
    rw [hk]
    go_wp2_with fail
    have HB2 := Lib.hid HB1.out.zero
    have hk2 : Kept (fun k => k = w.heap.size) w1 ((w1.setCell ⟨w.heap.size, 7, none⟩ (.int .i64 0)).setCell ⟨w.heap.size, 8, none⟩ (.int .i64 0)) := (kept_set w1 w.heap.size 7 _).setCell (a := ⟨w.heap.size, 8, none⟩) (.inl rfl) _
    have HK2 := Lib.hid (kept_in hk2 (((Kept.refl (fun _ => False) w).alloc _).trans HK1.out) (Nat.le_refl _))
    generalize ((w1.setCell ⟨w.heap.size, 7, none⟩ (.int .i64 0)).setCell ⟨w.heap.size, 8, none⟩ (.int .i64 0)) = w2 at HB2 HK2 ⊢
    have HK3 := Lib.hid (HK2.out.drew)
    have HV2 := Lib.hid (HV.out.kept HK3.out (fun _ _ _ _ f => f))
    have HD2 := Lib.hid (HD.out.kept0 HK3.out)
    have hbx : BoxS w2.drew w.heap.size s 0 0 := HB2.out
    clear b0 b1 b2 b3 b4 b5 b6 b7 b8 bf hk2 HB1 HB0 HK1
    obtain ⟨b0, b1, b2, b3, b4, b5, b6, b7, b8, bf⟩ := hbx.nine
    have t0 := HD2.out.three.c0
    go_region_held3 (fun w' => w'.cell? ⟨w.heap.size, 0, none⟩ = some (.int .i64 s.cz) ∧ w'.cell? ⟨w.heap.size, 1, none⟩ = some (.int .i64 s.mz) ∧ w'.cell? ⟨w.heap.size, 2, none⟩ = some (.int .i64 s.pz) ∧ w'.cell? ⟨w.heap.size, 3, none⟩ = some (.int .i64 s.ver) ∧ w'.cell? ⟨w.heap.size, 4, none⟩ = some (.int .i64 s.cver) ∧ w'.cell? ⟨w.heap.size, 5, none⟩ = some (.int .i64 s.aver) ∧ w'.cell? ⟨w.heap.size, 6, none⟩ = some (.int .i64 s.owner) ∧ w'.cell? ⟨w.heap.size, 7, none⟩ = some (.int .i64 0) ∧ w'.cell? ⟨w.heap.size, 8, none⟩ = some (.int .i64 0) ∧ w'.cell? ⟨q.t, 0, none⟩ = some (.map (some q.n)))
      (first | assumption | go_keep)
      (first
        | (go_at_call 67; with_reducible refine (clone_any HV2.out).mono ?_; rintro e w5 ⟨v', rfl, hown, hk5⟩; obtain ⟨va, vn, vc, W, rfl, hst, hT, hKW⟩ := HD2.out.layStep hk5 hown p data s hp hl hc; replace hbx := hbx.kept0 hk5; have HT := Lib.hid hT; have HKW := Lib.hid hKW; clear hown hKW t0 b0 b1 b2 b3 b4 b5 b6 b7 b8 bf; obtain ⟨b0, b1, b2, b3, b4, b5, b6, b7, b8, bf⟩ := hbx.nine; have t0 := (HD2.out.kept0 hk5).three.c0; have hbW := BoxS.kept' HB2.out HKW.out HNB.out; obtain ⟨d0, d1, d2, d3, d4, d5, d6, d7, d8, df⟩ := hbW.nine; have d9 := hT.c0; clear hk5 hbW hT))
    go_wp2_with fail
    go_end0
    rw [HE.out]
    exact ⟨rfl, HT.out, (HK3.out.mono (fun _ _ f => f.elim)).trans HKW.out⟩
  · have HE : Hid (layM M p data l s = M) := Lib.hid (by unfold layM okP; rw [if_neg (by simp [hk])])
    clear h hv
    go_enter Try.func41, Try.ntmps41
    go_wp2_with fail
    refine (HC.out _).mono ?_
    rintro e w1 ⟨rfl, hb⟩
    have HK1 := Lib.hid (keptB hb (Nat.le_refl _))
    clear hb
    go_wp2_with fail
    refine bodyPost_ret (results_none rfl _ _ _) rfl ?_
    rw [HE.out]
    exact ⟨rfl, TAt.mono ⟨_, _, HD.out.kept0 (((Kept.refl _ w).alloc _).trans HK1.out)⟩ (Nat.le_succ _), (((Kept.refl _ w).alloc _).trans HK1.out).mono (fun _ _ f => f.elim)⟩
end
end Go.Proofs.Ytjlffmkiiphfcaa
