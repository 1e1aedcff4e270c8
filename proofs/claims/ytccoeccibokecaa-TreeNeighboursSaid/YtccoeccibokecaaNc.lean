/- setKids, Lay. -/
import Derived.Test.YtccoeccibokecaaNb
namespace Go.Proofs.Ytccoeccibokecaa
open Go.ChangeShapes Go.WideShapes Go.ChangeAt Go.RowKit Go.Maps
set_option linter.unusedVariables false
set_option linter.unusedSimpArgs false
section
variable {Z : Nat → Prop} {w w' : World} {q : TB} {M : TM} {c : Nat} {D E : DV}
theorem TD.lookNode (h : TD Z w q M c D E) (p : ByteArray) (hp : p.size ≤ 140737488355328) : (Instr.lookup 75 (.map (some q.n)) (.string p) true).run Try.prog w = .ok (.tuple #[(lookV D (.string p.data.toList)).getD node0, .bool (lookV D (.string p.data.toList)).isSome]) w :=
  owns_look h.n (t := 75) (e := 85) keyS Try.underlying75 (zero_node w) (keyStr hp)
theorem NdAt.some' {nd : Nd} {av : Value} (ha : AclAt w Z av nd.acl) : NdAt w Z (some (nodeV nd av)) (some nd) := ⟨av, rfl, ha⟩
theorem AclAt.shape {av : Value} {l : List AR} (h : AclAt w Z av l) : ∃ a n cap, av = .slice a n cap := by
  rcases h.1.2 with ⟨hv, h0⟩ | ⟨g, cap, cur, hv, hb, hh, r⟩
  · exact ⟨_, _, _, hv⟩
  · exact ⟨_, _, _, hv⟩
/-- a node is stored, at whatever world -/
theorem TD.storeN (h : TD Z w q M c D E) (p : ByteArray) (hp : p.size ≤ 140737488355328) (hl : p.data.toList.length ≤ 60) (hc : c < 4611686018427387904) {nd : Nd} {av : Value} (ha : AclAt w Z av nd.acl) :
    ∃ W, (Instr.mapUpdate 75 (.map (some q.n)) (.string p) (nodeV nd av)).run Try.prog w = .ok () W ∧ TAt Z W q { M with N := updN M.N p.data.toList (some nd) } (c + 1) ∧ Kept (TBs q) w W := by
  obtain ⟨W', hrun, hown, hturn⟩ := h.n.store (t := 75) (e := 85) keyS Try.underlying75 (by unfold maxLen; omega) (key := .string p) (val := nodeV nd av) (keyStr hp) (d := .held (nodeV nd av)) (ps := []) rfl
  exact ⟨W', hrun, ⟨_, _, h.putN (NdAt.some' ha) hl hown (keptN hturn)⟩, (keptN hturn).mono (fun j _ e => .inr (.inl e))⟩
theorem AclAt.kept {X : Nat → Prop} {av : Value} {l : List AR} (h : AclAt w Z av l) (hk : Kept X w w') (hx : ∀ k, k < w.heap.size → Z k → ¬ X k) : AclAt w' Z av l := by
  refine ⟨?_, h.2⟩
  rcases h.1.2 with h2 | ⟨g, cap, cur, rfl, hb, hh, r⟩
  · exact ⟨h.1.1, .inl h2⟩
  · exact ⟨h.1.1, .inr ⟨g, cap, cur, rfl, hb, by rw [hk.block g (lt_of_block hh) (hx g (lt_of_block hh) (h.2 g rfl))]; exact hh, r⟩⟩
theorem AclAt.kept0 {av : Value} {l : List AR} (h : AclAt w Z av l) (hk : Kept (fun _ => False) w w') : AclAt w' Z av l := h.kept hk (fun _ _ _ f => f)
set_option maxHeartbeats 400000 in
theorem setKids_any (h : TAt Z w q M c) (p : ByteArray) (cv zx : Int) (hp : p.size ≤ 140737488355328) (hc : c < 4611686018427387904) :
    Calls Try.prog 76 #[.pointer (some ⟨q.t, 0, none⟩), .string p, .int .i64 cv, .int .i64 zx] w fun e w' => e = .returned (.bool (hasN M p)) ∧ TAt Z w' q (kidsOf M p cv zx) (c + 1) ∧ Kept (TBs q) w w' := by
  obtain ⟨D, E, h⟩ := h
  obtain ⟨c0, c1, c2, f⟩ := h.three
  have HD := Lib.hid h
  have hlt := h.lt _ (.inl rfl)
  rcases h.look p.data.toList with ⟨nd, av, hM, hL, ha⟩ | ⟨hM, hL⟩
  · obtain ⟨va, vn, vc, rfl⟩ := ha.shape
    have hrun := h.lookNode p hp
    rw [hL] at hrun
    simp only [Option.getD_some, Option.isSome_some, nodeV] at hrun
    have HH : Hid (hasN M p = true) := Lib.hid (by unfold hasN; rw [hM]; rfl)
    have HE : Hid (kidsOf M p cv zx = { M with N := updN M.N p.data.toList (some { nd with st := { nd.st with cver := cv, pz := zx } }) }) := Lib.hid (by unfold kidsOf; rw [hM])
    have hk1 : Kept (fun _ => False) w ((w.alloc (Obj.cells #[.string nd.data, .slice va vn vc, .int .i64 nd.st.cz, .int .i64 nd.st.mz, .int .i64 zx, .int .i64 nd.st.ver, .int .i64 cv, .int .i64 nd.st.aver, .int .i64 nd.st.owner, .int .i64 0, .int .i64 0] 85)).drew) := ((Kept.refl _ w).alloc _).drew
    obtain ⟨W, hst, hT, hK⟩ := (h.kept0 hk1).storeN p hp (h.okk _ (by rw [hM]; exact fun e => nomatch e)) hc (nd := { nd with st := { nd.st with cver := cv, pz := zx } }) (ha.kept0 hk1)
    simp only [nodeV] at hst
    have HT := Lib.hid hT
    have HK := Lib.hid (hk1.mono (T := TBs q) (fun _ _ f => f.elim) |>.trans hK)
    clear h hL hT hK hk1 ha
    go_enter Try.func76, Try.ntmps76
    go_wp2_with (go_region)
    go_ret
    rw [HE.out]
    exact ⟨ret_bool HH.out.symm, HT.out, HK.out⟩
  · have hrun := h.lookNode p hp
    rw [hL] at hrun
    simp only [Option.getD_none, Option.isSome_none, node0] at hrun
    have HH : Hid (hasN M p = false) := Lib.hid (by unfold hasN; rw [hM]; rfl)
    have HE : Hid (kidsOf M p cv zx = M) := Lib.hid (by unfold kidsOf; rw [hM])
    clear h hL
    go_enter Try.func76, Try.ntmps76
    go_wp2
    go_ret
    rw [HE.out]
    exact ⟨ret_bool HH.out.symm, TAt.mono ⟨_, _, HD.out.kept0 ((Kept.refl _ w).alloc _)⟩ (Nat.le_succ _), (Kept.refl _ w).alloc _⟩
end
end Go.Proofs.Ytccoeccibokecaa
