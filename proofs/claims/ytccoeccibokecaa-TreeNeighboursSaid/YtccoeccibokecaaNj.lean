/- create; part. -/
import Derived.Test.YtccoeccibokecaaNi
namespace Go.Proofs.Ytccoeccibokecaa
open Go.ChangeShapes Go.WideShapes Go.ChangeAt Go.RowKit Go.Maps
set_option linter.unusedVariables false
set_option linter.unusedSimpArgs false
/-- a transaction's ACL: it lies in memory, outside the tree -/
structure TxAt (q : TB) (w : World) (x : T1) (y : TX) : Prop where
  acl : AclIn w (.slice y.aa y.an y.ac) x.acl
  out : ∀ a, y.aa = some a → ¬ TBs q a.block
theorem TxAt.kept {q : TB} {w w' : World} {x : T1} {y : TX} (h : TxAt q w x y) (hk : Kept (TBs q) w w') : TxAt q w' x y :=
  ⟨h.acl.kept hk (fun a n cap e => by injection e with e1; exact h.out a e1), h.out⟩
theorem TxAt.kept0 {q : TB} {w w' : World} {x : T1} {y : TX} (h : TxAt q w x y) (hk : Kept (fun _ => False) w w') : TxAt q w' x y := h.kept (hk.mono (fun _ _ f => f.elim))
section
variable {Z : Nat → Prop} {w w' : World} {q : TB} {M : TM} {c : Nat} {D E : DV}
theorem kids_none {p : ByteArray} {cv zx : Int} (h : hasN M p = false) : kidsOf M p cv zx = M := by
  unfold hasN at h
  unfold kidsOf
  cases hM : M.N p.data.toList with
  | none => rfl
  | some nd => rw [hM] at h; cases h
set_option maxRecDepth 100000 in
set_option maxHeartbeats 1000000 in
theorem create_any (h : TAt Z w q M c) (x : T1) (y : TX) (zx : Int) (hx : TxAt q w x y) (hp : x.path.size ≤ 140737488355328) (hc : c < 4611686018427387903) :
    Calls Try.prog 77 #[.pointer (some ⟨q.t, 0, none⟩), txnV x y, .int .i64 zx] w (CallPost Z q (c + 2) w (createM M x zx)) := by
  unfold txnV txnL
  have HT0 := Lib.hid h
  have HTB := Lib.hid h.lt
  have HX := Lib.hid hx
  clear h hx
  have HC := Lib.hid (fun w => mayCome_any x.path w hp)
  have HKT := Lib.hid (((Kept.refl (fun _ => False) w).alloc (txnO x y)))
  have HTT := Lib.hid (HT0.out.kept0 HKT.out)
  go_enter Try.func77, Try.ntmps77
  go_wp2_with fail
  refine (parent_any x.path _ hp).mono ?_
  rintro e w1 ⟨rfl, rfl⟩
  go_wp2_with fail
  refine (HC.out _).mono ?_
  rintro e w1 ⟨rfl, hk⟩
  have HK1 := Lib.hid (HKT.out.trans hk)
  have HT1 := Lib.hid (HT0.out.kept0 HK1.out)
  have HB1 : Hid (w1.heap[w.heap.size]? = some (txnO x y)) := Lib.hid ((hk.block _ (by simp) (fun f => f)).trans (heap_alloc_new w _))
  have HNB : Hid (¬ TBs q w.heap.size) := Lib.hid (fun e => Nat.lt_irrefl _ (HTB.out _ e))
  have e5 : w1.cell? ⟨w.heap.size, 5, none⟩ = some (.int .i64 x.number) := cell_kept (X := fun _ => False) (Kept.refl _ _) HB1.out (fun f => f) 5 rfl
  clear hk
  by_cases hm : mayCome x.path = true
  · rw [hm]
    go_wp2_with fail
    refine (setKids_any HT1.out (parS x.path) x.number zx (parS_le hp) (by omega)).mono ?_
    rintro e w2 ⟨rfl, hT2, hk2⟩
    have HE : Hid (createM M x zx = if hasN M (parS x.path) = true then
        (layM (kidsOf M (parS x.path) x.number zx) x.path x.data x.acl ⟨zx, zx, zx, 0, 0, 0, x.owner⟩, [⟨if hasN (kidsOf M (parS x.path) x.number zx) x.path = true then 3 else 1, x.path, zx⟩, ⟨4, parS x.path, zx⟩]) else (M, [])) := Lib.hid (by
      unfold createM; simp only [hm, true_and])
    have HK2 := Lib.hid (HK1.out.mono (T := TBs q) (fun _ _ f => f.elim) |>.trans hk2)
    have HKb := Lib.hid hk2
    clear hk2 e5
    cases hh : hasN M (parS x.path)
    · rw [hh, kids_none hh] at HE
      rw [kids_none hh] at hT2
      have HT2 := Lib.hid hT2
      clear hT2
      go_wp2_with fail
      go_ret
      rw [HE.out]
      exact ⟨_, rfl, evsAt_nil _, TAt.mono HT2.out (Nat.le_succ _), HK2.out⟩
    · rw [hh, if_pos rfl] at HE
      generalize kidsOf M (parS x.path) x.number zx = M2 at HE hT2
      clear hh hm HC HT0 HKT HTT HT1
      obtain ⟨D, E, hD2⟩ := hT2
      have HD2 := Lib.hid hD2
      have HX2 := Lib.hid (HX.out.kept HK2.out)
      have e1 : w2.cell? ⟨w.heap.size, 1, none⟩ = some (.string x.path) := cell_kept HKb.out HB1.out HNB.out 1 rfl
      obtain ⟨c0, c1, c2, f⟩ := hD2.three
      have hlt := hD2.lt _ (.inl rfl)
      have hbl : w.heap.size < w2.heap.size := Nat.lt_of_lt_of_le (lt_of_block HB1.out) HKb.out.size
      clear hD2
      go_wp2_with fail
      go_cut [10] (fun v wx => v = .bool (hasN M2 x.path) ∧ Kept (fun _ => False) w2 wx)
      case first =>
        have hk1 : Kept (fun _ => False) w2 w2.drew := ((Kept.refl _ w2)).drew
        have hk2 : Kept (fun _ => False) w2 (w2.alloc (nodeO ⟨#[]⟩ none 0 0 ⟨0, 0, 0, 0, 0, 0, 0⟩)).drew := (((Kept.refl _ w2)).alloc _).drew
        rcases HD2.out.look x.path.data.toList with ⟨nd, av, hM, hL, ha⟩ | ⟨hM, hL⟩
        · obtain ⟨va, vn, vc, rfl⟩ := ha.shape
          have hrun := (HD2.out.kept0 hk1).lookNode x.path hp
          have hrun' := (HD2.out.kept0 hk2).lookNode x.path hp
          rw [hL] at hrun hrun'
          simp only [Option.getD_some, Option.isSome_some, nodeV] at hrun hrun'
          have HH : Hid (hasN M2 x.path = true) := Lib.hid (by unfold hasN; rw [hM]; rfl)
          clear hL ha hM hk1 hk2
          go_region
          all_goals go_wp2_with fail
          all_goals go_meet
          all_goals exact ⟨by rw [HH.out], (((Kept.refl _ w2)).alloc _).drew⟩
        · have hrun := (HD2.out.kept0 hk1).lookNode x.path hp
          have hrun' := (HD2.out.kept0 hk2).lookNode x.path hp
          rw [hL] at hrun hrun'
          simp only [Option.getD_none, Option.isSome_none, node0, empty_eq] at hrun hrun'
          have HH : Hid (hasN M2 x.path = false) := Lib.hid (by unfold hasN; rw [hM]; rfl)
          clear hL hM hk1 hk2
          go_region
          all_goals go_wp2_with fail
          all_goals go_meet
          all_goals exact ⟨by rw [HH.out], (((Kept.refl _ w2)).alloc _).drew⟩
      case rest =>
      obtain ⟨rfl, hkx⟩ := hcut
      have HKx := Lib.hid (HKb.out.trans (hkx.mono (T := TBs q) (fun _ _ f => f.elim)))
      have HKc := Lib.hid (HK2.out.trans (hkx.mono (T := TBs q) (fun _ _ f => f.elim)))
      have HTc : Hid (TAt Z wc q M2 (c + 1)) := Lib.hid ⟨D, E, HD2.out.kept0 hkx⟩
      have HXc := Lib.hid (HX2.out.kept0 hkx)
      clear e1 c0 c1 c2 f HD2 HX2 hkx hlt hbl
      have e1 : wc.cell? ⟨w.heap.size, 1, none⟩ = some (.string x.path) := cell_kept HKx.out HB1.out HNB.out 1 rfl
      have e2 : wc.cell? ⟨w.heap.size, 2, none⟩ = some (.string x.data) := cell_kept HKx.out HB1.out HNB.out 2 rfl
      have e3 : wc.cell? ⟨w.heap.size, 3, none⟩ = some (.slice y.aa y.an y.ac) := cell_kept HKx.out HB1.out HNB.out 3 rfl
      have e4 : wc.cell? ⟨w.heap.size, 4, none⟩ = some (.int .i64 x.owner) := cell_kept HKx.out HB1.out HNB.out 4 rfl
      generalize hasN M2 x.path = was at HE ⊢
      cases was
      all_goals (
        go_wp2_with fail
        refine (lay_any HTc.out x.path x.data HXc.out.acl ⟨zx, zx, zx, 0, 0, 0, x.owner⟩ 0 0 hp (by omega)).mono ?_
        rintro e w3 ⟨rfl, hT3, hk3⟩
        have HT3 := Lib.hid hT3
        have HK3 := Lib.hid (HKc.out.trans hk3)
        have HKy := Lib.hid (HKx.out.trans hk3)
        clear e1 e2 e3 e4 hT3 hk3
        have e1 : w3.cell? ⟨w.heap.size, 1, none⟩ = some (.string x.path) := cell_kept HKy.out HB1.out HNB.out 1 rfl
        go_wp2_with fail
        go_ret
        rw [HE.out]
        have hsz := HK3.out.size)
      · exact ⟨_, rfl, evsAt_new (l := [⟨1, x.path, zx⟩, ⟨4, parS x.path, zx⟩]) hsz two_le, HT3.out.kept0 ((Kept.refl _ w3).alloc _), HK3.out.alloc _⟩
      · exact ⟨_, rfl, evsAt_new (l := [⟨3, x.path, zx⟩, ⟨4, parS x.path, zx⟩]) hsz two_le, HT3.out.kept0 ((Kept.refl _ w3).alloc _), HK3.out.alloc _⟩
  · have hm : mayCome x.path = false := by simpa using hm
    have HE : Hid (createM M x zx = (M, [])) := Lib.hid (by unfold createM; rw [if_neg (by rw [hm]; simp)])
    rw [hm]
    go_wp2_with fail
    go_ret
    rw [HE.out]
    exact ⟨_, rfl, evsAt_nil _, TAt.mono HT1.out (Nat.le_add_right _ _), HK1.out.mono (fun _ _ f => f.elim)⟩
end
end Go.Proofs.Ytccoeccibokecaa
