/- create; part. part. do, Apply, for a transaction that is no session's and no multi; New. New. -/
import Derived.Test.YtenbdoceaabecaaGreatP06
namespace Go.Proofs.YtenbdoceaabecaaGreat
open Go.ChangeShapes Go.WideShapes Go.ChangeAt Go.RowKit Go.Maps
set_option linter.unusedVariables false
set_option linter.unusedSimpArgs false
/-- a transaction's ACL: it lies in memory, outside the tree -/
structure TxAt (q : TB) (w : World) (x : T1) (y : TX) : Prop where
  acl : AclIn w (.slice y.aa y.an y.ac) x.acl
  out : ∀ a, y.aa = some a → x.acl = [] ∨ ¬ TBs q a.block
theorem AclIn.keptE {w w' : World} {v : Value} {l : List AR} (h : AclIn w v l) {X : Nat → Prop} (hk : Kept X w w') (hx : ∀ a n cap, v = .slice (some a) n cap → l = [] ∨ ¬ X a.block) : AclIn w' v l := by
  by_cases hl : l = []
  · refine ⟨?_, h.room⟩
    rcases h.ex with hh | ⟨ad, cap, rfl, hc⟩
    · exact .inl hh
    · refine .inr ⟨ad, cap, rfl, fun j u hj => ?_⟩
      rw [hl] at hj; simp [aclC] at hj
  · exact h.kept hk (fun a n cap e => (hx a n cap e).resolve_left hl)
theorem TxAt.kept {q : TB} {w w' : World} {x : T1} {y : TX} (h : TxAt q w x y) (hk : Kept (TBs q) w w') : TxAt q w' x y :=
  ⟨h.acl.keptE hk (fun a n cap e => by injection e with e1; exact h.out a e1), h.out⟩
theorem TxAt.kept0 {q : TB} {w w' : World} {x : T1} {y : TX} (h : TxAt q w x y) (hk : Kept (fun _ => False) w w') : TxAt q w' x y := h.kept (hk.mono (fun _ _ f => f.elim))
section
variable {Z : Nat → Prop} {w w' : World} {q : TB} {M : TM} {c : Nat} {D E : DV}
theorem kids_none {p : ByteArray} {cv zx : Int} (h : hasN M p = false) : kidsOf M p cv zx = M := by
  unfold hasN at h
  unfold kidsOf
  cases hM : M.N p.data.toList with
  | none => rfl
  | some nd => rw [hM] at h; cases h
set_option maxRecDepth 100000 in
set_option maxHeartbeats 1000000 in
theorem create_any (h : TAt Z w q M c) (x : T1) (y : TX) (zx : Int) (hx : TxAt q w x y) (hp : x.path.size ≤ 140737488355328) (hc : c < 4611686018427387903) :
    Calls Tryz.prog 118 #[.pointer (some ⟨q.t, 0, none⟩), txnV x y, .int .i64 zx] w (CallPost Z q (c + 2) w (createM M x zx)) := by
  unfold txnV txnL
  have HT0 := Lib.hid h
  have HTB := Lib.hid h.lt
  have HX := Lib.hid hx
  clear h hx
  have HC := Lib.hid (fun w => mayCome_any x.path w hp)
  have HKT := Lib.hid (((Kept.refl (fun _ => False) w).alloc (txnO x y)))
  have HTT := Lib.hid (HT0.out.kept0 HKT.out)
  go_enter Tryz.func118, Tryz.ntmps118
  go_wp2_with fail
  refine (parent_any x.path _ hp).mono ?_
  rintro e w1 ⟨rfl, rfl⟩
  go_wp2_with fail
  refine (HC.out _).mono ?_
  rintro e w1 ⟨rfl, hk⟩
  have HK1 := Lib.hid (HKT.out.trans hk)
  have HT1 := Lib.hid (HT0.out.kept0 HK1.out)
  have HB1 : Hid (w1.heap[w.heap.size]? = some (txnO x y)) := Lib.hid ((hk.block _ (by simp) (fun f => f)).trans (heap_alloc_new w _))
  have HNB : Hid (¬ TBs q w.heap.size) := Lib.hid (fun e => Nat.lt_irrefl _ (HTB.out _ e))
  have e5 : w1.cell? ⟨w.heap.size, 5, none⟩ = some (.int .i64 x.number) := cell_kept (X := fun _ => False) (Kept.refl _ _) HB1.out (fun f => f) 5 rfl
  clear hk
  by_cases hm : mayCome x.path = true
  · rw [hm]
    go_wp2_with fail
    refine (setKids_any HT1.out (parS x.path) x.number zx (parS_le hp) (by omega)).mono ?_
    rintro e w2 ⟨rfl, hT2, hk2⟩
    have HE : Hid (createM M x zx = if hasN M (parS x.path) = true then
        (layM (kidsOf M (parS x.path) x.number zx) x.path x.data x.acl ⟨zx, zx, zx, 0, 0, 0, x.owner⟩, [⟨if hasN (kidsOf M (parS x.path) x.number zx) x.path = true then 3 else 1, x.path, zx⟩, ⟨4, parS x.path, zx⟩]) else (M, [])) := Lib.hid (by
      unfold createM; simp only [hm, true_and])
    have HK2 := Lib.hid (HK1.out.mono (T := TBs q) (fun _ _ f => f.elim) |>.trans hk2)
    have HKb := Lib.hid hk2
    clear hk2 e5
    cases hh : hasN M (parS x.path)
    · rw [hh, kids_none hh] at HE
      rw [kids_none hh] at hT2
      have HT2 := Lib.hid hT2
      clear hT2
      go_wp2_with fail
      go_ret
      rw [HE.out]
      exact ⟨_, rfl, evsAt_nil _, TAt.mono HT2.out (Nat.le_succ _), HK2.out⟩
    · rw [hh, if_pos rfl] at HE
      generalize kidsOf M (parS x.path) x.number zx = M2 at HE hT2
      clear hh hm HC HT0 HKT HTT HT1
      obtain ⟨D, E, hD2⟩ := hT2
      have HD2 := Lib.hid hD2
      have HX2 := Lib.hid (HX.out.kept HK2.out)
      have e1 : w2.cell? ⟨w.heap.size, 1, none⟩ = some (.string x.path) := cell_kept HKb.out HB1.out HNB.out 1 rfl
      obtain ⟨c0, c1, c2, f⟩ := hD2.three
      have hlt := hD2.lt _ (.inl rfl)
      have hbl : w.heap.size < w2.heap.size := Nat.lt_of_lt_of_le (lt_of_block HB1.out) HKb.out.size
      clear hD2
      go_wp2_with fail
      go_cut [10] (fun v wx => v = .bool (hasN M2 x.path) ∧ Kept (fun _ => False) w2 wx)
      case first =>
        have hk1 : Kept (fun _ => False) w2 w2.drew := ((Kept.refl _ w2)).drew
        have hk2 : Kept (fun _ => False) w2 (w2.alloc (nodeO ⟨#[]⟩ none 0 0 ⟨0, 0, 0, 0, 0, 0, 0⟩)).drew := (((Kept.refl _ w2)).alloc _).drew
        rcases HD2.out.look x.path.data.toList with ⟨nd, av, hM, hL, ha⟩ | ⟨hM, hL⟩
        · obtain ⟨va, vn, vc, rfl⟩ := ha.shape
          have hrun := (HD2.out.kept0 hk1).lookNode x.path hp
          have hrun' := (HD2.out.kept0 hk2).lookNode x.path hp
          rw [hL] at hrun hrun'
          simp only [Option.getD_some, Option.isSome_some, nodeV] at hrun hrun'
          have HH : Hid (hasN M2 x.path = true) := Lib.hid (by unfold hasN; rw [hM]; rfl)
          clear hL ha hM hk1 hk2
          go_region
          all_goals go_wp2_with fail
          all_goals go_meet
          all_goals exact ⟨by rw [HH.out], (((Kept.refl _ w2)).alloc _).drew⟩
        · have hrun := (HD2.out.kept0 hk1).lookNode x.path hp
          have hrun' := (HD2.out.kept0 hk2).lookNode x.path hp
          rw [hL] at hrun hrun'
          simp only [Option.getD_none, Option.isSome_none, node0, empty_eq] at hrun hrun'
          have HH : Hid (hasN M2 x.path = false) := Lib.hid (by unfold hasN; rw [hM]; rfl)
          clear hL hM hk1 hk2
          go_region
          all_goals go_wp2_with fail
          all_goals go_meet
          all_goals exact ⟨by rw [HH.out], (((Kept.refl _ w2)).alloc _).drew⟩
      case rest =>
      obtain ⟨rfl, hkx⟩ := hcut
      have HKx := Lib.hid (HKb.out.trans (hkx.mono (T := TBs q) (fun _ _ f => f.elim)))
      have HKc := Lib.hid (HK2.out.trans (hkx.mono (T := TBs q) (fun _ _ f => f.elim)))
      have HTc : Hid (TAt Z wc q M2 (c + 1)) := Lib.hid ⟨D, E, HD2.out.kept0 hkx⟩
      have HXc := Lib.hid (HX2.out.kept0 hkx)
      clear e1 c0 c1 c2 f HD2 HX2 hkx hlt hbl
      have e1 : wc.cell? ⟨w.heap.size, 1, none⟩ = some (.string x.path) := cell_kept HKx.out HB1.out HNB.out 1 rfl
      have e2 : wc.cell? ⟨w.heap.size, 2, none⟩ = some (.string x.data) := cell_kept HKx.out HB1.out HNB.out 2 rfl
      have e3 : wc.cell? ⟨w.heap.size, 3, none⟩ = some (.slice y.aa y.an y.ac) := cell_kept HKx.out HB1.out HNB.out 3 rfl
      have e4 : wc.cell? ⟨w.heap.size, 4, none⟩ = some (.int .i64 x.owner) := cell_kept HKx.out HB1.out HNB.out 4 rfl
      generalize hasN M2 x.path = was at HE ⊢
      cases was
      all_goals (
        go_wp2_with fail
        refine (lay_any HTc.out x.path x.data HXc.out.acl ⟨zx, zx, zx, 0, 0, 0, x.owner⟩ 0 0 hp (by omega)).mono ?_
        rintro e w3 ⟨rfl, hT3, hk3⟩
        have HT3 := Lib.hid hT3
        have HK3 := Lib.hid (HKc.out.trans hk3)
        have HKy := Lib.hid (HKx.out.trans hk3)
        clear e1 e2 e3 e4 hT3 hk3
        have e1 : w3.cell? ⟨w.heap.size, 1, none⟩ = some (.string x.path) := cell_kept HKy.out HB1.out HNB.out 1 rfl
        go_wp2_with fail
        go_ret
        rw [HE.out]
        have hsz := HK3.out.size)
      · exact ⟨_, rfl, evsAt_new (l := [⟨1, x.path, zx⟩, ⟨4, parS x.path, zx⟩]) hsz two_le, HT3.out.kept0 ((Kept.refl _ w3).alloc _), HK3.out.alloc _⟩
      · exact ⟨_, rfl, evsAt_new (l := [⟨3, x.path, zx⟩, ⟨4, parS x.path, zx⟩]) hsz two_le, HT3.out.kept0 ((Kept.refl _ w3).alloc _), HK3.out.alloc _⟩
  · have hm : mayCome x.path = false := by simpa using hm
    have HE : Hid (createM M x zx = (M, [])) := Lib.hid (by unfold createM; rw [if_neg (by rw [hm]; simp)])
    rw [hm]
    go_wp2_with fail
    go_ret
    rw [HE.out]
    exact ⟨_, rfl, evsAt_nil _, TAt.mono HT1.out (Nat.le_add_right _ _), HK1.out.mono (fun _ _ f => f.elim)⟩
end
end Go.Proofs.YtenbdoceaabecaaGreat

namespace Go.Proofs.YtenbdoceaabecaaGreat
open Go.ChangeShapes Go.WideShapes Go.ChangeAt Go.RowKit Go.Maps
set_option linter.unusedVariables false
set_option linter.unusedSimpArgs false
section
variable {Z : Nat → Prop} {w w' : World} {q : TB} {M : TM} {c : Nat} {D E : DV}
theorem EvsAt.mono {B B' : Nat} {v : Value} {l : List Ev} (h : EvsAt B w v l) (hB : B' ≤ B) : EvsAt B' w v l := by
  refine ⟨h.1, ?_⟩
  rcases h.2 with h0 | ⟨g, cap, cur, rfl, hb, r⟩
  · exact .inl h0
  · exact .inr ⟨g, cap, cur, rfl, Nat.le_trans hB hb, r⟩
theorem CallPost.back {w0 : World} {r : TM × List Ev} {e : Ending} (h : CallPost Z q c w0 r e w') (hk : Kept (fun _ => False) w w0) {c' : Nat} (hc : c ≤ c') : CallPost Z q c' w r e w' := by
  obtain ⟨v, he, hv, ht, hk'⟩ := h
  exact ⟨v, he, hv.mono hk.size, ht.mono hc, (hk.mono (fun _ _ f => f.elim)).trans hk'⟩
set_option maxRecDepth 100000 in
set_option maxHeartbeats 1000000 in
theorem part_any (h : TAt Z w q M c) (x : T1) (y : TX) (zx : Int) (hx : TxAt q w x y) (hp : x.path.size ≤ 140737488355328) (hc : c < 4611686018427387903) :
    Calls Tryz.prog 93 #[.pointer (some ⟨q.t, 0, none⟩), txnV x y, .int .i64 zx] w (CallPost Z q (c + 2) w (partM M x zx)) := by
  have hk0 : Kept (fun _ => False) w (w.alloc (txnO x y)) := (Kept.refl _ w).alloc _
  have HK0 := Lib.hid hk0
  have hT := h.kept0 hk0
  have hX := hx.kept0 hk0
  have HCr := Lib.hid (create_any hT x y zx hX hp hc)
  have HRe := Lib.hid (remove_any hT x y zx hp (by omega))
  have HSe := Lib.hid (set_any hT x y zx hp (by omega))
  have HAc := Lib.hid (setAcl_any hT x y hX.acl hp (by omega))
  have HT := Lib.hid hT
  clear h hk0 hT hX hx
  obtain ⟨k, p, d, l, o, n⟩ := x
  unfold txnV txnL at *
  by_cases h1 : k = 1
  · subst h1
    have HE : Hid (partM M ⟨1, p, d, l, o, n⟩ zx = createM M ⟨1, p, d, l, o, n⟩ zx) := Lib.hid (by unfold partM; rw [if_pos rfl])
    rw [HE.out]
    go_enter Tryz.func93, Tryz.ntmps93
    go_wp2_with fail
    refine HCr.out.mono ?_
    rintro e w1 hP
    obtain ⟨v, rfl, hr⟩ := hP.back HK0.out (Nat.le_refl _)
    have HR := Lib.hid hr
    clear hP hr
    go_wp2_with fail
    go_ret
    exact ⟨v, rfl, HR.out⟩
  by_cases h2 : k = 2
  · subst h2
    have HE : Hid (partM M ⟨2, p, d, l, o, n⟩ zx = removeM M ⟨2, p, d, l, o, n⟩ zx) := Lib.hid (by unfold partM; rw [if_neg (show ¬ (2 : Int) = 1 by decide), if_pos rfl])
    rw [HE.out]
    go_enter Tryz.func93, Tryz.ntmps93
    go_wp2_with fail
    refine HRe.out.mono ?_
    rintro e w1 hP
    obtain ⟨v, rfl, hr⟩ := hP.back HK0.out (Nat.le_succ _)
    have HR := Lib.hid hr
    clear hP hr
    go_wp2_with fail
    go_ret
    exact ⟨v, rfl, HR.out⟩
  by_cases h3 : k = 3
  · subst h3
    have HE : Hid (partM M ⟨3, p, d, l, o, n⟩ zx = setM M ⟨3, p, d, l, o, n⟩ zx) := Lib.hid (by unfold partM; rw [if_neg (show ¬ (3 : Int) = 1 by decide), if_neg (show ¬ (3 : Int) = 2 by decide), if_pos rfl])
    rw [HE.out]
    go_enter Tryz.func93, Tryz.ntmps93
    go_wp2_with fail
    refine HSe.out.mono ?_
    rintro e w1 hP
    obtain ⟨v, rfl, hr⟩ := hP.back HK0.out (Nat.le_succ _)
    have HR := Lib.hid hr
    clear hP hr
    go_wp2_with fail
    go_ret
    exact ⟨v, rfl, HR.out⟩
  by_cases h4 : k = 4
  · subst h4
    have HE : Hid (partM M ⟨4, p, d, l, o, n⟩ zx = (aclM M ⟨4, p, d, l, o, n⟩, [])) := Lib.hid (by unfold partM; rw [if_neg (show ¬ (4 : Int) = 1 by decide), if_neg (show ¬ (4 : Int) = 2 by decide), if_neg (show ¬ (4 : Int) = 3 by decide), if_pos rfl])
    rw [HE.out]
    go_enter Tryz.func93, Tryz.ntmps93
    go_wp2_with fail
    refine HAc.out.mono ?_
    rintro e w1 ⟨rfl, hT1, hk1⟩
    have HR := Lib.hid (And.intro (hT1.mono (Nat.le_succ _)) ((HK0.out.mono (T := TBs q) (fun _ _ f => f.elim)).trans hk1))
    clear hT1 hk1
    go_wp2_with fail
    go_ret
    exact ⟨_, rfl, evsAt_nil _, HR.out⟩
  · have HE : Hid (partM M ⟨k, p, d, l, o, n⟩ zx = (M, [])) := Lib.hid (by unfold partM; rw [if_neg h1, if_neg h2, if_neg h3, if_neg h4])
    rw [HE.out]
    clear HCr HRe HSe HAc
    go_enter Tryz.func93, Tryz.ntmps93
    go_wp2_with fail
    go_ret
    exact ⟨_, rfl, evsAt_nil _, HT.out.mono (Nat.le_add_right _ _), HK0.out.mono (fun _ _ f => f.elim)⟩
end
end Go.Proofs.YtenbdoceaabecaaGreat

namespace Go.Proofs.YtenbdoceaabecaaGreat
open Go.ChangeShapes Go.WideShapes Go.ChangeAt Go.RowKit Go.Maps
set_option linter.unusedVariables false
set_option linter.unusedSimpArgs false
structure EX where
  zx : Int
  sess : Int
  xid : Int
def entV (e : EX) (x : T1) (y : TX) : Value := .agg #[.int .i64 e.zx, .int .i64 e.sess, .int .i64 e.xid, .int .i64 x.kind, .string x.path, .string x.data, .slice y.aa y.an y.ac, .int .i64 x.owner, .int .i64 x.number, .int .i64 y.err, .slice y.sa y.sn y.sc]
abbrev entO (e : EX) (x : T1) (y : TX) : Obj := .cells #[.int .i64 e.zx, .int .i64 e.sess, .int .i64 e.xid, .int .i64 x.kind, .string x.path, .string x.data, .slice y.aa y.an y.ac, .int .i64 x.owner, .int .i64 x.number, .int .i64 y.err, .slice y.sa y.sn y.sc] 34
section
variable {Z : Nat → Prop} {w w' : World} {q : TB} {M : TM} {c : Nat} {D E : DV}
set_option maxRecDepth 100000 in
set_option maxHeartbeats 1000000 in
theorem do_one (h : TAt Z w q M c) (x : T1) (y : TX) (zx : Int) (hx : TxAt q w x y) (hp : x.path.size ≤ 140737488355328) (hc : c < 4611686018427387903) (h5 : x.kind ≠ 5) (h6 : x.kind ≠ 6) (h7 : x.kind ≠ 7) :
    Calls Tryz.prog 58 #[.pointer (some ⟨q.t, 0, none⟩), txnV x y, .int .i64 zx] w (CallPost Z q (c + 2) w (partM M x zx)) := by
  have hk0 : Kept (fun _ => False) w (w.alloc (txnO x y)) := (Kept.refl _ w).alloc _
  have HK0 := Lib.hid hk0
  have HP := Lib.hid (part_any (h.kept0 hk0) x y zx (hx.kept0 hk0) hp hc)
  clear h hk0 hx
  unfold txnV txnL at *
  have b5 : (x.kind == 5) = false := by simpa using h5
  have b6 : (x.kind == 6) = false := by simpa using h6
  have b7 : (x.kind == 7) = false := by simpa using h7
  clear h5 h6 h7
  go_enter Tryz.func58, Tryz.ntmps58
  go_wp2_with fail
  refine HP.out.mono ?_
  rintro e w1 hP
  obtain ⟨v, rfl, hr⟩ := hP.back HK0.out (Nat.le_refl _)
  have HR := Lib.hid hr
  clear hP hr
  go_wp2_with fail
  go_ret
  exact ⟨v, rfl, HR.out⟩
theorem evs_ne {B b : Nat} {v : Value} {l : List Ev} (h : EvsAt B w v l) (hb : b < B) : ∀ k, v.ownBlock = some k → ¬ k = b := own_ne h hb
/-- what an Apply answers and leaves -/
def ApplyPost (Z : Nat → Prop) (q : TB) (c : Nat) (w : World) (r : TM × List Ev × Int) (e : Ending) (w' : World) : Prop := ∃ v, e = .returned (.tuple #[v, .int .i64 r.2.2]) ∧ EvsAt w.heap.size w' v r.2.1 ∧ TAt Z w' q r.1 c ∧ Kept (TBs q) w w'
theorem TAt.setZ (h : TAt Z w q M c) (z : Int) : TAt Z (w.setCell ⟨q.t, 2, none⟩ (.int .i64 z)) q { M with z := z } c := by
  obtain ⟨D, E, h⟩ := h; exact ⟨D, E, h.setZ z⟩
set_option maxRecDepth 100000 in
set_option maxHeartbeats 1000000 in
theorem apply_one (h : TAt Z w q M c) (x : T1) (y : TX) (e : EX) (hx : TxAt q w x y) (hp : x.path.size ≤ 140737488355328) (hc : c < 4611686018427387903) (h5 : x.kind ≠ 5) (h6 : x.kind ≠ 6) (h7 : x.kind ≠ 7) (h8 : x.kind ≠ 8) :
    Calls Tryz.prog 15 #[.pointer (some ⟨q.t, 0, none⟩), entV e x y] w (ApplyPost Z q (c + 2) w ({ (partM M x e.zx).1 with z := e.zx }, (partM M x e.zx).2, 0)) := by
  have hk0 : Kept (fun _ => False) w (w.alloc (entO e x y)) := (Kept.refl _ w).alloc _
  have HK0 := Lib.hid hk0
  have HQ := Lib.hid (h.lt _ (.inl rfl))
  have HNB : Hid (¬ TBs q w.heap.size) := Lib.hid (fun e => Nat.lt_irrefl _ (h.lt _ e))
  have HB0 : Hid ((w.alloc (entO e x y)).heap[w.heap.size]? = some (entO e x y)) := Lib.hid (heap_alloc_new w _)
  have HP := Lib.hid (do_one (h.kept0 hk0) x y e.zx (hx.kept0 hk0) hp hc h5 h6 h7)
  clear h hk0 hx
  unfold txnV txnL at *
  unfold entV at *
  have b8 : (x.kind == 8) = false := by simpa using h8
  clear h5 h6 h7 h8
  go_enter Tryz.func15, Tryz.ntmps15
  go_wp2_with fail
  refine HP.out.mono ?_
  rintro e1 w1 hP
  obtain ⟨v, rfl, hv, ht, hk⟩ := hP
  have HV := Lib.hid (hv.mono (B' := w.heap.size) (by simp))
  have HT := Lib.hid (ht.setZ e.zx)
  have e0 : w1.cell? ⟨w.heap.size, 0, none⟩ = some (.int .i64 e.zx) := cell_kept hk HB0.out HNB.out 0 rfl
  have e3 : w1.cell? ⟨w.heap.size, 3, none⟩ = some (.int .i64 x.kind) := cell_kept hk HB0.out HNB.out 3 rfl
  have HK := Lib.hid ((HK0.out.mono (T := TBs q) (fun _ _ f => f.elim)).trans hk)
  obtain ⟨D, E, hD⟩ := ht
  obtain ⟨c0, c1, c2, f⟩ := hD.three
  have f2 := f 2
  have HN : Hid (¬ w.heap.size = q.t) := Lib.hid (fun e => HNB.out (.inl e))
  have HN' : Hid (¬ q.t = w.heap.size) := Lib.hid (fun e => HNB.out (.inl e.symm))
  have hne := HN.out
  have hne' := HN'.out
  clear hv hk hD f
  go_wp2_with fail
  go_ret2
  have hks : Kept (TBs q) w (w1.setCell ⟨q.t, 2, none⟩ (.int .i64 e.zx)) := HK.out.setCell (a := ⟨q.t, 2, none⟩) (.inl (.inl rfl)) _
  exact ⟨v, rfl, ownKept HV.out (kept_set w1 q.t 2 _) (evs_ne HV.out HQ.out), HT.out, hks⟩
end
end Go.Proofs.YtenbdoceaabecaaGreat

namespace Go.Proofs.YtenbdoceaabecaaGreat
open Go.ChangeShapes Go.WideShapes Go.ChangeAt Go.RowKit Go.Maps
set_option linter.unusedVariables false
set_option linter.unusedSimpArgs false
theorem make_nodes (w : World) : Sem.run Tryz.prog (Instr.makeMap 83 none) w = .ok (.map (some w.heap.size)) (w.alloc (.map #[] 0)) := by
  simp [Instr.makeMap, run_underlying Tryz.underlying83]
theorem make_sess (w : World) : Sem.run Tryz.prog (Instr.makeMap 84 none) w = .ok (.map (some w.heap.size)) (w.alloc (.map #[] 0)) := by
  simp [Instr.makeMap, run_underlying Tryz.underlying84]
def noM : TM := ⟨fun _ => none, fun _ => none, 0⟩
def worldB : ByteArray := ⟨#[119, 111, 114, 108, 100]⟩
def newM : TM := layM noM slashS ⟨#[]⟩ [⟨31, worldB⟩] ⟨0, 0, 0, 0, 0, 0, 0⟩
theorem bare_tree (w : World) {B : Nat} (hB : B ≤ w.heap.size) :
    TD (fun k => B ≤ k) (((w.alloc (.map #[] 0)).alloc (.map #[] 0)).alloc (.cells #[.map (some w.heap.size), .map (some (w.heap.size + 1)), .int .i64 0] 86)) ⟨w.heap.size + 1 + 1, w.heap.size, w.heap.size + 1⟩ noM 0 (.map []) (.map []) := by
  have h1 := World.ownsMap_made w Tryz.prog 9 tok
  have h2 := World.ownsMap_made (w.alloc (.map #[] 0)) Tryz.prog 3 tok
  have hs : (w.alloc (.map #[] 0)).heap.size = w.heap.size + 1 := by simp
  rw [hs] at h2
  refine ⟨?_, (h1.alloc _).alloc _, fun k => ?_, h2.alloc _, fun i => ?_, by show w.heap.size ≠ w.heap.size + 1; omega, fun k hk => absurd rfl hk, ?_, ?_⟩
  · have := heap_alloc_new ((w.alloc (.map #[] 0)).alloc (.map #[] 0)) (.cells #[.map (some w.heap.size), .map (some (w.heap.size + 1)), .int .i64 0] 86)
    rw [show ((w.alloc (.map #[] 0)).alloc (.map #[] 0)).heap.size = w.heap.size + 1 + 1 by simp] at this
    exact this
  · rw [lookV_empty]; exact True.intro
  · rw [lookV_empty]; rfl
  · rintro k (e | e | e) <;> (simp only at e; subst e; show B ≤ _; omega)
  · intro k hk
    simp at hk
    show B ≤ k
    omega
theorem acl1_in (w : World) : AclIn (w.alloc (.cells #[.int .i64 31, .string worldB] 89)) (.slice (some ⟨w.heap.size, 0, none⟩) 1 1) [⟨31, worldB⟩] := by
  refine ⟨.inr ⟨⟨w.heap.size, 0, none⟩, 1, rfl, fun j u hj => ?_⟩, by decide⟩
  rw [show (⟨w.heap.size, 0, none⟩ : Addr).add j = ⟨w.heap.size, j, none⟩ by cases j <;> simp [Addr.add]]
  rw [cell_of_row _ w.heap.size j _ _ (0, 0) (heap_alloc_new w _), ← Array.getElem?_toList]
  exact hj
def NewPost (B : Nat) (w : World) (e : Ending) (w' : World) : Prop := ∃ q : TB, e = .returned (.pointer (some ⟨q.t, 0, none⟩)) ∧ TAt (fun k => B ≤ k) w' q newM 1 ∧ Kept (fun _ => False) w w' ∧ (∀ k, TBs q k → w.heap.size ≤ k)
set_option maxRecDepth 100000 in
set_option maxHeartbeats 1000000 in
theorem tnew_any (w : World) {B : Nat} (hB : B ≤ w.heap.size) : Calls Tryz.prog 8 #[] w (NewPost B w) := by
  have hm1 := fun W => make_nodes W
  have hm2 := fun W => make_sess W
  have HD := Lib.hid (bare_tree w hB)
  have hk : Kept (fun _ => False) w (((w.alloc (.map #[] 0)).alloc (.map #[] 0)).alloc (.cells #[.map (some w.heap.size), .map (some (w.heap.size + 1)), .int .i64 0] 86)) := (((Kept.refl _ w).alloc _).alloc _).alloc _
  have HK := Lib.hid hk
  have HS : Hid ((((w.alloc (.map #[] 0)).alloc (.map #[] 0)).alloc (.cells #[.map (some w.heap.size), .map (some (w.heap.size + 1)), .int .i64 0] 86)).heap.size = w.heap.size + 1 + 1 + 1) := Lib.hid (by simp)
  have HG := Lib.hid hB
  clear hk hB
  go_enter Tryz.func8, Tryz.ntmps8
  go_wp2_with fail
  have ha := acl1_in (((w.alloc (.map #[] 0)).alloc (.map #[] 0)).alloc (.cells #[.map (some w.heap.size), .map (some (w.heap.size + 1)), .int .i64 0] 86))
  rw [HS.out] at ha
  have hk1 := (Kept.refl (fun _ => False) (((w.alloc (.map #[] 0)).alloc (.map #[] 0)).alloc (.cells #[.map (some w.heap.size), .map (some (w.heap.size + 1)), .int .i64 0] 86))).alloc (.cells #[.int .i64 31, .string worldB] 89)
  refine (lay_any (q := ⟨w.heap.size + 1 + 1, w.heap.size, w.heap.size + 1⟩) (M := noM) (c := 0) ⟨_, _, HD.out.kept0 hk1⟩ slashS ⟨#[]⟩ ha ⟨0, 0, 0, 0, 0, 0, 0⟩ 0 0 (by decide) (by decide)).mono ?_
  rintro e w1 ⟨rfl, hT, hk⟩
  have HT := Lib.hid hT
  have HK1 : Hid (Kept (fun _ => False) w w1) := Lib.hid (by
    have h2 := HK.out.trans hk1
    exact h2.trans' hk (fun k hk e => by rcases e with e | e | e <;> (simp only at e; omega)))
  clear hT hk hk1 ha
  go_wp2_with fail
  go_ret
  refine ⟨⟨w.heap.size + 1 + 1, w.heap.size, w.heap.size + 1⟩, rfl, HT.out, HK1.out, ?_⟩
  rintro k (e | e | e) <;> (simp only at e; omega)
end Go.Proofs.YtenbdoceaabecaaGreat
