/- The document's own tree: part. -/
import Derived.Test.YtenbdoceaabecaaGreatP23
namespace Go.Proofs.YtenbdoceaabecaaGreat
open Go.ChangeShapes Go.WideShapes Go.ChangeAt Go.RowKit Go.Maps
set_option linter.unusedVariables false
set_option linter.unusedSimpArgs false
/-- the i-th node's ACL is written -/
theorem RD.modAcl {w : World} {b : Nat} {R : RT} {L : List (RN × Value)} {g cap : Nat} {sv : Value} (h : RD w b R L (.slice (some ⟨g, 0, none⟩) L.length cap) sv) {i : Nat} {v : Value} {l : List AR} (hi : i < L.length) (ha : AclW w v l) :
    RD (w.setCell ⟨g, i * 12 + 2, none⟩ v) b (modN R i fun n => { n with acl := l }) (L.modify i fun p => ({ p.1 with acl := l }, v)) (.slice (some ⟨g, 0, none⟩) L.length cap) sv := by
  obtain ⟨_, _, cur, hcg⟩ := own_lo h.n rfl
  have hk := kept_set w g (i * 12 + 2) v
  have hne : ∀ k cur' e, w.heap[k]? = some (.cells cur' e (0, 0)) → e ≠ 91 → ¬ k = g := fun k cur' e hc hne' e' => by
    subst e'
    rw [hcg] at hc
    injection hc with hc
    injection hc with _ hc
    exact hne' hc.symm
  have hs := own_set h.n (j := i * 12 + 2) (by rw [ndC, flat_len ndL_len]; omega) v
  have haw : ∀ (u : Value) (m : List AR), AclW w u m → AclW (w.setCell ⟨g, i * 12 + 2, none⟩ v) u m := fun u m hm => ⟨ownKept hm.own hk (fun k e => by
    obtain ⟨_, _, cur', hc'⟩ := own_lo hm.own e
    exact hne k _ _ hc' (by decide)), hm.room⟩
  refine ⟨?_, ?_, ?_, ?_, ?_⟩
  · rw [hk.block b (lt_of_block h.at_) (hne _ _ _ h.at_ (by decide))]; exact h.at_
  · rw [ndC, flat_set (g := fun p : RN × Value => ({ p.1 with acl := l }, v)) ndL_len (by decide) (fun _ => rfl) L i hi] at hs
    rw [List.length_modify]; exact hs
  · rw [map_modify (fun p : RN × Value => p.1) _ (fun n => { n with acl := l }) (fun _ => rfl), h.eq]; rfl
  · intro p hp
    obtain ⟨k, hk', rfl⟩ := List.getElem_of_mem hp
    rw [List.length_modify] at hk'
    rw [List.getElem_modify]
    split
    · exact haw _ _ ha
    · exact haw _ _ (h.acl _ (List.getElem_mem hk'))
  · refine ownKept h.s hk (fun k e => ?_)
    obtain ⟨_, _, cur', hc'⟩ := own_lo h.s e
    exact hne k _ _ hc' (by decide)
structure PartAt (w : World) (b bb g i n cap : Nat) (x : T1) (y : TX) : Prop where
  c0 : w.cell? ⟨b, 0, none⟩ = some (.slice (some ⟨g, 0, none⟩) n cap)
  t : TxB w bb x y
  fz : ∀ j, w.frozen? ⟨g, j, none⟩ = false
  cl : ∀ j, j < 12 → ∃ u, w.cell? ⟨g, i * 12 + j, none⟩ = some u
/-- a tree and a transaction in a box; how many nodes there are -/
structure PD (w : World) (b bb g n cap : Nat) (R : RT) (sv : Value) (x : T1) (y : TX) : Prop where
  ex : ∃ L, RD w b R L (.slice (some ⟨g, 0, none⟩) n cap) sv ∧ L.length = n
  box : w.heap[bb]? = some (txnO x y)
theorem PD.at_ {w : World} {b bb g n cap : Nat} {R : RT} {sv : Value} {x : T1} {y : TX} (h : PD w b bb g n cap R sv x y) {i : Nat} (hi : i < n) : PartAt w b bb g i n cap x y := by
  obtain ⟨L, hD, hn⟩ := h.ex
  obtain ⟨a, cap', hv, _, hnode⟩ := hD.node
  injection hv with hv _ _
  obtain ⟨g', q, ha, hg, hq, hc, hfz⟩ := hnode i (by omega)
  rw [← hv] at ha
  injection ha with ha
  injection ha with ha
  subst ha
  refine ⟨hD.cells.1, txB h.box, hfz, fun j hj => ?_⟩
  exact ⟨_, hc j _ (List.getElem?_eq_getElem (by rw [ndL_len]; exact hj))⟩
theorem PD.kept0 {w w' : World} {b bb g n cap : Nat} {R : RT} {sv : Value} {x : T1} {y : TX} (h : PD w b bb g n cap R sv x y) (hk : Kept (fun _ => False) w w') : PD w' b bb g n cap R sv x y := by
  obtain ⟨L, hD, hn⟩ := h.ex
  exact ⟨⟨L, hD.kept0 hk, hn⟩, box_kept0 h.box hk⟩
theorem PD.rat {w : World} {b bb g n cap : Nat} {R : RT} {sv : Value} {x : T1} {y : TX} (h : PD w b bb g n cap R sv x y) : RAt w b R := by
  obtain ⟨L, hD, hn⟩ := h.ex
  exact ⟨L, _, _, hD⟩
theorem RAt.ltb {w : World} {b : Nat} {R : RT} (h : RAt w b R) : b < w.heap.size := h.lt (.inl rfl)
theorem setcell_ne {w : World} {b g i j : Nat} {u v : Value} (h : ¬ b = g) (hc : w.cell? ⟨b, i, none⟩ = some v) : (w.setCell ⟨g, j, none⟩ u).cell? ⟨b, i, none⟩ = some v :=
  (World.cell?_of_block (w := w) ((kept_set w g j u).block b (World.block_lt_of_cell? w _ hc) h)).trans hc
theorem PD.ne {w : World} {b bb g n cap : Nat} {R : RT} {sv : Value} {x : T1} {y : TX} (h : PD w b bb g n cap R sv x y) : ¬ bb = g := fun e => by
  obtain ⟨L, hD, hn⟩ := h.ex
  obtain ⟨_, _, cur, hc⟩ := own_lo hD.n rfl
  have h1 := h.box
  rw [e, hc] at h1
  injection h1 with h1
  injection h1 with _ h1
  have h9 : (91 : TypeId) = 32 := h1
  exact absurd h9 (by decide)
theorem PD.gne {w : World} {b bb g n cap : Nat} {R : RT} {sv : Value} {x : T1} {y : TX} (h : PD w b bb g n cap R sv x y) : ¬ b = g := by
  obtain ⟨L, hD, hn⟩ := h.ex
  exact hD.gne
theorem PD.store {w : World} {b bb g n cap : Nat} {R : RT} {sv : Value} {x : T1} {y : TX} (h : PD w b bb g n cap R sv x y) {i j : Nat} {u : Value} {f : RN → RN} (hi : i < n) (hj : j < 12)
    (hf : ∀ p : RN × Value, ndL (f p.1, p.2) = (ndL p).set j u) (ha : ∀ n, (f n).acl = n.acl) : PD (w.setCell ⟨g, i * 12 + j, none⟩ u) b bb g n cap (modN R i f) sv x y ∧ RStep w b (w.setCell ⟨g, i * 12 + j, none⟩ u) := by
  obtain ⟨L, hD, hn⟩ := h.ex
  subst hn
  have hs := RStep.set hD (i * 12 + j) u hD.gne
  exact ⟨⟨⟨_, hD.modify hi hj hf ha, List.length_modify ..⟩, txn_box h.box h.rat hs⟩, hs⟩
theorem PD.storeA {w : World} {b bb g n cap : Nat} {R : RT} {sv : Value} {x : T1} {y : TX} (h : PD w b bb g n cap R sv x y) {i : Nat} {v : Value} {l : List AR} (hi : i < n) (ha : AclW w v l) : PD (w.setCell ⟨g, i * 12 + 2, none⟩ v) b bb g n cap (modN R i fun n => { n with acl := l }) sv x y ∧ RStep w b (w.setCell ⟨g, i * 12 + 2, none⟩ v) := by
  obtain ⟨L, hD, hn⟩ := h.ex
  subst hn
  have hs := RStep.set hD (i * 12 + 2) v hD.gne
  exact ⟨⟨⟨_, hD.modAcl hi ha, List.length_modify ..⟩, txn_box h.box h.rat hs⟩, hs⟩
theorem RStep.drewB {w w1 : World} {b : Nat} {R : RT} (h : RStep w b w1) (hR : RAt w1 b R) : RStep w b w1.drew := h.trans (RStep.of0 ((Kept.refl _ w1).drew) (hR.lt (.inl rfl)))
set_option maxRecDepth 100000 in
set_option maxHeartbeats 4000000 in
theorem rpart_any {w : World} {b : Nat} {R : RT} (h : RAt w b R) (x : T1) (y : TX) (zx : Int) (ha : AclS w b (.slice y.aa y.an y.ac) x.acl) (hp : x.path.size ≤ 1099511627776) (hps : ∀ n ∈ R.N, n.path.size ≤ 1048576) (hlen : R.N.length ≤ 1000000000) :
    Calls Tryz.prog 60 #[.pointer (some ⟨b, 0, none⟩), txnV x y, .int .i64 zx] w (REPost w b (partR R x zx)) := by
  unfold txnV txnL
  have hk0 : Kept (fun _ => False) w (w.alloc (txnO x y)) := (Kept.refl _ w).alloc _
  have HB0 : Hid ((w.alloc (txnO x y)).heap[w.heap.size]? = some (txnO x y)) := Lib.hid (heap_alloc_new w _)
  have HST0 := Lib.hid (RStep.of0 hk0 (h.lt (.inl rfl)))
  have HR1 := Lib.hid (h.kept0 hk0)
  have HA1 := Lib.hid (ha.kept0 hk0 h.ltb)
  have HPL := Lib.hid (place_any (h.kept0 hk0) x.path)
  have HCR := Lib.hid (rcreate_any (h.kept0 hk0) x y zx (ha.kept0 hk0 h.ltb) hp hlen)
  have HER := Lib.hid (rerase_any (h.kept0 hk0) x y zx hp hps hlen)
  unfold txnV txnL at HCR HER
  clear h hk0 hlen hps ha
  obtain ⟨pl, hpl⟩ : ∃ pl, placeI R.N x.path = pl := ⟨_, rfl⟩
  rw [hpl] at HPL
  have HPI := Lib.hid hpl
  clear hpl
  have hcase : x.kind = 1 ∨ x.kind = 2 ∨ x.kind = 3 ∨ x.kind = 4 ∨ (x.kind ≠ 1 ∧ x.kind ≠ 2 ∧ x.kind ≠ 3 ∧ x.kind ≠ 4) := by omega
  have HBACK : Hid (∀ (r : RT × List Ev) (e : Ending) (w' : World), REPost (w.alloc (txnO x y)) b r e w' → REPost w b r e w') := Lib.hid (fun r e w' ⟨v, he, hv, hr, hs⟩ => ⟨v, he, row_mono hv (by simp), hr, HST0.out.trans hs⟩)
  rcases hcase with hk | hk | hk | hk | ⟨n1, n2, n3, n4⟩
  · have HE : Hid (partR R x zx = createR R x zx) := Lib.hid (by unfold partR; rw [if_pos hk])
    have hki : (x.kind == 1) = true := by rw [hk]; rfl
    clear hk
    go_enter Tryz.func60, Tryz.ntmps60
    go_wp2_with fail
    refine HPL.out.mono ?_
    rintro e w1 ⟨rfl, rfl⟩
    go_wp2_with fail
    refine HCR.out.mono ?_
    intro e w1 hpost
    obtain ⟨v, rfl, hv, hr, hs⟩ := HBACK.out _ _ _ hpost
    clear hpost
    go_wp2_with fail
    go_ret
    rw [HE.out]
    exact ⟨v, rfl, hv, hr, hs⟩
  · have HE : Hid (partR R x zx = eraseR R x zx) := Lib.hid (by unfold partR; rw [if_neg (by omega), if_pos hk])
    have hk1 : (x.kind == 1) = false := by rw [hk]; rfl
    have hk2 : (x.kind == 2) = true := by rw [hk]; rfl
    clear hk
    go_enter Tryz.func60, Tryz.ntmps60
    go_wp2_with fail
    refine HPL.out.mono ?_
    rintro e w1 ⟨rfl, rfl⟩
    go_wp2_with fail
    refine HER.out.mono ?_
    intro e w1 hpost
    obtain ⟨v, rfl, hv, hr, hs⟩ := HBACK.out _ _ _ hpost
    clear hpost
    go_wp2_with fail
    go_ret
    rw [HE.out]
    exact ⟨v, rfl, hv, hr, hs⟩
  · have HE : Hid (partR R x zx = setR R x zx) := Lib.hid (by unfold partR; rw [if_neg (by omega), if_neg (by omega), if_pos hk])
    have hk1 : (x.kind == 1) = false := by rw [hk]; rfl
    have hk2 : (x.kind == 2) = false := by rw [hk]; rfl
    have hk3 : (x.kind == 3) = true := by rw [hk]; rfl
    clear hk HCR HER
    by_cases h0 : 0 ≤ pl
    · obtain ⟨L, nv, sv, hD⟩ := HR1.out
      obtain ⟨a, cap, rfl, hcap, hnode⟩ := hD.node
      obtain ⟨i, hi, rfl⟩ : ∃ i : Nat, i < R.N.length ∧ pl = i := by
        rcases placeI_cases R.N x.path with ⟨h9, _⟩ | ⟨i, hi, h9, _⟩
        · rw [HPI.out] at h9; omega
        · exact ⟨i, hi, by rw [← HPI.out, h9]⟩
      have hil : i < L.length := by rw [rd_len hD]; exact hi
      obtain ⟨g, q, rfl, hg, hq, hc, hfz⟩ := hnode i hil
      have HD := Lib.hid hD
      have HIL := Lib.hid hil
      have HE2 : Hid (setR R x zx = (modN R i (setF x zx), [⟨3, x.path, zx⟩])) := Lib.hid (by unfold setR placed; rw [HPI.out, if_pos (by simp)]; rfl)
      have hmax := own_max hD.n
      unfold maxLen at hmax
      have i1 : (0 : Int) ≤ (i : Int) := by omega
      have i2 : (i : Int) < (L.length : Int) := by omega
      have HP0 : Hid (PD (w.alloc (txnO x y)) b w.heap.size g L.length cap R sv x y) := Lib.hid ⟨⟨L, hD, rfl⟩, HB0.out⟩
      clear hnode hq hc hD hfz hi
      obtain ⟨c0, tb, fz, cl⟩ := HP0.out.at_ HIL.out
      obtain ⟨t0, t1, t2, t3, t4, t5, t6, t7⟩ := tb
      obtain ⟨u9, x9⟩ := cl 1 (by decide)
      have f9 := fz (i * 12 + 1)
      clear cl fz
      go_enter Tryz.func60, Tryz.ntmps60
      go_wp2_with fail
      refine HPL.out.mono ?_
      rintro e w1 ⟨rfl, rfl⟩
      generalize hw1 : w.alloc (txnO x y) = w1 at *
      go_wp2_with fail
      go_region
      all_goals go_wp2_with fail
      clear c0 t0 t1 t2 t3 t4 t5 t6 t7 x9 f9
      obtain ⟨p1, s1⟩ := HP0.out.store (f := fun n => { n with data := x.data }) HIL.out (j := 1) (u := .string x.data) (by decide) (fun _ => rfl) (fun _ => rfl)
      have HP1 := Lib.hid (p1.kept0 ((Kept.refl _ _).drew))
      have HS1 := Lib.hid ((HST0.out.trans s1).drewB p1.rat)
      clear p1 s1
      generalize (w1.setCell ⟨g, i * 12 + 1, none⟩ (.string x.data)).drew = w2 at HP1 HS1 ⊢
      obtain ⟨c0, tb, fz, cl⟩ := HP1.out.at_ HIL.out
      obtain ⟨t0, t1, t2, t3, t4, t5, t6, t7⟩ := tb
      obtain ⟨u9, x9⟩ := cl 6 (by decide)
      have x9 : w2.cell? ⟨g, i * 12 + 3 + 3, none⟩ = some u9 := x9
      have f9 := fz (i * 12 + 3 + 3)
      clear cl fz
      go_region
      clear c0 t0 t1 t2 t3 t4 t5 t6 t7 x9 f9
      obtain ⟨p1, s1⟩ := HP1.out.store (f := fun n => { n with st := { n.st with ver := x.number } }) HIL.out (j := 6) (u := .int .i64 x.number) (by decide) (fun _ => rfl) (fun _ => rfl)
      have HP2 : Hid (PD (w2.setCell ⟨g, i * 12 + 3 + 3, none⟩ (.int .i64 x.number)).drew b w.heap.size g L.length cap _ sv x y) := Lib.hid (p1.kept0 ((Kept.refl _ _).drew))
      have HS2 : Hid (RStep w b (w2.setCell ⟨g, i * 12 + 3 + 3, none⟩ (.int .i64 x.number)).drew) := Lib.hid ((HS1.out.trans s1).drewB p1.rat)
      clear p1 s1
      generalize (w2.setCell ⟨g, i * 12 + 3 + 3, none⟩ (.int .i64 x.number)).drew = w3 at HP2 HS2 ⊢
      obtain ⟨c0, tb, fz, cl⟩ := HP2.out.at_ HIL.out
      obtain ⟨t0, t1, t2, t3, t4, t5, t6, t7⟩ := tb
      obtain ⟨u9, x9⟩ := cl 4 (by decide)
      have x9' : w3.cell? ⟨g, i * 12 + 3 + 1, none⟩ = some u9 := x9
      have f9' := fz (i * 12 + 3 + 1)
      have f9 := fz (i * 12 + 4)
      have hbg := HP2.out.ne
      clear cl fz
      go_wp2_with fail
      go_ret
      obtain ⟨p1, s1⟩ := HP2.out.store (f := fun n => { n with st := { n.st with mz := zx } }) HIL.out (j := 4) (u := .int .i64 zx) (by decide) (fun _ => rfl) (fun _ => rfl)
      have hS3 := HS2.out.trans s1
      rw [HE.out, HE2.out]
      have e2 : modN (modN (modN R i fun n => { n with data := x.data }) i fun n => { n with st := { n.st with ver := x.number } }) i (fun n => { n with st := { n.st with mz := zx } }) = modN R i (setF x zx) := by
        unfold modN
        simp only
        rw [modify_modify, modify_modify]; rfl
      rw [e2] at p1
      have hev : EvsAt w.heap.size ((w3.setCell ⟨g, i * 12 + 4, none⟩ (.int .i64 zx)).alloc (.cells #[.int .i64 3, .string x.path, .int .i64 zx] 75)) (.slice (some ⟨(w3.setCell ⟨g, i * 12 + 4, none⟩ (.int .i64 zx)).heap.size, 0, none⟩) 1 1) [⟨3, x.path, zx⟩] := evsAt_new (l := [⟨3, x.path, zx⟩]) hS3.kept.size one_le
      rw [show (w3.setCell ⟨g, i * 12 + 4, none⟩ (.int .i64 zx)).heap.size = w3.heap.size by simp [World.setCell]] at hev
      exact ⟨_, rfl, hev, (p1.kept0 ((Kept.refl _ _).alloc _)).rat, hS3.trans (RStep.of0 ((Kept.refl _ _).alloc _) (p1.rat.lt (.inl rfl)))⟩
    · have HE2 : Hid (setR R x zx = (R, [])) := Lib.hid (by unfold setR placed; rw [HPI.out, if_neg (by simpa using h0)])
      go_enter Tryz.func60, Tryz.ntmps60
      go_wp2_with fail
      refine HPL.out.mono ?_
      rintro e w1 ⟨rfl, rfl⟩
      go_wp2_with fail
      go_ret
      rw [HE.out, HE2.out]
      exact ⟨_, rfl, evsAt_nil _, HR1.out, HST0.out⟩
  · have HE : Hid (partR R x zx = (aclR R x, [])) := Lib.hid (by unfold partR; rw [if_neg (by omega), if_neg (by omega), if_neg (by omega), if_pos hk])
    have hk1 : (x.kind == 1) = false := by rw [hk]; rfl
    have hk2 : (x.kind == 2) = false := by rw [hk]; rfl
    have hk3 : (x.kind == 3) = false := by rw [hk]; rfl
    have hk4 : (x.kind == 4) = true := by rw [hk]; rfl
    clear hk HCR HER
    by_cases h0 : 0 ≤ pl
    · obtain ⟨L, nv, sv, hD⟩ := HR1.out
      obtain ⟨a, cap, rfl, hcap, hnode⟩ := hD.node
      obtain ⟨i, hi, rfl⟩ : ∃ i : Nat, i < R.N.length ∧ pl = i := by
        rcases placeI_cases R.N x.path with ⟨h9, _⟩ | ⟨i, hi, h9, _⟩
        · rw [HPI.out] at h9; omega
        · exact ⟨i, hi, by rw [← HPI.out, h9]⟩
      have hil : i < L.length := by rw [rd_len hD]; exact hi
      obtain ⟨g, q, rfl, hg, hq, hc, hfz⟩ := hnode i hil
      have HIL := Lib.hid hil
      have HE2 : Hid (aclR R x = modN R i (aclF x)) := Lib.hid (by unfold aclR placed; rw [HPI.out, if_pos (by simp)]; rfl)
      have hmax := own_max hD.n
      unfold maxLen at hmax
      have i1 : (0 : Int) ≤ (i : Int) := by omega
      have i2 : (i : Int) < (L.length : Int) := by omega
      have HP0 : Hid (PD (w.alloc (txnO x y)) b w.heap.size g L.length cap R sv x y) := Lib.hid ⟨⟨L, hD, rfl⟩, HB0.out⟩
      clear hnode hq hc hD hfz hi
      obtain ⟨c0, tb, fz, cl⟩ := HP0.out.at_ HIL.out
      obtain ⟨t0, t1, t2, t3, t4, t5, t6, t7⟩ := tb
      clear cl fz
      go_enter Tryz.func60, Tryz.ntmps60
      go_wp2_with fail
      refine HPL.out.mono ?_
      rintro e w1 ⟨rfl, rfl⟩
      generalize hw1 : w.alloc (txnO x y) = w1 at *
      go_wp2_with fail
      have HPD := Lib.hid (HP0.out.kept0 ((Kept.refl _ w1).drew))
      have HAD := Lib.hid (HA1.out.kept0 ((Kept.refl _ w1).drew) HP0.out.rat.ltb)
      have HSD := Lib.hid (HST0.out.drewB HP0.out.rat)
      have HRW := Lib.hid (rows_src HAD.out.rows HAD.out.room)
      unfold RowsPost at HRW
      clear c0 t0 t1 t2 t3 t4 t5 t6 t7
      obtain ⟨c0, tb, fz, cl⟩ := HPD.out.at_ HIL.out
      obtain ⟨t0, t1, t2, t3, t4, t5, t6, t7⟩ := tb
      clear cl fz
      go_region_held3 (fun w' => w'.cell? ⟨b, 0, none⟩ = some (.slice (some ⟨g, 0, none⟩) L.length cap) ∧ w'.cell? ⟨w.heap.size, 3, none⟩ = some (.slice y.aa y.an y.ac))
        (first | go_keep | exact ⟨setcell_ne hgb c0, setcell_ne hbg t3⟩)
        (first
          | (go_at_call 91; with_reducible refine HRW.out.mono ?_; rintro e w5 ⟨v5, rfl, hown5, hk5⟩; obtain ⟨va5, vc5, rfl⟩ := own_shape hown5; have HPK := Lib.hid (HPD.out.kept0 hk5); have HA5 : Hid (AclW w5 (.slice va5 x.acl.length vc5) x.acl) := Lib.hid ⟨row0 hown5, HAD.out.room⟩; have HS5 := Lib.hid (HSD.out.trans (RStep.of0 hk5 HPD.out.rat.ltb)); clear hown5 hk5 c0 t0 t1 t2 t3 t4 t5 t6 t7; obtain ⟨c0, tb, fz, cl⟩ := HPK.out.at_ HIL.out; obtain ⟨t0, t1, t2, t3, t4, t5, t6, t7⟩ := tb; obtain ⟨u9, x9⟩ := cl 2 (by decide); have f9 := fz (i * 12 + 2); have hbg := HPK.out.ne; have hgb := HPK.out.gne; clear cl fz))
      clear c0 t0 t1 t2 t3 t4 t5 t6 t7 x9 f9 hbg hgb
      obtain ⟨p1, s1⟩ := HPK.out.storeA HIL.out HA5.out
      have HP2 := Lib.hid p1
      have HS2 := Lib.hid (HS5.out.trans s1)
      clear p1 s1
      generalize w5.setCell ⟨g, i * 12 + 2, none⟩ (.slice va5 x.acl.length vc5) = w6 at *
      obtain ⟨c0, tb, fz, cl⟩ := HP2.out.at_ HIL.out
      obtain ⟨t0, t1, t2, t3, t4, t5, t6, t7⟩ := tb
      obtain ⟨u9, x9⟩ := cl 8 (by decide)
      have x9' : w6.cell? ⟨g, i * 12 + 3 + 5, none⟩ = some u9 := x9
      have f9' := fz (i * 12 + 3 + 5)
      have f9 := fz (i * 12 + 8)
      clear cl fz
      go_wp2_with fail
      go_region
      all_goals go_wp2_with fail
      go_ret
      obtain ⟨p1, s1⟩ := HP2.out.store (f := fun n => { n with st := { n.st with aver := x.number } }) HIL.out (j := 8) (u := .int .i64 x.number) (by decide) (fun _ => rfl) (fun _ => rfl)
      have hS3 := HS2.out.trans s1
      rw [HE.out, HE2.out]
      have e2 : modN (modN R i fun n => { n with acl := x.acl }) i (fun n => { n with st := { n.st with aver := x.number } }) = modN R i (aclF x) := by
        unfold modN
        simp only
        rw [modify_modify]; rfl
      rw [e2] at p1
      exact ⟨_, rfl, evsAt_nil _, (p1.kept0 ((Kept.refl _ _).drew)).rat, hS3.drewB p1.rat⟩
    · have HE2 : Hid (aclR R x = R) := Lib.hid (by unfold aclR placed; rw [HPI.out, if_neg (by simpa using h0)])
      go_enter Tryz.func60, Tryz.ntmps60
      go_wp2_with fail
      refine HPL.out.mono ?_
      rintro e w1 ⟨rfl, rfl⟩
      go_wp2_with fail
      go_ret
      rw [HE.out, HE2.out]
      exact ⟨_, rfl, evsAt_nil _, HR1.out, HST0.out⟩
  · have HE : Hid (partR R x zx = (R, [])) := Lib.hid (by unfold partR; rw [if_neg n1, if_neg n2, if_neg n3, if_neg n4])
    have hk1 : (x.kind == 1) = false := by simpa using n1
    have hk2 : (x.kind == 2) = false := by simpa using n2
    have hk3 : (x.kind == 3) = false := by simpa using n3
    have hk4 : (x.kind == 4) = false := by simpa using n4
    clear n1 n2 n3 n4
    go_enter Tryz.func60, Tryz.ntmps60
    go_wp2_with fail
    refine HPL.out.mono ?_
    rintro e w1 ⟨rfl, rfl⟩
    go_wp2_with fail
    go_ret
    rw [HE.out]
    exact ⟨_, rfl, evsAt_nil _, HR1.out, HST0.out⟩
end Go.Proofs.YtenbdoceaabecaaGreat
