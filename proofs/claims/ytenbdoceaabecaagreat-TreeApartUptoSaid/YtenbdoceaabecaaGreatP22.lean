/- The document's own tree: create. The document's own tree: erase. -/
import Derived.Test.YtenbdoceaabecaaGreatP21
import Derived.Test.YtenbdoceaabecaaGreatP07
namespace Go.Proofs.YtenbdoceaabecaaGreat
open Go.ChangeShapes Go.WideShapes Go.ChangeAt Go.RowKit Go.Maps
set_option linter.unusedVariables false
set_option linter.unusedSimpArgs false
def newRN (x : T1) (zx : Int) : RN := ⟨x.path, x.data, x.acl, ⟨zx, zx, zx, 0, 0, 0, x.owner⟩⟩
def placed (R : RT) (p : ByteArray) : Bool := decide (0 ≤ placeI R.N p)
def createR (R : RT) (x : T1) (zx : Int) : RT × List Ev :=
  if mayCome x.path = true ∧ placed R (parS x.path) = true then
    (kidR { R with N := layF (·.path) (newRN x zx) R.N } (parS x.path) x.number zx, [⟨if placed R x.path = true then 3 else 1, x.path, zx⟩, ⟨4, parS x.path, zx⟩])
  else (R, [])
def REPost (w : World) (b : Nat) (r : RT × List Ev) (e : Ending) (w' : World) : Prop := ∃ v, e = .returned v ∧ EvsAt w.heap.size w' v r.2 ∧ RAt w' b r.1 ∧ RStep w b w'
/-- a transaction in a box beside a tree -/
theorem txn_box {w w1 : World} {b bb : Nat} {x : T1} {y : TX} {R : RT} (h : w.heap[bb]? = some (txnO x y)) (hR : RAt w b R) (hk : RStep w b w1) : w1.heap[bb]? = some (txnO x y) :=
  (hk.kept.block _ (lt_of_block h) (hR.other h (by decide) (by decide) (by decide))).trans h
theorem aclw_step {w w1 : World} {b : Nat} {R : RT} {v : Value} {l : List AR} (h : AclW w v l) (hR : RAt w b R) (hk : RStep w b w1) : AclW w1 v l := ⟨row_step h.own hR hk (by decide) (by decide) (by decide), h.room⟩
structure TxB (w : World) (bb : Nat) (x : T1) (y : TX) : Prop where
  t0 : w.cell? ⟨bb, 0, none⟩ = some (.int .i64 x.kind)
  t1 : w.cell? ⟨bb, 1, none⟩ = some (.string x.path)
  t2 : w.cell? ⟨bb, 2, none⟩ = some (.string x.data)
  t3 : w.cell? ⟨bb, 3, none⟩ = some (.slice y.aa y.an y.ac)
  t4 : w.cell? ⟨bb, 4, none⟩ = some (.int .i64 x.owner)
  t5 : w.cell? ⟨bb, 5, none⟩ = some (.int .i64 x.number)
  t6 : w.cell? ⟨bb, 6, none⟩ = some (.int .i64 y.err)
  t7 : w.cell? ⟨bb, 7, none⟩ = some (.slice y.sa y.sn y.sc)
theorem txB {w : World} {bb : Nat} {x : T1} {y : TX} (h : w.heap[bb]? = some (txnO x y)) : TxB w bb x y := by
  have e : ∀ i, w.cell? ⟨bb, i, none⟩ = (txnL x y)[i]? := fun i => by
    rw [cell_of_row w bb i _ _ (0, 0) h, ← Array.getElem?_toList]; rfl
  exact ⟨e 0, e 1, e 2, e 3, e 4, e 5, e 6, e 7⟩
theorem box_kept0 {w w1 : World} {bb : Nat} {o : Obj} (h : w.heap[bb]? = some o) (hk : Kept (fun _ => False) w w1) : w1.heap[bb]? = some o := (hk.block _ (lt_of_block h) (fun f => f)).trans h
theorem evs_kept0 {w w1 : World} {B : Nat} {v : Value} {l : List Ev} (h : EvsAt B w v l) (hk : Kept (fun _ => False) w w1) : EvsAt B w1 v l := ownKept h hk (fun _ _ f => f)
theorem placed_cases (R : RT) (p : ByteArray) : (placed R p = true ∧ 0 ≤ placeI R.N p) ∨ (placed R p = false ∧ placeI R.N p < 0) := by
  unfold placed
  by_cases h : 0 ≤ placeI R.N p
  · exact .inl ⟨decide_eq_true h, h⟩
  · exact .inr ⟨decide_eq_false h, by omega⟩
theorem cell_box {w : World} {bb i : Nat} {c : Array Value} {T : TypeId} {v : Value} (h : w.heap[bb]? = some (.cells c T (0, 0))) (hv : c[i]? = some v) : w.cell? ⟨bb, i, none⟩ = some v := (cell_of_row w bb i _ _ (0, 0) h).trans hv
set_option maxRecDepth 100000 in
set_option maxHeartbeats 2000000 in
theorem rcreate_any {w : World} {b : Nat} {R : RT} (h : RAt w b R) (x : T1) (y : TX) (zx : Int) (ha : AclS w b (.slice y.aa y.an y.ac) x.acl) (hp : x.path.size ≤ 1099511627776) (hlen : R.N.length ≤ 1000000000) :
    Calls Tryz.prog 94 #[.pointer (some ⟨b, 0, none⟩), txnV x y, .int .i64 zx] w (REPost w b (createR R x zx)) := by
  unfold txnV txnL
  have hk0 : Kept (fun _ => False) w (w.alloc (txnO x y)) := (Kept.refl _ w).alloc _
  have HB0 : Hid ((w.alloc (txnO x y)).heap[w.heap.size]? = some (txnO x y)) := Lib.hid (heap_alloc_new w _)
  have HR0 := Lib.hid h
  have HST0 := Lib.hid (RStep.of0 hk0 (h.lt (.inl rfl)))
  have HR1 := Lib.hid (h.kept0 hk0)
  have HA := Lib.hid (ha.kept0 hk0 (h.lt (.inl rfl)))
  have HC := Lib.hid (fun w => able_any x.path w hp)
  have HL := Lib.hid hlen
  clear h hk0 ha hlen
  go_enter Tryz.func94, Tryz.ntmps94
  go_wp2_with fail
  refine (refParent_any x.path _ (by omega)).mono ?_
  rintro e w1 ⟨rfl, rfl⟩
  go_wp2_with fail
  refine (HC.out _).mono ?_
  rintro e w1 ⟨rfl, hk⟩
  have HK1 := Lib.hid hk
  have HB1 := Lib.hid (box_kept0 HB0.out hk)
  have HR2 := Lib.hid (HR1.out.kept0 hk)
  have HA2 := Lib.hid (HA.out.kept0 hk (HR1.out.lt (.inl rfl)))
  have HST1 := Lib.hid (HST0.out.trans (RStep.of0 hk (HR1.out.lt (.inl rfl))))
  have e1 : w1.cell? ⟨w.heap.size, 1, none⟩ = some (.string x.path) := cell_box HB1.out rfl
  clear hk
  by_cases hm : mayCome x.path = true
  · rw [hm]
    have HE : Hid (createR R x zx = if placed R (parS x.path) = true then (kidR { R with N := layF (·.path) (newRN x zx) R.N } (parS x.path) x.number zx, [⟨if placed R x.path = true then 3 else 1, x.path, zx⟩, ⟨4, parS x.path, zx⟩]) else (R, [])) := Lib.hid (by
      unfold createR; simp only [hm, true_and])
    have HPL := Lib.hid (place_any HR2.out (parS x.path))
    have HPX := Lib.hid (place_any HR2.out x.path)
    rcases placed_cases R (parS x.path) with ⟨hpp, hge⟩ | ⟨hpp, hge⟩
    · rw [hpp, if_pos rfl] at HE
      obtain ⟨pu, hpu⟩ : ∃ pu, placeI R.N (parS x.path) = pu := ⟨_, rfl⟩
      rw [hpu] at HPL hge
      have hng : ¬ pu < 0 := by omega
      clear hm hpp hpu
      go_wp2_with fail
      refine HPL.out.mono ?_
      rintro e w2 ⟨rfl, rfl⟩
      go_wp2_with fail
      refine HPX.out.mono ?_
      rintro e w2 ⟨rfl, rfl⟩
      have HRD := Lib.hid (HR2.out.kept0 ((Kept.refl _ w1).drew))
      have HAD := Lib.hid (HA2.out.kept0 ((Kept.refl _ w1).drew) (HR2.out.lt (.inl rfl)))
      have HBD := Lib.hid (box_kept0 HB1.out ((Kept.refl _ w1).drew))
      have HLY := Lib.hid (fun (wv : World) (hr : RAt wv b R) (v : Value) (hv : AclW wv v x.acl) => rlay_any hr (newRN x zx) v hv HL.out)
      have HRW := Lib.hid (rows_src HAD.out.rows HAD.out.room)
      simp only [newRN] at HLY
      unfold RPost at HLY
      unfold RowsPost at HRW
      rcases placed_cases R x.path with ⟨hpx, hgx⟩ | ⟨hpx, hgx⟩
      all_goals (
        rw [hpx] at HE
        simp only [if_true, Bool.false_eq_true, if_false] at HE
        obtain ⟨px, hpx2⟩ : ∃ px, placeI R.N x.path = px := ⟨_, rfl⟩
        rw [hpx2] at hgx ⊢
        clear hpx hpx2 HPX HPL e1
        obtain ⟨t0, t1, t2, t3, t4, t5, t6, t7⟩ := txB HB1.out
        go_wp2_with fail
        clear t0 t1 t2 t3 t4 t5 t6 t7
        obtain ⟨t0, t1, t2, t3, t4, t5, t6, t7⟩ := txB HBD.out
        go_region_held3 (fun w' => w'.cell? ⟨w.heap.size, 1, none⟩ = some (.string x.path) ∧ w'.cell? ⟨w.heap.size, 2, none⟩ = some (.string x.data) ∧ w'.cell? ⟨w.heap.size, 3, none⟩ = some (.slice y.aa y.an y.ac) ∧ w'.cell? ⟨w.heap.size, 4, none⟩ = some (.int .i64 x.owner))
          (go_keep)
          (first
            | (go_at_call 91; with_reducible refine HRW.out.mono ?_; rintro e w5 ⟨v5, rfl, hown5, hk5⟩; obtain ⟨va5, vc5, rfl⟩ := own_shape hown5; have HR5 := Lib.hid (HRD.out.kept0 hk5); have HB5 := Lib.hid (box_kept0 HBD.out hk5); have HA5 : Hid (AclW w5 (.slice va5 x.acl.length vc5) x.acl) := Lib.hid ⟨row0 hown5, HAD.out.room⟩; have HK5 := Lib.hid hk5; clear hown5 hk5 t0 t1 t2 t3 t4 t5 t6 t7; obtain ⟨t0, t1, t2, t3, t4, t5, t6, t7⟩ := txB HB5.out)
            | (go_at_call 90; with_reducible refine (HLY.out _ HR5.out _ HA5.out).mono ?_; rintro e w6 ⟨rfl, hR6, hst6⟩; have HR6 := Lib.hid hR6; have HST6 := Lib.hid hst6; have HB6 := Lib.hid (txn_box HB5.out HR5.out hst6); clear hR6 hst6 t0 t1 t2 t3 t4 t5 t6 t7; obtain ⟨t0, t1, t2, t3, t4, t5, t6, t7⟩ := txB HB6.out))
        have HST6' := Lib.hid (((HST1.out.trans (RStep.of0 ((Kept.refl _ w1).drew) (HR2.out.lt (.inl rfl)))).trans (RStep.of0 HK5.out (HRD.out.lt (.inl rfl)))).trans HST6.out)
        have HKD := Lib.hid (rkid_any HR6.out (parS x.path) x.number zx)
        go_wp2_with fail
        refine HKD.out.mono ?_
        rintro e w7 ⟨rfl, hR7, hst7⟩
        have HB7 := Lib.hid (txn_box HB6.out HR6.out hst7)
        have HR7 := Lib.hid hR7
        have HST7 := Lib.hid (HST6'.out.trans hst7)
        clear hR7 hst7 t0 t1 t2 t3 t4 t5 t6 t7
        have e1 : w7.cell? ⟨w.heap.size, 1, none⟩ = some (.string x.path) := cell_box HB7.out rfl
        go_wp2_with fail
        go_ret
        rw [HE.out]
        have hsz := HST7.out.kept.size)
      · exact ⟨_, rfl, evsAt_new (l := [⟨3, x.path, zx⟩, ⟨4, parS x.path, zx⟩]) hsz two_le, HR7.out.kept0 ((Kept.refl _ w7).alloc _), HST7.out.trans (RStep.of0 ((Kept.refl _ w7).alloc _) (HR7.out.lt (.inl rfl)))⟩
      · exact ⟨_, rfl, evsAt_new (l := [⟨1, x.path, zx⟩, ⟨4, parS x.path, zx⟩]) hsz two_le, HR7.out.kept0 ((Kept.refl _ w7).alloc _), HST7.out.trans (RStep.of0 ((Kept.refl _ w7).alloc _) (HR7.out.lt (.inl rfl)))⟩
    · rw [hpp, if_neg (by simp)] at HE
      obtain ⟨pu, hpu⟩ : ∃ pu, placeI R.N (parS x.path) = pu := ⟨_, rfl⟩
      rw [hpu] at HPL hge
      clear hm hpp hpu
      go_wp2_with fail
      refine HPL.out.mono ?_
      rintro e w2 ⟨rfl, rfl⟩
      go_wp2_with fail
      go_ret
      rw [HE.out]
      exact ⟨_, rfl, evsAt_nil _, HR2.out, HST1.out⟩
  · have hm : mayCome x.path = false := by simpa using hm
    have HE : Hid (createR R x zx = (R, [])) := Lib.hid (by unfold createR; rw [if_neg (by rw [hm]; simp)])
    rw [hm]
    go_wp2_with fail
    go_ret
    rw [HE.out]
    exact ⟨_, rfl, evsAt_nil _, HR2.out, HST1.out⟩
end Go.Proofs.YtenbdoceaabecaaGreat

namespace Go.Proofs.YtenbdoceaabecaaGreat
open Go.ChangeShapes Go.WideShapes Go.ChangeAt Go.RowKit Go.Maps
set_option linter.unusedVariables false
set_option linter.unusedSimpArgs false
def keepQ (p : ByteArray) (n : RN) : Bool := !decide (n.path = p) && !underS n.path p
def cutR (R : RT) (x : T1) (zx : Int) : RT := kidR { R with N := R.N.filter (keepQ x.path) } (parS x.path) x.number zx
def eraseR (R : RT) (x : T1) (zx : Int) : RT × List Ev :=
  if mayCome x.path = true then (cutR R x zx, if placed R x.path = true then [⟨2, x.path, zx⟩] ++ (if placed (cutR R x zx) (parS x.path) = true then [⟨4, parS x.path, zx⟩] else []) else [])
  else (R, [])
theorem filter_map_fst (f : RN → Bool) : ∀ (l : List (RN × Value)), (l.filter fun p => f p.1).map (·.1) = (l.map (·.1)).filter f
  | [] => rfl
  | p :: l => by
    rw [List.map_cons, List.filter_cons, List.filter_cons]
    split <;> simp [filter_map_fst f l]
structure EraRel (w0 : World) (L : List (RN × Value)) (p : ByteArray) (lv iv : Value) (wr : World) : Prop where
  ex : ∃ k : Nat, k ≤ L.length ∧ iv = .int .i64 k ∧ wr.ownsRow w0.heap.size 91 12 lv ((L.take k).filter fun q => keepQ p q.1).length (ndC ((L.take k).filter fun q => keepQ p q.1)) ∧ Kept (fun _ => False) w0 wr
/-- an append to a row of events, ahead of whose element a block was made -/
theorem rstep_app {w w1 w' : World} {b B : Nat} {R : RT} {v : Value} {l : List Ev} {o : Obj} (h : RStep w b w1) (hR : RAt w1 b R) (hv : EvsAt B w1 v l) (hB : w.heap.size ≤ B) (hg : (w1.alloc o).grownBy w' v.ownBlock) : RStep w b w' := by
  have hk : Kept (RBs w b) w w' := (h.kept.alloc o).trans' (Kept.of_grownBy hg) (fun k hk e => by have := (own_lo hv e.symm).1; omega)
  refine ⟨hk, fun k hk' => ?_⟩
  have hb1 := hR.lt (k := b) (.inl rfl)
  have hne : ¬ some b = v.ownBlock := fun e => by
    obtain ⟨_, _, cur, hc⟩ := own_lo hv e.symm
    exact hR.other hc (by decide) (by decide) (by decide) (.inl rfl)
  have h1 : Kept (fun k => some k = v.ownBlock) w1 w' := ((Kept.refl _ w1).alloc o).trans (Kept.of_grownBy hg)
  exact h.bs k ((rbs_kept h1 hb1 hne k).1 hk')
set_option maxRecDepth 100000 in
set_option maxHeartbeats 4000000 in
theorem rerase_any {w : World} {b : Nat} {R : RT} (h : RAt w b R) (x : T1) (y : TX) (zx : Int) (hp : x.path.size ≤ 1099511627776) (hps : ∀ n ∈ R.N, n.path.size ≤ 1048576) (hlen : R.N.length ≤ 1000000000) :
    Calls Tryz.prog 95 #[.pointer (some ⟨b, 0, none⟩), txnV x y, .int .i64 zx] w (REPost w b (eraseR R x zx)) := by
  unfold txnV txnL
  have hk0 : Kept (fun _ => False) w (w.alloc (txnO x y)) := (Kept.refl _ w).alloc _
  have HB0 : Hid ((w.alloc (txnO x y)).heap[w.heap.size]? = some (txnO x y)) := Lib.hid (heap_alloc_new w _)
  have HST0 := Lib.hid (RStep.of0 hk0 (h.lt (.inl rfl)))
  have HR1 := Lib.hid (h.kept0 hk0)
  have HC := Lib.hid (fun w => able_any x.path w hp)
  have HL := Lib.hid hlen
  have HPS := Lib.hid hps
  have HRW := Lib.hid nd_row
  clear h hk0 hlen hps
  go_enter Tryz.func95, Tryz.ntmps95
  go_wp2_with fail
  refine (HC.out _).mono ?_
  rintro e w0 ⟨rfl, hk⟩
  have HB1 := Lib.hid (box_kept0 HB0.out hk)
  have HR2 := Lib.hid (HR1.out.kept0 hk)
  have HST1 := Lib.hid (HST0.out.trans (RStep.of0 hk (HR1.out.lt (.inl rfl))))
  obtain ⟨t0, t1, t2, t3, t4, t5, t6, t7⟩ := txB HB1.out
  clear hk
  by_cases hm : mayCome x.path = true
  · rw [hm]
    have HE : Hid (eraseR R x zx = (cutR R x zx, if placed R x.path = true then [⟨2, x.path, zx⟩] ++ (if placed (cutR R x zx) (parS x.path) = true then [⟨4, parS x.path, zx⟩] else []) else [])) := Lib.hid (by
      unfold eraseR; rw [if_pos hm])
    have HPX := Lib.hid (place_any HR2.out x.path)
    clear hm
    go_wp2_with fail
    refine (refParent_any x.path _ (by omega)).mono ?_
    rintro e w2 ⟨rfl, rfl⟩
    go_wp2_with fail
    refine HPX.out.mono ?_
    rintro e w2 ⟨rfl, rfl⟩
    obtain ⟨L, nv, sv, hD⟩ := HR2.out
    obtain ⟨a, cap, rfl, hcap, hnode⟩ := hD.node
    have hlL : L.length ≤ 1000000000 := by rw [rd_len hD]; exact HL.out
    have HO : Hid (∀ p, p ∈ L → ∀ u ∈ ndL p, u.oneCell' = true) := Lib.hid (fun p hp => ndL_one p (by
      obtain ⟨a, c, e⟩ := own_shape (hD.acl p hp).own; exact ⟨_, _, _, e⟩))
    have HD := Lib.hid hD
    have HN := Lib.hid hnode
    have HEQ := Lib.hid hD.eq
    obtain ⟨px, hpx⟩ : ∃ px, placeI R.N x.path = px := ⟨_, rfl⟩
    have HPXI := Lib.hid hpx
    rw [hpx]
    obtain ⟨th, hth⟩ : ∃ th : Bool, decide (0 ≤ px) = th := ⟨_, rfl⟩
    have HTH : Hid (placed R x.path = th) := Lib.hid (by unfold placed; rw [hpx]; exact hth)
    clear hD hnode hpx t0 t2 t3 t4 t5 t6 t7
    go_wp2_with fail
    go_loopw [10, 11] (fun lv iv wr => EraRel w0 L x.path lv iv wr) (fun _ iv _ => L.length - (intOf iv).toNat)
    case atStart => exact ⟨0, Nat.zero_le _, rfl, World.ownsRow_nil _ _ _ _, Kept.refl _ _⟩
    case round =>
      obtain ⟨k, hk, rfl, hown, hkw⟩ := hrel.ex
      have HOWN := Lib.hid hown
      have HKW := Lib.hid hkw
      have HSZ : Hid (w0.heap.size ≤ wr.heap.size) := Lib.hid hkw.size
      obtain ⟨c0, c1, c2, cf⟩ := (HD.out.kept0 hkw).cells
      have s1 : wr.cell? ⟨w.heap.size, 1, none⟩ = some (.string x.path) := cell_box (box_kept0 HB1.out hkw) rfl
      have s5 : wr.cell? ⟨w.heap.size, 5, none⟩ = some (.int .i64 x.number) := cell_box (box_kept0 HB1.out hkw) rfl
      have hcl : ((L.take k).filter fun q => keepQ x.path q.1).length ≤ L.length := Nat.le_trans (List.length_filter_le _ _) (by rw [List.length_take]; omega)
      obtain ⟨acc, hacc⟩ : ∃ acc, ((L.take k).filter fun q => keepQ x.path q.1) = acc := ⟨_, rfl⟩
      rw [hacc] at HOWN hcl
      have HACC := Lib.hid hacc
      clear hown hkw hrel hacc t1
      by_cases hlt : k < L.length
      · obtain ⟨g, q, rfl, hg, hq, hc, hfz⟩ := HN.out k hlt
        obtain ⟨x0, x1, x2, x3, x4, x5, x6, x7, x8, x9, x10, x11⟩ := nodeAt hc hg HKW.out
        have HC9 := Lib.hid hc
        have HQ := Lib.hid hq
        have i1 : (0 : Int) ≤ (k : Int) := by omega
        have i2 : (k : Int) < (L.length : Int) := by omega
        have hqs : q.1.path.size ≤ 1048576 := HPS.out q.1 (List.mem_of_getElem? (rd_at HD.out hq))
        obtain ⟨un, hun⟩ : ∃ un, underS q.1.path x.path = un := ⟨_, rfl⟩
        have HUN := Lib.hid hun
        have HU : Hid (∀ W, Calls Tryz.prog 123 #[.string q.1.path, .string x.path] W fun e w' => e = .returned (.bool un) ∧ w' = W) := Lib.hid (fun W => (refUnder_any q.1.path x.path W (by omega) (by omega)).mono (fun e w' h => ⟨by rw [← hun]; exact h.1, h.2.symm⟩))
        clear hc hq hfz hun
        have HNX : Hid (∀ z, keepQ x.path q.1 = z → ((L.take (k + 1)).filter fun q => keepQ x.path q.1) = acc ++ (if z = true then [q] else [])) := Lib.hid (fun z hz => by rw [take_at HQ.out, List.filter_append, HACC.out, show List.filter (fun q => keepQ x.path q.1) [q] = if keepQ x.path q.1 = true then [q] else [] by rw [List.filter_cons, List.filter_nil], hz])
        go_wp2_with fail
        go_quiet ((go_at_call 123; exact Calls.quiet_of_same (HU.out _)))
        by_cases he : q.1.path = x.path
        · have e1 : (q.1.path.toList == x.path.toList) = true := by rw [he]; simp
          have e2 : (!q.1.path.toList == x.path.toList) = false := by rw [e1]; rfl
          have HK : Hid (keepQ x.path q.1 = false) := Lib.hid (by unfold keepQ; simp [he])
          clear he
          go_wp2_with fail
          go_quiet (fail)
          go_wp2_with fail
          go_roundw
          case rel =>
            have h9 := fun z => own_drewN HOWN.out z
            exact ⟨k + 1, by omega, by go_num, by rw [HNX.out _ HK.out]; simpa using h9 _, HKW.out.drewN _⟩
          case measure => simp [intOf]; omega
        · have e1 : (q.1.path.toList == x.path.toList) = false := str_ne he
          have e2 : (!q.1.path.toList == x.path.toList) = true := by rw [e1]; rfl
          cases un with
          | true =>
            have HK : Hid (keepQ x.path q.1 = false) := Lib.hid (by unfold keepQ; simp [he, HUN.out])
            clear he
            go_wp2_with fail
            go_quiet (fail)
            go_wp2_with fail
            go_roundw
            case rel =>
              have h9 := fun z => own_drewN HOWN.out z
              exact ⟨k + 1, by omega, by go_num, by rw [HNX.out _ HK.out]; simpa using h9 _, HKW.out.drewN _⟩
            case measure => simp [intOf]; omega
          | false =>
            have HK : Hid (keepQ x.path q.1 = true) := Lib.hid (by unfold keepQ; simp [he, HUN.out])
            clear he
            go_wp2_with fail
            go_quiet (fail)
            go_wp2_with (at_builtin; refine wpList_row1 HRW.out (by rfl) _ _ (by rfl) (by rfl) (own_drewN HOWN.out _) (ndL q) (by rfl) (by rfl) (HO.out q (List.mem_of_getElem? HQ.out)) (by omega) (by unfold maxLen; omega) (by simpa using HSZ.out) ?_; intro v1 w1 hown1 hg1; have HK1 := Lib.hid (kept_own1 (HKW.out.drewN _) (own_drewN HOWN.out _) (Nat.le_refl _) hg1); have HOWN1 := Lib.hid hown1; clear hown1 hg1)
            go_roundw
            case rel =>
              refine ⟨k + 1, by omega, by go_num, ?_, HK1.out⟩
              rw [HNX.out _ HK.out]
              have h9 := HOWN1.out
              rw [← ndC_one1, ← ndC_app] at h9
              simpa using h9
            case measure => simp [intOf]; omega
      · have HA : Hid (acc = L.filter fun q => keepQ x.path q.1) := Lib.hid (by rw [← HACC.out, List.take_of_length_le (by omega)])
        obtain ⟨aa, ac, rfl⟩ := own_shape HOWN.out
        have hs := (HD.out.kept0 HKW.out).setNodes HOWN.out (fun p hp => ((HD.out.kept0 HKW.out).acl p (by rw [HA.out] at hp; exact (List.mem_filter.1 hp).1)))
        have HST2 := Lib.hid (lay_stepR HD.out HKW.out (Nat.le_refl _) (hs.2 HKW.out.size (fun k e => (own_lo HOWN.out e).1)))
        have HR3 : Hid (RAt (wr.setCell ⟨b, 0, none⟩ (.slice aa acc.length ac)) b { R with N := R.N.filter (keepQ x.path) }) := Lib.hid (by
          have h1 := hs.1
          rw [show acc.map (·.1) = R.N.filter (keepQ x.path) by rw [HA.out, filter_map_fst, HEQ.out]] at h1
          exact ⟨_, _, _, h1⟩)
        have HKD := Lib.hid (rkid_any HR3.out (parS x.path) x.number zx)
        have HBs := Lib.hid (txn_box HB1.out ⟨_, _, _, HD.out⟩ HST2.out)
        clear hs
        have hbn : ¬ w.heap.size = b := fun e => by
          have h1 := HB1.out
          have h2 := HD.out.at_
          rw [e, h2] at h1
          injection h1 with h1
          injection h1 with _ h1
          have h9 : (95 : TypeId) = 32 := h1
          exact absurd h9 (by decide)
        go_wp2_with fail
        refine HKD.out.mono ?_
        rintro e w7 ⟨rfl, hR7, hst7⟩
        have HR7 : Hid (RAt w7 b (cutR R x zx)) := Lib.hid hR7
        have HST7 := Lib.hid ((HST1.out.trans HST2.out).trans hst7)
        have HB7 := Lib.hid (txn_box HBs.out HR3.out hst7)
        have HPU := Lib.hid (fun (W : World) (hW : Kept (fun _ => False) w7 W) => place_any (R := cutR R x zx) (HR7.out.kept0 hW) (parS x.path))
        clear hR7 hst7 s1 s5 c0 c1 c2 cf
        have s1 : w7.cell? ⟨w.heap.size, 1, none⟩ = some (.string x.path) := cell_box HB7.out rfl
        have hsz := HST7.out.kept.size
        have HSZ7 := Lib.hid hsz
        clear hsz hbn hlt hcl hcap
        have HS7 := Lib.hid (HST7.out.trans (RStep.of0 ((Kept.refl (fun _ => False) w7).alloc (.cells (evsC [⟨2, x.path, zx⟩]).toArray 75)) (HR7.out.lt (.inl rfl))))
        cases th with
        | true =>
          clear hth
          rw [HTH.out, if_pos rfl] at HE
          go_wp2_with fail
          refine (HPU.out _ ((Kept.refl _ w7).alloc _)).mono ?_
          rintro e w8 ⟨rfl, rfl⟩
          have hv0 : EvsAt w.heap.size (w7.alloc (.cells #[.int .i64 2, .string x.path, .int .i64 zx] 75)) (.slice (some ⟨w7.heap.size, 0, none⟩) 1 1) [⟨2, x.path, zx⟩] := evsAt_new (l := [⟨2, x.path, zx⟩]) HSZ7.out one_le
          have hr0 : RAt (w7.alloc (.cells #[.int .i64 2, .string x.path, .int .i64 zx] 75)) b (cutR R x zx) := HR7.out.kept0 ((Kept.refl _ w7).alloc _)
          have hs0 : RStep w b (w7.alloc (.cells #[.int .i64 2, .string x.path, .int .i64 zx] 75)) := HS7.out
          generalize w7.alloc (.cells #[.int .i64 2, .string x.path, .int .i64 zx] 75) = w8 at hv0 hr0 hs0 ⊢
          have HV := Lib.hid hv0
          have HR8 := Lib.hid hr0
          have HS8 := Lib.hid hs0
          clear hv0 hr0 hs0
          obtain ⟨pu, hpu⟩ : ∃ pu, placeI (cutR R x zx).N (parS x.path) = pu := ⟨_, rfl⟩
          rw [hpu]
          by_cases h1 : 0 ≤ pu
          · have HP1 : Hid (placed (cutR R x zx) (parS x.path) = true) := Lib.hid (by unfold placed; rw [hpu]; exact decide_eq_true h1)
            rw [HP1.out, if_pos rfl] at HE
            clear hpu
            go_wp2_with (at_builtin; refine wpList_evs1 (w := w8) (by rfl) _ _ (by rfl) w.heap.size _ [⟨2, x.path, zx⟩] (by rfl) HV.out 4 (parS x.path) zx (by rfl) (by show 1 ≤ 100000000; decide) HS8.out.kept.size ?_; intro v9 w9 hev hg; have HEV := Lib.hid hev; have HR9 := Lib.hid ((HR8.out.kept0 ((Kept.refl _ _).alloc _)).app (HV.out.alloc _) hg (by decide) (by decide) (by decide) (by decide)); have HS9 := Lib.hid (rstep_app HS8.out HR8.out HV.out (Nat.le_refl _) hg); clear hev hg)
            go_ret
            rw [HE.out]
            exact ⟨_, rfl, HEV.out, HR9.out, HS9.out⟩
          · have HP1 : Hid (placed (cutR R x zx) (parS x.path) = false) := Lib.hid (by unfold placed; rw [hpu]; exact decide_eq_false h1)
            rw [HP1.out] at HE
            clear hpu
            go_wp2_with fail
            go_ret
            rw [HE.out]
            exact ⟨_, rfl, HV.out, HR8.out, HS8.out⟩
        | false =>
          clear hth
          rw [HTH.out] at HE
          go_wp2_with fail
          go_ret
          rw [HE.out]
          exact ⟨_, rfl, evsAt_nil _, HR7.out, HST7.out⟩
  · have hm : mayCome x.path = false := by simpa using hm
    have HE : Hid (eraseR R x zx = (R, [])) := Lib.hid (by unfold eraseR; rw [if_neg (by rw [hm]; simp)])
    rw [hm]
    go_wp2_with fail
    go_ret
    rw [HE.out]
    exact ⟨_, rfl, evsAt_nil _, HR2.out, HST1.out⟩
end Go.Proofs.YtenbdoceaabecaaGreat
