/- The document's own tree: Sound walks. -/
import Derived.Test.YtenbdoceaabecaaGreatP27
import Derived.Test.YtenbdoceaabecaaGreatP07
namespace Go.Proofs.YtenbdoceaabecaaGreat
open Go.ChangeShapes Go.WideShapes Go.ChangeAt Go.RowKit Go.Maps
set_option linter.unusedVariables false
set_option linter.unusedSimpArgs false
structure EntB (w : World) (bb : Nat) (e : EX) (x : T1) (y : TX) : Prop where
  z0 : w.cell? ⟨bb, 0, none⟩ = some (.int .i64 e.zx)
  z3 : w.cell? ⟨bb, 3, none⟩ = some (.int .i64 x.kind)
  z4 : w.cell? ⟨bb, 4, none⟩ = some (.string x.path)
  z5 : w.cell? ⟨bb, 5, none⟩ = some (.string x.data)
  z6 : w.cell? ⟨bb, 6, none⟩ = some (.slice y.aa y.an y.ac)
  z7 : w.cell? ⟨bb, 7, none⟩ = some (.int .i64 x.owner)
  z8 : w.cell? ⟨bb, 8, none⟩ = some (.int .i64 x.number)
  z9 : w.cell? ⟨bb, 9, none⟩ = some (.int .i64 y.err)
  z10 : w.cell? ⟨bb, 10, none⟩ = some (.slice y.sa y.sn y.sc)
theorem entB {w : World} {bb : Nat} {e : EX} {x : T1} {y : TX} (h : w.heap[bb]? = some (entO e x y)) : EntB w bb e x y := by
  have c : ∀ i, w.cell? ⟨bb, i, none⟩ = ([.int .i64 e.zx, .int .i64 e.sess, .int .i64 e.xid, .int .i64 x.kind, .string x.path, .string x.data, .slice y.aa y.an y.ac, .int .i64 x.owner, .int .i64 x.number, .int .i64 y.err, .slice y.sa y.sn y.sc] : List Value)[i]? := fun i => by
    rw [cell_of_row w bb i _ _ (0, 0) h, ← Array.getElem?_toList]
  exact ⟨c 0, c 3, c 4, c 5, c 6, c 7, c 8, c 9, c 10⟩
theorem ent_step {w w1 : World} {b bb : Nat} {e : EX} {x : T1} {y : TX} {R : RT} (h : w.heap[bb]? = some (entO e x y)) (hR : RAt w b R) (hk : RStep w b w1) : w1.heap[bb]? = some (entO e x y) :=
  (hk.kept.block _ (lt_of_block h) (hR.other h (by decide) (by decide) (by decide))).trans h
theorem take_fst {l : List (T1 × TX)} {k : Nat} {p : T1 × TX} (h : l[k]? = some p) : (l.take (k + 1)).map (·.1) = (l.take k).map (·.1) ++ [p.1] := by
  rw [take_at h, List.map_append]; rfl
theorem so_part {w : World} {y : TX} {l : List (T1 × TX)} {g k : Nat} {p : T1 × TX} (h : SubsW w (.slice y.sa y.sn y.sc) l) (hy : y.sa = some ⟨g, 0, none⟩) (hp : l[k]? = some p) : PartC w g k p.1 p.2 := by
  obtain ⟨a, c, hv, hc⟩ := h.part
  injection hv with h1 _ _
  obtain ⟨hk, hpe⟩ := List.getElem?_eq_some_iff.1 hp
  obtain ⟨g', p', ha, _, hp', hcc⟩ := hc k hk
  rw [hp] at hp'
  injection hp' with hp'
  subst hp'
  rw [← h1, hy] at ha
  injection ha with ha
  injection ha with ha
  subst ha
  exact partC hcc
theorem so_kept {w w2 wr : World} {u : Nat} (h : Kept (fun _ => False) w w2) (hb : ∀ j, RBs w2 u j → w.heap.size ≤ j) (hs : RStep w2 u wr) : Kept (fun _ => False) w wr :=
  h.trans' hs.kept (fun k hk e => by have := hb k e; omega)
theorem so_bu {w w4 w6 : World} {u : Nat} (h : ∀ j, RBs w4 u j → w.heap.size ≤ j) (hk : w.heap.size ≤ w4.heap.size) (hs : RStep w4.drew u w6) : ∀ j, RBs w6 u j → w.heap.size ≤ j := fun j hj => by
  rcases hs.bs j hj with h1 | h1
  · exact h j h1
  · exact Nat.le_trans hk h1
set_option maxRecDepth 100000 in
set_option maxHeartbeats 8000000 in
theorem rsound_any {w : World} {b : Nat} {R : RT} (h : RAt w b R) (e : EX) (x : T1) (y : TX) (l : List (T1 × TX)) (hx : TxW w x y l) (hv : RV 100000000 R) :
    Calls Tryz.prog 72 #[.pointer (some ⟨b, 0, none⟩), entV e x y] w (QPost (soundB R x (l.map (·.1)) e.zx) w) := by
  unfold entV
  have hk0 : Kept (fun _ => False) w (w.alloc (entO e x y)) := (Kept.refl _ w).alloc _
  have HB0 : Hid ((w.alloc (entO e x y)).heap[w.heap.size]? = some (entO e x y)) := Lib.hid (heap_alloc_new w _)
  have HK0 := Lib.hid hk0
  have HX0 := Lib.hid (hx.kept0 hk0)
  have HCL := Lib.hid (rclone_any (h.kept0 hk0) (by have := hv.N; omega) (by have := hv.S; omega))
  have HV := Lib.hid hv
  have hpath := hx.path
  clear h hk0 hx hv
  go_enter Tryz.func72, Tryz.ntmps72
  go_wp2_with fail
  refine HCL.out.mono ?_
  rintro ee w1 ⟨u, rfl, hU, hbu, hk1⟩
  have HU := Lib.hid hU
  have HBU : Hid (∀ k, RBs w1 u k → w.heap.size ≤ k) := Lib.hid (fun k hk => by have := hbu k hk; simp at this; omega)
  have HK1 := Lib.hid (HK0.out.trans hk1)
  have HB1 := Lib.hid (box_kept0 HB0.out hk1)
  have HX1 := Lib.hid (HX0.out.kept0 hk1)
  have HKA : Hid (Kept (fun _ => False) w1 (w1.alloc (txnO x y))) := Lib.hid ((Kept.refl _ w1).alloc _)
  have HBX : Hid ((w1.alloc (txnO x y)).heap[w1.heap.size]? = some (txnO x y)) := Lib.hid (heap_alloc_new w1 _)
  obtain ⟨z0, z3, z4, z5, z6, z7, z8, z9, z10⟩ := entB HB1.out
  have hcase : (x.kind = 1 ∨ x.kind = 2 ∨ x.kind = 3 ∨ x.kind = 4) ∨ (x.kind = 6 ∨ x.kind = 7) ∨ (x.kind ≠ 1 ∧ x.kind ≠ 2 ∧ x.kind ≠ 3 ∧ x.kind ≠ 4 ∧ x.kind ≠ 6 ∧ x.kind ≠ 7) := by omega
  clear hU hbu hk1 HCL HB0 HX0 HK0
  have HUa := Lib.hid (HU.out.kept0 HKA.out)
  have HFD := Lib.hid (rfinds_any (HUa.out) x y (by omega) HV.out.ps (by have := HV.out.N; omega))
  unfold txnV txnL at HFD
  rcases hcase with hk | hk | ⟨n1, n2, n3, n4, n6, n7⟩
  · have HE : Hid (soundB R x (l.map (·.1)) e.zx = findsB R x) := Lib.hid (by unfold soundB; rw [if_pos hk])
    rcases hk with hk | hk | hk | hk
    · have k1 : (x.kind == 1) = true := by rw [hk]; rfl
      clear hk
      go_wp2_with fail
      refine HFD.out.mono ?_
      rintro ee w2 ⟨rfl, hk2⟩
      have HK2 := Lib.hid ((HK1.out.trans HKA.out).trans hk2)
      clear hk2
      go_wp2_with fail
      go_ret
      exact ⟨by rw [HE.out]; rfl, HK2.out⟩
    · have k1 : (x.kind == 1) = false := by rw [hk]; rfl
      have k2 : (x.kind == 2) = true := by rw [hk]; rfl
      clear hk
      go_wp2_with fail
      refine HFD.out.mono ?_
      rintro ee w2 ⟨rfl, hk2⟩
      have HK2 := Lib.hid ((HK1.out.trans HKA.out).trans hk2)
      clear hk2
      go_wp2_with fail
      go_ret
      exact ⟨by rw [HE.out]; rfl, HK2.out⟩
    · have k1 : (x.kind == 1) = false := by rw [hk]; rfl
      have k2 : (x.kind == 2) = false := by rw [hk]; rfl
      have k3 : (x.kind == 3) = true := by rw [hk]; rfl
      clear hk
      go_wp2_with fail
      refine HFD.out.mono ?_
      rintro ee w2 ⟨rfl, hk2⟩
      have HK2 := Lib.hid ((HK1.out.trans HKA.out).trans hk2)
      clear hk2
      go_wp2_with fail
      go_ret
      exact ⟨by rw [HE.out]; rfl, HK2.out⟩
    · have k1 : (x.kind == 1) = false := by rw [hk]; rfl
      have k2 : (x.kind == 2) = false := by rw [hk]; rfl
      have k3 : (x.kind == 3) = false := by rw [hk]; rfl
      have k4 : (x.kind == 4) = true := by rw [hk]; rfl
      clear hk
      go_wp2_with fail
      refine HFD.out.mono ?_
      rintro ee w2 ⟨rfl, hk2⟩
      have HK2 := Lib.hid ((HK1.out.trans HKA.out).trans hk2)
      clear hk2
      go_wp2_with fail
      go_ret
      exact ⟨by rw [HE.out]; rfl, HK2.out⟩
  · have hn : x.kind ≠ 1 ∧ x.kind ≠ 2 ∧ x.kind ≠ 3 ∧ x.kind ≠ 4 := by omega
    have k1 : (x.kind == 1) = false := by simpa using hn.1
    have k2 : (x.kind == 2) = false := by simpa using hn.2.1
    have k3 : (x.kind == 3) = false := by simpa using hn.2.2.1
    have k4 : (x.kind == 4) = false := by simpa using hn.2.2.2
    obtain ⟨cl, hcl⟩ : ∃ cl : Bool, decide (x.kind = 6) = cl := ⟨_, rfl⟩
    have HE : Hid (soundB R x (l.map (·.1)) e.zx = soundSubs cl e.zx R (l.map (·.1))) := Lib.hid (by unfold soundB; rw [if_neg (by omega), if_pos hk, hcl])
    have HS1 := Lib.hid HX1.out.subs
    obtain ⟨sa, sc, hsv, hpart⟩ := HX1.out.subs.part
    injection hsv with hs1 hs2 hs3
    have HPT := Lib.hid hpart
    have hlen := HX1.out.subs.len
    have HSA := Lib.hid (⟨hs1, hs2⟩ : y.sa = sa ∧ y.sn = l.length)
    clear hpart hs1 hs2 hs3 hn
    have hk67 : (cl = true ∧ x.kind = 6) ∨ (cl = false ∧ x.kind = 7) := by
      rcases hk with hk | hk
      · left; exact ⟨by rw [← hcl, hk]; rfl, hk⟩
      · right; exact ⟨by rw [← hcl, hk]; rfl, hk⟩
    clear hk hcl
    rcases hk67 with ⟨rfl, hk⟩ | ⟨rfl, hk⟩
    · have k6 : (x.kind == 6) = true := by rw [hk]; rfl
      clear hk
      have HW1 : Hid (∀ k, RBs w1 u k → ¬ k = w1.heap.size) := Lib.hid (fun k hk e => by have := HU.out.lt hk; omega)
      go_wp2_with fail
      have HB2 := Lib.hid (box_kept0 HB1.out HKA.out)
      have HK2 := Lib.hid (HK1.out.trans HKA.out)
      have HBU2 : Hid (∀ j, RBs (w1.alloc (txnO x y)) u j → w.heap.size ≤ j) := Lib.hid (fun j hj => HBU.out j ((rbs_kept HKA.out (HU.out.lt (.inl rfl)) (fun f => f) j).1 hj))
      have HS2 := Lib.hid (HX1.out.kept0 HKA.out).subs
      generalize w1.alloc (txnO x y) = w2 at HBX HKA HUa HFD HB2 HK2 HBU2 HS2 ⊢
      have HBXX : Hid (w2.heap[w1.heap.size]? = some (txnO x y)) := Lib.hid HBX.out
      have HWL : Hid (w.heap.size ≤ w1.heap.size) := Lib.hid HK1.out.size
      go_loopw [7] (fun iv wr => SoRel2 w w2 u R e.zx true l iv wr) (fun iv _ => l.length - (intOf iv).toNat)
      case atStart => exact ⟨0, Nat.zero_le _, rfl, HUa.out, rfl, HBU2.out, RStep.refl _ _⟩
      case round =>
        obtain ⟨k, hk, rfl, hU, hso, hbu, hst⟩ := hrel.ex
        have HUr := Lib.hid hU
        have HSO := Lib.hid hso
        have HBUr := Lib.hid hbu
        have HST := Lib.hid hst
        have HBr := Lib.hid (ent_step HB2.out HUa.out hst)
        have HBXr := Lib.hid (txn_box HBXX.out HUa.out hst)
        have HSr := Lib.hid (subs_step HS2.out HUa.out hst)
        obtain ⟨z0, z3, z4, z5, z6, z7, z8, z9, z10⟩ := entB HBr.out
        obtain ⟨t0, t1, t2, t3, t4, t5, t6, t7⟩ := txB HBXr.out
        rw [HSA.out.2] at t7
        have HRV := Lib.hid (so_rv (zx := e.zx) HV.out HS2.out k)
        have HKW : Hid (Kept (fun _ => False) w wr) := Lib.hid (so_kept HK2.out HBU2.out hst)
        clear hrel hU hso hbu hst
        by_cases hlt : k < l.length
        · obtain ⟨a9, c9, hv9, hp9⟩ := HSr.out.part
          injection hv9 with hv1 hv2 hv3
          obtain ⟨g, p, ha9, hg, hp, hc⟩ := hp9 k hlt
          rw [← hv1] at ha9
          have HYS := Lib.hid ha9
          rw [ha9] at t7
          have HP := Lib.hid hp
          obtain ⟨s0, s1, s2, s3, s4, s5, s6, s7⟩ := partC hc
          have hpp := HSr.out.path p (List.mem_of_getElem? hp)
          have i1 : (0 : Int) ≤ (k : Int) := by omega
          have i2 : (k : Int) < (l.length : Int) := by omega
          have HFN := Lib.hid (rfinds_any HUr.out p.1 p.2 (by omega) HRV.out.ps (by have := HRV.out.N; omega))
          unfold txnV txnL at HFN
          have HSN := Lib.hid (so_next HP.out HSO.out)
          clear hv1 hv2 hv3 hp9 hp hc ha9
          generalize findsB (partsR e.zx R ((l.take k).map (·.1))) p.1 = fb at HFN HSN
          go_wp2_with fail
          refine HFN.out.mono ?_
          rintro ee w4 ⟨rfl, hk4⟩
          have HKX := Lib.hid (HKW.out.trans hk4)
          have HU4 := Lib.hid (HUr.out.kept0 hk4)
          have HB4 := Lib.hid (box_kept0 HBr.out hk4)
          have HBX4 := Lib.hid (box_kept0 HBXr.out hk4)
          have HS4 := Lib.hid (HSr.out.kept hk4 (fun _ _ _ _ _ f => f))
          have HST4 := Lib.hid (HST.out.trans (RStep.of0 hk4 HUr.out.ltb))
          have HBU4 : Hid (∀ j, RBs w4 u j → w.heap.size ≤ j) := Lib.hid (fun j hj => HBUr.out j ((rbs_kept hk4 HUr.out.ltb (fun f => f) j).1 hj))
          have HWR4 := Lib.hid HKX.out.size
          clear hk4 z0 z3 z4 z5 z6 z7 z8 z9 z10 t0 t1 t2 t3 t4 t5 t6 t7 s0 s1 s2 s3 s4 s5 s6 s7
          obtain ⟨z0, z3, z4, z5, z6, z7, z8, z9, z10⟩ := entB HB4.out
          obtain ⟨t0, t1, t2, t3, t4, t5, t6, t7⟩ := txB HBX4.out
          rw [HSA.out.2, HYS.out] at t7
          obtain ⟨s0, s1, s2, s3, s4, s5, s6, s7⟩ := so_part HS4.out HYS.out HP.out
          cases fb with
          | false =>
            have HF : Hid (soundSubs true e.zx R ((l.take (k + 1)).map (·.1)) = false) := Lib.hid (by rw [HSN.out]; rfl)
            go_wp2_with fail
            go_ret
            exact ⟨by rw [HE.out, so_fail HF.out]; rfl, HKX.out⟩
          | true =>
            by_cases hk2 : p.1.kind = 2
            · have e1 : (p.1.kind == 2) = true := by rw [hk2]; rfl
              have e2 : (!p.1.kind == 2) = false := by rw [e1]; rfl
              have HD2 : Hid (decide (p.1.kind = 2) = true) := Lib.hid (decide_eq_true hk2)
              clear hk2
              go_wp2_with fail
              have HUd := Lib.hid (HU4.out.kept0 ((Kept.refl _ w4).drew))
              have HBd := Lib.hid (box_kept0 HB4.out ((Kept.refl (fun _ => False) w4).drew))
              have HBXd := Lib.hid (box_kept0 HBX4.out ((Kept.refl (fun _ => False) w4).drew))
              have HSd := Lib.hid (HS4.out.kept ((Kept.refl (fun _ => False) w4).drew) (fun _ _ _ _ _ f => f))
              have HPA := Lib.hid (rpart_any HUd.out p.1 p.2 e.zx ((HSd.out.acl p (List.mem_of_getElem? HP.out)).s HUd.out) (by have := HSd.out.path p (List.mem_of_getElem? HP.out); omega) HRV.out.ps (by have := HRV.out.N; omega))
              unfold REPost txnV txnL at HPA
              go_region_held3 (fun w' => w'.cell? ⟨w1.heap.size, 7, none⟩ = some (.slice (some ⟨g, 0, none⟩) l.length y.sc) ∧ w'.cell? ⟨w.heap.size, 0, none⟩ = some (.int .i64 e.zx) ∧ w'.cell? ⟨g, k * 8, none⟩ = some (.int .i64 p.1.kind) ∧ w'.cell? ⟨g, k * 8 + 1, none⟩ = some (.string p.1.path) ∧ w'.cell? ⟨g, k * 8 + 2, none⟩ = some (.string p.1.data) ∧ w'.cell? ⟨g, k * 8 + 3, none⟩ = some (.slice p.2.aa p.2.an p.2.ac) ∧ w'.cell? ⟨g, k * 8 + 4, none⟩ = some (.int .i64 p.1.owner) ∧ w'.cell? ⟨g, k * 8 + 5, none⟩ = some (.int .i64 p.1.number) ∧ w'.cell? ⟨g, k * 8 + 6, none⟩ = some (.int .i64 p.2.err) ∧ w'.cell? ⟨g, k * 8 + 7, none⟩ = some (.slice p.2.sa p.2.sn p.2.sc))
                (go_keep)
                (first
                  | (go_at_call 60; with_reducible refine HPA.out.mono ?_; rintro ee w6 ⟨v6, rfl, hv6, hU6, hst6⟩; have HU6 := Lib.hid hU6; have HST6 := Lib.hid hst6; have HBU6 := Lib.hid (so_bu HBU4.out HWR4.out hst6); have HB6 := Lib.hid (ent_step HBd.out HUd.out hst6); have HBX6 := Lib.hid (txn_box HBXd.out HUd.out hst6); have HS6 := Lib.hid (subs_step HSd.out HUd.out hst6); clear hv6 hU6 hst6 z0 z3 z4 z5 z6 z7 z8 z9 z10 t0 t1 t2 t3 t4 t5 t6 t7 s0 s1 s2 s3 s4 s5 s6 s7; obtain ⟨z0, z3, z4, z5, z6, z7, z8, z9, z10⟩ := entB HB6.out; obtain ⟨t0, t1, t2, t3, t4, t5, t6, t7⟩ := txB HBX6.out; rw [HSA.out.2, HYS.out] at t7; obtain ⟨s0, s1, s2, s3, s4, s5, s6, s7⟩ := so_part HS6.out HYS.out HP.out))
              all_goals (
                clear z0 z3 z4 z5 z6 z7 z8 z9 z10 t0 t1 t2 t3 t4 t5 t6 t7 s0 s1 s2 s3 s4 s5 s6 s7
                go_wp2_with fail
                go_roundw
                case rel =>
                  refine ⟨k + 1, by omega, by go_num, ?_, by rw [HSN.out]; rw [HD2.out]; rfl, HBU6.out, (HST4.out.trans (RStep.of0 ((Kept.refl _ w4).drew) HU4.out.ltb)).trans HST6.out⟩
                  rw [so_parts HP.out]; exact HU6.out
                case measure => simp [intOf]; omega)
            · have e1 : (p.1.kind == 2) = false := by simpa using hk2
              have e2 : (!p.1.kind == 2) = true := by rw [e1]; rfl
              have HF : Hid (soundSubs true e.zx R ((l.take (k + 1)).map (·.1)) = false) := Lib.hid (by rw [HSN.out, decide_eq_false hk2]; rfl)
              clear hk2
              go_wp2_with fail
              go_ret
              exact ⟨by rw [HE.out, so_fail HF.out]; rfl, HKX.out⟩
        · have HA : Hid (soundSubs true e.zx R (l.map (·.1)) = true) := Lib.hid (by have h := HSO.out; rw [List.take_of_length_le (by omega)] at h; exact h)
          go_wp2_with fail
          go_ret
          exact ⟨by rw [HE.out, HA.out]; rfl, HKW.out⟩

    · have k6 : (x.kind == 6) = false := by rw [hk]; rfl
      have k7 : (x.kind == 7) = true := by rw [hk]; rfl
      clear hk
      have HW1 : Hid (∀ k, RBs w1 u k → ¬ k = w1.heap.size) := Lib.hid (fun k hk e => by have := HU.out.lt hk; omega)
      go_wp2_with fail
      have HB2 := Lib.hid (box_kept0 HB1.out HKA.out)
      have HK2 := Lib.hid (HK1.out.trans HKA.out)
      have HBU2 : Hid (∀ j, RBs (w1.alloc (txnO x y)) u j → w.heap.size ≤ j) := Lib.hid (fun j hj => HBU.out j ((rbs_kept HKA.out (HU.out.lt (.inl rfl)) (fun f => f) j).1 hj))
      have HS2 := Lib.hid (HX1.out.kept0 HKA.out).subs
      generalize w1.alloc (txnO x y) = w2 at HBX HKA HUa HFD HB2 HK2 HBU2 HS2 ⊢
      have HBXX : Hid (w2.heap[w1.heap.size]? = some (txnO x y)) := Lib.hid HBX.out
      have HWL : Hid (w.heap.size ≤ w1.heap.size) := Lib.hid HK1.out.size
      go_loopw [7] (fun iv wr => SoRel2 w w2 u R e.zx false l iv wr) (fun iv _ => l.length - (intOf iv).toNat)
      case atStart => exact ⟨0, Nat.zero_le _, rfl, HUa.out, rfl, HBU2.out, RStep.refl _ _⟩
      case round =>
        obtain ⟨k, hk, rfl, hU, hso, hbu, hst⟩ := hrel.ex
        have HUr := Lib.hid hU
        have HSO := Lib.hid hso
        have HBUr := Lib.hid hbu
        have HST := Lib.hid hst
        have HBr := Lib.hid (ent_step HB2.out HUa.out hst)
        have HBXr := Lib.hid (txn_box HBXX.out HUa.out hst)
        have HSr := Lib.hid (subs_step HS2.out HUa.out hst)
        obtain ⟨z0, z3, z4, z5, z6, z7, z8, z9, z10⟩ := entB HBr.out
        obtain ⟨t0, t1, t2, t3, t4, t5, t6, t7⟩ := txB HBXr.out
        rw [HSA.out.2] at t7
        have HRV := Lib.hid (so_rv (zx := e.zx) HV.out HS2.out k)
        have HKW : Hid (Kept (fun _ => False) w wr) := Lib.hid (so_kept HK2.out HBU2.out hst)
        clear hrel hU hso hbu hst
        by_cases hlt : k < l.length
        · obtain ⟨a9, c9, hv9, hp9⟩ := HSr.out.part
          injection hv9 with hv1 hv2 hv3
          obtain ⟨g, p, ha9, hg, hp, hc⟩ := hp9 k hlt
          rw [← hv1] at ha9
          have HYS := Lib.hid ha9
          rw [ha9] at t7
          have HP := Lib.hid hp
          obtain ⟨s0, s1, s2, s3, s4, s5, s6, s7⟩ := partC hc
          have hpp := HSr.out.path p (List.mem_of_getElem? hp)
          have i1 : (0 : Int) ≤ (k : Int) := by omega
          have i2 : (k : Int) < (l.length : Int) := by omega
          have HFN := Lib.hid (rfinds_any HUr.out p.1 p.2 (by omega) HRV.out.ps (by have := HRV.out.N; omega))
          unfold txnV txnL at HFN
          have HSN := Lib.hid (so_next HP.out HSO.out)
          clear hv1 hv2 hv3 hp9 hp hc ha9
          generalize findsB (partsR e.zx R ((l.take k).map (·.1))) p.1 = fb at HFN HSN
          go_wp2_with fail
          refine HFN.out.mono ?_
          rintro ee w4 ⟨rfl, hk4⟩
          have HKX := Lib.hid (HKW.out.trans hk4)
          have HU4 := Lib.hid (HUr.out.kept0 hk4)
          have HB4 := Lib.hid (box_kept0 HBr.out hk4)
          have HBX4 := Lib.hid (box_kept0 HBXr.out hk4)
          have HS4 := Lib.hid (HSr.out.kept hk4 (fun _ _ _ _ _ f => f))
          have HST4 := Lib.hid (HST.out.trans (RStep.of0 hk4 HUr.out.ltb))
          have HBU4 : Hid (∀ j, RBs w4 u j → w.heap.size ≤ j) := Lib.hid (fun j hj => HBUr.out j ((rbs_kept hk4 HUr.out.ltb (fun f => f) j).1 hj))
          have HWR4 := Lib.hid HKX.out.size
          clear hk4 z0 z3 z4 z5 z6 z7 z8 z9 z10 t0 t1 t2 t3 t4 t5 t6 t7 s0 s1 s2 s3 s4 s5 s6 s7
          obtain ⟨z0, z3, z4, z5, z6, z7, z8, z9, z10⟩ := entB HB4.out
          obtain ⟨t0, t1, t2, t3, t4, t5, t6, t7⟩ := txB HBX4.out
          rw [HSA.out.2, HYS.out] at t7
          obtain ⟨s0, s1, s2, s3, s4, s5, s6, s7⟩ := so_part HS4.out HYS.out HP.out
          cases fb with
          | false =>
            have HF : Hid (soundSubs false e.zx R ((l.take (k + 1)).map (·.1)) = false) := Lib.hid (by rw [HSN.out]; rfl)
            go_wp2_with fail
            go_ret
            exact ⟨by rw [HE.out, so_fail HF.out]; rfl, HKX.out⟩
          | true =>
            go_wp2_with fail
            have HUd := Lib.hid (HU4.out.kept0 ((Kept.refl _ w4).drew))
            have HBd := Lib.hid (box_kept0 HB4.out ((Kept.refl (fun _ => False) w4).drew))
            have HBXd := Lib.hid (box_kept0 HBX4.out ((Kept.refl (fun _ => False) w4).drew))
            have HSd := Lib.hid (HS4.out.kept ((Kept.refl (fun _ => False) w4).drew) (fun _ _ _ _ _ f => f))
            have HPA := Lib.hid (rpart_any HUd.out p.1 p.2 e.zx ((HSd.out.acl p (List.mem_of_getElem? HP.out)).s HUd.out) (by have := HSd.out.path p (List.mem_of_getElem? HP.out); omega) HRV.out.ps (by have := HRV.out.N; omega))
            unfold REPost txnV txnL at HPA
            go_region_held3 (fun w' => w'.cell? ⟨w1.heap.size, 7, none⟩ = some (.slice (some ⟨g, 0, none⟩) l.length y.sc) ∧ w'.cell? ⟨w.heap.size, 0, none⟩ = some (.int .i64 e.zx) ∧ w'.cell? ⟨g, k * 8, none⟩ = some (.int .i64 p.1.kind) ∧ w'.cell? ⟨g, k * 8 + 1, none⟩ = some (.string p.1.path) ∧ w'.cell? ⟨g, k * 8 + 2, none⟩ = some (.string p.1.data) ∧ w'.cell? ⟨g, k * 8 + 3, none⟩ = some (.slice p.2.aa p.2.an p.2.ac) ∧ w'.cell? ⟨g, k * 8 + 4, none⟩ = some (.int .i64 p.1.owner) ∧ w'.cell? ⟨g, k * 8 + 5, none⟩ = some (.int .i64 p.1.number) ∧ w'.cell? ⟨g, k * 8 + 6, none⟩ = some (.int .i64 p.2.err) ∧ w'.cell? ⟨g, k * 8 + 7, none⟩ = some (.slice p.2.sa p.2.sn p.2.sc))
              (go_keep)
              (first
                | (go_at_call 60; with_reducible refine HPA.out.mono ?_; rintro ee w6 ⟨v6, rfl, hv6, hU6, hst6⟩; have HU6 := Lib.hid hU6; have HST6 := Lib.hid hst6; have HBU6 := Lib.hid (so_bu HBU4.out HWR4.out hst6); have HB6 := Lib.hid (ent_step HBd.out HUd.out hst6); have HBX6 := Lib.hid (txn_box HBXd.out HUd.out hst6); have HS6 := Lib.hid (subs_step HSd.out HUd.out hst6); clear hv6 hU6 hst6 z0 z3 z4 z5 z6 z7 z8 z9 z10 t0 t1 t2 t3 t4 t5 t6 t7 s0 s1 s2 s3 s4 s5 s6 s7; obtain ⟨z0, z3, z4, z5, z6, z7, z8, z9, z10⟩ := entB HB6.out; obtain ⟨t0, t1, t2, t3, t4, t5, t6, t7⟩ := txB HBX6.out; rw [HSA.out.2, HYS.out] at t7; obtain ⟨s0, s1, s2, s3, s4, s5, s6, s7⟩ := so_part HS6.out HYS.out HP.out))
            all_goals (
              clear z0 z3 z4 z5 z6 z7 z8 z9 z10 t0 t1 t2 t3 t4 t5 t6 t7 s0 s1 s2 s3 s4 s5 s6 s7
              go_wp2_with fail
              go_roundw
              case rel =>
                refine ⟨k + 1, by omega, by go_num, ?_, by rw [HSN.out]; rfl, HBU6.out, (HST4.out.trans (RStep.of0 ((Kept.refl _ w4).drew) HU4.out.ltb)).trans HST6.out⟩
                rw [so_parts HP.out]; exact HU6.out
              case measure => simp [intOf]; omega)
        · have HA : Hid (soundSubs false e.zx R (l.map (·.1)) = true) := Lib.hid (by have h := HSO.out; rw [List.take_of_length_le (by omega)] at h; exact h)
          go_wp2_with fail
          go_ret
          exact ⟨by rw [HE.out, HA.out]; rfl, HKW.out⟩

  · have k1 : (x.kind == 1) = false := by simpa using n1
    have k2 : (x.kind == 2) = false := by simpa using n2
    have k3 : (x.kind == 3) = false := by simpa using n3
    have k4 : (x.kind == 4) = false := by simpa using n4
    have k6 : (x.kind == 6) = false := by simpa using n6
    have k7 : (x.kind == 7) = false := by simpa using n7
    have HE : Hid (soundB R x (l.map (·.1)) e.zx = true) := Lib.hid (by unfold soundB; rw [if_neg (by omega), if_neg (by omega)])
    clear n1 n2 n3 n4 n6 n7
    go_wp2_with fail
    go_ret
    exact ⟨by rw [HE.out]; rfl, HK1.out.trans HKA.out⟩
end Go.Proofs.YtenbdoceaabecaaGreat
