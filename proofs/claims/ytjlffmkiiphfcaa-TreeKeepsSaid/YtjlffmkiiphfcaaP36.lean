/- The law's part. -/
import Derived.Test.YtjlffmkiiphfcaaP28
import Derived.Deep.RegionWith
namespace Go.Proofs.Ytjlffmkiiphfcaa
open Go.ChangeShapes Go.WideShapes Go.ChangeAt Go.RowKit Go.Maps
set_option linter.unusedVariables false
set_option linter.unusedSimpArgs false
set_option maxRecDepth 100000 in
set_option maxHeartbeats 4000000 in
theorem lpart_rest {w : World} {b : Nat} {R : RT} (h : RAt w b R) (o : OpN) (ho : o.Fits) (va : Option Addr) (vn vc : Nat) (hv : RV 100000000 R) (hp9 : ∀ n ∈ R.N, n.path.size ≤ 900000) (hne : 0 < R.N.length) (hq0 : 3 ≤ absN o.a % 6) (hid : ∀ s ∈ R.S, -9223372036854775808 ≤ s.id ∧ s.id ≤ 9223372036854775807) :
    Calls Try.prog 61 #[.pointer (some ⟨b, 0, none⟩), .agg #[.int .i64 o.a, .int .i64 o.b, .int .i64 o.c, .string o.s, .slice va vn vc], .bool true] w (LPartPost w R) := by
  have HK0 : Hid (Kept (fun _ => False) w (w.alloc (actO o (.slice va vn vc)))) := Lib.hid ((Kept.refl _ w).alloc _)
  have HK10 : Hid (Kept (fun _ => False) (w.alloc (actO o (.slice va vn vc))) ((w.alloc (actO o (.slice va vn vc))).alloc (txnO ⟨0, ⟨#[]⟩, ⟨#[]⟩, [], 0, 0⟩ ⟨none, 0, 0, 0, none, 0, 0⟩))) := Lib.hid ((Kept.refl _ _).alloc _)
  have HSZ : Hid ((w.alloc (actO o (.slice va vn vc))).heap.size = w.heap.size + 1) := Lib.hid (by simp)
  have HB0 := Lib.hid (heap_alloc_new w (actO o (.slice va vn vc)))
  have HBX1 : Hid (((w.alloc (actO o (.slice va vn vc))).alloc (txnO ⟨0, ⟨#[]⟩, ⟨#[]⟩, [], 0, 0⟩ ⟨none, 0, 0, 0, none, 0, 0⟩)).heap[w.heap.size + 1]? = some (txnO ⟨0, ⟨#[]⟩, ⟨#[]⟩, [], 0, 0⟩ ⟨none, 0, 0, 0, none, 0, 0⟩)) := Lib.hid (by
    have h9 := heap_alloc_new (w.alloc (actO o (.slice va vn vc))) (txnO ⟨0, ⟨#[]⟩, ⟨#[]⟩, [], 0, 0⟩ ⟨none, 0, 0, 0, none, 0, 0⟩)
    rw [show (w.alloc (actO o (.slice va vn vc))).heap.size = w.heap.size + 1 by simp] at h9
    exact h9)
  have HV := Lib.hid hv
  have HO := Lib.hid ho
  have HID := Lib.hid hid
  obtain ⟨L, nv, sv, hD⟩ := h.kept0 HK0.out
  obtain ⟨na, ncap, rfl, hcap, hnode⟩ := hD.node
  have hL : L.length = R.N.length := rd_len hD
  obtain ⟨i, hi⟩ : ∃ i, absN o.b % L.length = i := ⟨_, rfl⟩
  have hil : i < L.length := by rw [← hi]; exact Nat.mod_lt _ (by omega)
  have HPK : Hid (∀ W, Calls Try.prog 13 #[.int .i64 o.b, .int .i64 L.length] W fun e w' => e = .returned (.int .i64 i) ∧ W = w') := Lib.hid (fun W => by
    have hm := own_max hD.n
    unfold maxLen at hm
    have := tpick_any o.b L.length W ho.b.1 ho.b.2 (by omega) (by omega)
    rw [show ((absN o.b : Int) % (L.length : Int)) = (i : Int) by rw [← hi]; simp] at this
    exact this)
  obtain ⟨g, ⟨qn, qv⟩, rfl, hg, hq, hc, hfz⟩ := hnode i hil
  obtain ⟨qa, qc, rfl⟩ : ∃ qa qc, qv = .slice qa qn.acl.length qc := own_shape (hD.acl _ (List.mem_of_getElem? hq)).own
  have HQ := Lib.hid hq
  have HNA := Lib.hid (hD.acl _ (List.mem_of_getElem? hq))
  have HQP := Lib.hid (hp9 qn (List.mem_of_getElem? (rd_at hD hq)))
  have i1 : (0 : Int) ≤ (i : Int) := by omega
  have i2 : (i : Int) < (L.length : Int) := by omega
  have KS : Hid (∀ w', Kept (fun _ => False) (w.alloc (actO o (.slice va vn vc))) w' → w'.cell? ⟨b, 0, none⟩ = some (.slice (some ⟨g, 0, none⟩) L.length ncap) ∧ w'.cell? ⟨w.heap.size, 1, none⟩ = some (.int .i64 o.b) ∧ w'.cell? ⟨g, i * 12, none⟩ = some (.string qn.path) ∧ w'.cell? ⟨g, i * 12 + 1, none⟩ = some (.string qn.data) ∧ w'.cell? ⟨g, i * 12 + 2, none⟩ = some (.slice qa qn.acl.length qc) ∧ w'.cell? ⟨g, i * 12 + 3, none⟩ = some (.int .i64 qn.st.cz) ∧ w'.cell? ⟨g, i * 12 + 4, none⟩ = some (.int .i64 qn.st.mz) ∧ w'.cell? ⟨g, i * 12 + 5, none⟩ = some (.int .i64 qn.st.pz) ∧ w'.cell? ⟨g, i * 12 + 6, none⟩ = some (.int .i64 qn.st.ver) ∧ w'.cell? ⟨g, i * 12 + 7, none⟩ = some (.int .i64 qn.st.cver) ∧ w'.cell? ⟨g, i * 12 + 8, none⟩ = some (.int .i64 qn.st.aver) ∧ w'.cell? ⟨g, i * 12 + 9, none⟩ = some (.int .i64 qn.st.owner) ∧ w'.cell? ⟨g, i * 12 + 10, none⟩ = some (.int .i64 0) ∧ w'.cell? ⟨g, i * 12 + 11, none⟩ = some (.int .i64 0)) := Lib.hid (fun W hW => by
    obtain ⟨c0, c1, c2, cf⟩ := (hD.kept0 hW).cells
    obtain ⟨a0, a1, a2, a3, a4⟩ := actB (box_kept0 HB0.out hW)
    obtain ⟨x0, x1, x2, x3, x4, x5, x6, x7, x8, x9, x10, x11⟩ := nodeAt hc hg hW
    exact ⟨c0, a1, x0, x1, x2, x3, x4, x5, x6, x7, x8, x9, x10, x11⟩)
  have KN : Hid (∀ W, Kept (fun _ => False) (w.alloc (actO o (.slice va vn vc))) W → ∀ k, k < L.length → ∃ cv, W.cell? ⟨g, k * 12 + 7, none⟩ = some (.int .i64 cv)) := Lib.hid (fun W hW k hk => by
    obtain ⟨g', ⟨pn, pv⟩, e', hg', _, hc', _⟩ := hnode k hk
    cases e'
    obtain ⟨x0, x1, x2, x3, x4, x5, x6, x7, x8, x9, x10, x11⟩ := nodeAt hc' hg hW
    exact ⟨_, x7⟩)
  have HD := Lib.hid hD
  have HLL := Lib.hid hL
  clear hD hnode hc hq hfz hi hL hv hid h
  go_enter Try.func61, Try.ntmps61
  go_wp2_with fail
  generalize hw1 : (w.alloc (actO o (.slice va vn vc))).alloc (txnO ⟨0, ⟨#[]⟩, ⟨#[]⟩, [], 0, 0⟩ ⟨none, 0, 0, 0, none, 0, 0⟩) = w1 at HK10 HBX1 ⊢
  clear hw1
  generalize hw0 : w.alloc (actO o (.slice va vn vc)) = w0 at HK0 HK10 HSZ HB0 HD KS KN HNA
  clear hw0
  obtain ⟨c0, a1, x0, x1, x2, x3, x4, x5, x6, x7, x8, x9, x10, x11⟩ := KS.out _ HK10.out.drew
  have y0 := World.new_ne w1.drew _ c0
  have y1 := World.new_ne w1.drew _ a1
  have y2 := World.new_ne w1.drew _ x0
  have y3 := World.new_ne w1.drew _ x1
  have y4 := World.new_ne w1.drew _ x2
  have y5 := World.new_ne w1.drew _ x3
  have y6 := World.new_ne w1.drew _ x4
  have y7 := World.new_ne w1.drew _ x5
  have y8 := World.new_ne w1.drew _ x6
  have y9 := World.new_ne w1.drew _ x7
  have y10 := World.new_ne w1.drew _ x8
  have y11 := World.new_ne w1.drew _ x9
  have y12 := World.new_ne w1.drew _ x10
  have y13 := World.new_ne w1.drew _ x11
  go_cut [8] (fun v wx => v = .pointer (some ⟨w1.heap.size, 0, none⟩) ∧ wx.heap[w1.heap.size]? = some (.cells #[.string qn.path, .string qn.data, .slice qa qn.acl.length qc, .int .i64 qn.st.cz, .int .i64 qn.st.mz, .int .i64 qn.st.pz, .int .i64 qn.st.ver, .int .i64 qn.st.cver, .int .i64 qn.st.aver, .int .i64 qn.st.owner, .int .i64 0, .int .i64 0] 131 (0, 0)) ∧ Kept (fun _ => False) w1 wx)
  case first =>
   go_region_held3 (fun w' => w'.cell? ⟨b, 0, none⟩ = some (.slice (some ⟨g, 0, none⟩) L.length ncap) ∧ w'.cell? ⟨w.heap.size, 1, none⟩ = some (.int .i64 o.b) ∧ w'.cell? ⟨g, i * 12, none⟩ = some (.string qn.path) ∧ w'.cell? ⟨g, i * 12 + 1, none⟩ = some (.string qn.data) ∧ w'.cell? ⟨g, i * 12 + 2, none⟩ = some (.slice qa qn.acl.length qc) ∧ w'.cell? ⟨g, i * 12 + 3, none⟩ = some (.int .i64 qn.st.cz) ∧ w'.cell? ⟨g, i * 12 + 4, none⟩ = some (.int .i64 qn.st.mz) ∧ w'.cell? ⟨g, i * 12 + 5, none⟩ = some (.int .i64 qn.st.pz) ∧ w'.cell? ⟨g, i * 12 + 6, none⟩ = some (.int .i64 qn.st.ver) ∧ w'.cell? ⟨g, i * 12 + 7, none⟩ = some (.int .i64 qn.st.cver) ∧ w'.cell? ⟨g, i * 12 + 8, none⟩ = some (.int .i64 qn.st.aver) ∧ w'.cell? ⟨g, i * 12 + 9, none⟩ = some (.int .i64 qn.st.owner) ∧ w'.cell? ⟨g, i * 12 + 10, none⟩ = some (.int .i64 0) ∧ w'.cell? ⟨g, i * 12 + 11, none⟩ = some (.int .i64 0))
    (first
      | (first
           | refine KS.out _ ?_
           | refine (KS.out _ ?_).1
           | refine (KS.out _ ?_).2.1
           | refine (KS.out _ ?_).2.2.1
           | refine (KS.out _ ?_).2.2.2.1
           | refine (KS.out _ ?_).2.2.2.2.1
           | refine (KS.out _ ?_).2.2.2.2.2.1
           | refine (KS.out _ ?_).2.2.2.2.2.2.1
           | refine (KS.out _ ?_).2.2.2.2.2.2.2.1
           | refine (KS.out _ ?_).2.2.2.2.2.2.2.2.1
           | refine (KS.out _ ?_).2.2.2.2.2.2.2.2.2.1
           | refine (KS.out _ ?_).2.2.2.2.2.2.2.2.2.2.1
           | refine (KS.out _ ?_).2.2.2.2.2.2.2.2.2.2.2.1
           | refine (KS.out _ ?_).2.2.2.2.2.2.2.2.2.2.2.2.1
           | refine (KS.out _ ?_).2.2.2.2.2.2.2.2.2.2.2.2.2
         repeat' first
           | exact HK10.out
           | refine Kept.drew ?_
           | refine Kept.drewN ?_ _
           | refine Kept.alloc ?_ _
           | refine Kept.setCell ?_ (Or.inr (by have h8 := HSZ.out; have h9 := HK10.out.size; simp at *; omega)) _
           | refine Kept.setCells _ _ ?_ (Or.inr (by have h8 := HSZ.out; have h9 := HK10.out.size; simp at *; omega))))
    (first
      | (go_at_call 13; with_reducible refine (HPK.out _).mono ?_; rintro ee w2 ⟨rfl, rfl⟩))
   all_goals go_wp2_with fail
   all_goals go_meet
   all_goals exact ⟨rfl, heap_alloc_new w1 _, ((Kept.refl _ w1).alloc _).drew⟩
  case rest =>
  obtain ⟨rfl, hn8, hkc⟩ := hcut
  have HKc := Lib.hid (HK10.out.trans hkc)
  have HKx := Lib.hid hkc
  have HKW := Lib.hid (HK0.out.trans HKc.out)
  have HBXc := Lib.hid (box_kept0 HBX1.out hkc)
  have HRc : Hid (RAt wc b R) := Lib.hid (RAt.kept0 ⟨_, _, _, HD.out⟩ HKc.out)
  clear c0 a1 x0 x1 x2 x3 x4 x5 x6 x7 x8 x9 x10 x11 y0 y1 y2 y3 y4 y5 y6 y7 y8 y9 y10 y11 y12 y13 hkc
  have hm1 : w.heap.size + 1 < w1.heap.size := lt_of_block HBX1.out
  generalize hm : w1.heap.size = m at hn8 hm1 ⊢
  have HM := Lib.hid hm1
  have HN8 := Lib.hid hn8
  clear hm1 hn8 hm HKx
  have NC : Hid (∀ W, Kept (fun _ => False) wc W → ∀ j u, ([.string qn.path, .string qn.data, .slice qa qn.acl.length qc, .int .i64 qn.st.cz, .int .i64 qn.st.mz, .int .i64 qn.st.pz, .int .i64 qn.st.ver, .int .i64 qn.st.cver, .int .i64 qn.st.aver, .int .i64 qn.st.owner, .int .i64 0, .int .i64 0] : List Value)[j]? = some u → W.cell? ⟨m, j, none⟩ = some u) := Lib.hid (fun W hW j u hu => cell_kept hW HN8.out (fun f => f) j (by rw [← hu, ← Array.getElem?_toList]))
  have AC : Hid (∀ W, Kept (fun _ => False) wc W → ActB W w.heap.size o (.slice va vn vc)) := Lib.hid (fun W hW => actB (box_kept0 HB0.out (HKc.out.trans hW)))
  obtain ⟨q, hq⟩ : ∃ q, absN o.a % 6 = q := ⟨_, rfl⟩
  have hq6 : q < 6 := by rw [← hq]; exact Nat.mod_lt _ (by decide)
  have hq3 : 3 ≤ q := by rw [← hq]; exact hq0
  clear hq0
  have HPW : Hid (∀ W, Calls Try.prog 13 #[.int .i64 o.a, .int .i64 6] W fun e w' => e = .returned (.int .i64 q) ∧ W = w') := Lib.hid (fun W => tpick_nat o.a 6 W ho.a.1 ho.a.2 (by decide) (by decide) hq)
  clear hq
  have HQ6 := Lib.hid (And.intro hq6 hq3)
  have n0 := NC.out wc (Kept.refl _ _) 0 _ rfl
  obtain ⟨a0, a1, a2, a3, a4⟩ := AC.out wc (Kept.refl _ _)
  clear hq6 hq3
  obtain ⟨u, hu⟩ : ∃ u, placeI R.N (parS qn.path) = u := ⟨_, rfl⟩
  have HPL : Hid (Calls Try.prog 60 #[.pointer (some ⟨b, 0, none⟩), .string (parS qn.path)] wc fun e w' => e = .returned (.int .i64 u) ∧ wc = w') := Lib.hid (by rw [← hu]; exact place_any HRc.out _)
  have HU := Lib.hid hu
  have n3 := NC.out wc (Kept.refl _ _) 3 _ rfl
  have n4 := NC.out wc (Kept.refl _ _) 4 _ rfl
  have n5 := NC.out wc (Kept.refl _ _) 5 _ rfl
  have n6 := NC.out wc (Kept.refl _ _) 6 _ rfl
  have n7 := NC.out wc (Kept.refl _ _) 7 _ rfl
  have n8 := NC.out wc (Kept.refl _ _) 8 _ rfl
  have n9 := NC.out wc (Kept.refl _ _) 9 _ rfl
  have HHG : Hid (w.heap.size ≤ w.heap.size + 1) := Lib.hid (Nat.le_succ _)
  clear hu
  rcases (show q = 4 ∨ q = 3 ∨ q = 5 by have := HQ6.out; omega) with rfl | rfl | rfl
  · have HPC : Hid (∀ W, Calls Try.prog 13 #[.int .i64 o.a, .int .i64 6] W fun e w' => e = .returned (.int .i64 4) ∧ W = w') := Lib.hid HPW.out
    clear HPW HQ6
    go_wp2_with (first
    | (go_at_call 50; with_reducible refine (refParent_any _ _ (Nat.le_trans HQP.out (by decide))).mono ?_; rintro e w' ⟨rfl, rfl⟩)
    | (go_at_call 60; with_reducible refine (HPL.out).mono ?_; rintro e w' ⟨rfl, rfl⟩)
    | (go_at_call 13; with_reducible refine (HPC.out _).mono ?_; rintro e w' ⟨rfl, rfl⟩)
    | (refine wpList_store_row _ rfl 38 _ _ rfl (w.heap.size + 1) _ (txnL ⟨3, qn.path, o.s, [], 0, _⟩ ⟨none, 0, 0, 0, none, 0, 0⟩) rfl rfl HBXc.out txn_info rfl (txL_one (_, _)) ?_)
    | fail)
    refine ret_box_tmp 6 38 7 (w.heap.size + 1) _ (.bool true) Try.results61 ?_ ?_ (txnR_load (setRow_heap _ _ _ _ _ _ HBXc.out)) ?_ ?_
    exact rfl
    exact rfl
    exact rfl
    exact fin_part HHG.out HBXc.out HKW.out (AclW.nil _) (Nat.le_trans HQP.out (by decide)) (by constructor <;> simp) ⟨by simp, .inl rfl, rfl, ⟨rfl, rfl, rfl⟩, fun _ => by simp⟩
  · have HPC : Hid (∀ W, Calls Try.prog 13 #[.int .i64 o.a, .int .i64 6] W fun e w' => e = .returned (.int .i64 3) ∧ W = w') := Lib.hid HPW.out
    clear HPW HQ6
    rcases placeI_cases R.N (parS qn.path) with ⟨h8, _⟩ | ⟨k, hk, h8, _⟩
    · rw [HU.out] at h8
      subst h8
      go_wp2_with (first
        | (go_at_call 50; with_reducible refine (refParent_any _ _ (Nat.le_trans HQP.out (by decide))).mono ?_; rintro e w' ⟨rfl, rfl⟩)
        | (go_at_call 60; with_reducible refine (HPL.out).mono ?_; rintro e w' ⟨rfl, rfl⟩)
        | (go_at_call 13; with_reducible refine (HPC.out _).mono ?_; rintro e w' ⟨rfl, rfl⟩)
        | (refine wpList_store_row _ rfl 38 _ _ rfl (w.heap.size + 1) _ (txnL ⟨0, ⟨#[]⟩, ⟨#[]⟩, [], 0, 0⟩ ⟨none, 0, 0, 0, none, 0, 0⟩) rfl rfl HBXc.out txn_info rfl (txL_one (_, _)) ?_)
        | fail)
      refine ret_box_tmp 6 38 7 (w.heap.size + 1) _ (.bool false) Try.results61 ?_ ?_ (txnR_load (setRow_heap _ _ _ _ _ _ HBXc.out)) ?_ ?_
      exact rfl
      exact rfl
      exact rfl
      exact fin_part HHG.out HBXc.out HKW.out (AclW.nil _) (by decide) (by constructor <;> simp) ⟨by simp, .inl rfl, rfl, ⟨rfl, rfl, rfl⟩, fun h => nomatch h⟩
    · rw [HU.out] at h8
      subst h8
      rw [← HLL.out] at hk
      obtain ⟨cv, hcv⟩ := KN.out wc.drew HKc.out.drew k hk
      have c0 := (KS.out wc.drew HKc.out.drew).1
      have n0 := NC.out wc.drew (Kept.refl _ wc).drew 0 _ rfl
      have k0 : ¬ ((k : Int) < 0) := by omega
      have k1 : (0 : Int) ≤ (k : Int) := by omega
      have k2 : (k : Int) < (L.length : Int) := by omega
      clear hk
      go_wp2_with (first
        | (go_at_call 50; with_reducible refine (refParent_any _ _ (Nat.le_trans HQP.out (by decide))).mono ?_; rintro e w' ⟨rfl, rfl⟩)
        | (go_at_call 60; with_reducible refine (HPL.out).mono ?_; rintro e w' ⟨rfl, rfl⟩)
        | (go_at_call 13; with_reducible refine (HPC.out _).mono ?_; rintro e w' ⟨rfl, rfl⟩)
        | fail)
      go_still_tail 13, (by kernel_rfl)
      change wpList _ _ _ _ _ wc.drew
      have HBXd : Hid (wc.drew.heap[w.heap.size + 1]? = some (txnO ⟨0, ⟨#[]⟩, ⟨#[]⟩, [], 0, 0⟩ ⟨none, 0, 0, 0, none, 0, 0⟩)) := HBXc
      go_wp2_with (first
        | (refine wpList_store_row _ rfl 38 _ _ rfl (w.heap.size + 1) _ (txnL ⟨2, qn.path, ⟨#[]⟩, [], 0, _⟩ ⟨none, 0, 0, 0, none, 0, 0⟩) rfl rfl HBXd.out txn_info rfl (txL_one (_, _)) ?_)
        | fail)
      refine ret_box_tmp 6 38 7 (w.heap.size + 1) _ (.bool true) Try.results61 ?_ ?_ (txnR_load (setRow_heap _ _ _ _ _ _ HBXd.out)) ?_ ?_
      exact rfl
      exact rfl
      exact rfl
      exact fin_part HHG.out HBXd.out HKW.out.drew (AclW.nil _) (Nat.le_trans HQP.out (by decide)) (by constructor <;> simp) ⟨by simp, .inl rfl, rfl, ⟨rfl, rfl, rfl⟩, fun _ => by simp⟩
  · have HPC : Hid (∀ W, Calls Try.prog 13 #[.int .i64 o.a, .int .i64 6] W fun e w' => e = .returned (.int .i64 5) ∧ W = w') := Lib.hid HPW.out
    clear HPW HQ6
    obtain ⟨r, hr⟩ : ∃ r, absN o.c % 31 = r := ⟨_, rfl⟩
    have HR31 : Hid (r < 31) := Lib.hid (by rw [← hr]; exact Nat.mod_lt _ (by decide))
    have HPR : Hid (∀ W, Calls Try.prog 13 #[.int .i64 o.c, .int .i64 31] W fun e w' => e = .returned (.int .i64 r) ∧ W = w') := Lib.hid (fun W => tpick_nat o.c 31 W HO.out.c.1 HO.out.c.2 (by decide) (by decide) hr)
    clear hr
    go_wp2_with (first
        | (go_at_call 50; with_reducible refine (refParent_any _ _ (Nat.le_trans HQP.out (by decide))).mono ?_; rintro e w' ⟨rfl, rfl⟩)
        | (go_at_call 60; with_reducible refine (HPL.out).mono ?_; rintro e w' ⟨rfl, rfl⟩)
        | (go_at_call 13; with_reducible refine (HPC.out _).mono ?_; rintro e w' ⟨rfl, rfl⟩)
        | fail)
    have K5 : Hid (∀ w', Kept (fun k => k = w.heap.size + 1) wc w' → w'.cell? ⟨m, 0, none⟩ = some (.string qn.path) ∧ w'.cell? ⟨w.heap.size, 2, none⟩ = some (.int .i64 o.c) ∧ w'.cell? ⟨m, 8, none⟩ = some (.int .i64 qn.st.aver)) := Lib.hid (fun W hW => by
      have hne : ¬ m = w.heap.size + 1 := by have := HM.out; omega
      have hne2 : ¬ w.heap.size = w.heap.size + 1 := by omega
      exact ⟨cell_kept hW HN8.out hne 0 rfl, cell_kept hW (box_kept0 HB0.out HKc.out) hne2 2 rfl, cell_kept hW HN8.out hne 8 rfl⟩)
    obtain ⟨t0, t1, t2, t3, t4, t5, t6, t7⟩ := txn8 HBXc.out
    have f9 : ∀ j, wc.frozen? ⟨w.heap.size + 1, j, none⟩ = false := fun j => by simp [World.frozen?, HBXc.out]
    obtain ⟨c0, c2, c8⟩ := K5.out _ (Kept.refl _ wc)
    obtain ⟨d0, d2, d8⟩ := K5.out (wc.alloc (.cells #[.int .i64 (IntKind.i64.wrap (1 + ↑r)), .string ⟨#[119, 111, 114, 108, 100]⟩] 95)) ((Kept.refl _ wc).alloc _)
    have hbO : (wc.alloc (.cells #[.int .i64 (IntKind.i64.wrap (1 + ↑r)), .string ⟨#[119, 111, 114, 108, 100]⟩] 95)).heap[w.heap.size + 1]? = some (txnO ⟨0, ⟨#[]⟩, ⟨#[]⟩, [], 0, 0⟩ ⟨none, 0, 0, 0, none, 0, 0⟩) := box_kept0 HBXc.out ((Kept.refl _ wc).alloc _)
    obtain ⟨s0, s1, s2, s3, s4, s5, s6, s7⟩ := txn8 hbO
    have f8 : ∀ j, (wc.alloc (.cells #[.int .i64 (IntKind.i64.wrap (1 + ↑r)), .string ⟨#[119, 111, 114, 108, 100]⟩] 95)).frozen? ⟨w.heap.size + 1, j, none⟩ = false := fun j => by simp [World.frozen?, hbO]
    clear hbO t0 t1 t2 t3 t4 t5 t6 t7 f9
    have HLT : Hid (w.heap.size + 1 < wc.heap.size) := Lib.hid (by have h1 := HM.out; have h2 := lt_of_block HN8.out; omega)
    obtain ⟨l8, p8⟩ := fin_row (kind := 4) (path := qn.path) (data := ⟨#[]⟩) (owner := 0) (number := IntKind.i64.wrap (qn.st.aver + 1)) (p := IntKind.i64.wrap (1 + ↑r)) (s := ⟨#[119, 111, 114, 108, 100]⟩) (ok := true) (R := R) HHG.out HLT.out HBXc.out HKW.out (Nat.le_trans HQP.out (by decide)) (by constructor <;> simp) ⟨by simp, .inl rfl, rfl, ⟨rfl, rfl, rfl⟩, fun _ => by simp⟩ rfl rfl rfl rfl
    have HL8 := Lib.hid l8
    have HP8 := Lib.hid p8
    clear l8 p8
    go_region_with (first
      | (go_at_call 13; with_reducible refine (HPR.out _).mono ?_; rintro ee w2 ⟨rfl, rfl⟩)
      | fail)
    all_goals go_wp2_with fail
    all_goals refine ret_box_tmp 6 38 7 (w.heap.size + 1) _ (.bool true) Try.results61 ?_ ?_ HL8.out ?_ HP8.out
    all_goals exact rfl
end Go.Proofs.Ytjlffmkiiphfcaa
