/- The law's part. -/
import Derived.Test.YtjlffmkiiphfcaaP28
import Derived.Deep.RegionWith
import Derived.Deep.RegionHeld3
namespace Go.Proofs.Ytjlffmkiiphfcaa
open Go.ChangeShapes Go.WideShapes Go.ChangeAt Go.RowKit Go.Maps
set_option linter.unusedVariables false
set_option linter.unusedSimpArgs false
set_option maxRecDepth 100000 in
set_option maxHeartbeats 4000000 in
theorem lpart_create2 {w : World} {b : Nat} {R : RT} (h : RAt w b R) (o : OpN) (ho : o.Fits) (va : Option Addr) (vn vc : Nat) (hv : RV 100000000 R) (hp9 : ∀ n ∈ R.N, n.path.size ≤ 900000) (hne : 0 < R.N.length) (hq0 : absN o.a % 6 = 2) (hid : ∀ s ∈ R.S, -9223372036854775808 ≤ s.id ∧ s.id ≤ 9223372036854775807) :
    Calls Try.prog 61 #[.pointer (some ⟨b, 0, none⟩), .agg #[.int .i64 o.a, .int .i64 o.b, .int .i64 o.c, .string o.s, .slice va vn vc], .bool true] w (LPartPost w R) := by
  have HK0 : Hid (Kept (fun _ => False) w (w.alloc (actO o (.slice va vn vc)))) := Lib.hid ((Kept.refl _ w).alloc _)
  have HK10 : Hid (Kept (fun _ => False) (w.alloc (actO o (.slice va vn vc))) ((w.alloc (actO o (.slice va vn vc))).alloc (txnO ⟨0, ⟨#[]⟩, ⟨#[]⟩, [], 0, 0⟩ ⟨none, 0, 0, 0, none, 0, 0⟩))) := Lib.hid ((Kept.refl _ _).alloc _)
  have HSZ : Hid ((w.alloc (actO o (.slice va vn vc))).heap.size = w.heap.size + 1) := Lib.hid (by simp)
  have HB0 := Lib.hid (heap_alloc_new w (actO o (.slice va vn vc)))
  have HBX1 : Hid (((w.alloc (actO o (.slice va vn vc))).alloc (txnO ⟨0, ⟨#[]⟩, ⟨#[]⟩, [], 0, 0⟩ ⟨none, 0, 0, 0, none, 0, 0⟩)).heap[w.heap.size + 1]? = some (txnO ⟨0, ⟨#[]⟩, ⟨#[]⟩, [], 0, 0⟩ ⟨none, 0, 0, 0, none, 0, 0⟩)) := Lib.hid (by
    have h9 := heap_alloc_new (w.alloc (actO o (.slice va vn vc))) (txnO ⟨0, ⟨#[]⟩, ⟨#[]⟩, [], 0, 0⟩ ⟨none, 0, 0, 0, none, 0, 0⟩)
    rw [show (w.alloc (actO o (.slice va vn vc))).heap.size = w.heap.size + 1 by simp] at h9
    exact h9)
  have HV := Lib.hid hv
  have HO := Lib.hid ho
  have HID := Lib.hid hid
  obtain ⟨L, nv, sv, hD⟩ := h.kept0 HK0.out
  obtain ⟨na, ncap, rfl, hcap, hnode⟩ := hD.node
  have hL : L.length = R.N.length := rd_len hD
  obtain ⟨i, hi⟩ : ∃ i, absN o.b % L.length = i := ⟨_, rfl⟩
  have hil : i < L.length := by rw [← hi]; exact Nat.mod_lt _ (by omega)
  have HPK : Hid (∀ W, Calls Try.prog 13 #[.int .i64 o.b, .int .i64 L.length] W fun e w' => e = .returned (.int .i64 i) ∧ W = w') := Lib.hid (fun W => by
    have hm := own_max hD.n
    unfold maxLen at hm
    have := tpick_any o.b L.length W ho.b.1 ho.b.2 (by omega) (by omega)
    rw [show ((absN o.b : Int) % (L.length : Int)) = (i : Int) by rw [← hi]; simp] at this
    exact this)
  obtain ⟨g, ⟨qn, qv⟩, rfl, hg, hq, hc, hfz⟩ := hnode i hil
  obtain ⟨qa, qc, rfl⟩ : ∃ qa qc, qv = .slice qa qn.acl.length qc := own_shape (hD.acl _ (List.mem_of_getElem? hq)).own
  have HQ := Lib.hid hq
  have HNA := Lib.hid (hD.acl _ (List.mem_of_getElem? hq))
  have HQP := Lib.hid (hp9 qn (List.mem_of_getElem? (rd_at hD hq)))
  have i1 : (0 : Int) ≤ (i : Int) := by omega
  have i2 : (i : Int) < (L.length : Int) := by omega
  have KS : Hid (∀ w', Kept (fun _ => False) (w.alloc (actO o (.slice va vn vc))) w' → w'.cell? ⟨b, 0, none⟩ = some (.slice (some ⟨g, 0, none⟩) L.length ncap) ∧ w'.cell? ⟨w.heap.size, 1, none⟩ = some (.int .i64 o.b) ∧ w'.cell? ⟨g, i * 12, none⟩ = some (.string qn.path) ∧ w'.cell? ⟨g, i * 12 + 1, none⟩ = some (.string qn.data) ∧ w'.cell? ⟨g, i * 12 + 2, none⟩ = some (.slice qa qn.acl.length qc) ∧ w'.cell? ⟨g, i * 12 + 3, none⟩ = some (.int .i64 qn.st.cz) ∧ w'.cell? ⟨g, i * 12 + 4, none⟩ = some (.int .i64 qn.st.mz) ∧ w'.cell? ⟨g, i * 12 + 5, none⟩ = some (.int .i64 qn.st.pz) ∧ w'.cell? ⟨g, i * 12 + 6, none⟩ = some (.int .i64 qn.st.ver) ∧ w'.cell? ⟨g, i * 12 + 7, none⟩ = some (.int .i64 qn.st.cver) ∧ w'.cell? ⟨g, i * 12 + 8, none⟩ = some (.int .i64 qn.st.aver) ∧ w'.cell? ⟨g, i * 12 + 9, none⟩ = some (.int .i64 qn.st.owner) ∧ w'.cell? ⟨g, i * 12 + 10, none⟩ = some (.int .i64 0) ∧ w'.cell? ⟨g, i * 12 + 11, none⟩ = some (.int .i64 0)) := Lib.hid (fun W hW => by
    obtain ⟨c0, c1, c2, cf⟩ := (hD.kept0 hW).cells
    obtain ⟨a0, a1, a2, a3, a4⟩ := actB (box_kept0 HB0.out hW)
    obtain ⟨x0, x1, x2, x3, x4, x5, x6, x7, x8, x9, x10, x11⟩ := nodeAt hc hg hW
    exact ⟨c0, a1, x0, x1, x2, x3, x4, x5, x6, x7, x8, x9, x10, x11⟩)
  have KN : Hid (∀ W, Kept (fun _ => False) (w.alloc (actO o (.slice va vn vc))) W → ∀ k, k < L.length → ∃ cv, W.cell? ⟨g, k * 12 + 7, none⟩ = some (.int .i64 cv)) := Lib.hid (fun W hW k hk => by
    obtain ⟨g', ⟨pn, pv⟩, e', hg', _, hc', _⟩ := hnode k hk
    cases e'
    obtain ⟨x0, x1, x2, x3, x4, x5, x6, x7, x8, x9, x10, x11⟩ := nodeAt hc' hg hW
    exact ⟨_, x7⟩)
  have HD := Lib.hid hD
  have HLL := Lib.hid hL
  clear hD hnode hc hq hfz hi hL hv hid h
  go_enter Try.func61, Try.ntmps61
  go_wp2_with fail
  generalize hw1 : (w.alloc (actO o (.slice va vn vc))).alloc (txnO ⟨0, ⟨#[]⟩, ⟨#[]⟩, [], 0, 0⟩ ⟨none, 0, 0, 0, none, 0, 0⟩) = w1 at HK10 HBX1 ⊢
  clear hw1
  generalize hw0 : w.alloc (actO o (.slice va vn vc)) = w0 at HK0 HK10 HSZ HB0 HD KS KN HNA
  clear hw0
  obtain ⟨c0, a1, x0, x1, x2, x3, x4, x5, x6, x7, x8, x9, x10, x11⟩ := KS.out _ HK10.out.drew
  have y0 := World.new_ne w1.drew _ c0
  have y1 := World.new_ne w1.drew _ a1
  have y2 := World.new_ne w1.drew _ x0
  have y3 := World.new_ne w1.drew _ x1
  have y4 := World.new_ne w1.drew _ x2
  have y5 := World.new_ne w1.drew _ x3
  have y6 := World.new_ne w1.drew _ x4
  have y7 := World.new_ne w1.drew _ x5
  have y8 := World.new_ne w1.drew _ x6
  have y9 := World.new_ne w1.drew _ x7
  have y10 := World.new_ne w1.drew _ x8
  have y11 := World.new_ne w1.drew _ x9
  have y12 := World.new_ne w1.drew _ x10
  have y13 := World.new_ne w1.drew _ x11
  go_cut [8] (fun v wx => v = .pointer (some ⟨w1.heap.size, 0, none⟩) ∧ wx.heap[w1.heap.size]? = some (.cells #[.string qn.path, .string qn.data, .slice qa qn.acl.length qc, .int .i64 qn.st.cz, .int .i64 qn.st.mz, .int .i64 qn.st.pz, .int .i64 qn.st.ver, .int .i64 qn.st.cver, .int .i64 qn.st.aver, .int .i64 qn.st.owner, .int .i64 0, .int .i64 0] 131 (0, 0)) ∧ Kept (fun _ => False) w1 wx)
  case first =>
   go_region_held3 (fun w' => w'.cell? ⟨b, 0, none⟩ = some (.slice (some ⟨g, 0, none⟩) L.length ncap) ∧ w'.cell? ⟨w.heap.size, 1, none⟩ = some (.int .i64 o.b) ∧ w'.cell? ⟨g, i * 12, none⟩ = some (.string qn.path) ∧ w'.cell? ⟨g, i * 12 + 1, none⟩ = some (.string qn.data) ∧ w'.cell? ⟨g, i * 12 + 2, none⟩ = some (.slice qa qn.acl.length qc) ∧ w'.cell? ⟨g, i * 12 + 3, none⟩ = some (.int .i64 qn.st.cz) ∧ w'.cell? ⟨g, i * 12 + 4, none⟩ = some (.int .i64 qn.st.mz) ∧ w'.cell? ⟨g, i * 12 + 5, none⟩ = some (.int .i64 qn.st.pz) ∧ w'.cell? ⟨g, i * 12 + 6, none⟩ = some (.int .i64 qn.st.ver) ∧ w'.cell? ⟨g, i * 12 + 7, none⟩ = some (.int .i64 qn.st.cver) ∧ w'.cell? ⟨g, i * 12 + 8, none⟩ = some (.int .i64 qn.st.aver) ∧ w'.cell? ⟨g, i * 12 + 9, none⟩ = some (.int .i64 qn.st.owner) ∧ w'.cell? ⟨g, i * 12 + 10, none⟩ = some (.int .i64 0) ∧ w'.cell? ⟨g, i * 12 + 11, none⟩ = some (.int .i64 0))
    (first
      | (first
           | refine KS.out _ ?_
           | refine (KS.out _ ?_).1
           | refine (KS.out _ ?_).2.1
           | refine (KS.out _ ?_).2.2.1
           | refine (KS.out _ ?_).2.2.2.1
           | refine (KS.out _ ?_).2.2.2.2.1
           | refine (KS.out _ ?_).2.2.2.2.2.1
           | refine (KS.out _ ?_).2.2.2.2.2.2.1
           | refine (KS.out _ ?_).2.2.2.2.2.2.2.1
           | refine (KS.out _ ?_).2.2.2.2.2.2.2.2.1
           | refine (KS.out _ ?_).2.2.2.2.2.2.2.2.2.1
           | refine (KS.out _ ?_).2.2.2.2.2.2.2.2.2.2.1
           | refine (KS.out _ ?_).2.2.2.2.2.2.2.2.2.2.2.1
           | refine (KS.out _ ?_).2.2.2.2.2.2.2.2.2.2.2.2.1
           | refine (KS.out _ ?_).2.2.2.2.2.2.2.2.2.2.2.2.2
         repeat' first
           | exact HK10.out
           | refine Kept.drew ?_
           | refine Kept.drewN ?_ _
           | refine Kept.alloc ?_ _
           | refine Kept.setCell ?_ (Or.inr (by have h8 := HSZ.out; have h9 := HK10.out.size; simp at *; omega)) _
           | refine Kept.setCells _ _ ?_ (Or.inr (by have h8 := HSZ.out; have h9 := HK10.out.size; simp at *; omega))))
    (first
      | (go_at_call 13; with_reducible refine (HPK.out _).mono ?_; rintro ee w2 ⟨rfl, rfl⟩))
   all_goals go_wp2_with fail
   all_goals go_meet
   all_goals exact ⟨rfl, heap_alloc_new w1 _, ((Kept.refl _ w1).alloc _).drew⟩
  case rest =>
  obtain ⟨rfl, hn8, hkc⟩ := hcut
  have HKc := Lib.hid (HK10.out.trans hkc)
  have HKx := Lib.hid hkc
  have HKW := Lib.hid (HK0.out.trans HKc.out)
  have HBXc := Lib.hid (box_kept0 HBX1.out hkc)
  have HRc : Hid (RAt wc b R) := Lib.hid (RAt.kept0 ⟨_, _, _, HD.out⟩ HKc.out)
  clear c0 a1 x0 x1 x2 x3 x4 x5 x6 x7 x8 x9 x10 x11 y0 y1 y2 y3 y4 y5 y6 y7 y8 y9 y10 y11 y12 y13 hkc
  have hm1 : w.heap.size + 1 < w1.heap.size := lt_of_block HBX1.out
  generalize hm : w1.heap.size = m at hn8 hm1 ⊢
  have HM := Lib.hid hm1
  have HN8 := Lib.hid hn8
  clear hm1 hn8 hm HKx
  have NC : Hid (∀ W, Kept (fun _ => False) wc W → ∀ j u, ([.string qn.path, .string qn.data, .slice qa qn.acl.length qc, .int .i64 qn.st.cz, .int .i64 qn.st.mz, .int .i64 qn.st.pz, .int .i64 qn.st.ver, .int .i64 qn.st.cver, .int .i64 qn.st.aver, .int .i64 qn.st.owner, .int .i64 0, .int .i64 0] : List Value)[j]? = some u → W.cell? ⟨m, j, none⟩ = some u) := Lib.hid (fun W hW j u hu => cell_kept hW HN8.out (fun f => f) j (by rw [← hu, ← Array.getElem?_toList]))
  have AC : Hid (∀ W, Kept (fun _ => False) wc W → ActB W w.heap.size o (.slice va vn vc)) := Lib.hid (fun W hW => actB (box_kept0 HB0.out (HKc.out.trans hW)))
  have HPC : Hid (∀ W, Calls Try.prog 13 #[.int .i64 o.a, .int .i64 6] W fun e w' => e = .returned (.int .i64 2) ∧ W = w') := Lib.hid (fun W => tpick_nat o.a 6 W ho.a.1 ho.a.2 (by decide) (by decide) hq0)
  clear hq0
  have n0 := NC.out wc (Kept.refl _ _) 0 _ rfl
  obtain ⟨a0, a1, a2, a3, a4⟩ := AC.out wc (Kept.refl _ _)
  obtain ⟨u, hu⟩ : ∃ u, placeI R.N (parS qn.path) = u := ⟨_, rfl⟩
  have HPL : Hid (Calls Try.prog 60 #[.pointer (some ⟨b, 0, none⟩), .string (parS qn.path)] wc fun e w' => e = .returned (.int .i64 u) ∧ wc = w') := Lib.hid (by rw [← hu]; exact place_any HRc.out _)
  have HU := Lib.hid hu
  have n3 := NC.out wc (Kept.refl _ _) 3 _ rfl
  have n4 := NC.out wc (Kept.refl _ _) 4 _ rfl
  have n5 := NC.out wc (Kept.refl _ _) 5 _ rfl
  have n6 := NC.out wc (Kept.refl _ _) 6 _ rfl
  have n7 := NC.out wc (Kept.refl _ _) 7 _ rfl
  have n8 := NC.out wc (Kept.refl _ _) 8 _ rfl
  have n9 := NC.out wc (Kept.refl _ _) 9 _ rfl
  have HHG : Hid (w.heap.size ≤ w.heap.size + 1) := Lib.hid (Nat.le_succ _)
  clear hu
  obtain ⟨w2, hw2⟩ : ∃ w2, w2 = wc := ⟨_, rfl⟩
  subst hw2
  obtain ⟨r6, hr6⟩ : ∃ r, absN o.c % 6 = r := ⟨_, rfl⟩
  have hr6b : r6 < 6 := by rw [← hr6]; exact Nat.mod_lt _ (by decide)
  have HP6 : Hid (∀ W, Calls Try.prog 13 #[.int .i64 o.c, .int .i64 6] W fun e w' => e = .returned (.int .i64 r6) ∧ W = w') := Lib.hid (fun W => tpick_nat o.c 6 W HO.out.c.1 HO.out.c.2 (by decide) (by decide) hr6)
  have HR6 := Lib.hid hr6b
  clear hr6 hr6b
  go_wp2_with (first
    | (go_at_call 50; with_reducible refine (refParent_any _ _ (Nat.le_trans HQP.out (by decide))).mono ?_; rintro e w' ⟨rfl, rfl⟩)
    | (go_at_call 60; with_reducible refine (HPL.out).mono ?_; rintro e w' ⟨rfl, rfl⟩)
    | (go_at_call 13; with_reducible refine (HPC.out _).mono ?_; rintro e w' ⟨rfl, rfl⟩)
    | fail)
  have HNM : Hid ((w2.alloc (.cells #[.string ⟨#[97]⟩, .string ⟨#[98]⟩, .string ⟨#[99]⟩, .string ⟨#[120]⟩, .string ⟨#[121]⟩, .string ⟨#[122]⟩] 9)).heap[w2.heap.size]? = some (.cells #[.string ⟨#[97]⟩, .string ⟨#[98]⟩, .string ⟨#[99]⟩, .string ⟨#[120]⟩, .string ⟨#[121]⟩, .string ⟨#[122]⟩] 9 (0, 0))) := Lib.hid (heap_alloc_new w2 _)
  have HKn : Hid (Kept (fun _ => False) w2 (w2.alloc (.cells #[.string ⟨#[97]⟩, .string ⟨#[98]⟩, .string ⟨#[99]⟩, .string ⟨#[120]⟩, .string ⟨#[121]⟩, .string ⟨#[122]⟩] 9))) := Lib.hid ((Kept.refl _ w2).alloc _)
  generalize hmn : w2.heap.size = mn at HNM ⊢
  generalize w2.alloc _ = wn at HNM HKn ⊢
  clear hmn
  obtain ⟨nm, hnm, hnms⟩ : ∃ nm : ByteArray, wn.cell? ⟨mn, r6, none⟩ = some (.string nm) ∧ nm.size = 1 := by
    have h6 := HR6.out
    have hb := HNM.out
    rcases (show r6 = 0 ∨ r6 = 1 ∨ r6 = 2 ∨ r6 = 3 ∨ r6 = 4 ∨ r6 = 5 by omega) with rfl | rfl | rfl | rfl | rfl | rfl
    · exact ⟨⟨#[97]⟩, by simp [World.cell?, hb], rfl⟩
    · exact ⟨⟨#[98]⟩, by simp [World.cell?, hb], rfl⟩
    · exact ⟨⟨#[99]⟩, by simp [World.cell?, hb], rfl⟩
    · exact ⟨⟨#[120]⟩, by simp [World.cell?, hb], rfl⟩
    · exact ⟨⟨#[121]⟩, by simp [World.cell?, hb], rfl⟩
    · exact ⟨⟨#[122]⟩, by simp [World.cell?, hb], rfl⟩
  obtain ⟨kp, hkp⟩ : ∃ kp, kidS qn.path nm = kp := ⟨_, rfl⟩
  have hkps : kp.size ≤ 1000000 := by
    have := (kidS_size qn.path nm).2
    have := HQP.out
    rw [← hkp]; omega
  have HKID : Hid (∀ W, Calls Try.prog 51 #[.string qn.path, .string nm] W fun e w' => e = .returned (.string kp) ∧ w' = W) := Lib.hid (fun W => hkp ▸ (refKid_any qn.path nm W (Nat.le_trans HQP.out (by decide)) (by omega)).mono fun e w' ⟨h1, h2⟩ => ⟨h1, h2.symm⟩)
  have HP6' : Hid (∀ W, Calls Try.prog 13 #[.int .i64 o.c, .int .i64 6] W fun e w' => e = .returned (.int .i64 r6) ∧ w' = W) := Lib.hid (fun W => (HP6.out W).mono fun e w' ⟨h1, h2⟩ => ⟨h1, h2.symm⟩)
  have HKPS := Lib.hid hkps
  have i6 : (0 : Int) ≤ (r6 : Int) := by omega
  have i66 : (r6 : Int) < 6 := by have := HR6.out; omega
  have n0' := NC.out wn HKn.out 0 _ rfl
  obtain ⟨a0', a1', a2', a3', a4'⟩ := AC.out wn HKn.out
  clear hnms hkp hkps n0 n3 n4 n5 n6 n7 n8 n9 a0 a1 a2 a3 a4
  go_cut [11] (fun v wx => v = .string kp ∧ Kept (fun _ => False) wn wx)
  case first =>
    go_quiet ((first
      | (go_at_call 13; exact Calls.quiet_of_same (HP6'.out _))
      | (go_at_call 51; exact Calls.quiet_of_same (HKID.out _))))
    go_wp2_with fail
    go_meet
    exact ⟨rfl, (Kept.refl _ wn).drewN _⟩
  case rest =>
  obtain ⟨wd, hwd⟩ : ∃ wd, wd = wc := ⟨_, rfl⟩
  subst hwd
  obtain ⟨rfl, hkd0⟩ := hcut
  clear hnm i6 i66 n0' a0' a1' a2' a3' a4' HNM HP6 HP6' HKID
  have hkd := HKn.out.trans hkd0
  clear hkd0 HKn
  have HKd := Lib.hid hkd
  clear hkd
  obtain ⟨r3, hr3⟩ : ∃ r, absN o.c % 3 = r := ⟨_, rfl⟩
  have HP3 : Hid (∀ W, Calls Try.prog 13 #[.int .i64 o.c, .int .i64 3] W fun e w' => e = .returned (.int .i64 r3) ∧ w' = W) := Lib.hid (fun W => (tpick_nat o.c 3 W HO.out.c.1 HO.out.c.2 (by decide) (by decide) hr3).mono fun e w' ⟨h1, h2⟩ => ⟨h1, h2.symm⟩)
  have HDd : Hid (∃ L sv, RD wd b R L (.slice (some ⟨g, 0, none⟩) R.N.length ncap) sv) := Lib.hid ⟨_, _, HLL.out ▸ HD.out.kept0 (HKc.out.trans HKd.out)⟩
  have ACd : Hid (∀ W, Kept (fun _ => False) wd W → ActB W w.heap.size o (.slice va vn vc)) := Lib.hid (fun W hW => AC.out W (HKd.out.trans hW))
  clear hr3
  go_upto_region 10 with fail
  go_cut [63] (fun v wx => ∃ bb : Bool, v = .bool bb ∧ (bb = true → 0 < R.S.length) ∧ wd = wx)
  case first =>
    obtain ⟨L9, sv9, hD9⟩ := HDd.out
    obtain ⟨c0, c1, c2, cf⟩ := hD9.cells
    obtain ⟨a0, a1, a2, a3, a4⟩ := ACd.out wd (Kept.refl _ wd)
    obtain ⟨sa, scap, rfl, hsc, hsm, hsess⟩ := hD9.sess
    unfold maxLen at hsm
    clear hD9 hsess
    by_cases hS : 0 < R.S.length
    · have HS := Lib.hid hS
      by_cases h3 : r3 = 0
      · subst h3
        go_wp2_with (first
          | (go_at_call 13; with_reducible refine (HP3.out _).mono ?_; rintro e w' ⟨rfl, rfl⟩)
          | fail)
        go_meet
        exact ⟨true, rfl, fun _ => HS.out, rfl⟩
      · have h3' : ((r3 : Int) == 0) = false := by simp; omega
        go_wp2_with (first
          | (go_at_call 13; with_reducible refine (HP3.out _).mono ?_; rintro e w' ⟨rfl, rfl⟩)
          | fail)
        go_meet
        exact ⟨false, rfl, (fun h => nomatch h), rfl⟩
    · have hS' : decide ((R.S.length : Int) > 0) = false := decide_eq_false (by omega)
      have hS'' : decide (0 < R.S.length) = false := decide_eq_false hS
      go_wp2_with (first
        | (go_at_call 13; with_reducible refine (HP3.out _).mono ?_; rintro e w' ⟨rfl, rfl⟩)
        | fail)
      go_meet
      exact ⟨false, rfl, (fun h => nomatch h), rfl⟩
  case rest =>
  obtain ⟨bb, rfl, hbb, rfl⟩ := hcut
  have HBB := Lib.hid hbb
  clear hbb
  go_upto_if 63 with fail
  go_cut [12] (fun v wx => ∃ ow : Int, v = .int .i64 ow ∧ (ow = 0 ∨ ∃ s ∈ R.S, s.id = ow) ∧ Kept (fun _ => False) wd wx)
  case first =>
    cases bb
    · go_wp2_with fail
      go_meet
      exact ⟨0, rfl, .inl rfl, Kept.refl _ wd⟩
    · have hS := HBB.out rfl
      obtain ⟨L9, sv9, hD9⟩ := HDd.out
      obtain ⟨c0, c1, c2, cf⟩ := hD9.cells
      obtain ⟨a0, a1, a2, a3, a4⟩ := ACd.out wd (Kept.refl _ wd)
      obtain ⟨sa, scap, rfl, hsc, hsm, hsess⟩ := hD9.sess
      unfold maxLen at hsm
      obtain ⟨r, hr⟩ : ∃ r, absN o.b % R.S.length = r := ⟨_, rfl⟩
      have hrl : r < R.S.length := by rw [← hr]; exact Nat.mod_lt _ hS
      have HPS : Hid (∀ W, Calls Try.prog 13 #[.int .i64 o.b, .int .i64 R.S.length] W fun e w' => e = .returned (.int .i64 r) ∧ w' = W) := Lib.hid (fun W => by
        have := tpick_any o.b R.S.length W HO.out.b.1 HO.out.b.2 (by omega) (by omega)
        rw [show ((absN o.b : Int) % (R.S.length : Int)) = (r : Int) by rw [← hr]; simp] at this
        exact this.mono fun e w' ⟨h1, h2⟩ => ⟨h1, h2.symm⟩)
      obtain ⟨gs, p, rfl, hgs, hp, hc⟩ := hsess r hrl
      obtain ⟨x0, _, _⟩ := sessAt hc hgs (Kept.refl _ wd)
      have HM1 := Lib.hid (List.mem_of_getElem? hp)
      have q1 : (0 : Int) ≤ (r : Int) := by omega
      have q2 : (r : Int) < (R.S.length : Int) := by omega
      clear hD9 hsess hr hp hc hgs
      go_wp2_with fail
      go_quiet ((first
        | (go_at_call 13; exact Calls.quiet_of_same (HPS.out _))))
      go_wp2_with fail
      go_meet
      exact ⟨_, rfl, .inr ⟨p, HM1.out, rfl⟩, (Kept.refl _ wd).drewN _⟩
  case rest =>
  obtain ⟨we, hwe⟩ : ∃ we, we = wc := ⟨_, rfl⟩
  subst hwe
  obtain ⟨ow, rfl, how, hke⟩ := hcut
  have HOW := Lib.hid how
  have HOB : Hid (-9223372036854775808 ≤ ow ∧ ow ≤ 9223372036854775807) := Lib.hid (by
    rcases how with rfl | ⟨s, hs, rfl⟩
    · decide
    · exact HID.out s hs)
  have HKwe := Lib.hid (HKW.out.trans (HKd.out.trans hke))
  have HKqe := Lib.hid (HKd.out.trans hke)
  obtain ⟨L9, sv9, hD9⟩ := HDd.out
  have HBC := Lib.hid (box_kept0 hD9.at_ hke)
  have HBB1 : Hid (b < w.heap.size + 1) := Lib.hid (by have h1 := lt_of_block HD.out.at_; have h2 := HSZ.out; omega)
  clear hD9
  have HTX : Hid (TxRow we (w.heap.size + 1)) := Lib.hid ⟨_, box_kept0 HBXc.out HKqe.out, rfl⟩
  have KS5 : Hid (∀ W, Kept (fun k => k = w.heap.size + 1) we W → TxRow W (w.heap.size + 1) → (W.cell? ⟨m, 7, none⟩ = some (.int .i64 qn.st.cver) ∧ W.cell? ⟨m, 9, none⟩ = some (.int .i64 qn.st.owner) ∧ W.cell? ⟨w.heap.size, 2, none⟩ = some (.int .i64 o.c) ∧ W.cell? ⟨w.heap.size, 3, none⟩ = some (.string o.s) ∧ W.cell? ⟨b, 0, none⟩ = some (.slice (some ⟨g, 0, none⟩) R.N.length ncap) ∧ Kept (fun k => k = w.heap.size + 1) we W ∧ TxRow W (w.heap.size + 1))) := Lib.hid (fun W hW hT => by
    have hm1 := HM.out
    have hne : ¬ m = w.heap.size + 1 := by omega
    have hne2 : ¬ w.heap.size = w.heap.size + 1 := by omega
    have hne3 : ¬ b = w.heap.size + 1 := by have := HBB1.out; omega
    have hbx := HB0.out
    exact ⟨cell_kept hW (box_kept0 HN8.out HKqe.out) hne 7 rfl, cell_kept hW (box_kept0 HN8.out HKqe.out) hne 9 rfl, cell_kept hW (box_kept0 (box_kept0 HB0.out HKc.out) HKqe.out) hne2 2 rfl, cell_kept hW (box_kept0 (box_kept0 HB0.out HKc.out) HKqe.out) hne2 3 rfl, cell_kept hW HBC.out hne3 0 rfl, hW, hT⟩)
  obtain ⟨r, hr⟩ : ∃ r, absN o.c % 31 = r := ⟨_, rfl⟩
  have HPR : Hid (∀ W, Calls Try.prog 13 #[.int .i64 o.c, .int .i64 31] W fun e w' => e = .returned (.int .i64 r) ∧ W = w') := Lib.hid (fun W => tpick_nat o.c 31 W HO.out.c.1 HO.out.c.2 (by decide) (by decide) hr)
  clear hr
  obtain ⟨ck, hck⟩ : ∃ ck, checkS kp = ck := ⟨_, rfl⟩
  have HCK : Hid (∀ W, Calls Try.prog 84 #[.string kp] W fun e w' => e = .returned (.int .i64 ck) ∧ Kept (fun _ => False) W w') := Lib.hid (fun W => (refCheck_any kp W (Nat.le_trans HKPS.out (by decide))).mono fun e w' ⟨h1, h2⟩ => ⟨by rw [h1, hck], ⟨h2.os, h2.tape, h2.output, h2.size, fun k hk _ => h2.block k hk⟩⟩)
  clear hck how hke
  clear HDd ACd HKd HKc HKW HKqe HN8 HB0 HBC HD HBXc HM HBB1 HSZ AC NC HP3 HPC HPL HPK KS KN HNA HQ HU HV HHG HLL HBB HID HK0 HK10 HBX1 HRc HR6 HO
  go_wp2_with fail
  have hss : w.heap.size ≤ w.heap.size + 1 := Nat.le_succ _
  obtain ⟨gg, hgg⟩ : ∃ gg, (ck == 0) = gg := ⟨_, rfl⟩
  have HSS := Lib.hid hss
  clear hss
  rcases (show qn.st.owner ≠ 0 ∨ (qn.st.owner = 0 ∧ ¬ R.N.length < 60) ∨ (qn.st.owner = 0 ∧ R.N.length < 60) by omega) with h0 | ⟨h0, h1⟩ | ⟨h0, h1⟩
  · have g1 : (qn.st.owner == 0) = false := by simpa using h0
    refine wp_region_held_drew (S := (fun W => W.cell? ⟨m, 7, none⟩ = some (.int .i64 qn.st.cver) ∧ W.cell? ⟨m, 9, none⟩ = some (.int .i64 qn.st.owner) ∧ W.cell? ⟨w.heap.size, 2, none⟩ = some (.int .i64 o.c) ∧ W.cell? ⟨w.heap.size, 3, none⟩ = some (.string o.s) ∧ W.cell? ⟨b, 0, none⟩ = some (.slice (some ⟨g, 0, none⟩) R.N.length ncap) ∧ Kept (fun k => k = w.heap.size + 1) we W ∧ TxRow W (w.heap.size + 1))) (by kernel_rfl) ?_ (fun hHeld => ?_)
    · try go_split_ands
      refine KS5.out _ ?_ ?_
      · repeat' first
          | with_reducible assumption
          | with_reducible exact Kept.refl _ we
          | with_reducible refine Kept.drew ?_
          | with_reducible refine Kept.alloc ?_ _
          | with_reducible refine Kept.chain ?_ _ _ _ _ _ _ _ _
      · repeat' first
          | with_reducible assumption
          | with_reducible exact HTX.out
          | with_reducible refine TxRow.drew ?_
          | with_reducible refine TxRow.alloc ?_ _
          | with_reducible refine TxRow.chain ?_ _ _ _ _ _ _ _ _
    refine wpAnyH_take (i := 0) (v := ?_) rfl (by kernel_rfl) (by kernel_rfl) (by kernel_rfl) (fun _ _ _ h => h) (Or.inl ⟨by rfl, ?_⟩) (by assumption) ?_
    rotate_left 1
    · (intro wz hSw; (try dsimp only at hSw); go_simp; try (with_reducible rfl))
    change wpAnyH _ _ _ _ _ _ _ (Act.put _ (some 79) _) _
    try simp only [Act.put, List.setIfInBounds_toArray, List.set_cons_zero, List.set_cons_succ]
    refine wpAnyH_take (i := 1) (v := ?_) rfl (by kernel_rfl) (by kernel_rfl) (by kernel_rfl) (fun _ _ _ h => h) (Or.inl ⟨by rfl, ?_⟩) (by assumption) ?_
    rotate_left 1
    · (intro wz hSw; (try dsimp only at hSw); go_simp; try (with_reducible rfl))
    change wpAnyH _ _ _ _ _ _ _ (Act.put _ (some 80) _) _
    try simp only [Act.put, List.setIfInBounds_toArray, List.set_cons_zero, List.set_cons_succ]
    refine wpAnyH_take (i := 2) (v := ?_) rfl (by kernel_rfl) (by kernel_rfl) (by kernel_rfl) (fun _ _ _ h => h) (Or.inl ⟨by rfl, ?_⟩) (by assumption) ?_
    rotate_left 1
    · (intro wz hSw; (try dsimp only at hSw); go_simp; try (with_reducible rfl))
    change wpAnyH _ _ _ _ _ _ _ (Act.put _ (some 81) _) _
    try simp only [Act.put, List.setIfInBounds_toArray, List.set_cons_zero, List.set_cons_succ]
    refine wpAnyH_take (i := 3) (v := ?_) rfl (by kernel_rfl) (by kernel_rfl) (by kernel_rfl) (fun _ _ _ h => h) (Or.inl ⟨by rfl, ?_⟩) (by assumption) ?_
    rotate_left 1
    · (intro wz hSw; (try dsimp only at hSw); go_simp; try (with_reducible rfl))
    change wpAnyH _ _ _ _ _ _ _ (Act.put _ (some 82) _) _
    try simp only [Act.put, List.setIfInBounds_toArray, List.set_cons_zero, List.set_cons_succ]
    refine wpAnyH_take (i := 4) (v := ?_) rfl (by kernel_rfl) (by kernel_rfl) (by kernel_rfl) (fun _ _ _ h => h) (Or.inl ⟨by rfl, ?_⟩) (by assumption) ?_
    rotate_left 1
    · (intro wz hSw; (try dsimp only at hSw); go_simp; try (with_reducible rfl))
    change wpAnyH _ _ _ _ _ _ _ (Act.put _ (some 83) _) _
    try simp only [Act.put, List.setIfInBounds_toArray, List.set_cons_zero, List.set_cons_succ]
    refine wpAnyH_take (i := 9) (v := ?_) rfl (by kernel_rfl) (by kernel_rfl) (by kernel_rfl) (fun _ _ _ h => h) (Or.inl ⟨by rfl, ?_⟩) (by assumption) ?_
    rotate_left 1
    · (intro wz hSw; (try dsimp only at hSw); go_simp; try (with_reducible rfl))
    change wpAnyH _ _ _ _ _ _ _ (Act.put _ (some 88) _) _
    try simp only [Act.put, List.setIfInBounds_toArray, List.set_cons_zero, List.set_cons_succ]
    refine wpAnyH_take (i := 10) (v := ?_) rfl (by kernel_rfl) (by kernel_rfl) (by kernel_rfl) (fun _ _ _ h => h) (Or.inl ⟨by rfl, ?_⟩) (by assumption) ?_
    rotate_left 1
    · (intro wz hSw; (try dsimp only at hSw); go_simp; try (with_reducible rfl))
    change wpAnyH _ _ _ _ _ _ _ (Act.put _ (some 89) _) _
    try simp only [Act.put, List.setIfInBounds_toArray, List.set_cons_zero, List.set_cons_succ]
    refine wpAnyH_take (i := 11) (v := ?_) rfl (by kernel_rfl) (by kernel_rfl) (by kernel_rfl) (fun _ _ _ h => h) (Or.inl ⟨by rfl, ?_⟩) (by assumption) ?_
    rotate_left 1
    · (intro wz hSw; (try dsimp only at hSw); go_simp; try (with_reducible rfl))
    change wpAnyH _ _ _ _ _ _ _ (Act.put _ (some 90) _) _
    try simp only [Act.put, List.setIfInBounds_toArray, List.set_cons_zero, List.set_cons_succ]
    refine wpAnyH_take (i := 12) (v := ?_) rfl (by kernel_rfl) (by kernel_rfl) (by kernel_rfl) (fun _ _ _ h => h) (Or.inl ⟨by rfl, ?_⟩) (by assumption) ?_
    rotate_left 1
    · (intro wz hSw; (try dsimp only at hSw); go_simp; try (with_reducible rfl))
    change wpAnyH _ _ _ _ _ _ _ (Act.put _ (some 91) _) _
    try simp only [Act.put, List.setIfInBounds_toArray, List.set_cons_zero, List.set_cons_succ]
    refine wpAnyH_take (i := 13) (v := ?_) rfl (by kernel_rfl) (by kernel_rfl) (by kernel_rfl) (fun _ _ _ h => h) (Or.inl ⟨by rfl, ?_⟩) (by assumption) ?_
    rotate_left 1
    · (intro wz hSw; (try dsimp only at hSw); go_simp; try (with_reducible rfl))
    change wpAnyH _ _ _ _ _ _ _ (Act.put _ (some 92) _) _
    try simp only [Act.put, List.setIfInBounds_toArray, List.set_cons_zero, List.set_cons_succ]
    refine wpAnyH_take (i := 15) (v := ?_) rfl (by kernel_rfl) (by kernel_rfl) (by kernel_rfl) (fun _ _ _ h => h) (Or.inl ⟨by rfl, ?_⟩) (by assumption) ?_
    rotate_left 1
    · (intro wz hSw; (try dsimp only at hSw); go_simp; try (with_reducible rfl))
    change wpAnyH _ _ _ _ _ _ _ (Act.put _ (some 94) _) _
    try simp only [Act.put, List.setIfInBounds_toArray, List.set_cons_zero, List.set_cons_succ]
    refine wpAnyH_take (i := 16) (v := ?_) rfl (by kernel_rfl) (by kernel_rfl) (by kernel_rfl) (fun _ _ _ h => h) (Or.inl ⟨by rfl, ?_⟩) (by assumption) ?_
    rotate_left 1
    · (intro wz hSw; (try dsimp only at hSw); go_simp; try (with_reducible rfl))
    change wpAnyH _ _ _ _ _ _ _ (Act.put _ (some 95) _) _
    try simp only [Act.put, List.setIfInBounds_toArray, List.set_cons_zero, List.set_cons_succ]
    refine wpAnyH_take (i := 17) (v := ?_) rfl (by kernel_rfl) (by kernel_rfl) (by kernel_rfl) (fun _ _ _ h => h) (Or.inl ⟨by rfl, ?_⟩) (by assumption) ?_
    rotate_left 1
    · (intro wz hSw; (try dsimp only at hSw); go_simp; try (with_reducible rfl))
    change wpAnyH _ _ _ _ _ _ _ (Act.put _ (some 96) _) _
    try simp only [Act.put, List.setIfInBounds_toArray, List.set_cons_zero, List.set_cons_succ]
    refine wpAnyH_take (i := 18) (v := ?_) rfl (by kernel_rfl) (by kernel_rfl) (by kernel_rfl) (fun _ _ _ h => h) (Or.inl ⟨by rfl, ?_⟩) (by assumption) ?_
    rotate_left 1
    · (intro wz hSw; (try dsimp only at hSw); go_simp; try (with_reducible rfl))
    change wpAnyH _ _ _ _ _ _ _ (Act.put _ (some 97) _) _
    try simp only [Act.put, List.setIfInBounds_toArray, List.set_cons_zero, List.set_cons_succ]
    refine wpAnyH_ready (rs := [5]) (by kernel_rfl) (by simp) ?_
    refine AllReadyH.cons rfl (fun K hK => ?_) AllReadyH.nil
    go_simp
    go_at_call 13
    refine (HPR.out _).mono ?_
    rintro ee w2 ⟨rfl, rfl⟩
    try go_wp2_with fail
    refine hK.out _ _ ?_ (fun hNew => ?_)
    · try go_split_ands
      refine KS5.out _ ?_ ?_
      · repeat' first
          | with_reducible assumption
          | with_reducible exact Kept.refl _ we
          | with_reducible refine Kept.drew ?_
          | with_reducible refine Kept.alloc ?_ _
          | with_reducible refine Kept.chain ?_ _ _ _ _ _ _ _ _
      · repeat' first
          | with_reducible assumption
          | with_reducible exact HTX.out
          | with_reducible refine TxRow.drew ?_
          | with_reducible refine TxRow.alloc ?_ _
          | with_reducible refine TxRow.chain ?_ _ _ _ _ _ _ _ _
    clear hK K
    try clear hHeld
    have hHeld := hNew
    clear hNew
    try simp only [Act.put, List.setIfInBounds_toArray, List.set_cons_zero, List.set_cons_succ]
    refine wpAnyH_take (i := 6) (v := ?_) rfl (by kernel_rfl) (by kernel_rfl) (by kernel_rfl) (fun _ _ _ h => h) (Or.inl ⟨by rfl, ?_⟩) (by assumption) ?_
    rotate_left 1
    · (intro wz hSw; (try dsimp only at hSw); go_simp; try (with_reducible rfl))
    change wpAnyH _ _ _ _ _ _ _ (Act.put _ (some 85) _) _
    try simp only [Act.put, List.setIfInBounds_toArray, List.set_cons_zero, List.set_cons_succ]
    refine wpAnyH_take (i := 7) (v := ?_) rfl (by kernel_rfl) (by kernel_rfl) (by kernel_rfl) (fun _ _ _ h => h) (Or.inl ⟨by rfl, ?_⟩) (by assumption) ?_
    rotate_left 1
    · (intro wz hSw; (try dsimp only at hSw); go_simp; try (with_reducible rfl))
    change wpAnyH _ _ _ _ _ _ _ (Act.put _ (some 86) _) _
    try simp only [Act.put, List.setIfInBounds_toArray, List.set_cons_zero, List.set_cons_succ]
    refine wpAnyH_take (i := 19) (v := ?_) rfl (by kernel_rfl) (by kernel_rfl) (by kernel_rfl) (fun _ _ _ h => h) (Or.inl ⟨by rfl, ?_⟩) (by assumption) ?_
    rotate_left 1
    · (intro wz hSw; (try dsimp only at hSw); go_simp; try (with_reducible rfl))
    change wpAnyH _ _ _ _ _ _ _ (Act.put _ (some 98) _) _
    try simp only [Act.put, List.setIfInBounds_toArray, List.set_cons_zero, List.set_cons_succ]
    refine wpAnyH_take (i := 20) rfl (by kernel_rfl) (by kernel_rfl) (by kernel_rfl) (fun _ _ _ h => h) (Or.inr ⟨by rfl, rfl⟩) (by assumption) ?_
    change wpAnyH _ _ _ _ _ _ _ (Act.put _ (some 99) _) _
    try simp only [Act.put, List.setIfInBounds_toArray, List.set_cons_zero, List.set_cons_succ]
    refine wpAnyH_take (i := 21) rfl (by kernel_rfl) (by kernel_rfl) (by kernel_rfl) (fun _ _ _ h => h) (Or.inr ⟨by rfl, rfl⟩) (by assumption) ?_
    change wpAnyH _ _ _ _ _ _ _ (Act.put _ (some 100) _) _
    try simp only [Act.put, List.setIfInBounds_toArray, List.set_cons_zero, List.set_cons_succ]
    refine wpAnyH_take (i := 22) rfl (by kernel_rfl) (by kernel_rfl) (by kernel_rfl) (fun _ _ _ h => h) (Or.inr ⟨by rfl, rfl⟩) (by assumption) ?_
    change wpAnyH _ _ _ _ _ _ _ (Act.put _ (some 101) _) _
    try simp only [Act.put, List.setIfInBounds_toArray, List.set_cons_zero, List.set_cons_succ]
    refine wpAnyH_take (i := 23) rfl (by kernel_rfl) (by kernel_rfl) (by kernel_rfl) (fun _ _ _ h => h) (Or.inr ⟨by rfl, rfl⟩) (by assumption) ?_
    change wpAnyH _ _ _ _ _ _ _ (Act.put _ (some 102) _) _
    try simp only [Act.put, List.setIfInBounds_toArray, List.set_cons_zero, List.set_cons_succ]
    refine wpAnyH_take (i := 24) rfl (by kernel_rfl) (by kernel_rfl) (by kernel_rfl) (fun _ _ _ h => h) (Or.inr ⟨by rfl, rfl⟩) (by assumption) ?_
    change wpAnyH _ _ _ _ _ _ _ (Act.put _ (some 103) _) _
    try simp only [Act.put, List.setIfInBounds_toArray, List.set_cons_zero, List.set_cons_succ]
    refine wpAnyH_take (i := 25) rfl (by kernel_rfl) (by kernel_rfl) (by kernel_rfl) (fun _ _ _ h => h) (Or.inr ⟨by rfl, rfl⟩) (by assumption) ?_
    change wpAnyH _ _ _ _ _ _ _ (Act.put _ (some 104) _) _
    try simp only [Act.put, List.setIfInBounds_toArray, List.set_cons_zero, List.set_cons_succ]
    refine wpAnyH_take (i := 26) (v := ?_) rfl (by kernel_rfl) (by kernel_rfl) (by kernel_rfl) (fun _ _ _ h => h) (Or.inl ⟨by rfl, ?_⟩) (by assumption) ?_
    rotate_left 1
    · (intro wz hSw; (try dsimp only at hSw); go_simp; try (with_reducible rfl))
    change wpAnyH _ _ _ _ _ _ _ (Act.put _ (some 105) _) _
    try simp only [Act.put, List.setIfInBounds_toArray, List.set_cons_zero, List.set_cons_succ]
    refine wpAnyH_take (i := 27) (v := ?_) rfl (by kernel_rfl) (by kernel_rfl) (by kernel_rfl) (fun _ _ _ h => h) (Or.inl ⟨by rfl, ?_⟩) (by assumption) ?_
    rotate_left 1
    · (intro wz hSw; (try dsimp only at hSw); go_simp; try (with_reducible rfl))
    change wpAnyH _ _ _ _ _ _ _ (Act.put _ (some 106) _) _
    try simp only [Act.put, List.setIfInBounds_toArray, List.set_cons_zero, List.set_cons_succ]
    refine wpAnyH_take (i := 28) rfl (by kernel_rfl) (by kernel_rfl) (by kernel_rfl) (fun _ _ _ h => h) (Or.inr ⟨by rfl, rfl⟩) (by assumption) ?_
    change wpAnyH _ _ _ _ _ _ _ (Act.put _ (some 107) _) _
    try simp only [Act.put, List.setIfInBounds_toArray, List.set_cons_zero, List.set_cons_succ]
    refine wpAnyH_take (i := 29) rfl (by kernel_rfl) (by kernel_rfl) (by kernel_rfl) (fun _ _ _ h => h) (Or.inr ⟨by rfl, rfl⟩) (by assumption) ?_
    change wpAnyH _ _ _ _ _ _ _ (Act.put _ (some 108) _) _
    try simp only [Act.put, List.setIfInBounds_toArray, List.set_cons_zero, List.set_cons_succ]
    refine wpAnyH_take (i := 30) rfl (by kernel_rfl) (by kernel_rfl) (by kernel_rfl) (fun _ _ _ h => h) (Or.inr ⟨by rfl, rfl⟩) (by assumption) ?_
    change wpAnyH _ _ _ _ _ _ _ (Act.put _ (some 109) _) _
    try simp only [Act.put, List.setIfInBounds_toArray, List.set_cons_zero, List.set_cons_succ]
    refine wpAnyH_take (i := 31) (v := ?_) rfl (by kernel_rfl) (by kernel_rfl) (by kernel_rfl) (fun _ _ _ h => h) (Or.inl ⟨by rfl, ?_⟩) (by assumption) ?_
    rotate_left 1
    · (intro wz hSw; (try dsimp only at hSw); go_simp; try (with_reducible rfl))
    change wpAnyH _ _ _ _ _ _ _ (Act.put _ (some 110) _) _
    try simp only [Act.put, List.setIfInBounds_toArray, List.set_cons_zero, List.set_cons_succ]
    refine wpAnyH_ready (rs := [8]) (by kernel_rfl) (by simp) ?_
    refine AllReadyH.cons rfl (fun K hK => ?_) AllReadyH.nil
    go_simp
    refine hK.out _ _ ?_ (fun hNew => ?_)
    · try go_split_ands
      refine KS5.out _ ?_ ?_
      · repeat' first
          | with_reducible assumption
          | with_reducible exact Kept.refl _ we
          | with_reducible refine Kept.drew ?_
          | with_reducible refine Kept.alloc ?_ _
          | with_reducible refine Kept.chain ?_ _ _ _ _ _ _ _ _
      · repeat' first
          | with_reducible assumption
          | with_reducible exact HTX.out
          | with_reducible refine TxRow.drew ?_
          | with_reducible refine TxRow.alloc ?_ _
          | with_reducible refine TxRow.chain ?_ _ _ _ _ _ _ _ _
    clear hK K
    try clear hHeld
    have hHeld := hNew
    clear hNew
    try simp only [Act.put, List.setIfInBounds_toArray, List.set_cons_zero, List.set_cons_succ]
    have HRW0 := Lib.hid (row_drew (heap_alloc_new we (.cells #[.int .i64 (IntKind.i64.wrap (1 + (r : Int))), .string ⟨#[119, 111, 114, 108, 100]⟩] 95)))
    have HTR0 := Lib.hid (TxRow.drew (TxRow.alloc HTX.out (.cells #[.int .i64 (IntKind.i64.wrap (1 + (r : Int))), .string ⟨#[119, 111, 114, 108, 100]⟩] 95)))
    generalize (we.alloc (.cells #[.int .i64 (IntKind.i64.wrap (1 + (r : Int))), .string ⟨#[119, 111, 114, 108, 100]⟩] 95)).drew = wr at HRW0 HTR0 hHeld ⊢
    refine wpAnyH_take (i := 14) (v := ?_) rfl (by kernel_rfl) (by kernel_rfl) (by kernel_rfl) (fun _ _ _ h => h) (Or.inl ⟨by rfl, ?_⟩) (by assumption) ?_
    rotate_left 1
    · (intro wz hSw; (try dsimp only at hSw); go_simp; try (with_reducible rfl))
    change wpAnyH _ _ _ _ _ _ _ (Act.put _ (some 93) _) _
    try simp only [Act.put, List.setIfInBounds_toArray, List.set_cons_zero, List.set_cons_succ]
    refine wpAnyH_ready (rs := [32]) (by kernel_rfl) (by simp) ?_
    refine AllReadyH.cons rfl (fun K hK => ?_) AllReadyH.nil
    go_simp
    go_wp2_with (first
      | (with_reducible refine upon_pass ?_; (try go_split_ands); obtain ⟨z0, z1, z2, z3, z4, z5, z6, z7, e0, e1, e2, e3, e4, e5, e6, e7, ef⟩ := TxRow.cells (show TxRow _ (w.heap.size + 1) by with_reducible assumption); go_simp)
      | fail)
    refine hK.out _ _ ?_ (fun hNew => ?_)
    · try go_split_ands
      refine KS5.out _ ?_ ?_
      · repeat' first
          | with_reducible assumption
          | with_reducible exact Kept.refl _ we
          | with_reducible refine Kept.drew ?_
          | with_reducible refine Kept.alloc ?_ _
          | with_reducible refine Kept.chain ?_ _ _ _ _ _ _ _ _
      · repeat' first
          | with_reducible assumption
          | with_reducible exact HTX.out
          | with_reducible refine TxRow.drew ?_
          | with_reducible refine TxRow.alloc ?_ _
          | with_reducible refine TxRow.chain ?_ _ _ _ _ _ _ _ _
    clear hK K
    try clear hHeld
    have hHeld := hNew
    clear hNew
    try simp only [Act.put, List.setIfInBounds_toArray, List.set_cons_zero, List.set_cons_succ]
    refine wpAnyH_take (i := 33) (v := ?_) rfl (by kernel_rfl) (by kernel_rfl) (by kernel_rfl) (fun _ _ _ h => h) (Or.inl ⟨by rfl, ?_⟩) (by assumption) ?_
    rotate_left 1
    · (intro wz hSw; (try dsimp only at hSw); go_simp; try (with_reducible rfl))
    change wpAnyH _ _ _ _ _ _ _ (Act.put _ (some 7) _) _
    try simp only [Act.put, List.setIfInBounds_toArray, List.set_cons_zero, List.set_cons_succ]
    refine wpAnyH_done (by kernel_rfl) ?_ _
    go_wp2_with fail
    refine ret_box_tmp 6 38 7 (w.heap.size + 1) _ (.bool false) Try.results61 ?_ ?_ (txnR_load (x := ⟨1, kp, o.s, [⟨IntKind.i64.wrap (1 + (r : Int)), ⟨#[119, 111, 114, 108, 100]⟩⟩], ow, IntKind.i64.wrap (qn.st.cver + 1)⟩) (y := ⟨some ⟨_, 0, none⟩, 1, 1, 0, none, 0, 0⟩) (TxRow.set8 ?_ _ _ _ _ _ _ _ _)) ?_ (fin_gen (we := we) rfl HSS.out HKwe.out ?_ ?_ HKPS.out HOB.out ⟨.inr (.inl rfl), HOW.out, rfl, ⟨rfl, rfl, rfl⟩, fun h => nomatch h⟩)
    all_goals first
      | with_reducible rfl
      | ((try go_split_ands); with_reducible assumption)
      | (repeat' first
          | with_reducible exact HTR0.out
          | with_reducible refine TxRow.drew ?_
         done)
      | (with_reducible refine row_chain ?_ ?_ _ _ _ _ _ _ _ _
         · repeat' first
             | with_reducible exact HTR0.out
             | with_reducible refine TxRow.drew ?_
         · exact HRW0.out)
      | exact rfl
  · have g1 : (qn.st.owner == 0) = true := by simp [h0]
    have g2 : decide ((R.N.length : Int) < 60) = false := decide_eq_false (by omega)
    have g2' : decide (R.N.length < 60) = false := decide_eq_false h1
    have g3 : ¬ ((R.N.length : Int) < 60) := by omega
    refine wp_region_held_drew (S := (fun W => W.cell? ⟨m, 7, none⟩ = some (.int .i64 qn.st.cver) ∧ W.cell? ⟨m, 9, none⟩ = some (.int .i64 qn.st.owner) ∧ W.cell? ⟨w.heap.size, 2, none⟩ = some (.int .i64 o.c) ∧ W.cell? ⟨w.heap.size, 3, none⟩ = some (.string o.s) ∧ W.cell? ⟨b, 0, none⟩ = some (.slice (some ⟨g, 0, none⟩) R.N.length ncap) ∧ Kept (fun k => k = w.heap.size + 1) we W ∧ TxRow W (w.heap.size + 1))) (by kernel_rfl) ?_ (fun hHeld => ?_)
    · try go_split_ands
      refine KS5.out _ ?_ ?_
      · repeat' first
          | with_reducible assumption
          | with_reducible exact Kept.refl _ we
          | with_reducible refine Kept.drew ?_
          | with_reducible refine Kept.alloc ?_ _
          | with_reducible refine Kept.chain ?_ _ _ _ _ _ _ _ _
      · repeat' first
          | with_reducible assumption
          | with_reducible exact HTX.out
          | with_reducible refine TxRow.drew ?_
          | with_reducible refine TxRow.alloc ?_ _
          | with_reducible refine TxRow.chain ?_ _ _ _ _ _ _ _ _
    refine wpAnyH_take (i := 0) (v := ?_) rfl (by kernel_rfl) (by kernel_rfl) (by kernel_rfl) (fun _ _ _ h => h) (Or.inl ⟨by rfl, ?_⟩) (by assumption) ?_
    rotate_left 1
    · (intro wz hSw; (try dsimp only at hSw); go_simp; try (with_reducible rfl))
    change wpAnyH _ _ _ _ _ _ _ (Act.put _ (some 79) _) _
    try simp only [Act.put, List.setIfInBounds_toArray, List.set_cons_zero, List.set_cons_succ]
    refine wpAnyH_take (i := 1) (v := ?_) rfl (by kernel_rfl) (by kernel_rfl) (by kernel_rfl) (fun _ _ _ h => h) (Or.inl ⟨by rfl, ?_⟩) (by assumption) ?_
    rotate_left 1
    · (intro wz hSw; (try dsimp only at hSw); go_simp; try (with_reducible rfl))
    change wpAnyH _ _ _ _ _ _ _ (Act.put _ (some 80) _) _
    try simp only [Act.put, List.setIfInBounds_toArray, List.set_cons_zero, List.set_cons_succ]
    refine wpAnyH_take (i := 2) (v := ?_) rfl (by kernel_rfl) (by kernel_rfl) (by kernel_rfl) (fun _ _ _ h => h) (Or.inl ⟨by rfl, ?_⟩) (by assumption) ?_
    rotate_left 1
    · (intro wz hSw; (try dsimp only at hSw); go_simp; try (with_reducible rfl))
    change wpAnyH _ _ _ _ _ _ _ (Act.put _ (some 81) _) _
    try simp only [Act.put, List.setIfInBounds_toArray, List.set_cons_zero, List.set_cons_succ]
    refine wpAnyH_take (i := 3) (v := ?_) rfl (by kernel_rfl) (by kernel_rfl) (by kernel_rfl) (fun _ _ _ h => h) (Or.inl ⟨by rfl, ?_⟩) (by assumption) ?_
    rotate_left 1
    · (intro wz hSw; (try dsimp only at hSw); go_simp; try (with_reducible rfl))
    change wpAnyH _ _ _ _ _ _ _ (Act.put _ (some 82) _) _
    try simp only [Act.put, List.setIfInBounds_toArray, List.set_cons_zero, List.set_cons_succ]
    refine wpAnyH_take (i := 4) (v := ?_) rfl (by kernel_rfl) (by kernel_rfl) (by kernel_rfl) (fun _ _ _ h => h) (Or.inl ⟨by rfl, ?_⟩) (by assumption) ?_
    rotate_left 1
    · (intro wz hSw; (try dsimp only at hSw); go_simp; try (with_reducible rfl))
    change wpAnyH _ _ _ _ _ _ _ (Act.put _ (some 83) _) _
    try simp only [Act.put, List.setIfInBounds_toArray, List.set_cons_zero, List.set_cons_succ]
    refine wpAnyH_take (i := 9) (v := ?_) rfl (by kernel_rfl) (by kernel_rfl) (by kernel_rfl) (fun _ _ _ h => h) (Or.inl ⟨by rfl, ?_⟩) (by assumption) ?_
    rotate_left 1
    · (intro wz hSw; (try dsimp only at hSw); go_simp; try (with_reducible rfl))
    change wpAnyH _ _ _ _ _ _ _ (Act.put _ (some 88) _) _
    try simp only [Act.put, List.setIfInBounds_toArray, List.set_cons_zero, List.set_cons_succ]
    refine wpAnyH_take (i := 10) (v := ?_) rfl (by kernel_rfl) (by kernel_rfl) (by kernel_rfl) (fun _ _ _ h => h) (Or.inl ⟨by rfl, ?_⟩) (by assumption) ?_
    rotate_left 1
    · (intro wz hSw; (try dsimp only at hSw); go_simp; try (with_reducible rfl))
    change wpAnyH _ _ _ _ _ _ _ (Act.put _ (some 89) _) _
    try simp only [Act.put, List.setIfInBounds_toArray, List.set_cons_zero, List.set_cons_succ]
    refine wpAnyH_take (i := 11) (v := ?_) rfl (by kernel_rfl) (by kernel_rfl) (by kernel_rfl) (fun _ _ _ h => h) (Or.inl ⟨by rfl, ?_⟩) (by assumption) ?_
    rotate_left 1
    · (intro wz hSw; (try dsimp only at hSw); go_simp; try (with_reducible rfl))
    change wpAnyH _ _ _ _ _ _ _ (Act.put _ (some 90) _) _
    try simp only [Act.put, List.setIfInBounds_toArray, List.set_cons_zero, List.set_cons_succ]
    refine wpAnyH_take (i := 12) (v := ?_) rfl (by kernel_rfl) (by kernel_rfl) (by kernel_rfl) (fun _ _ _ h => h) (Or.inl ⟨by rfl, ?_⟩) (by assumption) ?_
    rotate_left 1
    · (intro wz hSw; (try dsimp only at hSw); go_simp; try (with_reducible rfl))
    change wpAnyH _ _ _ _ _ _ _ (Act.put _ (some 91) _) _
    try simp only [Act.put, List.setIfInBounds_toArray, List.set_cons_zero, List.set_cons_succ]
    refine wpAnyH_take (i := 13) (v := ?_) rfl (by kernel_rfl) (by kernel_rfl) (by kernel_rfl) (fun _ _ _ h => h) (Or.inl ⟨by rfl, ?_⟩) (by assumption) ?_
    rotate_left 1
    · (intro wz hSw; (try dsimp only at hSw); go_simp; try (with_reducible rfl))
    change wpAnyH _ _ _ _ _ _ _ (Act.put _ (some 92) _) _
    try simp only [Act.put, List.setIfInBounds_toArray, List.set_cons_zero, List.set_cons_succ]
    refine wpAnyH_take (i := 15) (v := ?_) rfl (by kernel_rfl) (by kernel_rfl) (by kernel_rfl) (fun _ _ _ h => h) (Or.inl ⟨by rfl, ?_⟩) (by assumption) ?_
    rotate_left 1
    · (intro wz hSw; (try dsimp only at hSw); go_simp; try (with_reducible rfl))
    change wpAnyH _ _ _ _ _ _ _ (Act.put _ (some 94) _) _
    try simp only [Act.put, List.setIfInBounds_toArray, List.set_cons_zero, List.set_cons_succ]
    refine wpAnyH_take (i := 16) (v := ?_) rfl (by kernel_rfl) (by kernel_rfl) (by kernel_rfl) (fun _ _ _ h => h) (Or.inl ⟨by rfl, ?_⟩) (by assumption) ?_
    rotate_left 1
    · (intro wz hSw; (try dsimp only at hSw); go_simp; try (with_reducible rfl))
    change wpAnyH _ _ _ _ _ _ _ (Act.put _ (some 95) _) _
    try simp only [Act.put, List.setIfInBounds_toArray, List.set_cons_zero, List.set_cons_succ]
    refine wpAnyH_take (i := 17) (v := ?_) rfl (by kernel_rfl) (by kernel_rfl) (by kernel_rfl) (fun _ _ _ h => h) (Or.inl ⟨by rfl, ?_⟩) (by assumption) ?_
    rotate_left 1
    · (intro wz hSw; (try dsimp only at hSw); go_simp; try (with_reducible rfl))
    change wpAnyH _ _ _ _ _ _ _ (Act.put _ (some 96) _) _
    try simp only [Act.put, List.setIfInBounds_toArray, List.set_cons_zero, List.set_cons_succ]
    refine wpAnyH_take (i := 18) (v := ?_) rfl (by kernel_rfl) (by kernel_rfl) (by kernel_rfl) (fun _ _ _ h => h) (Or.inl ⟨by rfl, ?_⟩) (by assumption) ?_
    rotate_left 1
    · (intro wz hSw; (try dsimp only at hSw); go_simp; try (with_reducible rfl))
    change wpAnyH _ _ _ _ _ _ _ (Act.put _ (some 97) _) _
    try simp only [Act.put, List.setIfInBounds_toArray, List.set_cons_zero, List.set_cons_succ]
    refine wpAnyH_ready (rs := [5]) (by kernel_rfl) (by simp) ?_
    refine AllReadyH.cons rfl (fun K hK => ?_) AllReadyH.nil
    go_simp
    go_at_call 13
    refine (HPR.out _).mono ?_
    rintro ee w2 ⟨rfl, rfl⟩
    try go_wp2_with fail
    refine hK.out _ _ ?_ (fun hNew => ?_)
    · try go_split_ands
      refine KS5.out _ ?_ ?_
      · repeat' first
          | with_reducible assumption
          | with_reducible exact Kept.refl _ we
          | with_reducible refine Kept.drew ?_
          | with_reducible refine Kept.alloc ?_ _
          | with_reducible refine Kept.chain ?_ _ _ _ _ _ _ _ _
      · repeat' first
          | with_reducible assumption
          | with_reducible exact HTX.out
          | with_reducible refine TxRow.drew ?_
          | with_reducible refine TxRow.alloc ?_ _
          | with_reducible refine TxRow.chain ?_ _ _ _ _ _ _ _ _
    clear hK K
    try clear hHeld
    have hHeld := hNew
    clear hNew
    try simp only [Act.put, List.setIfInBounds_toArray, List.set_cons_zero, List.set_cons_succ]
    refine wpAnyH_take (i := 6) (v := ?_) rfl (by kernel_rfl) (by kernel_rfl) (by kernel_rfl) (fun _ _ _ h => h) (Or.inl ⟨by rfl, ?_⟩) (by assumption) ?_
    rotate_left 1
    · (intro wz hSw; (try dsimp only at hSw); go_simp; try (with_reducible rfl))
    change wpAnyH _ _ _ _ _ _ _ (Act.put _ (some 85) _) _
    try simp only [Act.put, List.setIfInBounds_toArray, List.set_cons_zero, List.set_cons_succ]
    refine wpAnyH_take (i := 7) (v := ?_) rfl (by kernel_rfl) (by kernel_rfl) (by kernel_rfl) (fun _ _ _ h => h) (Or.inl ⟨by rfl, ?_⟩) (by assumption) ?_
    rotate_left 1
    · (intro wz hSw; (try dsimp only at hSw); go_simp; try (with_reducible rfl))
    change wpAnyH _ _ _ _ _ _ _ (Act.put _ (some 86) _) _
    try simp only [Act.put, List.setIfInBounds_toArray, List.set_cons_zero, List.set_cons_succ]
    refine wpAnyH_take (i := 19) (v := ?_) rfl (by kernel_rfl) (by kernel_rfl) (by kernel_rfl) (fun _ _ _ h => h) (Or.inl ⟨by rfl, ?_⟩) (by assumption) ?_
    rotate_left 1
    · (intro wz hSw; (try dsimp only at hSw); go_simp; try (with_reducible rfl))
    change wpAnyH _ _ _ _ _ _ _ (Act.put _ (some 98) _) _
    try simp only [Act.put, List.setIfInBounds_toArray, List.set_cons_zero, List.set_cons_succ]
    refine wpAnyH_take (i := 20) (v := ?_) rfl (by kernel_rfl) (by kernel_rfl) (by kernel_rfl) (fun _ _ _ h => h) (Or.inl ⟨by rfl, ?_⟩) (by assumption) ?_
    rotate_left 1
    · (intro wz hSw; (try dsimp only at hSw); go_simp; try (with_reducible rfl))
    change wpAnyH _ _ _ _ _ _ _ (Act.put _ (some 99) _) _
    try simp only [Act.put, List.setIfInBounds_toArray, List.set_cons_zero, List.set_cons_succ]
    refine wpAnyH_take (i := 21) (v := ?_) rfl (by kernel_rfl) (by kernel_rfl) (by kernel_rfl) (fun _ _ _ h => h) (Or.inl ⟨by rfl, ?_⟩) (by assumption) ?_
    rotate_left 1
    · (intro wz hSw; (try dsimp only at hSw); go_simp; try (with_reducible rfl))
    change wpAnyH _ _ _ _ _ _ _ (Act.put _ (some 100) _) _
    try simp only [Act.put, List.setIfInBounds_toArray, List.set_cons_zero, List.set_cons_succ]
    refine wpAnyH_take (i := 22) (v := ?_) rfl (by kernel_rfl) (by kernel_rfl) (by kernel_rfl) (fun _ _ _ h => h) (Or.inl ⟨by rfl, ?_⟩) (by assumption) ?_
    rotate_left 1
    · (intro wz hSw; (try dsimp only at hSw); go_simp; try (with_reducible rfl))
    change wpAnyH _ _ _ _ _ _ _ (Act.put _ (some 101) _) _
    try simp only [Act.put, List.setIfInBounds_toArray, List.set_cons_zero, List.set_cons_succ]
    refine wpAnyH_take (i := 23) (v := ?_) rfl (by kernel_rfl) (by kernel_rfl) (by kernel_rfl) (fun _ _ _ h => h) (Or.inl ⟨by rfl, ?_⟩) (by assumption) ?_
    rotate_left 1
    · (intro wz hSw; (try dsimp only at hSw); go_simp; try (with_reducible rfl))
    change wpAnyH _ _ _ _ _ _ _ (Act.put _ (some 102) _) _
    try simp only [Act.put, List.setIfInBounds_toArray, List.set_cons_zero, List.set_cons_succ]
    refine wpAnyH_take (i := 24) (v := ?_) rfl (by kernel_rfl) (by kernel_rfl) (by kernel_rfl) (fun _ _ _ h => h) (Or.inl ⟨by rfl, ?_⟩) (by assumption) ?_
    rotate_left 1
    · (intro wz hSw; (try dsimp only at hSw); go_simp; try (with_reducible rfl))
    change wpAnyH _ _ _ _ _ _ _ (Act.put _ (some 103) _) _
    try simp only [Act.put, List.setIfInBounds_toArray, List.set_cons_zero, List.set_cons_succ]
    refine wpAnyH_take (i := 25) (v := ?_) rfl (by kernel_rfl) (by kernel_rfl) (by kernel_rfl) (fun _ _ _ h => h) (Or.inl ⟨by rfl, ?_⟩) (by assumption) ?_
    rotate_left 1
    · (intro wz hSw; (try dsimp only at hSw); go_simp; try (with_reducible rfl))
    change wpAnyH _ _ _ _ _ _ _ (Act.put _ (some 104) _) _
    try simp only [Act.put, List.setIfInBounds_toArray, List.set_cons_zero, List.set_cons_succ]
    refine wpAnyH_take (i := 26) (v := ?_) rfl (by kernel_rfl) (by kernel_rfl) (by kernel_rfl) (fun _ _ _ h => h) (Or.inl ⟨by rfl, ?_⟩) (by assumption) ?_
    rotate_left 1
    · (intro wz hSw; (try dsimp only at hSw); go_simp; try (with_reducible rfl))
    change wpAnyH _ _ _ _ _ _ _ (Act.put _ (some 105) _) _
    try simp only [Act.put, List.setIfInBounds_toArray, List.set_cons_zero, List.set_cons_succ]
    refine wpAnyH_take (i := 27) (v := ?_) rfl (by kernel_rfl) (by kernel_rfl) (by kernel_rfl) (fun _ _ _ h => h) (Or.inl ⟨by rfl, ?_⟩) (by assumption) ?_
    rotate_left 1
    · (intro wz hSw; (try dsimp only at hSw); go_simp; try (with_reducible rfl))
    change wpAnyH _ _ _ _ _ _ _ (Act.put _ (some 106) _) _
    try simp only [Act.put, List.setIfInBounds_toArray, List.set_cons_zero, List.set_cons_succ]
    refine wpAnyH_take (i := 28) rfl (by kernel_rfl) (by kernel_rfl) (by kernel_rfl) (fun _ _ _ h => h) (Or.inr ⟨by rfl, rfl⟩) (by assumption) ?_
    change wpAnyH _ _ _ _ _ _ _ (Act.put _ (some 107) _) _
    try simp only [Act.put, List.setIfInBounds_toArray, List.set_cons_zero, List.set_cons_succ]
    refine wpAnyH_take (i := 29) rfl (by kernel_rfl) (by kernel_rfl) (by kernel_rfl) (fun _ _ _ h => h) (Or.inr ⟨by rfl, rfl⟩) (by assumption) ?_
    change wpAnyH _ _ _ _ _ _ _ (Act.put _ (some 108) _) _
    try simp only [Act.put, List.setIfInBounds_toArray, List.set_cons_zero, List.set_cons_succ]
    refine wpAnyH_take (i := 30) rfl (by kernel_rfl) (by kernel_rfl) (by kernel_rfl) (fun _ _ _ h => h) (Or.inr ⟨by rfl, rfl⟩) (by assumption) ?_
    change wpAnyH _ _ _ _ _ _ _ (Act.put _ (some 109) _) _
    try simp only [Act.put, List.setIfInBounds_toArray, List.set_cons_zero, List.set_cons_succ]
    refine wpAnyH_take (i := 31) (v := ?_) rfl (by kernel_rfl) (by kernel_rfl) (by kernel_rfl) (fun _ _ _ h => h) (Or.inl ⟨by rfl, ?_⟩) (by assumption) ?_
    rotate_left 1
    · (intro wz hSw; (try dsimp only at hSw); go_simp; try (with_reducible rfl))
    change wpAnyH _ _ _ _ _ _ _ (Act.put _ (some 110) _) _
    try simp only [Act.put, List.setIfInBounds_toArray, List.set_cons_zero, List.set_cons_succ]
    refine wpAnyH_ready (rs := [8]) (by kernel_rfl) (by simp) ?_
    refine AllReadyH.cons rfl (fun K hK => ?_) AllReadyH.nil
    go_simp
    refine hK.out _ _ ?_ (fun hNew => ?_)
    · try go_split_ands
      refine KS5.out _ ?_ ?_
      · repeat' first
          | with_reducible assumption
          | with_reducible exact Kept.refl _ we
          | with_reducible refine Kept.drew ?_
          | with_reducible refine Kept.alloc ?_ _
          | with_reducible refine Kept.chain ?_ _ _ _ _ _ _ _ _
      · repeat' first
          | with_reducible assumption
          | with_reducible exact HTX.out
          | with_reducible refine TxRow.drew ?_
          | with_reducible refine TxRow.alloc ?_ _
          | with_reducible refine TxRow.chain ?_ _ _ _ _ _ _ _ _
    clear hK K
    try clear hHeld
    have hHeld := hNew
    clear hNew
    try simp only [Act.put, List.setIfInBounds_toArray, List.set_cons_zero, List.set_cons_succ]
    have HRW0 := Lib.hid (row_drew (heap_alloc_new we (.cells #[.int .i64 (IntKind.i64.wrap (1 + (r : Int))), .string ⟨#[119, 111, 114, 108, 100]⟩] 95)))
    have HTR0 := Lib.hid (TxRow.drew (TxRow.alloc HTX.out (.cells #[.int .i64 (IntKind.i64.wrap (1 + (r : Int))), .string ⟨#[119, 111, 114, 108, 100]⟩] 95)))
    generalize (we.alloc (.cells #[.int .i64 (IntKind.i64.wrap (1 + (r : Int))), .string ⟨#[119, 111, 114, 108, 100]⟩] 95)).drew = wr at HRW0 HTR0 hHeld ⊢
    refine wpAnyH_take (i := 14) (v := ?_) rfl (by kernel_rfl) (by kernel_rfl) (by kernel_rfl) (fun _ _ _ h => h) (Or.inl ⟨by rfl, ?_⟩) (by assumption) ?_
    rotate_left 1
    · (intro wz hSw; (try dsimp only at hSw); go_simp; try (with_reducible rfl))
    change wpAnyH _ _ _ _ _ _ _ (Act.put _ (some 93) _) _
    try simp only [Act.put, List.setIfInBounds_toArray, List.set_cons_zero, List.set_cons_succ]
    refine wpAnyH_ready (rs := [32]) (by kernel_rfl) (by simp) ?_
    refine AllReadyH.cons rfl (fun K hK => ?_) AllReadyH.nil
    go_simp
    go_wp2_with (first
      | (with_reducible refine upon_pass ?_; (try go_split_ands); obtain ⟨z0, z1, z2, z3, z4, z5, z6, z7, e0, e1, e2, e3, e4, e5, e6, e7, ef⟩ := TxRow.cells (show TxRow _ (w.heap.size + 1) by with_reducible assumption); go_simp)
      | fail)
    refine hK.out _ _ ?_ (fun hNew => ?_)
    · try go_split_ands
      refine KS5.out _ ?_ ?_
      · repeat' first
          | with_reducible assumption
          | with_reducible exact Kept.refl _ we
          | with_reducible refine Kept.drew ?_
          | with_reducible refine Kept.alloc ?_ _
          | with_reducible refine Kept.chain ?_ _ _ _ _ _ _ _ _
      · repeat' first
          | with_reducible assumption
          | with_reducible exact HTX.out
          | with_reducible refine TxRow.drew ?_
          | with_reducible refine TxRow.alloc ?_ _
          | with_reducible refine TxRow.chain ?_ _ _ _ _ _ _ _ _
    clear hK K
    try clear hHeld
    have hHeld := hNew
    clear hNew
    try simp only [Act.put, List.setIfInBounds_toArray, List.set_cons_zero, List.set_cons_succ]
    refine wpAnyH_take (i := 33) (v := ?_) rfl (by kernel_rfl) (by kernel_rfl) (by kernel_rfl) (fun _ _ _ h => h) (Or.inl ⟨by rfl, ?_⟩) (by assumption) ?_
    rotate_left 1
    · (intro wz hSw; (try dsimp only at hSw); go_simp; try (with_reducible rfl))
    change wpAnyH _ _ _ _ _ _ _ (Act.put _ (some 7) _) _
    try simp only [Act.put, List.setIfInBounds_toArray, List.set_cons_zero, List.set_cons_succ]
    refine wpAnyH_done (by kernel_rfl) ?_ _
    go_wp2_with fail
    refine ret_box_tmp 6 38 7 (w.heap.size + 1) _ (.bool false) Try.results61 ?_ ?_ (txnR_load (x := ⟨1, kp, o.s, [⟨IntKind.i64.wrap (1 + (r : Int)), ⟨#[119, 111, 114, 108, 100]⟩⟩], ow, IntKind.i64.wrap (qn.st.cver + 1)⟩) (y := ⟨some ⟨_, 0, none⟩, 1, 1, 0, none, 0, 0⟩) (TxRow.set8 ?_ _ _ _ _ _ _ _ _)) ?_ (fin_gen (we := we) rfl HSS.out HKwe.out ?_ ?_ HKPS.out HOB.out ⟨.inr (.inl rfl), HOW.out, rfl, ⟨rfl, rfl, rfl⟩, fun h => nomatch h⟩)
    all_goals first
      | with_reducible rfl
      | ((try go_split_ands); with_reducible assumption)
      | (repeat' first
          | with_reducible exact HTR0.out
          | with_reducible refine TxRow.drew ?_
         done)
      | (with_reducible refine row_chain ?_ ?_ _ _ _ _ _ _ _ _
         · repeat' first
             | with_reducible exact HTR0.out
             | with_reducible refine TxRow.drew ?_
         · exact HRW0.out)
      | exact rfl
  · have g1 : (qn.st.owner == 0) = true := by simp [h0]
    have g2 : decide ((R.N.length : Int) < 60) = true := decide_eq_true (by omega)
    have g2' : decide (R.N.length < 60) = true := decide_eq_true h1
    have g3 : ((R.N.length : Int) < 60) := by omega
    go_region_held3 (fun W => W.cell? ⟨m, 7, none⟩ = some (.int .i64 qn.st.cver) ∧ W.cell? ⟨m, 9, none⟩ = some (.int .i64 qn.st.owner) ∧ W.cell? ⟨w.heap.size, 2, none⟩ = some (.int .i64 o.c) ∧ W.cell? ⟨w.heap.size, 3, none⟩ = some (.string o.s) ∧ W.cell? ⟨b, 0, none⟩ = some (.slice (some ⟨g, 0, none⟩) R.N.length ncap) ∧ Kept (fun k => k = w.heap.size + 1) we W ∧ TxRow W (w.heap.size + 1))
      (first
        | ((try go_split_ands)
           refine KS5.out _ ?_ ?_
           repeat' first
             | with_reducible assumption
             | with_reducible exact Kept.refl _ we
             | with_reducible refine Kept.drew ?_
             | with_reducible refine Kept.alloc ?_ _
             | with_reducible refine Kept.chain ?_ _ _ _ _ _ _ _ _
             | with_reducible refine Kept.thru ?_ (by with_reducible assumption)
           repeat' first
             | with_reducible assumption
             | with_reducible exact HTX.out
             | with_reducible refine TxRow.drew ?_
             | with_reducible refine TxRow.alloc ?_ _
             | with_reducible refine TxRow.chain ?_ _ _ _ _ _ _ _ _
             | with_reducible refine TxRow.kept0 ?_ (by with_reducible assumption)))
      (first
        | (go_at_call 13; with_reducible refine (HPR.out _).mono ?_; rintro ee w2 ⟨rfl, rfl⟩)
        | (go_at_call 84; with_reducible refine (HCK.out _).mono ?_; rintro ee w2 ⟨rfl, hk2⟩)
        | (with_reducible refine upon_pass ?_; (try go_split_ands); obtain ⟨z0, z1, z2, z3, z4, z5, z6, z7, e0, e1, e2, e3, e4, e5, e6, e7, ef⟩ := TxRow.cells (show TxRow _ (w.heap.size + 1) by with_reducible assumption); go_simp)
        | fail)
    all_goals go_wp2_with fail
    all_goals refine ret_box_tmp 6 38 7 (w.heap.size + 1) _ (.bool gg) Try.results61 ?_ ?_ (txnR_load (x := ⟨1, kp, o.s, [⟨IntKind.i64.wrap (1 + (r : Int)), ⟨#[119, 111, 114, 108, 100]⟩⟩], ow, IntKind.i64.wrap (qn.st.cver + 1)⟩) (y := ⟨some ⟨_, 0, none⟩, 1, 1, 0, none, 0, 0⟩) (TxRow.set8 ?_ _ _ _ _ _ _ _ _)) ?_ (fin_gen (we := we) rfl HSS.out HKwe.out ?_ ?_ HKPS.out HOB.out ⟨.inr (.inl rfl), HOW.out, rfl, ⟨rfl, rfl, rfl⟩, fun _ => by simp⟩)
    all_goals first
      | with_reducible rfl
      | ((try go_split_ands); with_reducible assumption)
      | (repeat' first
          | with_reducible exact HTX.out
          | with_reducible refine TxRow.alloc ?_ _
          | with_reducible refine TxRow.drew ?_
          | with_reducible refine TxRow.kept0 ?_ (by with_reducible assumption)
         done)
      | (with_reducible refine row_chain ?_ ?_ _ _ _ _ _ _ _ _
         · repeat' first
             | with_reducible exact HTX.out
             | with_reducible refine TxRow.alloc ?_ _
             | with_reducible refine TxRow.drew ?_
             | with_reducible refine TxRow.kept0 ?_ (by with_reducible assumption)
         · first
             | with_reducible exact heap_alloc_new _ _
             | (with_reducible refine box_kept0 ?_ (by with_reducible assumption)
                exact heap_alloc_new we _))
      | exact rfl
end Go.Proofs.Ytjlffmkiiphfcaa
