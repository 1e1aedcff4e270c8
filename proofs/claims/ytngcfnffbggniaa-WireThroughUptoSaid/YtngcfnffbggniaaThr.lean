/- WireThrough: the walk. -/
import Derived.Test.YtngcfnffbggniaaThm
import Derived.Test.YtngcfnffbggniaaGotem
import Derived.Test.YtngcfnffbggniaaWawake
import Derived.Deep.DeepCutAuto
import Derived.WalkSpells
import Derived.Outline
namespace Go.Proofs.Ytngcfnffbggniaa.wireThrough
open Go.ChangeShapes Go.WideShapes Go.ChangeAt Go.RowKit
set_option linter.unusedVariables false

set_option maxRecDepth 100000 in
set_option maxHeartbeats 1600000 in
theorem walk0 (x : Entry) (y : Message) (ce cm : List Value) (ok : Nat → Prop) (cut : Int) (w : World) (hE : entryE w ok ce x) (hM : messageE w ok cm y) (hi : In w ok) (hc : I64 cut) (hx : (entryF.lay x).length ≤ 20000000) (hy : (messageF.lay y).length ≤ 20000000) :
    Calls Try.prog 7 #[.agg ce.toArray, .agg cm.toArray, .int .i64 cut] w fun e w' => e = .returned (.bool true) ∧ Old w w' := by
  have HSZ_e := Lib.hid (show (Try.prog.info? 28).map (·.size) = some 11 by kernel_rfl)
  have HSZ_m := Lib.hid (show (Try.prog.info? 62).map (·.size) = some 19 by kernel_rfl)
  have HSZ_l := Lib.hid (show (Try.prog.info? 60).map (·.size) = some 1 by kernel_rfl)
  have HZR_e := Lib.hid (show ((Try.prog.info? 28).bind (·.zero)).isSome = true by kernel_rfl)
  have HLE := Lib.hid (entryE_flat hE).1
  have HLM := Lib.hid (messageE_flat hM).1
  obtain ⟨s, hs⟩ : ∃ s : ByteArray, (⟨(entryF.lay x).toArray⟩ : ByteArray) = s := ⟨_, rfl⟩
  have hsl : s.data.toList = entryF.lay x := by rw [← hs]
  have hsz : s.size = (entryF.lay x).length := by rw [← hsl, str_len]
  have hml := message_len y [x] (by simp)
  have hl1 : layN entryF [x] = entryF.lay x := by simp [layN]
  rw [hl1] at hml
  clear hl1
  obtain ⟨z, hz⟩ : ∃ z, withEntries y [x] = z := ⟨_, rfl⟩
  obtain ⟨t, ht⟩ : ∃ t : ByteArray, (⟨(messageF.lay z).toArray⟩ : ByteArray) = t := ⟨_, rfl⟩
  have htl : t.data.toList = messageF.lay z := by rw [← ht]
  have htz : t.size = (messageF.lay z).length := by rw [← htl, str_len]
  have HS := Lib.hid hs; clear hs
  have HT := Lib.hid ht; clear ht
  have HZ := Lib.hid hz; clear hz
  rw [HZ.out] at hml
  have hpe := lay_pos_entry x
  have hpm := lay_pos_message z
  have HC : Hid ((entryF.read s = some x ∧ (messageF.read t = some z ∨ messageF.read t = none)) ∨ (entryF.read s = none ∧ messageF.read t = none)) := Lib.hid (by
    rcases read_of_lay entryF_ok hsl with ⟨h1, h2⟩ | ⟨h1, h2⟩
    · rcases read_of_lay messageF_ok htl with ⟨h3, h4⟩ | ⟨h3, h4⟩
      · exact Or.inl ⟨h1, Or.inl h3⟩
      · exact Or.inl ⟨h1, Or.inr h3⟩
    · rcases read_of_lay messageF_ok htl with ⟨h3, h4⟩ | ⟨h3, h4⟩
      · rw [← HZ.out] at h4
        exact absurd (message_fits h4 x (by simp)) h2
      · exact Or.inr ⟨h1, h3⟩)
  have HSL := Lib.hid hsl; clear hsl
  have HTL := Lib.hid htl; clear htl
  have HSX := Lib.hid hsz
  have HTX := Lib.hid htz
  have hs1 : 0 < s.size := by omega
  have hs2 : s.size ≤ 20000000 := by omega
  have ht1 : 0 < t.size := by omega
  have ht2 : t.size ≤ 50000000 := by omega
  clear hsz htz hml hpe hpm
  go_enter Try.func7, Try.ntmps7
  go_wp2_with fail
  refine (wawake_any _).mono ?_
  rintro en w2 ⟨rfl, hO2⟩
  have hb0 : w2.heap[w.heap.size]? = some (.cells ce.toArray 28 (0, 0)) := by
    rw [hO2.block _ (by simp; omega) id]
    rw [((Kept.refl (fun _ => False) (w.alloc (.cells ce.toArray 28))).alloc (.cells cm.toArray 62)).block _ (by simp) id]
    exact heap_alloc_new w _
  have hb1 : w2.heap[w.heap.size + 1]? = some (.cells cm.toArray 62 (0, 0)) := by
    rw [hO2.block _ (by simp) id]
    have h := heap_alloc_new (w.alloc (.cells ce.toArray 28)) (.cells cm.toArray 62)
    rwa [show (w.alloc (.cells ce.toArray 28)).heap.size = w.heap.size + 1 from by simp] at h
  have hP2 : Old w w2 := (((Old.refl w).alloc _).alloc _).none hO2
  have hsz2 : w.heap.size + 2 ≤ w2.heap.size := by have := hO2.size; simp at this; omega
  have HB0 := Lib.hid hb0; clear hb0
  have HB1 := Lib.hid hb1; clear hb1
  have HP2 := Lib.hid hP2; clear hP2 hO2
  have HRG0 := Lib.hid (range_row HB0.out)
  have HCL : Hid ((w2.alloc (.cells ce.toArray 28)).heap[w.heap.size + 1]? = some (.cells cm.toArray 62 (0, 0))) := Lib.hid (by
    rw [((Old.refl w2).alloc (.cells ce.toArray 28)).block _ (by omega) id]; exact HB1.out)
  go_upto_region 3 with (first | (refine wpList_load_mid rfl 28 (.tmp 3) rfl w.heap.size 0 rfl ce _ HRG0.out Try.underlying28 rfl (by rw [HLE.out]; exact HSZ_e.out) ?_) | (refine wpList_build_one rfl 60 28 (.tmp 23) rfl ce 11 rfl Try.underlying60 HSZ_e.out HZR_e.out HLE.out (by decide) (by decide) ?_) | (refine wpList_store_at rfl 60 (.tmp 25) (.tmp 24) rfl (w.heap.size + 1) 7 (.slice (some ⟨w2.heap.size, 0, none⟩) 1 1) rfl rfl rfl cm 62 HCL.out (by rw [HLM.out]; decide) HSZ_l.out ?_))
  generalize hw4 : (w2.alloc (.cells ce.toArray 28)).setRow (w.heap.size + 1) (cm.set 7 (.slice (some ⟨w2.heap.size, 0, none⟩) 1 1)).toArray = w4
  have hK4 : Kept (fun k => k = w.heap.size + 1) w2 w4 := by
    rw [← hw4]; exact Kept.trans' ((Kept.refl _ w2).alloc _) (setRow_kept _ _ _) (fun _ _ s => s)
  have hz4 : w2.heap.size + 1 = w4.heap.size := by rw [← hw4]; simp
  have hb0 : w4.heap[w.heap.size]? = some (.cells ce.toArray 28 (0, 0)) := by rw [hK4.block _ (by omega) (by omega)]; exact HB0.out
  have hb1 : w4.heap[w.heap.size + 1]? = some (.cells (cm.set 7 (.slice (some ⟨w2.heap.size, 0, none⟩) 1 1)).toArray 62 (0, 0)) := by
    rw [← hw4]; exact setRow_heap _ _ _ _ _ _ HCL.out
  have hb2 : w4.heap[w2.heap.size]? = some (.cells ce.toArray 28 (0, 0)) := by
    rw [← hw4, setRow_other _ _ _ _ (by omega)]; exact heap_alloc_new w2 _
  have hO4 : Old w w4 := HP2.out.step hK4 (fun k hk => by omega)
  have hd4 : Disj ok (fun k => k = w.heap.size + 1) := fun g hg hs => by have := hi g hg; omega
  have hE4 : entryE w4 ok ce x := entryE_ok.keep hE hO4 (disj_none _)
  have hM4 : messageE w4 (fun k => ok k ∨ k = w2.heap.size) (cm.set 7 (.slice (some ⟨w2.heap.size, 0, none⟩) 1 1)) z := by
    rw [← HZ.out]
    exact messageE_set (messageE_ok.keep hM hO4 (disj_none _)) (fun k _ h => Or.inl h) (one_entry hb2 (Or.inr rfl) (entryE_ok.mono hE4 (fun k _ h => Or.inl h)))
  have hi4 : In w4 ok := fun k hk => by have := hi k hk; omega
  have hi4' : In w4 (fun k => ok k ∨ k = w2.heap.size) := fun k hk => by
    rcases hk with hk | hk
    · have := hi k hk; omega
    · omega
  have HLM4 : Hid ((cm.set 7 (.slice (some ⟨w2.heap.size, 0, none⟩) 1 1)).length = 19) := Lib.hid (by rw [List.length_set]; exact HLM.out)
  have hs4 : w.heap.size + 2 ≤ w4.heap.size := by omega
  generalize cm.set 7 (.slice (some ⟨w2.heap.size, 0, none⟩) 1 1) = cm4 at hb1 hM4 HLM4 hw4
  generalize hok4 : (fun k => ok k ∨ k = w2.heap.size) = ok4 at hM4 hi4'
  clear hw4 hok4 HCL HRG0 HB0 HB1 HP2 hK4 hz4 hb2 hd4 hE hM hi hsz2
  have HB0 := Lib.hid hb0; clear hb0
  have HB1 := Lib.hid hb1; clear hb1
  have HO4 := Lib.hid hO4; clear hO4
  have HE4 := Lib.hid hE4; clear hE4
  have HM4 := Lib.hid hM4; clear hM4
  have HI4 := Lib.hid hi4; clear hi4
  have HI4' := Lib.hid hi4'; clear hi4'
  have HRG0 := Lib.hid (range_row HB0.out)
  go_wp2_with (refine wpList_load_mid rfl 28 (.tmp 3) rfl w.heap.size 0 rfl ce _ HRG0.out Try.underlying28 rfl (by rw [HLE.out]; exact HSZ_e.out) ?_)
  refine (PutEntry_any x _ _ _ HE4.out HI4.out (by omega)).mono ?_
  rintro en w5 ⟨rfl, hO5⟩
  rw [HS.out]
  have HRG1 := Lib.hid (range_row ((hO5.block _ (by omega) id).trans HB1.out))
  have HM5 := Lib.hid (messageE_ok.keep HM4.out hO5 (disj_none _))
  have HI5 := Lib.hid (HI4'.out.kept hO5)
  have HO5 := Lib.hid (HO4.out.none hO5)
  clear HM4 HI4 HI4' HE4 HRG0 HB0 HB1 HO4 hO5
  go_wp2_with (refine wpList_load_mid rfl 62 (.tmp 4) rfl (w.heap.size + 1) 0 rfl cm4 _ HRG1.out Try.underlying62 rfl (by rw [HLM4.out]; exact HSZ_m.out) ?_)
  refine (PutMessage_any z _ _ _ HM5.out HI5.out (by rw [← HTX.out]; omega)).mono ?_
  rintro en w6 ⟨rfl, hO6⟩
  rw [HT.out]
  have HO6 := Lib.hid (HO5.out.none hO6)
  clear HM5 HI5 HRG1 HO5 hO6 HLM4 HLM HLE
  go_wp2_with fail
  obtain ⟨oe, hoe⟩ : ∃ o, entryF.read s = o := ⟨_, rfl⟩
  obtain ⟨om, hom⟩ : ∃ o, messageF.read t = o := ⟨_, rfl⟩
  have HOE := Lib.hid hoe; clear hoe
  have HOM := Lib.hid hom; clear hom
  refine (got_entry s _ (by unfold maxLen; omega) HOE.out).mono ?_
  rintro en w7 ⟨cs1, e1, rfl, hO7, hfl1, hc1⟩
  have HFL1 := Lib.hid hfl1.1
  have HF11 := Lib.hid hfl1.2
  clear hfl1
  have hG1 := Got.mk (T := 28) entryE_ok hc1
  clear hc1
  have HO7 := Lib.hid ((HO6.out.none hO7).alloc (.cells cs1.toArray 28))
  clear HO6 hO7
  have HG1 := Lib.hid hG1; clear hG1
  go_wp2_with (refine wpList_store_new w7 rfl 28 _ _ rfl _ cs1 rfl rfl (by rw [HFL1.out]; exact HSZ_e.out) HFL1.out.symm HF11.out ?_)
  refine (got_message t _ (by unfold maxLen; omega) HOM.out).mono ?_
  rintro en w8 ⟨cs2, e2, rfl, hO8, hfl2, hc2⟩
  have HFL2 := Lib.hid hfl2.1
  have HF12 := Lib.hid hfl2.2
  clear hfl2
  have hG2 := Got.mk (T := 62) messageE_ok hc2
  clear hc2
  have hA8 : Old w8 (w8.alloc (.cells cs2.toArray 62)) := (Old.refl _).alloc _
  have HO8 := Lib.hid ((HO7.out.none hO8).none hA8)
  replace HG1 := Lib.hid ((HG1.out.old entryE_ok hO8).old entryE_ok hA8)
  clear HO7 hO8 hA8
  have HG2 := Lib.hid hG2; clear hG2
  go_upto_region 7 with (refine wpList_store_new w8 rfl 62 _ _ rfl _ cs2 rfl rfl (by rw [HFL2.out]; exact HSZ_m.out) HFL2.out.symm HF12.out ?_)
  have HCase : Hid ((e1 = 0 ∧ oe = some x ∧ ((e2 = 0 ∧ om = some z) ∨ e2 = 120)) ∨ (e1 = 120 ∧ e2 = 120)) := Lib.hid (by
    have h := HC.out
    rw [HOE.out, HOM.out] at h
    rcases h with ⟨h1, h2⟩ | ⟨h1, h2⟩
    · rcases HG1.out.2 with ⟨g1, _⟩ | ⟨_, g1⟩
      · refine Or.inl ⟨g1, h1, ?_⟩
        rcases h2 with h2 | h2
        · rcases HG2.out.2 with ⟨g2, _⟩ | ⟨_, g2⟩
          · exact Or.inl ⟨g2, h2⟩
          · rw [g2] at h2; cases h2
        · rcases HG2.out.2 with ⟨_, x', _, g2, _⟩ | ⟨g2, _⟩
          · rw [g2] at h2; cases h2
          · exact Or.inr g2
      · rw [g1] at h1; cases h1
    · rcases HG1.out.2 with ⟨_, x', _, g1, _⟩ | ⟨g1, _⟩
      · rw [g1] at h1; cases h1
      · rcases HG2.out.2 with ⟨_, x', _, g2, _⟩ | ⟨g2, _⟩
        · rw [g2] at h2; cases h2
        · exact Or.inr ⟨g1, g2⟩)
  have hse : s.toList.isEmpty = false := not_empty hs1
  have hte : t.toList.isEmpty = false := not_empty ht1
  go_cut [57, 11, 13] (fun v a b wx => v = .bool false ∧ a = .int .i64 e1 ∧ b = .int .i64 e2 ∧ wx = w8.alloc (.cells cs2.toArray 62))
  case first =>
    rcases HCase.out with ⟨rfl, h1, ⟨rfl, h2⟩ | rfl⟩ | ⟨rfl, rfl⟩
    · clear h1 h2
      go_wp2_with fail
      go_meet
      exact ⟨rfl, rfl, rfl, rfl⟩
    · clear h1
      go_wp2_with fail
      go_meet
      exact ⟨rfl, rfl, rfl, rfl⟩
    · go_wp2_with fail
      go_meet
      exact ⟨rfl, rfl, rfl, rfl⟩
  case rest =>
  obtain ⟨rfl, rfl, rfl, rfl⟩ := hcut
  clear hse hte
  go_upto_region 9 with fail
  have hsW : w8.heap.size < (w8.alloc (.cells cs2.toArray 62)).heap.size := by simp
  have HSW := Lib.hid hsW; clear hsW
  generalize hwN : w8.alloc (.cells cs2.toArray 62) = wN at HSW HG1 HG2 HO8
  have HWN := Lib.hid hwN; clear hwN
  go_cut [90, 11, 13] (fun v a b wx => v = .bool false ∧ a = .int .i64 e1 ∧ b = .int .i64 e2 ∧ Old wN wx)
  case first =>
    rcases HCase.out with ⟨rfl, h1, ⟨rfl, h2⟩ | rfl⟩ | ⟨rfl, rfl⟩
    · obtain ⟨hb1, hg1⟩ := HG1.out
      obtain ⟨hb2, hg2⟩ := HG2.out
      rcases hg1 with ⟨_, x', B1, hx1, hB1, hE1⟩ | ⟨h0, _⟩
      · rcases hg2 with ⟨_, z', B2, hz2, hB2, hE2⟩ | ⟨h0, _⟩
        · rw [h1] at hx1
          rw [h2] at hz2
          simp only [Option.some.injEq] at hx1 hz2
          subst hx1
          subst hz2
          clear h1 h2 HCase HG1 HG2
          obtain ⟨ve, hve, hL⟩ := msg_entries hE2
          rw [← HZ.out] at hL
          obtain ⟨g, off, cap, r, rfl, hcap, hg, hgB, hr, hEr⟩ := at_entry hL 0 (by simp [withEntries])
          simp only [withEntries, List.getElem_singleton, Nat.zero_mul, Nat.add_zero, List.length_cons, List.length_nil, Nat.zero_add] at hcap hr hEr hve
          clear hL
          have HR1 := Lib.hid (range_row hb1)
          have HB2 := Lib.hid hb2
          have HVE := Lib.hid hve
          have HRR := Lib.hid (And.intro hr (And.intro hEr hg))
          have HLT := Lib.hid (lt_of_block hb2)
          have HFR := Lib.hid (info_len HSZ_e.out (entryE_flat hEr).1)
          have HFE := Lib.hid (info_len HSZ_e.out (entryE_flat hE1).1)
          have HFM := Lib.hid (info_len HSZ_m.out (messageE_flat hE2).1)
          have HE1 := Lib.hid hE1
          have HE2 := Lib.hid hE2
          have HO0 := Lib.hid (Old.refl wN)
          clear hve hr hb1 hb2 hE1 hE2 hEr
          go_wp2_with (refine wpList_load_guarded rfl 28 (.tmp 10) rfl w7.heap.size 0 rfl cs1 _ HR1.out Try.underlying28 rfl HFE.out ?_)
          go_wp2_with (first
            | (refine wpList_load_guarded rfl 62 (.tmp 12) rfl w8.heap.size 0 rfl cs2 _ HR2.out Try.underlying62 rfl HFM.out ?_)
            | (go_at_call 11; refine (PutEntry_any x cs1 _ _ HE1.out (in_lt hB1) (by rw [← HSX.out]; omega)).mono ?_; rintro en wa ⟨rfl, hOa⟩; rw [HS.out]; have HOA := Lib.hid hOa; clear hOa; have HR2 := Lib.hid (range_row ((HOA.out.block _ HLT.out id).trans HB2.out))))
          have HE3 := Lib.hid (messageE_ok.keep HE2.out HOA.out (disj_none _))
          have hB3 := Nat.le_trans hB2 HOA.out.size
          go_wp2_with (first
            | (refine wpList_load_guarded rfl 28 (.tmp 83) rfl g off rfl r _ HR4.out Try.underlying28 rfl HFR.out ?_)
            | (go_at_call 28; refine (PutMessage_any z cs2 _ _ HE3.out (in_lt hB3) (by rw [← HTX.out]; omega)).mono ?_; rintro en wb ⟨rfl, hOb⟩; rw [HT.out]; have HOB := Lib.hid (HOA.out.none hOb); clear hOb
               have c7 := cell_of_heap ((HOB.out.block _ HLT.out id).trans HB2.out) HVE.out
               have HR4 := Lib.hid (rangeAt_old HOB.out HRR.out.1 HRR.out.2.2)))
          have HE5 := Lib.hid (entryE_ok.keep HRR.out.2.1 HOB.out (disj_none _))
          have hB5 := Nat.le_trans hB2 HOB.out.size
          clear c7
          go_wp2_with (go_at_call 11; refine (PutEntry_any x r _ _ HE5.out (in_lt hB5) (by rw [← HSX.out]; omega)).mono ?_; rintro en wd ⟨rfl, hOd⟩; rw [HS.out]; have HOD := Lib.hid (HOB.out.none hOd); clear hOd)
          go_meet
          exact ⟨rfl, rfl, rfl, HOD.out⟩
        · simp at h0
      · simp at h0
    · obtain ⟨hb1, hg1⟩ := HG1.out
      rcases hg1 with ⟨_, x', B1, hx1, hB1, hE1⟩ | ⟨h0, _⟩
      · rw [h1] at hx1
        simp only [Option.some.injEq] at hx1
        subst hx1
        clear h1 HCase HG1 HG2
        have HR1 := Lib.hid (range_row hb1)
        have HFE := Lib.hid (info_len HSZ_e.out (entryE_flat hE1).1)
        have HE1 := Lib.hid hE1
        clear hb1 hE1
        go_wp2_with (refine wpList_load_guarded rfl 28 (.tmp 10) rfl w7.heap.size 0 rfl cs1 _ HR1.out Try.underlying28 rfl HFE.out ?_)
        refine (PutEntry_any x cs1 _ _ HE1.out (in_lt hB1) (by rw [← HSX.out]; omega)).mono ?_
        rintro en wa ⟨rfl, hOa⟩
        rw [HS.out]
        have HOA := Lib.hid hOa; clear hOa
        go_wp2_with fail
        go_meet
        exact ⟨rfl, rfl, rfl, HOA.out⟩
      · simp at h0
    · go_wp2_with fail
      go_meet
      exact ⟨rfl, rfl, rfl, Old.refl _⟩
  case rest =>
  obtain ⟨rfl, rfl, rfl, hO9⟩ := hcut
  have HO9 := Lib.hid (HO8.out.none hO9)
  clear hO9 HO8 HG1 HG2 HCase HC HOE HOM HZ HSX HTX
  have HI := Lib.hid hc; clear hc
  go_upto_if 92 with fail
  go_cut [2] (fun v wx => ∃ k : Nat, v = .int .i64 (k : Nat) ∧ k ≤ 9223372036854775807 ∧ wx = wc)
  case first =>
    obtain ⟨hc1, hc2⟩ := HI.out
    by_cases hneg : cut < 0
    · go_wp2_with fail
      go_meet
      exact ⟨(-(cut + 1)).toNat, by congr 1; omega, by omega, rfl⟩
    · go_wp2_with fail
      go_meet
      exact ⟨cut.toNat, by congr 1; omega, by omega, rfl⟩
  case rest =>
  obtain ⟨k, rfl, hk, rfl⟩ := hcut
  have HU1 := NoEntry.mk (read_ext entryF_ok HSL.out k hs1)
  have HU2 := NoEntry.mk (read_plus entryF_ok HSL.out 0)
  have HU3 := NoMessage.mk (read_ext messageF_ok HTL.out k ht1)
  have HU4 := NoMessage.mk (read_plus messageF_ok HTL.out 1)
  have hz1 := ext_size s (k % s.size)
  have hz3 := ext_size t (k % t.size)
  obtain ⟨u2, hu2⟩ : ∃ u, s ++ (⟨#[0]⟩ : ByteArray) = u := ⟨_, rfl⟩
  obtain ⟨u4, hu4⟩ : ∃ u, t ++ (⟨#[1]⟩ : ByteArray) = u := ⟨_, rfl⟩
  have hz2 : u2.size = s.size + 1 := by rw [← hu2, ByteArray.size_append]; rfl
  have hz4 : u4.size = t.size + 1 := by rw [← hu4, ByteArray.size_append]; rfl
  have q2 : ∀ W, Sem.run Try.prog (Op.stringOp .add s ⟨#[0]⟩) W = .ok (.string u2) W := fun W => by
    rw [run_string_add_sum W _ _ (by have e : (⟨#[0]⟩ : ByteArray).size = 1 := rfl; rw [e]; omega), hu2]
  have q4 : ∀ W, Sem.run Try.prog (Op.stringOp .add t ⟨#[1]⟩) W = .ok (.string u4) W := fun W => by
    rw [run_string_add_sum W _ _ (by have e : (⟨#[1]⟩ : ByteArray).size = 1 := rfl; rw [e]; omega), hu4]
  have HZ2 := Lib.hid hz2; clear hz2
  have HZ4 := Lib.hid hz4; clear hz4
  rw [hu2] at HU2
  rw [hu4] at HU4
  clear hu2 hu4
  have HZ1 := Lib.hid hz1; clear hz1
  have HZ3 := Lib.hid hz3; clear hz3
  have Q2 := Lib.hid q2; clear q2
  have Q4 := Lib.hid q4; clear q4
  go_wp2_with fail
  rotate_left
  exact absurd (mod_in k hs1) (by assumption)
  refine (got_entry (s.extract 0 (k % s.size)) _ (by have := HZ1.out; unfold maxLen; omega) HU1.h).mono ?_
  rintro en wa ⟨csa, ea, rfl, hOa, hfla, hca⟩
  rcases hca with ⟨_, x', hx', _⟩ | ⟨rfl, _⟩
  · cases hx'
  have HFLa := Lib.hid hfla.1
  have HF1a := Lib.hid hfla.2
  have HOa := Lib.hid ((HO9.out.none hOa).alloc (.cells csa.toArray 28))
  clear hfla hOa HO9
  have q2 := Q2.out
  go_wp2_with (refine wpList_store_new wa rfl 28 _ _ rfl _ csa rfl rfl (by rw [HFLa.out]; exact HSZ_e.out) HFLa.out.symm HF1a.out ?_)
  refine (got_entry u2 _ (by rw [HZ2.out]; unfold maxLen; omega) HU2.h).mono ?_
  rintro en wb ⟨csb, eb, rfl, hOb, hflb, hcb⟩
  rcases hcb with ⟨_, x', hx', _⟩ | ⟨rfl, _⟩
  · cases hx'
  have HFLb := Lib.hid hflb.1
  have HF1b := Lib.hid hflb.2
  have HOb := Lib.hid ((HOa.out.none hOb).alloc (.cells csb.toArray 28))
  clear hflb hOb HOa q2
  go_wp2_with (refine wpList_store_new wb rfl 28 _ _ rfl _ csb rfl rfl (by rw [HFLb.out]; exact HSZ_e.out) HFLb.out.symm HF1b.out ?_)
  rotate_left
  exact absurd (mod_in k ht1) (by assumption)
  refine (got_message (t.extract 0 (k % t.size)) _ (by have := HZ3.out; unfold maxLen; omega) HU3.h).mono ?_
  rintro en we ⟨cse, ee, rfl, hOe, hfle, hce⟩
  rcases hce with ⟨_, x', hx', _⟩ | ⟨rfl, _⟩
  · cases hx'
  have HFLe := Lib.hid hfle.1
  have HF1e := Lib.hid hfle.2
  have HOe := Lib.hid ((HOb.out.none hOe).alloc (.cells cse.toArray 62))
  clear hfle hOe HOb
  have q4 := Q4.out
  go_wp2_with (refine wpList_store_new we rfl 62 _ _ rfl _ cse rfl rfl (by rw [HFLe.out]; exact HSZ_m.out) HFLe.out.symm HF1e.out ?_)
  refine (got_message u4 _ (by rw [HZ4.out]; unfold maxLen; omega) HU4.h).mono ?_
  rintro en wf ⟨csf, ef, rfl, hOf, hflf, hcf⟩
  rcases hcf with ⟨_, x', hx', _⟩ | ⟨rfl, _⟩
  · cases hx'
  have HFLf := Lib.hid hflf.1
  have HF1f := Lib.hid hflf.2
  have HOf := Lib.hid ((HOe.out.none hOf).alloc (.cells csf.toArray 62))
  clear hflf hOf HOe q4
  go_wp2_with (refine wpList_store_new wf rfl 62 _ _ rfl _ csf rfl rfl (by rw [HFLf.out]; exact HSZ_m.out) HFLf.out.symm HF1f.out ?_)
  go_ret
  exact ⟨rfl, HOf.out⟩
end Go.Proofs.Ytngcfnffbggniaa.wireThrough
