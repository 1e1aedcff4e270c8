/- The document's own answers of layer 2: a message, laid. -/
import Derived.Test.YtpmemcpfoapjmaaGreatV12
import Derived.Test.YtpmemcpfoapjmaaGreatV20
import Derived.Test.YtpmemcpfoapjmaaGreatV11
import Derived.Test.YtpmemcpfoapjmaaGreatV18
namespace Go.Proofs.YtpmemcpfoapjmaaGreat
open Go.ChangeShapes Go.WideShapes Go.ChangeAt Go.RowKit
set_option linter.unusedVariables false

set_option maxRecDepth 100000 in
set_option maxHeartbeats 4000000 in
theorem refput_message (x : Message) (cs : List Value) (ok : Nat → Prop) (w : World) (hE : messageE w ok cs x) (hl : (messageF.lay x).length ≤ 1000000000000000) :
    Calls Tryz.prog 9 #[.agg cs.toArray] w (OldStr w (messageF.lay x)) := by
  obtain ⟨vm, ve, cr, vi, rfl, hM, hEn, hR, hI, j0, j1, j2, j3, j4, j6⟩ := hE
  obtain ⟨z0, z1, z2, z3, z4, marks, data, entries, req, ids⟩ := x
  simp only at hM hEn hR hI j0 j1 j2 j3 j4 j6
  obtain ⟨v0, v1, v2, v3, v4, v5, v6, v7, v8, v9, rfl⟩ := split_req (reqE_flat hR).1
  obtain ⟨rm, ⟨Am, cm, rfl, hlm, hmm, _⟩, hlenm, _⟩ := id hM
  obtain ⟨re, ⟨Ae, ce, rfl, hle, hme, hat⟩, hlene, hel⟩ := id hEn
  obtain ⟨iA, iN, iC, rfl⟩ := hI.shape
  unfold maxLen at hmm hme
  have hlay : messageF.lay ⟨z0, z1, z2, z3, z4, marks, data, entries, req, ids⟩ = (((((sev (zz z0) ++ (sev (zz z1) ++ (sev (zz z2) ++ (sev (zz z3) ++ sev (zz z4))))) ++ sev rm.length) ++ layN numF marks) ++ (sev data.size ++ data.data.toList)) ++ sev re.length) ++ layN entryF entries ++ reqF.lay req ++ (listF (textF 4096)).lay ids := by
    rw [hlenm, hlene]
    simp only [messageF, isoF, seqF, lay_num, lay_text, List.append_assoc]
    simp only [listF, List.append_assoc]
  rw [hlay] at hl ⊢
  simp only [List.length_append] at hl
  have KN := Lib.hid (show ∀ (g : Nat) (W : World), W.heap[g]? = some (.cells #[.int .i64 z0, .int .i64 z1, .int .i64 z2, .int .i64 z3, .int .i64 z4] 3 (0, 0)) → Calls Tryz.prog 22 #[.slice (some ⟨g, 0, none⟩) 5 5] W (OldStr W (sev (zz z0) ++ (sev (zz z1) ++ (sev (zz z2) ++ (sev (zz z3) ++ sev (zz z4)))))) from fun g W hb => refnums5 z0 z1 z2 z3 z4 g W hb j0 j1 j2 j3 j4)
  have KC := Lib.hid (show ∀ W, Calls Tryz.prog 23 #[.int .i64 (rm.length : Nat)] W (OldStr W (sev rm.length)) from fun W => by
    have h := refcount_any (rm.length : Nat) W (by unfold I64; omega)
    rwa [Int.toNat_natCast] at h)
  have KC1 := Lib.hid (show ∀ W, Calls Tryz.prog 23 #[.int .i64 (re.length : Nat)] W (OldStr W (sev re.length)) from fun W => by
    have h := refcount_any (re.length : Nat) W (by unfold I64; omega)
    rwa [Int.toNat_natCast] at h)
  have KM := Lib.hid (show ∀ W, Old w W → Calls Tryz.prog 22 #[.slice Am rm.length cm] W (OldStr W (layN numF marks)) from fun W h => refnums_any marks _ ok W (hM.keep intE_ok h (disj_none _)) (by omega))
  have KT := Lib.hid (show ∀ W, Calls Tryz.prog 24 #[.string data] W (OldStr W (sev data.size ++ data.data.toList)) from fun W => reftext_any _ W (by unfold Str at j6; omega))
  have KE := Lib.hid (show ∀ W k (r : List Value) (h1 : k < entries.length), entryE W ok r (entries[k]'h1) → Calls Tryz.prog 21 #[.agg r.toArray] W (OldStr W (entryF.lay (entries[k]'h1))) from fun W k r h1 h => refput_entry _ r ok W h (by
    have := layN_le (f := entryF) h1
    omega))
  have KR := Lib.hid (show ∀ W, Old w W → Calls Tryz.prog 25 #[.agg #[v0, v1, v2, v3, v4, v5, v6, v7, v8, v9]] W (OldStr W (reqF.lay req)) from fun W h => refput_req req _ ok W (reqE_ok.keep hR h (disj_none _)) (by omega))
  have KI := Lib.hid (show ∀ W, Old w W → Calls Tryz.prog 26 #[.slice iA iN iC] W (OldStr W ((listF (textF 4096)).lay ids)) from fun W h => reftexts_any ids _ ok W (hI.keep textE_ok h (disj_none _)) (by omega))
  have HEL := Lib.hid hel; clear hel
  have hlen1 : re.length ≤ entries.length := by omega
  have hlen2 : entries.length ≤ re.length := by omega
  obtain ⟨L0, hL0⟩ : ∃ l : List UInt8, sev (zz z0) ++ (sev (zz z1) ++ (sev (zz z2) ++ (sev (zz z3) ++ sev (zz z4)))) = l := ⟨_, rfl⟩
  obtain ⟨C0, hC0⟩ : ∃ l : List UInt8, sev rm.length = l := ⟨_, rfl⟩
  obtain ⟨M0, hM0⟩ : ∃ l : List UInt8, layN numF marks = l := ⟨_, rfl⟩
  obtain ⟨T0, hT0⟩ : ∃ l : List UInt8, sev data.size ++ data.data.toList = l := ⟨_, rfl⟩
  obtain ⟨C1, hC1⟩ : ∃ l : List UInt8, sev re.length = l := ⟨_, rfl⟩
  obtain ⟨R0, hR0⟩ : ∃ l : List UInt8, reqF.lay req = l := ⟨_, rfl⟩
  obtain ⟨I0, hI0⟩ : ∃ l : List UInt8, (listF (textF 4096)).lay ids = l := ⟨_, rfl⟩
  have hl0 : L0.length + C0.length + M0.length + T0.length + C1.length + (layN entryF entries).length + R0.length + I0.length ≤ 1000000000000000 := by
    rw [← hL0, ← hC0, ← hM0, ← hT0, ← hC1, ← hR0, ← hI0]
    simp only [List.length_append]
    omega
  rw [hL0] at KN ⊢
  rw [hC0] at KC ⊢
  rw [hM0] at KM ⊢
  rw [hT0] at KT ⊢
  rw [hC1] at KC1 ⊢
  rw [hR0] at KR ⊢
  rw [hI0] at KI ⊢
  have q0 : ∀ W, Sem.run Tryz.prog (Op.stringOp .add ⟨L0.toArray⟩ ⟨C0.toArray⟩) W = .ok (.string ⟨(L0 ++ C0).toArray⟩) W := fun W => add_str _ _ _ (by omega) W
  have q1 : ∀ W, Sem.run Tryz.prog (Op.stringOp .add ⟨(L0 ++ C0).toArray⟩ ⟨M0.toArray⟩) W = .ok (.string ⟨(L0 ++ (C0 ++ M0)).toArray⟩) W := fun W => by
    rw [add_str _ _ _ (by simp only [List.length_append]; omega) W, List.append_assoc]
  have q2 : ∀ W, Sem.run Tryz.prog (Op.stringOp .add ⟨(L0 ++ (C0 ++ M0)).toArray⟩ ⟨T0.toArray⟩) W = .ok (.string ⟨(L0 ++ (C0 ++ (M0 ++ T0))).toArray⟩) W := fun W => by
    rw [add_str _ _ _ (by simp only [List.length_append]; omega) W, List.append_assoc, List.append_assoc]
  have q3 : ∀ W, Sem.run Tryz.prog (Op.stringOp .add ⟨(L0 ++ (C0 ++ (M0 ++ T0))).toArray⟩ ⟨C1.toArray⟩) W = .ok (.string ⟨(L0 ++ (C0 ++ (M0 ++ (T0 ++ C1)))).toArray⟩) W := fun W => by
    rw [add_str _ _ _ (by simp only [List.length_append]; omega) W, List.append_assoc, List.append_assoc, List.append_assoc]
  obtain ⟨D0, hD0⟩ : ∃ l : List UInt8, L0 ++ (C0 ++ (M0 ++ (T0 ++ C1))) = l := ⟨_, rfl⟩
  have hl1 : D0.length + (layN entryF entries).length + R0.length + I0.length ≤ 1000000000000000 := by
    rw [← hD0]; simp only [List.length_append]; omega
  rw [hD0] at q3
  rw [show (((L0 ++ C0) ++ M0) ++ T0) ++ C1 = D0 from by rw [← hD0]; simp only [List.append_assoc]]
  clear hL0 hC0 hM0 hT0 hC1 hR0 hI0 hD0 hl0 hl hlay hM hEn hR hI j0 j1 j2 j3 j4 j6 hlenm hlene
  have hO0 : Old w (w.alloc (.cells ([.int .i64 z0, .int .i64 z1, .int .i64 z2, .int .i64 z3, .int .i64 z4, .slice Am rm.length cm, .string data, .slice Ae re.length ce, v0, v1, v2, v3, v4, v5, v6, v7, v8, v9, .slice iA iN iC] : List Value).toArray 31)) := (Old.refl w).make _
  have hb := heap_alloc_new w (.cells ([.int .i64 z0, .int .i64 z1, .int .i64 z2, .int .i64 z3, .int .i64 z4, .slice Am rm.length cm, .string data, .slice Ae re.length ce, v0, v1, v2, v3, v4, v5, v6, v7, v8, v9, .slice iA iN iC] : List Value).toArray 31)
  have HSZ := Lib.hid (show (Tryz.prog.info? 38).map (·.size) = some 11 by kernel_rfl)
  generalize hw1 : w.alloc (.cells ([.int .i64 z0, .int .i64 z1, .int .i64 z2, .int .i64 z3, .int .i64 z4, .slice Am rm.length cm, .string data, .slice Ae re.length ce, v0, v1, v2, v3, v4, v5, v6, v7, v8, v9, .slice iA iN iC] : List Value).toArray 31) = w1 at hO0 hb
  have HSS0 := Lib.hid (show ∀ w', Old w1 w' → w'.cell? ⟨w.heap.size, 0, none⟩ = some (.int .i64 z0) ∧ w'.cell? ⟨w.heap.size, 1, none⟩ = some (.int .i64 z1) ∧ w'.cell? ⟨w.heap.size, 2, none⟩ = some (.int .i64 z2) ∧ w'.cell? ⟨w.heap.size, 3, none⟩ = some (.int .i64 z3) ∧ w'.cell? ⟨w.heap.size, 4, none⟩ = some (.int .i64 z4) ∧ w'.cell? ⟨w.heap.size, 5, none⟩ = some (.slice Am rm.length cm) ∧ w'.cell? ⟨w.heap.size, 6, none⟩ = some (.string data) ∧ w'.cell? ⟨w.heap.size, 7, none⟩ = some (.slice Ae re.length ce) ∧ w'.cell? ⟨w.heap.size, 8, none⟩ = some (v0) ∧ w'.cell? ⟨w.heap.size, 9, none⟩ = some (v1) ∧ w'.cell? ⟨w.heap.size, 10, none⟩ = some (v2) ∧ w'.cell? ⟨w.heap.size, 11, none⟩ = some (v3) ∧ w'.cell? ⟨w.heap.size, 12, none⟩ = some (v4) ∧ w'.cell? ⟨w.heap.size, 13, none⟩ = some (v5) ∧ w'.cell? ⟨w.heap.size, 14, none⟩ = some (v6) ∧ w'.cell? ⟨w.heap.size, 15, none⟩ = some (v7) ∧ w'.cell? ⟨w.heap.size, 16, none⟩ = some (v8) ∧ w'.cell? ⟨w.heap.size, 17, none⟩ = some (v9) ∧ w'.cell? ⟨w.heap.size, 18, none⟩ = some (.slice iA iN iC) ∧ Old w w' from fun w' hO => by
    have hc := fun i v hv => cell_of_heap (i := i) (v := v) ((hO.block _ (lt_of_block hb) id).trans hb) hv
    exact ⟨hc 0 _ rfl, hc 1 _ rfl, hc 2 _ rfl, hc 3 _ rfl, hc 4 _ rfl, hc 5 _ rfl, hc 6 _ rfl, hc 7 _ rfl, hc 8 _ rfl, hc 9 _ rfl, hc 10 _ rfl, hc 11 _ rfl, hc 12 _ rfl, hc 13 _ rfl, hc 14 _ rfl, hc 15 _ rfl, hc 16 _ rfl, hc 17 _ rfl, hc 18 _ rfl, hO0.none hO⟩)
  have HW := Lib.hid hw1; clear hw1
  have HO0 := Lib.hid hO0
  clear hb hO0
  go_enter Tryz.func9, Tryz.ntmps9
  go_upto_region 1 with fail
  rw [HW.out]
  have hcs := HSS0.out w1 (Old.refl _)
  obtain ⟨c0, c1, c2, c3, c4, c5, c6, c7, c8, c9, c10, c11, c12, c13, c14, c15, c16, c17, c18, hO0⟩ := hcs
  clear HW HO0
  have HSS := Lib.hid (show ∀ w', Old w1 w' → w'.cell? ⟨w.heap.size, 0, none⟩ = some (.int .i64 z0) ∧ w'.cell? ⟨w.heap.size, 1, none⟩ = some (.int .i64 z1) ∧ w'.cell? ⟨w.heap.size, 2, none⟩ = some (.int .i64 z2) ∧ w'.cell? ⟨w.heap.size, 3, none⟩ = some (.int .i64 z3) ∧ w'.cell? ⟨w.heap.size, 4, none⟩ = some (.int .i64 z4) ∧ w'.cell? ⟨w.heap.size, 5, none⟩ = some (.slice Am rm.length cm) ∧ w'.cell? ⟨w.heap.size, 6, none⟩ = some (.string data) ∧ w'.cell? ⟨w.heap.size, 7, none⟩ = some (.slice Ae re.length ce) ∧ w'.cell? ⟨w.heap.size, 8, none⟩ = some (v0) ∧ w'.cell? ⟨w.heap.size, 9, none⟩ = some (v1) ∧ w'.cell? ⟨w.heap.size, 10, none⟩ = some (v2) ∧ w'.cell? ⟨w.heap.size, 11, none⟩ = some (v3) ∧ w'.cell? ⟨w.heap.size, 12, none⟩ = some (v4) ∧ w'.cell? ⟨w.heap.size, 13, none⟩ = some (v5) ∧ w'.cell? ⟨w.heap.size, 14, none⟩ = some (v6) ∧ w'.cell? ⟨w.heap.size, 15, none⟩ = some (v7) ∧ w'.cell? ⟨w.heap.size, 16, none⟩ = some (v8) ∧ w'.cell? ⟨w.heap.size, 17, none⟩ = some (v9) ∧ w'.cell? ⟨w.heap.size, 18, none⟩ = some (.slice iA iN iC) ∧ Old w1 w' from fun w' hO => by
    obtain ⟨c0, c1, c2, c3, c4, c5, c6, c7, c8, c9, c10, c11, c12, c13, c14, c15, c16, c17, c18, _⟩ := HSS0.out w' hO
    exact ⟨c0, c1, c2, c3, c4, c5, c6, c7, c8, c9, c10, c11, c12, c13, c14, c15, c16, c17, c18, hO⟩)
  have HO01 := Lib.hid hO0
  have KM2 := Lib.hid (show ∀ W, Old w1 W → Calls Tryz.prog 22 #[.slice Am rm.length cm] W (OldStr W M0) from fun W h => KM.out W (HO01.out.none h))
  clear hO0 KM
  go_cut [3] (fun s3 wx => s3 = .string ⟨D0.toArray⟩ ∧ Old w1 wx)
  case first =>
    have hO1 : Old w1 w1 := Old.refl w1
    go_region_held3 (fun w' => w'.cell? ⟨w.heap.size, 0, none⟩ = some (.int .i64 z0) ∧ w'.cell? ⟨w.heap.size, 1, none⟩ = some (.int .i64 z1) ∧ w'.cell? ⟨w.heap.size, 2, none⟩ = some (.int .i64 z2) ∧ w'.cell? ⟨w.heap.size, 3, none⟩ = some (.int .i64 z3) ∧ w'.cell? ⟨w.heap.size, 4, none⟩ = some (.int .i64 z4) ∧ w'.cell? ⟨w.heap.size, 5, none⟩ = some (.slice Am rm.length cm) ∧ w'.cell? ⟨w.heap.size, 6, none⟩ = some (.string data) ∧ w'.cell? ⟨w.heap.size, 7, none⟩ = some (.slice Ae re.length ce) ∧ w'.cell? ⟨w.heap.size, 8, none⟩ = some (v0) ∧ w'.cell? ⟨w.heap.size, 9, none⟩ = some (v1) ∧ w'.cell? ⟨w.heap.size, 10, none⟩ = some (v2) ∧ w'.cell? ⟨w.heap.size, 11, none⟩ = some (v3) ∧ w'.cell? ⟨w.heap.size, 12, none⟩ = some (v4) ∧ w'.cell? ⟨w.heap.size, 13, none⟩ = some (v5) ∧ w'.cell? ⟨w.heap.size, 14, none⟩ = some (v6) ∧ w'.cell? ⟨w.heap.size, 15, none⟩ = some (v7) ∧ w'.cell? ⟨w.heap.size, 16, none⟩ = some (v8) ∧ w'.cell? ⟨w.heap.size, 17, none⟩ = some (v9) ∧ w'.cell? ⟨w.heap.size, 18, none⟩ = some (.slice iA iN iC) ∧ Old w1 w')
      (((try dsimp only); first | exact HSS.out _ (by assumption) | exact HSS.out _ (Old.drew (by assumption)) | exact HSS.out _ (Old.make (by assumption) _) | exact HSS.out _ (Old.drew (Old.make (by assumption) _)) | exact HSS.out _ (Old.drew (Old.make (Old.undrew (by assumption)) _)) | exact HSS.out _ (Old.make (Old.undrew (by assumption)) _)))
      (first
        | (go_at_call 22; go_split_ands; (with_reducible refine (KM2.out _ ((by first | assumption | exact Old.drew (by assumption) | exact Old.make (by assumption) _ | exact Old.drew (Old.make (by assumption) _) | exact Old.drew (Old.make (Old.undrew (by assumption)) _) | exact Old.make (Old.undrew (by assumption)) _))).mono ?_); rintro e w9 ⟨rfl, hO9⟩; have hP9 : Old w1 w9 := Old.none (by first | assumption | exact Old.drew (by assumption) | exact Old.make (by assumption) _ | exact Old.drew (Old.make (by assumption) _) | exact Old.drew (Old.make (Old.undrew (by assumption)) _) | exact Old.make (Old.undrew (by assumption)) _) hO9; have hQ9 := Stp.mk hO9; clear hO9)
        | (go_at_call 22; go_split_ands; refine (KN.out _ _ ?_).mono ?_; (focus ((repeat (with_reducible first | exact new_drew _ _ | exact heap_alloc_new _ _ | exact new_drew2 _ _ _ | exact new_make2 _ _ _ | refine carry_alloc ?_ | refine carry_make ?_ | (apply Stp.carry; (focus (assumption; done))))); done)); rintro e w9 ⟨rfl, hO9⟩; have hP9 : Old w1 w9 := Old.none (by first | assumption | exact Old.drew (by assumption) | exact Old.make (by assumption) _ | exact Old.drew (Old.make (by assumption) _) | exact Old.drew (Old.make (Old.undrew (by assumption)) _) | exact Old.make (Old.undrew (by assumption)) _) hO9; have hQ9 := Stp.mk hO9; clear hO9)
        | (go_at_call 23; go_split_ands; (with_reducible refine (KC.out _).mono ?_); rintro e w9 ⟨rfl, hO9⟩; have hP9 : Old w1 w9 := Old.none (by first | assumption | exact Old.drew (by assumption) | exact Old.make (by assumption) _ | exact Old.drew (Old.make (by assumption) _) | exact Old.drew (Old.make (Old.undrew (by assumption)) _) | exact Old.make (Old.undrew (by assumption)) _) hO9; have hQ9 := Stp.mk hO9; clear hO9)
        | (go_at_call 23; go_split_ands; (with_reducible refine (KC1.out _).mono ?_); rintro e w9 ⟨rfl, hO9⟩; have hP9 : Old w1 w9 := Old.none (by first | assumption | exact Old.drew (by assumption) | exact Old.make (by assumption) _ | exact Old.drew (Old.make (by assumption) _) | exact Old.drew (Old.make (Old.undrew (by assumption)) _) | exact Old.make (Old.undrew (by assumption)) _) hO9; have hQ9 := Stp.mk hO9; clear hO9)
        | (go_at_call 24; go_split_ands; (with_reducible refine (KT.out _).mono ?_); rintro e w9 ⟨rfl, hO9⟩; have hP9 : Old w1 w9 := Old.none (by first | assumption | exact Old.drew (by assumption) | exact Old.make (by assumption) _ | exact Old.drew (Old.make (by assumption) _) | exact Old.drew (Old.make (Old.undrew (by assumption)) _) | exact Old.make (Old.undrew (by assumption)) _) hO9; have hQ9 := Stp.mk hO9; clear hO9))
    all_goals go_wp2_with fail
    all_goals go_meet
    all_goals exact ⟨rfl, by assumption⟩
  case rest =>
  obtain ⟨rfl, hOX⟩ := hcut
  clear c0 c1 c2 c3 c4 c5 c6 c7 c8 c9 c10 c11 c12 c13 c14 c15 c16 c17 c18 q0 q1 q2 q3 KN KC KM2 KT KC1
  have HOX := Lib.hid hOX; clear hOX
  go_wp2_with fail
  go_loopw [3, 4] (fun sv iv wr => LaidRel entryF D0 wc entries sv iv wr) (fun _ iv _ => entries.length - (intOf iv).toNat)
  case atStart => exact ⟨0, rfl, Nat.zero_le _, by rw [layN_zero], Old.refl _⟩
  case round =>
    obtain ⟨k, rfl, hk, rfl, hO⟩ := hrel.ex
    clear hrel
    have c7 := (HSS.out _ (HOX.out.none hO)).2.2.2.2.2.2.2.1
    by_cases hlt : k < entries.length
    · have hkr : k < re.length := by omega
      rcases hat with h0 | ⟨g, off, rfl, hok, hg, hc⟩
      · simp [h0.1] at hkr
      have hOw : Old w wr := (HO01.out.none HOX.out).none hO
      have hEk := entryE_ok.keep (HEL.out k hlt hkr) hOw (disj_none _)
      have hcell : wr.rangeAt g (off + k * 11) re[k] := fun j v hv => by
        obtain ⟨hj1, hj2⟩ := List.getElem?_eq_some_iff.1 hv
        rw [← hj2, ← (hc k hkr).2 j hj1]; exact World.cell?_of_block (hOw.block g hg id)
      have hle2 := layN_le (f := entryF) hlt
      have HTK := Lib.hid (layN_take (f := entryF) hlt)
      have HKK := Lib.hid (KE.out wr k re[k] hlt hEk)
      have HLR := Lib.hid (entryE_flat hEk).1
      have HRR := Lib.hid hcell
      clear hcell hEk
      generalize hrk : re[k] = r at HKK HLR HRR
      generalize hxk : entries[k] = y at hle2 HTK HKK
      clear hrk hxk hc
      have hkl : (k : Int) < (re.length : Int) := by omega
      obtain ⟨L1, hL1⟩ : ∃ l : List UInt8, entryF.lay y = l := ⟨_, rfl⟩
      rw [hL1] at hle2 HTK HKK
      obtain ⟨D, hD⟩ : ∃ D, D0 ++ layN entryF (entries.take k) = D := ⟨_, rfl⟩
      have hDl : D.length + L1.length ≤ 1000000000000000 := by
        rw [← hD]; simp only [List.length_append]; omega
      have HF : Hid (D ++ L1 = D0 ++ layN entryF (entries.take (k + 1))) := Lib.hid (by rw [← hD, HTK.out, List.append_assoc])
      have q1 : ∀ W, Sem.run Tryz.prog (Op.stringOp .add ⟨D.toArray⟩ ⟨L1.toArray⟩) W = .ok (.string ⟨(D ++ L1).toArray⟩) W := fun W => add_str _ _ _ hDl W
      rw [hD]
      clear hD hDl hle2 HTK hL1 hOw
      go_wp2_with (first
        | (refine wpList_load_mid rfl 38 (.tmp 46) rfl g (off + k * 11) rfl r _ HRR.out Tryz.underlying38 rfl (by rw [HLR.out]; exact HSZ.out) ?_)
        | (go_at_call 21; refine HKK.out.mono ?_; rintro e w9 ⟨rfl, hO9⟩; have HP := Lib.hid (hO.none hO9); clear hO9))
      go_roundw
      case rel => exact ⟨k + 1, by go_num, hlt, by rw [HF.out], HP.out⟩
      case measure => simp [intOf]; omega
    · have hkl : ¬ (k : Int) < (re.length : Int) := by omega
      obtain rfl : k = entries.length := by omega
      have ht : entries.take entries.length = entries := List.take_length
      rw [ht]
      have hOa : Old w1 wr := HOX.out.none hO
      have HWF := Lib.hid HO01.out
      obtain ⟨D, hD⟩ : ∃ D, D0 ++ layN entryF entries = D := ⟨_, rfl⟩
      have hDl : D.length + R0.length + I0.length ≤ 1000000000000000 := by
        rw [← hD]; simp only [List.length_append]; omega
      have q1 : ∀ W, Sem.run Tryz.prog (Op.stringOp .add ⟨D.toArray⟩ ⟨R0.toArray⟩) W = .ok (.string ⟨(D ++ R0).toArray⟩) W := fun W => add_str _ _ _ (by omega) W
      have q2 : ∀ W, Sem.run Tryz.prog (Op.stringOp .add ⟨(D ++ R0).toArray⟩ ⟨I0.toArray⟩) W = .ok (.string ⟨(D ++ (R0 ++ I0)).toArray⟩) W := fun W => by
        rw [add_str _ _ _ (by simp only [List.length_append]; omega) W, List.append_assoc]
      rw [hD]
      have HD := Lib.hid hD
      clear hD hDl hO HEL KE hl1
      have HSQ := Lib.hid (show ∀ w', Old wr w' → w'.cell? ⟨w.heap.size, 0, none⟩ = some (.int .i64 z0) ∧ w'.cell? ⟨w.heap.size, 1, none⟩ = some (.int .i64 z1) ∧ w'.cell? ⟨w.heap.size, 2, none⟩ = some (.int .i64 z2) ∧ w'.cell? ⟨w.heap.size, 3, none⟩ = some (.int .i64 z3) ∧ w'.cell? ⟨w.heap.size, 4, none⟩ = some (.int .i64 z4) ∧ w'.cell? ⟨w.heap.size, 5, none⟩ = some (.slice Am rm.length cm) ∧ w'.cell? ⟨w.heap.size, 6, none⟩ = some (.string data) ∧ w'.cell? ⟨w.heap.size, 7, none⟩ = some (.slice Ae re.length ce) ∧ w'.cell? ⟨w.heap.size, 8, none⟩ = some (v0) ∧ w'.cell? ⟨w.heap.size, 9, none⟩ = some (v1) ∧ w'.cell? ⟨w.heap.size, 10, none⟩ = some (v2) ∧ w'.cell? ⟨w.heap.size, 11, none⟩ = some (v3) ∧ w'.cell? ⟨w.heap.size, 12, none⟩ = some (v4) ∧ w'.cell? ⟨w.heap.size, 13, none⟩ = some (v5) ∧ w'.cell? ⟨w.heap.size, 14, none⟩ = some (v6) ∧ w'.cell? ⟨w.heap.size, 15, none⟩ = some (v7) ∧ w'.cell? ⟨w.heap.size, 16, none⟩ = some (v8) ∧ w'.cell? ⟨w.heap.size, 17, none⟩ = some (v9) ∧ w'.cell? ⟨w.heap.size, 18, none⟩ = some (.slice iA iN iC) ∧ Old wr w' from fun w' hO => by
        obtain ⟨c0, c1, c2, c3, c4, c5, c6, c7, c8, c9, c10, c11, c12, c13, c14, c15, c16, c17, c18, _⟩ := HSS.out w' (hOa.none hO)
        exact ⟨c0, c1, c2, c3, c4, c5, c6, c7, c8, c9, c10, c11, c12, c13, c14, c15, c16, c17, c18, hO⟩)
      obtain ⟨c0, c1, c2, c3, c4, c5, c6, c7, c8, c9, c10, c11, c12, c13, c14, c15, c16, c17, c18, hO1⟩ := HSQ.out wr (Old.refl _)
      have HWR := Lib.hid (HO01.out.none hOa)
      have HOA := Lib.hid hOa
      have KR2 := Lib.hid (show ∀ W, Old wr W → Calls Tryz.prog 25 #[.agg #[v0, v1, v2, v3, v4, v5, v6, v7, v8, v9]] W (OldStr W R0) from fun W h => KR.out W (HWR.out.none h))
      have KI2 := Lib.hid (show ∀ W, Old wr W → Calls Tryz.prog 26 #[.slice iA iN iC] W (OldStr W I0) from fun W h => KI.out W (HWR.out.none h))
      clear KR KI
      clear hOa HSS HOX
      go_upto_region 6 with fail
      go_region_held3 (fun w' => w'.cell? ⟨w.heap.size, 0, none⟩ = some (.int .i64 z0) ∧ w'.cell? ⟨w.heap.size, 1, none⟩ = some (.int .i64 z1) ∧ w'.cell? ⟨w.heap.size, 2, none⟩ = some (.int .i64 z2) ∧ w'.cell? ⟨w.heap.size, 3, none⟩ = some (.int .i64 z3) ∧ w'.cell? ⟨w.heap.size, 4, none⟩ = some (.int .i64 z4) ∧ w'.cell? ⟨w.heap.size, 5, none⟩ = some (.slice Am rm.length cm) ∧ w'.cell? ⟨w.heap.size, 6, none⟩ = some (.string data) ∧ w'.cell? ⟨w.heap.size, 7, none⟩ = some (.slice Ae re.length ce) ∧ w'.cell? ⟨w.heap.size, 8, none⟩ = some (v0) ∧ w'.cell? ⟨w.heap.size, 9, none⟩ = some (v1) ∧ w'.cell? ⟨w.heap.size, 10, none⟩ = some (v2) ∧ w'.cell? ⟨w.heap.size, 11, none⟩ = some (v3) ∧ w'.cell? ⟨w.heap.size, 12, none⟩ = some (v4) ∧ w'.cell? ⟨w.heap.size, 13, none⟩ = some (v5) ∧ w'.cell? ⟨w.heap.size, 14, none⟩ = some (v6) ∧ w'.cell? ⟨w.heap.size, 15, none⟩ = some (v7) ∧ w'.cell? ⟨w.heap.size, 16, none⟩ = some (v8) ∧ w'.cell? ⟨w.heap.size, 17, none⟩ = some (v9) ∧ w'.cell? ⟨w.heap.size, 18, none⟩ = some (.slice iA iN iC) ∧ Old wr w')
        (((try dsimp only); first | exact HSQ.out _ (by assumption) | exact HSQ.out _ (Old.drew (by assumption)) | exact HSQ.out _ (Old.make (by assumption) _) | exact HSQ.out _ (Old.drew (Old.make (by assumption) _)) | exact HSQ.out _ (Old.drew (Old.make (Old.undrew (by assumption)) _)) | exact HSQ.out _ (Old.make (Old.undrew (by assumption)) _)))
        (first
          | (go_at_call 25; go_split_ands; (with_reducible refine (KR2.out _ (by first | assumption | exact Old.drew (by assumption))).mono ?_); rintro e w9 ⟨rfl, hO9⟩; have hP9 : Old wr w9 := Old.none (by first | assumption | exact Old.drew (by assumption) | exact Old.make (by assumption) _ | exact Old.drew (Old.make (by assumption) _) | exact Old.drew (Old.make (Old.undrew (by assumption)) _) | exact Old.make (Old.undrew (by assumption)) _) hO9; have hQ9 := Stp.mk hO9; clear hO9)
          | (go_at_call 26; go_split_ands; (with_reducible refine (KI2.out _ (by first | assumption | exact Old.drew (by assumption))).mono ?_); rintro e w9 ⟨rfl, hO9⟩; have hP9 : Old wr w9 := Old.none (by first | assumption | exact Old.drew (by assumption) | exact Old.make (by assumption) _ | exact Old.drew (Old.make (by assumption) _) | exact Old.drew (Old.make (Old.undrew (by assumption)) _) | exact Old.make (Old.undrew (by assumption)) _) hO9; have hQ9 := Stp.mk hO9; clear hO9))
      all_goals go_wp2_with fail
      all_goals go_ret
      all_goals refine ⟨?_, HWR.out.none (by assumption)⟩
      all_goals show Ending.returned (.string ⟨(D ++ (R0 ++ I0)).toArray⟩) = Ending.returned (.string ⟨_⟩)
      all_goals rw [← HD.out]
      all_goals simp only [List.append_assoc]
end Go.Proofs.YtpmemcpfoapjmaaGreat
