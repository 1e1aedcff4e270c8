/- WireBack: the walk. -/
import Derived.Test.YtcejgdkagbhceaaGreatGots
import Derived.Test.YtcejgdkagbhceaaGreatWawake
namespace Go.Proofs.YtcejgdkagbhceaaGreat.wireBack
open Go.ChangeShapes Go.WideShapes Go.ChangeAt Go.RowKit
set_option linter.unusedVariables false

set_option maxRecDepth 100000 in
set_option maxHeartbeats 4000000 in
theorem walk0 (s : ByteArray) (w : World) (hs : s.size ≤ 140737488355328) : Calls Tryz.prog 5 #[.string s] w fun e w' => e = .returned (.bool true) ∧ Old w w' := by
  have hsm : s.size ≤ maxLen := by unfold maxLen; omega
  have HSZ_entry := Lib.hid (show (Tryz.prog.info? 38).map (·.size) = some 11 by kernel_rfl)
  have HSZ_req := Lib.hid (show (Tryz.prog.info? 28).map (·.size) = some 10 by kernel_rfl)
  have HSZ_reply := Lib.hid (show (Tryz.prog.info? 52).map (·.size) = some 17 by kernel_rfl)
  have HSZ_message := Lib.hid (show (Tryz.prog.info? 31).map (·.size) = some 19 by kernel_rfl)
  have HSZ_event := Lib.hid (show (Tryz.prog.info? 58).map (·.size) = some 3 by kernel_rfl)
  have HSZ_hello := Lib.hid (show (Tryz.prog.info? 62).map (·.size) = some 4 by kernel_rfl)
  have HSZ_note := Lib.hid (show (Tryz.prog.info? 66).map (·.size) = some 6 by kernel_rfl)
  obtain ⟨o_entry, ho_entry⟩ : ∃ o, entryF.read s = o := ⟨_, rfl⟩
  have HL_entry := Lib.hid (lay_facts entryF_ok ho_entry)
  have HO_entry := Lib.hid ho_entry
  clear ho_entry
  obtain ⟨o_req, ho_req⟩ : ∃ o, reqF.read s = o := ⟨_, rfl⟩
  have HL_req := Lib.hid (lay_facts reqF_ok ho_req)
  have HO_req := Lib.hid ho_req
  clear ho_req
  obtain ⟨o_reply, ho_reply⟩ : ∃ o, replyF.read s = o := ⟨_, rfl⟩
  have HL_reply := Lib.hid (lay_facts replyF_ok ho_reply)
  have HO_reply := Lib.hid ho_reply
  clear ho_reply
  obtain ⟨o_message, ho_message⟩ : ∃ o, messageF.read s = o := ⟨_, rfl⟩
  have HL_message := Lib.hid (lay_facts messageF_ok ho_message)
  have HO_message := Lib.hid ho_message
  clear ho_message
  obtain ⟨o_event, ho_event⟩ : ∃ o, eventF.read s = o := ⟨_, rfl⟩
  have HL_event := Lib.hid (lay_facts eventF_ok ho_event)
  have HO_event := Lib.hid ho_event
  clear ho_event
  obtain ⟨o_hello, ho_hello⟩ : ∃ o, helloF.read s = o := ⟨_, rfl⟩
  have HL_hello := Lib.hid (lay_facts helloF_ok ho_hello)
  have HO_hello := Lib.hid ho_hello
  clear ho_hello
  obtain ⟨o_note, ho_note⟩ : ∃ o, noteF.read s = o := ⟨_, rfl⟩
  have HL_note := Lib.hid (lay_facts noteF_ok ho_note)
  have HO_note := Lib.hid ho_note
  clear ho_note
  go_enter Tryz.func5, Tryz.ntmps5
  go_wp2_with fail
  refine (wawake_any _).mono ?_
  rintro en w0 ⟨rfl, hP0⟩
  go_wp2_with fail
  refine (got_entry s _ hsm HO_entry.out).mono ?_
  clear HO_entry
  rintro en w1 ⟨cs1, e1, rfl, hO1, hfl1, hc1⟩
  have HFL1 := Lib.hid hfl1.1
  have HF11 := Lib.hid hfl1.2
  clear hfl1
  have hG_entry := Got.mk (T := 38) entryE_ok hc1
  clear hc1
  have hA1 : Old w1 (w1.alloc (.cells cs1.toArray 38)) := (Old.refl _).alloc _
  have hP1 := (hP0.none hO1).none hA1
  clear hP0 hO1 hA1
  go_wp2_with (refine wpList_store_new w1 rfl 38 _ _ rfl _ cs1 rfl rfl (by rw [HFL1.out]; exact HSZ_entry.out) HFL1.out.symm HF11.out ?_)
  refine (got_req s _ hsm HO_req.out).mono ?_
  clear HO_req
  rintro en w2 ⟨cs2, e2, rfl, hO2, hfl2, hc2⟩
  have HFL2 := Lib.hid hfl2.1
  have HF12 := Lib.hid hfl2.2
  clear hfl2
  have hG_req := Got.mk (T := 28) reqE_ok hc2
  clear hc2
  have hA2 : Old w2 (w2.alloc (.cells cs2.toArray 28)) := (Old.refl _).alloc _
  replace hG_entry := (hG_entry.old entryE_ok hO2).old entryE_ok hA2
  have hP2 := (hP1.none hO2).none hA2
  clear hP1 hO2 hA2
  go_wp2_with (refine wpList_store_new w2 rfl 28 _ _ rfl _ cs2 rfl rfl (by rw [HFL2.out]; exact HSZ_req.out) HFL2.out.symm HF12.out ?_)
  refine (got_reply s _ hsm HO_reply.out).mono ?_
  clear HO_reply
  rintro en w3 ⟨cs3, e3, rfl, hO3, hfl3, hc3⟩
  have HFL3 := Lib.hid hfl3.1
  have HF13 := Lib.hid hfl3.2
  clear hfl3
  have hG_reply := Got.mk (T := 52) replyE_ok hc3
  clear hc3
  have hA3 : Old w3 (w3.alloc (.cells cs3.toArray 52)) := (Old.refl _).alloc _
  replace hG_entry := (hG_entry.old entryE_ok hO3).old entryE_ok hA3
  replace hG_req := (hG_req.old reqE_ok hO3).old reqE_ok hA3
  have hP3 := (hP2.none hO3).none hA3
  clear hP2 hO3 hA3
  go_wp2_with (refine wpList_store_new w3 rfl 52 _ _ rfl _ cs3 rfl rfl (by rw [HFL3.out]; exact HSZ_reply.out) HFL3.out.symm HF13.out ?_)
  refine (got_message s _ hsm HO_message.out).mono ?_
  clear HO_message
  rintro en w4 ⟨cs4, e4, rfl, hO4, hfl4, hc4⟩
  have HFL4 := Lib.hid hfl4.1
  have HF14 := Lib.hid hfl4.2
  clear hfl4
  have hG_message := Got.mk (T := 31) messageE_ok hc4
  clear hc4
  have hA4 : Old w4 (w4.alloc (.cells cs4.toArray 31)) := (Old.refl _).alloc _
  replace hG_entry := (hG_entry.old entryE_ok hO4).old entryE_ok hA4
  replace hG_req := (hG_req.old reqE_ok hO4).old reqE_ok hA4
  replace hG_reply := (hG_reply.old replyE_ok hO4).old replyE_ok hA4
  have hP4 := (hP3.none hO4).none hA4
  clear hP3 hO4 hA4
  go_wp2_with (refine wpList_store_new w4 rfl 31 _ _ rfl _ cs4 rfl rfl (by rw [HFL4.out]; exact HSZ_message.out) HFL4.out.symm HF14.out ?_)
  refine (got_event s _ hsm HO_event.out).mono ?_
  clear HO_event
  rintro en w5 ⟨cs5, e5, rfl, hO5, hfl5, hc5⟩
  have HFL5 := Lib.hid hfl5.1
  have HF15 := Lib.hid hfl5.2
  clear hfl5
  have hG_event := Got.mk (T := 58) eventE_ok hc5
  clear hc5
  have hA5 : Old w5 (w5.alloc (.cells cs5.toArray 58)) := (Old.refl _).alloc _
  replace hG_entry := (hG_entry.old entryE_ok hO5).old entryE_ok hA5
  replace hG_req := (hG_req.old reqE_ok hO5).old reqE_ok hA5
  replace hG_reply := (hG_reply.old replyE_ok hO5).old replyE_ok hA5
  replace hG_message := (hG_message.old messageE_ok hO5).old messageE_ok hA5
  have hP5 := (hP4.none hO5).none hA5
  clear hP4 hO5 hA5
  go_wp2_with (refine wpList_store_new w5 rfl 58 _ _ rfl _ cs5 rfl rfl (by rw [HFL5.out]; exact HSZ_event.out) HFL5.out.symm HF15.out ?_)
  refine (got_hello s _ hsm HO_hello.out).mono ?_
  clear HO_hello
  rintro en w6 ⟨cs6, e6, rfl, hO6, hfl6, hc6⟩
  have HFL6 := Lib.hid hfl6.1
  have HF16 := Lib.hid hfl6.2
  clear hfl6
  have hG_hello := Got.mk (T := 62) helloE_ok hc6
  clear hc6
  have hA6 : Old w6 (w6.alloc (.cells cs6.toArray 62)) := (Old.refl _).alloc _
  replace hG_entry := (hG_entry.old entryE_ok hO6).old entryE_ok hA6
  replace hG_req := (hG_req.old reqE_ok hO6).old reqE_ok hA6
  replace hG_reply := (hG_reply.old replyE_ok hO6).old replyE_ok hA6
  replace hG_message := (hG_message.old messageE_ok hO6).old messageE_ok hA6
  replace hG_event := (hG_event.old eventE_ok hO6).old eventE_ok hA6
  have hP6 := (hP5.none hO6).none hA6
  clear hP5 hO6 hA6
  go_wp2_with (refine wpList_store_new w6 rfl 62 _ _ rfl _ cs6 rfl rfl (by rw [HFL6.out]; exact HSZ_hello.out) HFL6.out.symm HF16.out ?_)
  refine (got_note s _ hsm HO_note.out).mono ?_
  clear HO_note
  rintro en w7 ⟨cs7, e7, rfl, hO7, hfl7, hc7⟩
  have HFL7 := Lib.hid hfl7.1
  have HF17 := Lib.hid hfl7.2
  clear hfl7
  have hG_note := Got.mk (T := 66) noteE_ok hc7
  clear hc7
  have hA7 : Old w7 (w7.alloc (.cells cs7.toArray 66)) := (Old.refl _).alloc _
  replace hG_entry := (hG_entry.old entryE_ok hO7).old entryE_ok hA7
  replace hG_req := (hG_req.old reqE_ok hO7).old reqE_ok hA7
  replace hG_reply := (hG_reply.old replyE_ok hO7).old replyE_ok hA7
  replace hG_message := (hG_message.old messageE_ok hO7).old messageE_ok hA7
  replace hG_event := (hG_event.old eventE_ok hO7).old eventE_ok hA7
  replace hG_hello := (hG_hello.old helloE_ok hO7).old helloE_ok hA7
  have hP7 := (hP6.none hO7).none hA7
  clear hP6 hO7 hA7
  go_wp2_with (first | (refine wpList_store_new w7 rfl 66 _ _ rfl _ cs7 rfl rfl (by rw [HFL7.out]; exact HSZ_note.out) HFL7.out.symm HF17.out ?_) | (refine wpList_or 59 60 61 62 63 rfl (fun W' => Old (w7.alloc (.cells cs7.toArray 66)) W') ?_ ?_; (focus (as_aux_lemma => (intro Q2 hQ; have HQ := Lib.hid hQ; clear hQ; have hG := hG_entry.old entryE_ok (Old.refl (w7.alloc (.cells cs7.toArray 66))); obtain ⟨hb, hcase⟩ := hG; simp only [List.take_succ_cons, List.take_zero]; rcases hcase with ⟨h0, x, B, hr, hB, hE⟩ | ⟨h0, hr⟩; (subst h0; have HLS := Lib.hid (HL_entry.out x hr); clear hr; have HRG := Lib.hid (range_row hb); clear hb; have HFS := Lib.hid (info_len HSZ_entry.out (entryE_flat hE).1); refine wpList_load_guarded rfl 38 (.tmp 4) rfl w1.heap.size 0 rfl _ _ HRG.out Tryz.underlying38 rfl HFS.out ?_; go_wp2_with (go_at_call 23; refine (PutEntry_any x _ _ _ hE (in_lt hB) (by rw [HLS.out.2]; omega)).mono ?_; rintro en wd ⟨rfl, hOd⟩; rw [HLS.out.1]); exact HQ.out _ _ _ _ _ (Old.none (Old.refl (w7.alloc (.cells cs7.toArray 66))) hOd)); (subst h0; clear hr hb; go_wp2_with fail; exact HQ.out _ _ _ _ _ (Old.refl (w7.alloc (.cells cs7.toArray 66))))))); intro y1a y1b y1c y1d z1 hS1; simp only [Act.put, List.setIfInBounds_toArray, List.set_cons_succ, List.set_cons_zero, List.drop_succ_cons, List.drop_zero]) | (refine wpList_or 68 69 70 71 72 rfl (fun W' => Old (w7.alloc (.cells cs7.toArray 66)) W') ?_ ?_; (focus (as_aux_lemma => (intro Q2 hQ; have HQ := Lib.hid hQ; clear hQ; have hG := hG_req.old reqE_ok hS1; obtain ⟨hb, hcase⟩ := hG; simp only [List.take_succ_cons, List.take_zero]; rcases hcase with ⟨h0, x, B, hr, hB, hE⟩ | ⟨h0, hr⟩; (subst h0; have HLS := Lib.hid (HL_req.out x hr); clear hr; have HRG := Lib.hid (range_row hb); clear hb; have HFS := Lib.hid (info_len HSZ_req.out (reqE_flat hE).1); refine wpList_load_guarded rfl 28 (.tmp 6) rfl w2.heap.size 0 rfl _ _ HRG.out Tryz.underlying28 rfl HFS.out ?_; go_wp2_with (go_at_call 24; refine (PutRequest_any x _ _ _ hE (in_lt hB) (by rw [HLS.out.2]; omega)).mono ?_; rintro en wd ⟨rfl, hOd⟩; rw [HLS.out.1]); exact HQ.out _ _ _ _ _ (Old.none hS1 hOd)); (subst h0; clear hr hb; go_wp2_with fail; exact HQ.out _ _ _ _ _ hS1)))); intro y2a y2b y2c y2d z2 hS2; simp only [Act.put, List.setIfInBounds_toArray, List.set_cons_succ, List.set_cons_zero, List.drop_succ_cons, List.drop_zero]) | (refine wpList_or 78 79 80 81 82 rfl (fun W' => Old (w7.alloc (.cells cs7.toArray 66)) W') ?_ ?_; (focus (as_aux_lemma => (intro Q2 hQ; have HQ := Lib.hid hQ; clear hQ; have hG := hG_reply.old replyE_ok hS2; obtain ⟨hb, hcase⟩ := hG; simp only [List.take_succ_cons, List.take_zero]; rcases hcase with ⟨h0, x, B, hr, hB, hE⟩ | ⟨h0, hr⟩; (subst h0; have HLS := Lib.hid (HL_reply.out x hr); clear hr; have HRG := Lib.hid (range_row hb); clear hb; have HFS := Lib.hid (info_len HSZ_reply.out (replyE_flat hE).1); refine wpList_load_guarded rfl 52 (.tmp 8) rfl w3.heap.size 0 rfl _ _ HRG.out Tryz.underlying52 rfl HFS.out ?_; go_wp2_with (go_at_call 25; refine (PutReply_any x _ _ _ hE (in_lt hB) (by rw [HLS.out.2]; omega)).mono ?_; rintro en wd ⟨rfl, hOd⟩; rw [HLS.out.1]); exact HQ.out _ _ _ _ _ (Old.none hS2 hOd)); (subst h0; clear hr hb; go_wp2_with fail; exact HQ.out _ _ _ _ _ hS2)))); intro y3a y3b y3c y3d z3 hS3; simp only [Act.put, List.setIfInBounds_toArray, List.set_cons_succ, List.set_cons_zero, List.drop_succ_cons, List.drop_zero]) | (refine wpList_or 87 88 89 90 91 rfl (fun W' => Old (w7.alloc (.cells cs7.toArray 66)) W') ?_ ?_; (focus (as_aux_lemma => (intro Q2 hQ; have HQ := Lib.hid hQ; clear hQ; have hG := hG_message.old messageE_ok hS3; obtain ⟨hb, hcase⟩ := hG; simp only [List.take_succ_cons, List.take_zero]; rcases hcase with ⟨h0, x, B, hr, hB, hE⟩ | ⟨h0, hr⟩; (subst h0; have HLS := Lib.hid (HL_message.out x hr); clear hr; have HRG := Lib.hid (range_row hb); clear hb; have HFS := Lib.hid (info_len HSZ_message.out (messageE_flat hE).1); refine wpList_load_guarded rfl 31 (.tmp 10) rfl w4.heap.size 0 rfl _ _ HRG.out Tryz.underlying31 rfl HFS.out ?_; go_wp2_with (go_at_call 8; refine (PutMessage_any x _ _ _ hE (in_lt hB) (by rw [HLS.out.2]; omega)).mono ?_; rintro en wd ⟨rfl, hOd⟩; rw [HLS.out.1]); exact HQ.out _ _ _ _ _ (Old.none hS3 hOd)); (subst h0; clear hr hb; go_wp2_with fail; exact HQ.out _ _ _ _ _ hS3)))); intro y4a y4b y4c y4d z4 hS4; simp only [Act.put, List.setIfInBounds_toArray, List.set_cons_succ, List.set_cons_zero, List.drop_succ_cons, List.drop_zero]) | (refine wpList_or 96 97 98 99 100 rfl (fun W' => Old (w7.alloc (.cells cs7.toArray 66)) W') ?_ ?_; (focus (as_aux_lemma => (intro Q2 hQ; have HQ := Lib.hid hQ; clear hQ; have hG := hG_event.old eventE_ok hS4; obtain ⟨hb, hcase⟩ := hG; simp only [List.take_succ_cons, List.take_zero]; rcases hcase with ⟨h0, x, B, hr, hB, hE⟩ | ⟨h0, hr⟩; (subst h0; have HLS := Lib.hid (HL_event.out x hr); clear hr; have HRG := Lib.hid (range_row hb); clear hb; have HFS := Lib.hid (info_len HSZ_event.out (eventE_flat hE).1); refine wpList_load_guarded rfl 58 (.tmp 12) rfl w5.heap.size 0 rfl _ _ HRG.out Tryz.underlying58 rfl HFS.out ?_; go_wp2_with (go_at_call 26; refine (PutEvent_any x _ _ _ hE (in_lt hB) (by rw [HLS.out.2]; omega)).mono ?_; rintro en wd ⟨rfl, hOd⟩; rw [HLS.out.1]); exact HQ.out _ _ _ _ _ (Old.none hS4 hOd)); (subst h0; clear hr hb; go_wp2_with fail; exact HQ.out _ _ _ _ _ hS4)))); intro y5a y5b y5c y5d z5 hS5; simp only [Act.put, List.setIfInBounds_toArray, List.set_cons_succ, List.set_cons_zero, List.drop_succ_cons, List.drop_zero]) | (refine wpList_or 106 107 108 109 110 rfl (fun W' => Old (w7.alloc (.cells cs7.toArray 66)) W') ?_ ?_; (focus (as_aux_lemma => (intro Q2 hQ; have HQ := Lib.hid hQ; clear hQ; have hG := hG_hello.old helloE_ok hS5; obtain ⟨hb, hcase⟩ := hG; simp only [List.take_succ_cons, List.take_zero]; rcases hcase with ⟨h0, x, B, hr, hB, hE⟩ | ⟨h0, hr⟩; (subst h0; have HLS := Lib.hid (HL_hello.out x hr); clear hr; have HRG := Lib.hid (range_row hb); clear hb; have HFS := Lib.hid (info_len HSZ_hello.out (helloE_flat hE).1); refine wpList_load_guarded rfl 62 (.tmp 14) rfl w6.heap.size 0 rfl _ _ HRG.out Tryz.underlying62 rfl HFS.out ?_; go_wp2_with (go_at_call 27; refine (PutHello_any x _ _ _ hE (in_lt hB) (by rw [HLS.out.2]; omega)).mono ?_; rintro en wd ⟨rfl, hOd⟩; rw [HLS.out.1]); exact HQ.out _ _ _ _ _ (Old.none hS5 hOd)); (subst h0; clear hr hb; go_wp2_with fail; exact HQ.out _ _ _ _ _ hS5)))); intro y6a y6b y6c y6d z6 hS6; simp only [Act.put, List.setIfInBounds_toArray, List.set_cons_succ, List.set_cons_zero, List.drop_succ_cons, List.drop_zero]) | (refine wpList_or 116 117 118 119 120 rfl (fun W' => Old (w7.alloc (.cells cs7.toArray 66)) W') ?_ ?_; (focus (as_aux_lemma => (intro Q2 hQ; have HQ := Lib.hid hQ; clear hQ; have hG := hG_note.old noteE_ok hS6; obtain ⟨hb, hcase⟩ := hG; simp only [List.take_succ_cons, List.take_zero]; rcases hcase with ⟨h0, x, B, hr, hB, hE⟩ | ⟨h0, hr⟩; (subst h0; have HLS := Lib.hid (HL_note.out x hr); clear hr; have HRG := Lib.hid (range_row hb); clear hb; have HFS := Lib.hid (info_len HSZ_note.out (noteE_flat hE).1); refine wpList_load_guarded rfl 66 (.tmp 16) rfl w7.heap.size 0 rfl _ _ HRG.out Tryz.underlying66 rfl HFS.out ?_; go_wp2_with (go_at_call 28; refine (PutNote_any x _ _ _ hE (in_lt hB) (by rw [HLS.out.2]; omega)).mono ?_; rintro en wd ⟨rfl, hOd⟩; rw [HLS.out.1]); exact HQ.out _ _ _ _ _ (Old.none hS6 hOd)); (subst h0; clear hr hb; go_wp2_with fail; exact HQ.out _ _ _ _ _ hS6)))); intro y7a y7b y7c y7d z7 hS7; simp only [Act.put, List.setIfInBounds_toArray, List.set_cons_succ, List.set_cons_zero, List.drop_succ_cons, List.drop_zero]))
  go_ret
  exact ⟨rfl, hP7.none hS7⟩

theorem walk (s : ByteArray) (w : World) (hs : s.size ≤ 140737488351232) : Calls Tryz.prog 5 #[.string s] w fun e w' => e = .returned (.bool true) ∧ Below w.heap.size w w' :=
  (walk0 s w (by omega)).mono fun _ _ ⟨h1, h2⟩ => ⟨h1, h2.below⟩

end Go.Proofs.YtcejgdkagbhceaaGreat.wireBack
