/- A message, laid. -/
import Derived.Test.YtngcfnffbggniaaPentry
import Derived.Test.YtngcfnffbggniaaPreq
namespace Go.Proofs.Ytngcfnffbggniaa
open Go.ChangeShapes Go.WideShapes Go.ChangeAt Go.RowKit
set_option linter.unusedVariables false

set_option maxRecDepth 100000 in
set_option maxHeartbeats 600000 in
theorem put_message (x : Message) (cs : List Value) (ok : Nat → Prop) (w : World) (b : Nat) (v : Value) (l : List UInt8) (hW : WAt w b v l) (hE : messageE w ok cs x) (hd : Disj ok (WS b v)) (hi : In w ok) (hl : l.length + (messageF.lay x).length ≤ 144900000000000) :
    Calls Try.prog 63 #[.pointer (some ⟨b, 0, none⟩), .agg cs.toArray] w (WPost w b v (l ++ messageF.lay x)) := by
  obtain ⟨vmarks, ventries, cr, vids, rfl, hmarks, hentries, hreq, hids, hn_kind, hn_epoch, hn_zxid, hn_number, hn_session, hs_data⟩ := hE
  obtain ⟨A_acl, n_acl, c_acl, A_subs, n_subs, c_subs, A_armed, n_armed, c_armed, rfl⟩ := reqE_cells hreq
  obtain ⟨A_marks, n_marks, c_marks, rfl⟩ := hmarks.shape
  obtain ⟨A_entries, n_entries, c_entries, rfl⟩ := hentries.shape
  obtain ⟨A_ids, n_ids, c_ids, rfl⟩ := hids.shape
  have S0 := WSt.box hW (.cells #[.int .i64 x.kind, .int .i64 x.epoch, .int .i64 x.zxid, .int .i64 x.number, .int .i64 x.session, .slice A_marks n_marks c_marks, .string x.data, .slice A_entries n_entries c_entries, .int .i64 x.request.op.kind, .int .i64 x.request.op.xid, .string x.request.op.path, .string x.request.op.data, .slice A_acl n_acl c_acl, .int .i64 x.request.op.flags, .int .i64 x.request.op.version, .bool x.request.op.watch, .slice A_subs n_subs c_subs, .slice A_armed n_armed c_armed, .slice A_ids n_ids c_ids] 62)
  have hnb := box_new hW
  have hbk := heap_alloc_new w (.cells #[.int .i64 x.kind, .int .i64 x.epoch, .int .i64 x.zxid, .int .i64 x.number, .int .i64 x.session, .slice A_marks n_marks c_marks, .string x.data, .slice A_entries n_entries c_entries, .int .i64 x.request.op.kind, .int .i64 x.request.op.xid, .string x.request.op.path, .string x.request.op.data, .slice A_acl n_acl c_acl, .int .i64 x.request.op.flags, .int .i64 x.request.op.version, .bool x.request.op.watch, .slice A_subs n_subs c_subs, .slice A_armed n_armed c_armed, .slice A_ids n_ids c_ids] 62)
  replace hmarks := hmarks.keep intE_ok ((Kept.refl (fun _ => False) w).alloc (.cells #[.int .i64 x.kind, .int .i64 x.epoch, .int .i64 x.zxid, .int .i64 x.number, .int .i64 x.session, .slice A_marks n_marks c_marks, .string x.data, .slice A_entries n_entries c_entries, .int .i64 x.request.op.kind, .int .i64 x.request.op.xid, .string x.request.op.path, .string x.request.op.data, .slice A_acl n_acl c_acl, .int .i64 x.request.op.flags, .int .i64 x.request.op.version, .bool x.request.op.watch, .slice A_subs n_subs c_subs, .slice A_armed n_armed c_armed, .slice A_ids n_ids c_ids] 62)) (disj_none ok)
  replace hentries := hentries.keep entryE_ok ((Kept.refl (fun _ => False) w).alloc (.cells #[.int .i64 x.kind, .int .i64 x.epoch, .int .i64 x.zxid, .int .i64 x.number, .int .i64 x.session, .slice A_marks n_marks c_marks, .string x.data, .slice A_entries n_entries c_entries, .int .i64 x.request.op.kind, .int .i64 x.request.op.xid, .string x.request.op.path, .string x.request.op.data, .slice A_acl n_acl c_acl, .int .i64 x.request.op.flags, .int .i64 x.request.op.version, .bool x.request.op.watch, .slice A_subs n_subs c_subs, .slice A_armed n_armed c_armed, .slice A_ids n_ids c_ids] 62)) (disj_none ok)
  replace hreq := reqE_ok.keep hreq ((Kept.refl (fun _ => False) w).alloc (.cells #[.int .i64 x.kind, .int .i64 x.epoch, .int .i64 x.zxid, .int .i64 x.number, .int .i64 x.session, .slice A_marks n_marks c_marks, .string x.data, .slice A_entries n_entries c_entries, .int .i64 x.request.op.kind, .int .i64 x.request.op.xid, .string x.request.op.path, .string x.request.op.data, .slice A_acl n_acl c_acl, .int .i64 x.request.op.flags, .int .i64 x.request.op.version, .bool x.request.op.watch, .slice A_subs n_subs c_subs, .slice A_armed n_armed c_armed, .slice A_ids n_ids c_ids] 62)) (disj_none ok)
  replace hids := hids.keep textE_ok ((Kept.refl (fun _ => False) w).alloc (.cells #[.int .i64 x.kind, .int .i64 x.epoch, .int .i64 x.zxid, .int .i64 x.number, .int .i64 x.session, .slice A_marks n_marks c_marks, .string x.data, .slice A_entries n_entries c_entries, .int .i64 x.request.op.kind, .int .i64 x.request.op.xid, .string x.request.op.path, .string x.request.op.data, .slice A_acl n_acl c_acl, .int .i64 x.request.op.flags, .int .i64 x.request.op.version, .bool x.request.op.watch, .slice A_subs n_subs c_subs, .slice A_armed n_armed c_armed, .slice A_ids n_ids c_ids] 62)) (disj_none ok)
  replace hi := hi.kept ((Kept.refl (fun _ => False) w).alloc (.cells #[.int .i64 x.kind, .int .i64 x.epoch, .int .i64 x.zxid, .int .i64 x.number, .int .i64 x.session, .slice A_marks n_marks c_marks, .string x.data, .slice A_entries n_entries c_entries, .int .i64 x.request.op.kind, .int .i64 x.request.op.xid, .string x.request.op.path, .string x.request.op.data, .slice A_acl n_acl c_acl, .int .i64 x.request.op.flags, .int .i64 x.request.op.version, .bool x.request.op.watch, .slice A_subs n_subs c_subs, .slice A_armed n_armed c_armed, .slice A_ids n_ids c_ids] 62))
  have hlen : (messageF.lay x).length = (sev (zz x.kind)).length + (sev (zz x.epoch)).length + (sev (zz x.zxid)).length + (sev (zz x.number)).length + (sev (zz x.session)).length + ((listF numF).lay x.marks).length + ((sev x.data.size).length + x.data.size) + ((listF entryF).lay x.entries).length + (reqF.lay x.request).length + ((listF (textF 4096)).lay x.ids).length := by simp only [messageF, isoF, seqF, numF, textF, List.length_append, str_len] <;> omega
  have hl1 : l.length + ((sev (zz x.kind)).length + (sev (zz x.epoch)).length + (sev (zz x.zxid)).length + (sev (zz x.number)).length + (sev (zz x.session)).length + ((listF numF).lay x.marks).length + ((sev x.data.size).length + x.data.size) + ((listF entryF).lay x.entries).length + (reqF.lay x.request).length + ((listF (textF 4096)).lay x.ids).length) ≤ 144900000000000 := by rw [← hlen]; exact hl
  clear hlen
  clear hl
  go_enter Try.func63, Try.ntmps63
  go_wp2_with fail
  have hcall0 : Calls Try.prog 72 #[.pointer (some ⟨b, 0, none⟩), .slice (some ⟨w.heap.size + 1, 0, none⟩) 5 5] ((w.alloc (.cells #[.int .i64 x.kind, .int .i64 x.epoch, .int .i64 x.zxid, .int .i64 x.number, .int .i64 x.session, .slice A_marks n_marks c_marks, .string x.data, .slice A_entries n_entries c_entries, .int .i64 x.request.op.kind, .int .i64 x.request.op.xid, .string x.request.op.path, .string x.request.op.data, .slice A_acl n_acl c_acl, .int .i64 x.request.op.flags, .int .i64 x.request.op.version, .bool x.request.op.watch, .slice A_subs n_subs c_subs, .slice A_armed n_armed c_armed, .slice A_ids n_ids c_ids] 62)).alloc (.cells #[.int .i64 x.kind, .int .i64 x.epoch, .int .i64 x.zxid, .int .i64 x.number, .int .i64 x.session] 3)) (WPost ((w.alloc (.cells #[.int .i64 x.kind, .int .i64 x.epoch, .int .i64 x.zxid, .int .i64 x.number, .int .i64 x.session, .slice A_marks n_marks c_marks, .string x.data, .slice A_entries n_entries c_entries, .int .i64 x.request.op.kind, .int .i64 x.request.op.xid, .string x.request.op.path, .string x.request.op.data, .slice A_acl n_acl c_acl, .int .i64 x.request.op.flags, .int .i64 x.request.op.version, .bool x.request.op.watch, .slice A_subs n_subs c_subs, .slice A_armed n_armed c_armed, .slice A_ids n_ids c_ids] 62)).alloc (.cells #[.int .i64 x.kind, .int .i64 x.epoch, .int .i64 x.zxid, .int .i64 x.number, .int .i64 x.session] 3)) b v (l ++ layN numF [x.kind, x.epoch, x.zxid, x.number, x.session])) :=
    nums_call [x.kind, x.epoch, x.zxid, x.number, x.session] _ _ (by simp) b _ _ S0.at_ (by simp only [List.mem_cons, List.not_mem_nil, or_false, forall_eq_or_imp, forall_eq]; exact ⟨hn_kind, hn_epoch, hn_zxid, hn_number, hn_session⟩) (by unfold maxLen; simp only [List.length_cons, List.length_nil]; omega) (by simp only [List.length_append, layN, List.flatMap_cons, List.flatMap_nil, List.append_nil, numF_lay]; omega)
  have HC0 := Lib.hid hcall0; clear hcall0
  refine HC0.out.mono ?_
  rintro e w1 h1
  obtain ⟨v1, rfl, S1⟩ := (S0.alloc _).step h1
  clear S0 h1 HC0
  have hb1 := S1.blk hbk hnb
  have c1_5 : w1.cell? ⟨w.heap.size, 5, none⟩ = some (.slice A_marks n_marks c_marks) := by simp [World.cell?, hb1]
  clear hb1
  go_wp2_with fail
  refine (putList_num x.marks _ ok _ b _ _ S1.at_ (hmarks.keep intE_ok S1.kept hd) (hd.symm.sep hi S1.sep).symm (hi.kept S1.kept) (by simp only [List.length_append, layN, List.flatMap_cons, List.flatMap_nil, List.append_nil, numF_lay]; omega)).mono ?_
  rintro e w2 h2
  obtain ⟨v2, rfl, S2⟩ := S1.step h2
  clear S1 h2
  have hb2 := S2.blk hbk hnb
  have c2_6 : w2.cell? ⟨w.heap.size, 6, none⟩ = some (.string x.data) := by simp [World.cell?, hb2]
  clear hb2
  go_wp2_with fail
  refine (wtext_wide x.data _ b _ _ S2.at_ hs_data (by simp only [List.length_append, layN, List.flatMap_cons, List.flatMap_nil, List.append_nil, numF_lay]; omega)).mono ?_
  rintro e w3 h3
  obtain ⟨v3, rfl, S3⟩ := S2.step h3
  clear S2 h3
  have hb3 := S3.blk hbk hnb
  have c3_7 : w3.cell? ⟨w.heap.size, 7, none⟩ = some (.slice A_entries n_entries c_entries) := by simp [World.cell?, hb3]
  clear hb3
  go_wp2_with fail
  refine (putList_entry x.entries _ ok _ b _ _ S3.at_ (hentries.keep entryE_ok S3.kept hd) (hd.symm.sep hi S3.sep).symm (hi.kept S3.kept) (by simp only [List.length_append, layN, List.flatMap_cons, List.flatMap_nil, List.append_nil, numF_lay, str_len]; omega)).mono ?_
  rintro e w4 h4
  obtain ⟨v4, rfl, S4⟩ := S3.step h4
  clear S3 h4
  have hb4 := S4.blk hbk hnb
  have c4_8 : w4.cell? ⟨w.heap.size, 8, none⟩ = some (.int .i64 x.request.op.kind) := by simp [World.cell?, hb4]
  have c4_9 : w4.cell? ⟨w.heap.size, 9, none⟩ = some (.int .i64 x.request.op.xid) := by simp [World.cell?, hb4]
  have c4_10 : w4.cell? ⟨w.heap.size, 10, none⟩ = some (.string x.request.op.path) := by simp [World.cell?, hb4]
  have c4_11 : w4.cell? ⟨w.heap.size, 11, none⟩ = some (.string x.request.op.data) := by simp [World.cell?, hb4]
  have c4_12 : w4.cell? ⟨w.heap.size, 12, none⟩ = some (.slice A_acl n_acl c_acl) := by simp [World.cell?, hb4]
  have c4_13 : w4.cell? ⟨w.heap.size, 13, none⟩ = some (.int .i64 x.request.op.flags) := by simp [World.cell?, hb4]
  have c4_14 : w4.cell? ⟨w.heap.size, 14, none⟩ = some (.int .i64 x.request.op.version) := by simp [World.cell?, hb4]
  have c4_15 : w4.cell? ⟨w.heap.size, 15, none⟩ = some (.bool x.request.op.watch) := by simp [World.cell?, hb4]
  have c4_16 : w4.cell? ⟨w.heap.size, 16, none⟩ = some (.slice A_subs n_subs c_subs) := by simp [World.cell?, hb4]
  have c4_17 : w4.cell? ⟨w.heap.size, 17, none⟩ = some (.slice A_armed n_armed c_armed) := by simp [World.cell?, hb4]
  clear hb4
  go_wp2_with fail
  refine (put_req x.request _ ok _ b _ _ S4.at_ (reqE_ok.keep hreq S4.kept hd) (hd.symm.sep hi S4.sep).symm (hi.kept S4.kept) (by simp only [List.length_append, layN, List.flatMap_cons, List.flatMap_nil, List.append_nil, numF_lay, str_len]; omega)).mono ?_
  rintro e w5 h5
  obtain ⟨v5, rfl, S5⟩ := S4.step h5
  clear S4 h5
  have hb5 := S5.blk hbk hnb
  have c5_18 : w5.cell? ⟨w.heap.size, 18, none⟩ = some (.slice A_ids n_ids c_ids) := by simp [World.cell?, hb5]
  clear hb5
  go_wp2_with fail
  refine (putList_text x.ids _ ok _ b _ _ S5.at_ (hids.keep textE_ok S5.kept hd) (hd.symm.sep hi S5.sep).symm (hi.kept S5.kept) (by simp only [List.length_append, layN, List.flatMap_cons, List.flatMap_nil, List.append_nil, numF_lay, str_len]; omega)).mono ?_
  rintro e w6 h6
  obtain ⟨v6, rfl, S6⟩ := S5.step h6
  clear S5 h6
  go_wp2_with fail
  go_end0
  exact S6.unbox (by simp only [messageF, isoF, seqF, numF, textF, layN, List.flatMap_cons, List.flatMap_nil, List.append_nil, List.append_assoc])

end Go.Proofs.Ytngcfnffbggniaa
