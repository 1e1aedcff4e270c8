/- An answer, laid. -/
import Derived.Test.YtngcfnffbggniaaPacl
namespace Go.Proofs.Ytngcfnffbggniaa
open Go.ChangeShapes Go.WideShapes Go.ChangeAt Go.RowKit
set_option linter.unusedVariables false

set_option maxRecDepth 100000 in
set_option maxHeartbeats 600000 in
theorem put_stat (x : Stat) (cs : List Value) (ok : Nat → Prop) (w : World) (b : Nat) (v : Value) (l : List UInt8) (hW : WAt w b v l) (hE : statE w ok cs x) (hd : Disj ok (WS b v)) (hi : In w ok) (hl : l.length + (statF.lay x).length ≤ 144900000000000) :
    Calls Try.prog 135 #[.pointer (some ⟨b, 0, none⟩), .agg cs.toArray] w (WPost w b v (l ++ statF.lay x)) := by
  obtain ⟨rfl, hn_czxid, hn_mzxid, hn_pzxid, hn_version, hn_cversion, hn_aversion, hn_owner, hn_length, hn_kids⟩ := hE
  have S0 := WSt.box hW (.cells #[.int .i64 x.czxid, .int .i64 x.mzxid, .int .i64 x.pzxid, .int .i64 x.version, .int .i64 x.cversion, .int .i64 x.aversion, .int .i64 x.owner, .int .i64 x.length, .int .i64 x.kids] 42)
  have hnb := box_new hW
  have hbk := heap_alloc_new w (.cells #[.int .i64 x.czxid, .int .i64 x.mzxid, .int .i64 x.pzxid, .int .i64 x.version, .int .i64 x.cversion, .int .i64 x.aversion, .int .i64 x.owner, .int .i64 x.length, .int .i64 x.kids] 42)
  replace hi := hi.kept ((Kept.refl (fun _ => False) w).alloc (.cells #[.int .i64 x.czxid, .int .i64 x.mzxid, .int .i64 x.pzxid, .int .i64 x.version, .int .i64 x.cversion, .int .i64 x.aversion, .int .i64 x.owner, .int .i64 x.length, .int .i64 x.kids] 42))
  have hlen : (statF.lay x).length = (sev (zz x.czxid)).length + (sev (zz x.mzxid)).length + (sev (zz x.pzxid)).length + (sev (zz x.version)).length + (sev (zz x.cversion)).length + (sev (zz x.aversion)).length + (sev (zz x.owner)).length + (sev (zz x.length)).length + (sev (zz x.kids)).length := by simp only [statF, isoF, seqF, numF, List.length_append] <;> omega
  have hl1 : l.length + ((sev (zz x.czxid)).length + (sev (zz x.mzxid)).length + (sev (zz x.pzxid)).length + (sev (zz x.version)).length + (sev (zz x.cversion)).length + (sev (zz x.aversion)).length + (sev (zz x.owner)).length + (sev (zz x.length)).length + (sev (zz x.kids)).length) ≤ 144900000000000 := by rw [← hlen]; exact hl
  clear hlen
  clear hl
  go_enter Try.func135, Try.ntmps135
  go_wp2_with fail
  have hcall0 : Calls Try.prog 72 #[.pointer (some ⟨b, 0, none⟩), .slice (some ⟨w.heap.size + 1, 0, none⟩) 9 9] ((w.alloc (.cells #[.int .i64 x.czxid, .int .i64 x.mzxid, .int .i64 x.pzxid, .int .i64 x.version, .int .i64 x.cversion, .int .i64 x.aversion, .int .i64 x.owner, .int .i64 x.length, .int .i64 x.kids] 42)).alloc (.cells #[.int .i64 x.czxid, .int .i64 x.mzxid, .int .i64 x.pzxid, .int .i64 x.version, .int .i64 x.cversion, .int .i64 x.aversion, .int .i64 x.owner, .int .i64 x.length, .int .i64 x.kids] 3)) (WPost ((w.alloc (.cells #[.int .i64 x.czxid, .int .i64 x.mzxid, .int .i64 x.pzxid, .int .i64 x.version, .int .i64 x.cversion, .int .i64 x.aversion, .int .i64 x.owner, .int .i64 x.length, .int .i64 x.kids] 42)).alloc (.cells #[.int .i64 x.czxid, .int .i64 x.mzxid, .int .i64 x.pzxid, .int .i64 x.version, .int .i64 x.cversion, .int .i64 x.aversion, .int .i64 x.owner, .int .i64 x.length, .int .i64 x.kids] 3)) b v (l ++ layN numF [x.czxid, x.mzxid, x.pzxid, x.version, x.cversion, x.aversion, x.owner, x.length, x.kids])) :=
    nums_call [x.czxid, x.mzxid, x.pzxid, x.version, x.cversion, x.aversion, x.owner, x.length, x.kids] _ _ (by simp) b _ _ S0.at_ (by simp only [List.mem_cons, List.not_mem_nil, or_false, forall_eq_or_imp, forall_eq]; exact ⟨hn_czxid, hn_mzxid, hn_pzxid, hn_version, hn_cversion, hn_aversion, hn_owner, hn_length, hn_kids⟩) (by unfold maxLen; simp only [List.length_cons, List.length_nil]; omega) (by simp only [List.length_append, layN, List.flatMap_cons, List.flatMap_nil, List.append_nil, numF_lay]; omega)
  have HC0 := Lib.hid hcall0; clear hcall0
  refine HC0.out.mono ?_
  rintro e w1 h1
  obtain ⟨v1, rfl, S1⟩ := (S0.alloc _).step h1
  clear S0 h1 HC0
  go_wp2_with fail
  go_end0
  exact S1.unbox (by simp only [statF, isoF, seqF, numF, layN, List.flatMap_cons, List.flatMap_nil, List.append_nil])

set_option maxRecDepth 100000 in
set_option maxHeartbeats 600000 in
theorem put_ans (x : Ans) (cs : List Value) (ok : Nat → Prop) (w : World) (b : Nat) (v : Value) (l : List UInt8) (hW : WAt w b v l) (hE : ansE w ok cs x) (hd : Disj ok (WS b v)) (hi : In w ok) (hl : l.length + (ansF.lay x).length ≤ 144900000000000) :
    Calls Try.prog 88 #[.pointer (some ⟨b, 0, none⟩), .agg cs.toArray] w (WPost w b v (l ++ ansF.lay x)) := by
  obtain ⟨vsubs, vacl, vkids, rfl, hacl, hkids, hn_xid, hn_zxid, hn_err, hs_path, hs_data, hn_czxid, hn_mzxid, hn_pzxid, hn_version, hn_cversion, hn_aversion, hn_owner, hn_length, hn_kids, gsubs⟩ := hE
  obtain ⟨A_acl, n_acl, c_acl, rfl⟩ := hacl.shape
  obtain ⟨A_kids, n_kids, c_kids, rfl⟩ := hkids.shape
  obtain ⟨A_subs, n_subs, c_subs, rfl⟩ := gsubs
  have hstat : statE w ok [.int .i64 x.stat.czxid, .int .i64 x.stat.mzxid, .int .i64 x.stat.pzxid, .int .i64 x.stat.version, .int .i64 x.stat.cversion, .int .i64 x.stat.aversion, .int .i64 x.stat.owner, .int .i64 x.stat.length, .int .i64 x.stat.kids] x.stat := ⟨rfl, hn_czxid, hn_mzxid, hn_pzxid, hn_version, hn_cversion, hn_aversion, hn_owner, hn_length, hn_kids⟩
  have S0 := WSt.box hW (.cells #[.int .i64 x.xid, .int .i64 x.zxid, .int .i64 x.err, .string x.path, .string x.data, .int .i64 x.stat.czxid, .int .i64 x.stat.mzxid, .int .i64 x.stat.pzxid, .int .i64 x.stat.version, .int .i64 x.stat.cversion, .int .i64 x.stat.aversion, .int .i64 x.stat.owner, .int .i64 x.stat.length, .int .i64 x.stat.kids, .slice A_acl n_acl c_acl, .slice A_kids n_kids c_kids, .slice A_subs n_subs c_subs] 46)
  have hnb := box_new hW
  have hbk := heap_alloc_new w (.cells #[.int .i64 x.xid, .int .i64 x.zxid, .int .i64 x.err, .string x.path, .string x.data, .int .i64 x.stat.czxid, .int .i64 x.stat.mzxid, .int .i64 x.stat.pzxid, .int .i64 x.stat.version, .int .i64 x.stat.cversion, .int .i64 x.stat.aversion, .int .i64 x.stat.owner, .int .i64 x.stat.length, .int .i64 x.stat.kids, .slice A_acl n_acl c_acl, .slice A_kids n_kids c_kids, .slice A_subs n_subs c_subs] 46)
  replace hstat := statE_ok.keep hstat ((Kept.refl (fun _ => False) w).alloc (.cells #[.int .i64 x.xid, .int .i64 x.zxid, .int .i64 x.err, .string x.path, .string x.data, .int .i64 x.stat.czxid, .int .i64 x.stat.mzxid, .int .i64 x.stat.pzxid, .int .i64 x.stat.version, .int .i64 x.stat.cversion, .int .i64 x.stat.aversion, .int .i64 x.stat.owner, .int .i64 x.stat.length, .int .i64 x.stat.kids, .slice A_acl n_acl c_acl, .slice A_kids n_kids c_kids, .slice A_subs n_subs c_subs] 46)) (disj_none ok)
  replace hacl := hacl.keep aclE_ok ((Kept.refl (fun _ => False) w).alloc (.cells #[.int .i64 x.xid, .int .i64 x.zxid, .int .i64 x.err, .string x.path, .string x.data, .int .i64 x.stat.czxid, .int .i64 x.stat.mzxid, .int .i64 x.stat.pzxid, .int .i64 x.stat.version, .int .i64 x.stat.cversion, .int .i64 x.stat.aversion, .int .i64 x.stat.owner, .int .i64 x.stat.length, .int .i64 x.stat.kids, .slice A_acl n_acl c_acl, .slice A_kids n_kids c_kids, .slice A_subs n_subs c_subs] 46)) (disj_none ok)
  replace hkids := hkids.keep textE_ok ((Kept.refl (fun _ => False) w).alloc (.cells #[.int .i64 x.xid, .int .i64 x.zxid, .int .i64 x.err, .string x.path, .string x.data, .int .i64 x.stat.czxid, .int .i64 x.stat.mzxid, .int .i64 x.stat.pzxid, .int .i64 x.stat.version, .int .i64 x.stat.cversion, .int .i64 x.stat.aversion, .int .i64 x.stat.owner, .int .i64 x.stat.length, .int .i64 x.stat.kids, .slice A_acl n_acl c_acl, .slice A_kids n_kids c_kids, .slice A_subs n_subs c_subs] 46)) (disj_none ok)
  replace hi := hi.kept ((Kept.refl (fun _ => False) w).alloc (.cells #[.int .i64 x.xid, .int .i64 x.zxid, .int .i64 x.err, .string x.path, .string x.data, .int .i64 x.stat.czxid, .int .i64 x.stat.mzxid, .int .i64 x.stat.pzxid, .int .i64 x.stat.version, .int .i64 x.stat.cversion, .int .i64 x.stat.aversion, .int .i64 x.stat.owner, .int .i64 x.stat.length, .int .i64 x.stat.kids, .slice A_acl n_acl c_acl, .slice A_kids n_kids c_kids, .slice A_subs n_subs c_subs] 46))
  have hlen : (ansF.lay x).length = (sev (zz x.xid)).length + (sev (zz x.zxid)).length + (sev (zz x.err)).length + ((sev x.path.size).length + x.path.size) + ((sev x.data.size).length + x.data.size) + (statF.lay x.stat).length + ((listF aclF).lay x.acl).length + ((listF (textF 4096)).lay x.kids).length := by simp only [ansF, isoF, seqF, numF, textF, List.length_append, str_len] <;> omega
  have hl1 : l.length + ((sev (zz x.xid)).length + (sev (zz x.zxid)).length + (sev (zz x.err)).length + ((sev x.path.size).length + x.path.size) + ((sev x.data.size).length + x.data.size) + (statF.lay x.stat).length + ((listF aclF).lay x.acl).length + ((listF (textF 4096)).lay x.kids).length) ≤ 144900000000000 := by rw [← hlen]; exact hl
  clear hlen
  clear hl
  go_enter Try.func88, Try.ntmps88
  go_wp2_with fail
  have hcall0 : Calls Try.prog 72 #[.pointer (some ⟨b, 0, none⟩), .slice (some ⟨w.heap.size + 1, 0, none⟩) 2 2] ((w.alloc (.cells #[.int .i64 x.xid, .int .i64 x.zxid, .int .i64 x.err, .string x.path, .string x.data, .int .i64 x.stat.czxid, .int .i64 x.stat.mzxid, .int .i64 x.stat.pzxid, .int .i64 x.stat.version, .int .i64 x.stat.cversion, .int .i64 x.stat.aversion, .int .i64 x.stat.owner, .int .i64 x.stat.length, .int .i64 x.stat.kids, .slice A_acl n_acl c_acl, .slice A_kids n_kids c_kids, .slice A_subs n_subs c_subs] 46)).alloc (.cells #[.int .i64 x.xid, .int .i64 x.zxid] 3)) (WPost ((w.alloc (.cells #[.int .i64 x.xid, .int .i64 x.zxid, .int .i64 x.err, .string x.path, .string x.data, .int .i64 x.stat.czxid, .int .i64 x.stat.mzxid, .int .i64 x.stat.pzxid, .int .i64 x.stat.version, .int .i64 x.stat.cversion, .int .i64 x.stat.aversion, .int .i64 x.stat.owner, .int .i64 x.stat.length, .int .i64 x.stat.kids, .slice A_acl n_acl c_acl, .slice A_kids n_kids c_kids, .slice A_subs n_subs c_subs] 46)).alloc (.cells #[.int .i64 x.xid, .int .i64 x.zxid] 3)) b v (l ++ layN numF [x.xid, x.zxid])) :=
    nums_call [x.xid, x.zxid] _ _ (by simp) b _ _ S0.at_ (by simp only [List.mem_cons, List.not_mem_nil, or_false, forall_eq_or_imp, forall_eq]; exact ⟨hn_xid, hn_zxid⟩) (by unfold maxLen; simp only [List.length_cons, List.length_nil]; omega) (by simp only [List.length_append, layN, List.flatMap_cons, List.flatMap_nil, List.append_nil, numF_lay]; omega)
  have HC0 := Lib.hid hcall0; clear hcall0
  refine HC0.out.mono ?_
  rintro e w1 h1
  obtain ⟨v1, rfl, S1⟩ := (S0.alloc _).step h1
  clear S0 h1 HC0
  have hb1 := S1.blk hbk hnb
  have c1_2 : w1.cell? ⟨w.heap.size, 2, none⟩ = some (.int .i64 x.err) := by simp [World.cell?, hb1]
  clear hb1
  go_wp2_with fail
  refine (putErr_any x.err _ b _ _ S1.at_ hn_err (by simp only [List.length_append, layN, List.flatMap_cons, List.flatMap_nil, List.append_nil, numF_lay]; omega)).mono ?_
  rintro e w2 h2
  obtain ⟨v2, rfl, S2⟩ := S1.step h2
  clear S1 h2
  have hb2 := S2.blk hbk hnb
  have c2_3 : w2.cell? ⟨w.heap.size, 3, none⟩ = some (.string x.path) := by simp [World.cell?, hb2]
  clear hb2
  go_wp2_with fail
  refine (wtext_wide x.path _ b _ _ S2.at_ hs_path (by simp only [List.length_append, layN, List.flatMap_cons, List.flatMap_nil, List.append_nil, numF_lay]; omega)).mono ?_
  rintro e w3 h3
  obtain ⟨v3, rfl, S3⟩ := S2.step h3
  clear S2 h3
  have hb3 := S3.blk hbk hnb
  have c3_4 : w3.cell? ⟨w.heap.size, 4, none⟩ = some (.string x.data) := by simp [World.cell?, hb3]
  clear hb3
  go_wp2_with fail
  refine (wtext_wide x.data _ b _ _ S3.at_ hs_data (by simp only [List.length_append, layN, List.flatMap_cons, List.flatMap_nil, List.append_nil, numF_lay, str_len]; omega)).mono ?_
  rintro e w4 h4
  obtain ⟨v4, rfl, S4⟩ := S3.step h4
  clear S3 h4
  have hb4 := S4.blk hbk hnb
  have c4_5 : w4.cell? ⟨w.heap.size, 5, none⟩ = some (.int .i64 x.stat.czxid) := by simp [World.cell?, hb4]
  have c4_6 : w4.cell? ⟨w.heap.size, 6, none⟩ = some (.int .i64 x.stat.mzxid) := by simp [World.cell?, hb4]
  have c4_7 : w4.cell? ⟨w.heap.size, 7, none⟩ = some (.int .i64 x.stat.pzxid) := by simp [World.cell?, hb4]
  have c4_8 : w4.cell? ⟨w.heap.size, 8, none⟩ = some (.int .i64 x.stat.version) := by simp [World.cell?, hb4]
  have c4_9 : w4.cell? ⟨w.heap.size, 9, none⟩ = some (.int .i64 x.stat.cversion) := by simp [World.cell?, hb4]
  have c4_10 : w4.cell? ⟨w.heap.size, 10, none⟩ = some (.int .i64 x.stat.aversion) := by simp [World.cell?, hb4]
  have c4_11 : w4.cell? ⟨w.heap.size, 11, none⟩ = some (.int .i64 x.stat.owner) := by simp [World.cell?, hb4]
  have c4_12 : w4.cell? ⟨w.heap.size, 12, none⟩ = some (.int .i64 x.stat.length) := by simp [World.cell?, hb4]
  have c4_13 : w4.cell? ⟨w.heap.size, 13, none⟩ = some (.int .i64 x.stat.kids) := by simp [World.cell?, hb4]
  clear hb4
  go_wp2_with fail
  refine (put_stat x.stat _ ok _ b _ _ S4.at_ (statE_ok.keep hstat S4.kept hd) (hd.symm.sep hi S4.sep).symm (hi.kept S4.kept) (by simp only [List.length_append, layN, List.flatMap_cons, List.flatMap_nil, List.append_nil, numF_lay, str_len]; omega)).mono ?_
  rintro e w5 h5
  obtain ⟨v5, rfl, S5⟩ := S4.step h5
  clear S4 h5
  have hb5 := S5.blk hbk hnb
  have c5_14 : w5.cell? ⟨w.heap.size, 14, none⟩ = some (.slice A_acl n_acl c_acl) := by simp [World.cell?, hb5]
  clear hb5
  go_wp2_with fail
  refine (putList_acl x.acl _ ok _ b _ _ S5.at_ (hacl.keep aclE_ok S5.kept hd) (hd.symm.sep hi S5.sep).symm (hi.kept S5.kept) (by simp only [List.length_append, layN, List.flatMap_cons, List.flatMap_nil, List.append_nil, numF_lay, str_len]; omega)).mono ?_
  rintro e w6 h6
  obtain ⟨v6, rfl, S6⟩ := S5.step h6
  clear S5 h6
  have hb6 := S6.blk hbk hnb
  have c6_15 : w6.cell? ⟨w.heap.size, 15, none⟩ = some (.slice A_kids n_kids c_kids) := by simp [World.cell?, hb6]
  clear hb6
  go_wp2_with fail
  refine (putList_text x.kids _ ok _ b _ _ S6.at_ (hkids.keep textE_ok S6.kept hd) (hd.symm.sep hi S6.sep).symm (hi.kept S6.kept) (by simp only [List.length_append, layN, List.flatMap_cons, List.flatMap_nil, List.append_nil, numF_lay, str_len]; omega)).mono ?_
  rintro e w7 h7
  obtain ⟨v7, rfl, S7⟩ := S6.step h7
  clear S6 h7
  go_wp2_with fail
  go_end0
  exact S7.unbox (by simp only [ansF, isoF, seqF, numF, textF, layN, List.flatMap_cons, List.flatMap_nil, List.append_nil, List.append_assoc])

end Go.Proofs.Ytngcfnffbggniaa
