/- An event, a hello, a note, laid. -/
import Derived.Test.YtngcfnffbggniaaPscal
namespace Go.Proofs.Ytngcfnffbggniaa
open Go.ChangeShapes Go.WideShapes Go.ChangeAt Go.RowKit
set_option linter.unusedVariables false

set_option maxRecDepth 100000 in
set_option maxHeartbeats 600000 in
theorem put_event (x : Event) (cs : List Value) (ok : Nat → Prop) (w : World) (b : Nat) (v : Value) (l : List UInt8) (hW : WAt w b v l) (hE : eventE w ok cs x) (hd : Disj ok (WS b v)) (hi : In w ok) (hl : l.length + (eventF.lay x).length ≤ 144900000000000) :
    Calls Try.prog 52 #[.pointer (some ⟨b, 0, none⟩), .agg cs.toArray] w (WPost w b v (l ++ eventF.lay x)) := by
  obtain ⟨rfl, hn_kind, hs_path, hn_zxid⟩ := hE
  have S0 := WSt.box hW (.cells #[.int .i64 x.kind, .string x.path, .int .i64 x.zxid] 50)
  have hnb := box_new hW
  have hbk := heap_alloc_new w (.cells #[.int .i64 x.kind, .string x.path, .int .i64 x.zxid] 50)
  replace hi := hi.kept ((Kept.refl (fun _ => False) w).alloc (.cells #[.int .i64 x.kind, .string x.path, .int .i64 x.zxid] 50))
  have hlen : (eventF.lay x).length = (sev (zz x.kind)).length + ((sev x.path.size).length + x.path.size) + (sev (zz x.zxid)).length := by simp only [eventF, isoF, seqF, numF, textF, List.length_append, str_len] <;> omega
  have hl1 : l.length + ((sev (zz x.kind)).length + ((sev x.path.size).length + x.path.size) + (sev (zz x.zxid)).length) ≤ 144900000000000 := by rw [← hlen]; exact hl
  clear hlen
  clear hl
  go_enter Try.func52, Try.ntmps52
  go_wp2_with fail
  refine (wnum_wide x.kind _ b _ _ S0.at_ hn_kind.1 hn_kind.2 (by omega)).mono ?_
  rintro e w1 h1
  obtain ⟨v1, rfl, S1⟩ := S0.step h1
  clear S0 h1
  have hb1 := S1.blk hbk hnb
  have c1_1 : w1.cell? ⟨w.heap.size, 1, none⟩ = some (.string x.path) := by simp [World.cell?, hb1]
  clear hb1
  go_wp2_with fail
  refine (wtext_wide x.path _ b _ _ S1.at_ hs_path (by simp only [List.length_append]; omega)).mono ?_
  rintro e w2 h2
  obtain ⟨v2, rfl, S2⟩ := S1.step h2
  clear S1 h2
  have hb2 := S2.blk hbk hnb
  have c2_2 : w2.cell? ⟨w.heap.size, 2, none⟩ = some (.int .i64 x.zxid) := by simp [World.cell?, hb2]
  clear hb2
  go_wp2_with fail
  refine (wnum_wide x.zxid _ b _ _ S2.at_ hn_zxid.1 hn_zxid.2 (by simp only [List.length_append, str_len]; omega)).mono ?_
  rintro e w3 h3
  obtain ⟨v3, rfl, S3⟩ := S2.step h3
  clear S2 h3
  go_wp2_with fail
  go_end0
  exact S3.unbox (by simp only [eventF, isoF, seqF, numF, textF, List.append_assoc])

set_option maxRecDepth 100000 in
set_option maxHeartbeats 600000 in
theorem put_hello (x : Hello) (cs : List Value) (ok : Nat → Prop) (w : World) (b : Nat) (v : Value) (l : List UInt8) (hW : WAt w b v l) (hE : helloE w ok cs x) (hd : Disj ok (WS b v)) (hi : In w ok) (hl : l.length + (helloF.lay x).length ≤ 144900000000000) :
    Calls Try.prog 54 #[.pointer (some ⟨b, 0, none⟩), .agg cs.toArray] w (WPost w b v (l ++ helloF.lay x)) := by
  obtain ⟨rfl, hn_session, hn_zxid, hn_timeout, hs_secret⟩ := hE
  have S0 := WSt.box hW (.cells #[.int .i64 x.session, .int .i64 x.zxid, .int .i64 x.timeout, .string x.secret] 52)
  have hnb := box_new hW
  have hbk := heap_alloc_new w (.cells #[.int .i64 x.session, .int .i64 x.zxid, .int .i64 x.timeout, .string x.secret] 52)
  replace hi := hi.kept ((Kept.refl (fun _ => False) w).alloc (.cells #[.int .i64 x.session, .int .i64 x.zxid, .int .i64 x.timeout, .string x.secret] 52))
  have hlen : (helloF.lay x).length = (sev (zz x.session)).length + (sev (zz x.zxid)).length + (sev (zz x.timeout)).length + ((sev x.secret.size).length + x.secret.size) := by simp only [helloF, isoF, seqF, numF, textF, List.length_append, str_len] <;> omega
  have hl1 : l.length + ((sev (zz x.session)).length + (sev (zz x.zxid)).length + (sev (zz x.timeout)).length + ((sev x.secret.size).length + x.secret.size)) ≤ 144900000000000 := by rw [← hlen]; exact hl
  clear hlen
  clear hl
  go_enter Try.func54, Try.ntmps54
  go_wp2_with fail
  have hcall0 : Calls Try.prog 72 #[.pointer (some ⟨b, 0, none⟩), .slice (some ⟨w.heap.size + 1, 0, none⟩) 3 3] ((w.alloc (.cells #[.int .i64 x.session, .int .i64 x.zxid, .int .i64 x.timeout, .string x.secret] 52)).alloc (.cells #[.int .i64 x.session, .int .i64 x.zxid, .int .i64 x.timeout] 3)) (WPost ((w.alloc (.cells #[.int .i64 x.session, .int .i64 x.zxid, .int .i64 x.timeout, .string x.secret] 52)).alloc (.cells #[.int .i64 x.session, .int .i64 x.zxid, .int .i64 x.timeout] 3)) b v (l ++ layN numF [x.session, x.zxid, x.timeout])) :=
    nums_call [x.session, x.zxid, x.timeout] _ _ (by simp) b _ _ S0.at_ (by simp only [List.mem_cons, List.not_mem_nil, or_false, forall_eq_or_imp, forall_eq]; exact ⟨hn_session, hn_zxid, hn_timeout⟩) (by unfold maxLen; simp only [List.length_cons, List.length_nil]; omega) (by simp only [List.length_append, layN, List.flatMap_cons, List.flatMap_nil, List.append_nil, numF_lay]; omega)
  have HC0 := Lib.hid hcall0; clear hcall0
  refine HC0.out.mono ?_
  rintro e w1 h1
  obtain ⟨v1, rfl, S1⟩ := (S0.alloc _).step h1
  clear S0 h1 HC0
  have hb1 := S1.blk hbk hnb
  have c1_3 : w1.cell? ⟨w.heap.size, 3, none⟩ = some (.string x.secret) := by simp [World.cell?, hb1]
  clear hb1
  go_wp2_with fail
  refine (wtext_wide x.secret _ b _ _ S1.at_ hs_secret (by simp only [List.length_append, layN, List.flatMap_cons, List.flatMap_nil, List.append_nil, numF_lay]; omega)).mono ?_
  rintro e w2 h2
  obtain ⟨v2, rfl, S2⟩ := S1.step h2
  clear S1 h2
  go_wp2_with fail
  go_end0
  exact S2.unbox (by simp only [helloF, isoF, seqF, numF, textF, layN, List.flatMap_cons, List.flatMap_nil, List.append_nil, List.append_assoc])

set_option maxRecDepth 100000 in
set_option maxHeartbeats 600000 in
theorem put_note (x : Note) (cs : List Value) (ok : Nat → Prop) (w : World) (b : Nat) (v : Value) (l : List UInt8) (hW : WAt w b v l) (hE : noteE w ok cs x) (hd : Disj ok (WS b v)) (hi : In w ok) (hl : l.length + (noteF.lay x).length ≤ 144900000000000) :
    Calls Try.prog 56 #[.pointer (some ⟨b, 0, none⟩), .agg cs.toArray] w (WPost w b v (l ++ noteF.lay x)) := by
  obtain ⟨rfl, hn_from_, hn_state, hn_round, hn_leader, hn_epoch, hn_zxid⟩ := hE
  have S0 := WSt.box hW (.cells #[.int .i64 x.from_, .int .i64 x.state, .int .i64 x.round, .int .i64 x.leader, .int .i64 x.epoch, .int .i64 x.zxid] 54)
  have hnb := box_new hW
  have hbk := heap_alloc_new w (.cells #[.int .i64 x.from_, .int .i64 x.state, .int .i64 x.round, .int .i64 x.leader, .int .i64 x.epoch, .int .i64 x.zxid] 54)
  replace hi := hi.kept ((Kept.refl (fun _ => False) w).alloc (.cells #[.int .i64 x.from_, .int .i64 x.state, .int .i64 x.round, .int .i64 x.leader, .int .i64 x.epoch, .int .i64 x.zxid] 54))
  have hlen : (noteF.lay x).length = (sev (zz x.from_)).length + (sev (zz x.state)).length + (sev (zz x.round)).length + (sev (zz x.leader)).length + (sev (zz x.epoch)).length + (sev (zz x.zxid)).length := by simp only [noteF, isoF, seqF, numF, List.length_append] <;> omega
  have hl1 : l.length + ((sev (zz x.from_)).length + (sev (zz x.state)).length + (sev (zz x.round)).length + (sev (zz x.leader)).length + (sev (zz x.epoch)).length + (sev (zz x.zxid)).length) ≤ 144900000000000 := by rw [← hlen]; exact hl
  clear hlen
  clear hl
  go_enter Try.func56, Try.ntmps56
  go_wp2_with fail
  have hcall0 : Calls Try.prog 72 #[.pointer (some ⟨b, 0, none⟩), .slice (some ⟨w.heap.size + 1, 0, none⟩) 6 6] ((w.alloc (.cells #[.int .i64 x.from_, .int .i64 x.state, .int .i64 x.round, .int .i64 x.leader, .int .i64 x.epoch, .int .i64 x.zxid] 54)).alloc (.cells #[.int .i64 x.from_, .int .i64 x.state, .int .i64 x.round, .int .i64 x.leader, .int .i64 x.epoch, .int .i64 x.zxid] 3)) (WPost ((w.alloc (.cells #[.int .i64 x.from_, .int .i64 x.state, .int .i64 x.round, .int .i64 x.leader, .int .i64 x.epoch, .int .i64 x.zxid] 54)).alloc (.cells #[.int .i64 x.from_, .int .i64 x.state, .int .i64 x.round, .int .i64 x.leader, .int .i64 x.epoch, .int .i64 x.zxid] 3)) b v (l ++ layN numF [x.from_, x.state, x.round, x.leader, x.epoch, x.zxid])) :=
    nums_call [x.from_, x.state, x.round, x.leader, x.epoch, x.zxid] _ _ (by simp) b _ _ S0.at_ (by simp only [List.mem_cons, List.not_mem_nil, or_false, forall_eq_or_imp, forall_eq]; exact ⟨hn_from_, hn_state, hn_round, hn_leader, hn_epoch, hn_zxid⟩) (by unfold maxLen; simp only [List.length_cons, List.length_nil]; omega) (by simp only [List.length_append, layN, List.flatMap_cons, List.flatMap_nil, List.append_nil, numF_lay]; omega)
  have HC0 := Lib.hid hcall0; clear hcall0
  refine HC0.out.mono ?_
  rintro e w1 h1
  obtain ⟨v1, rfl, S1⟩ := (S0.alloc _).step h1
  clear S0 h1 HC0
  go_wp2_with fail
  go_end0
  exact S1.unbox (by simp only [noteF, isoF, seqF, numF, layN, List.flatMap_cons, List.flatMap_nil, List.append_nil])

end Go.Proofs.Ytngcfnffbggniaa
