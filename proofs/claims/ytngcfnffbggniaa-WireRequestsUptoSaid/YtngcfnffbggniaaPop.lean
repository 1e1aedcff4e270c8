/- An op, an armed, lists of them, laid. -/
import Derived.Test.YtngcfnffbggniaaPacl
namespace Go.Proofs.Ytngcfnffbggniaa
open Go.ChangeShapes Go.WideShapes Go.ChangeAt Go.RowKit
set_option linter.unusedVariables false

set_option maxRecDepth 100000 in
set_option maxHeartbeats 600000 in
theorem put_oper1 (x : Oper1) (cs : List Value) (ok : Nat → Prop) (w : World) (b : Nat) (v : Value) (l : List UInt8) (hW : WAt w b v l) (hE : oper1E w ok cs x) (hd : Disj ok (WS b v)) (hi : In w ok) (hl : l.length + (oper1F.lay x).length ≤ 144900000000000) :
    Calls Try.prog 77 #[.pointer (some ⟨b, 0, none⟩), .agg cs.toArray] w (WPost w b v (l ++ oper1F.lay x)) := by
  obtain ⟨vsubs, varmed, vacl, rfl, hacl, hn_kind, hn_xid, hs_path, hs_data, hn_flags, hn_version, gsubs, garmed⟩ := hE
  obtain ⟨A_acl, n_acl, c_acl, rfl⟩ := hacl.shape
  obtain ⟨A_subs, n_subs, c_subs, rfl⟩ := gsubs
  obtain ⟨A_armed, n_armed, c_armed, rfl⟩ := garmed
  have S0 := WSt.box hW (.cells #[.int .i64 x.kind, .int .i64 x.xid, .string x.path, .string x.data, .slice A_acl n_acl c_acl, .int .i64 x.flags, .int .i64 x.version, .bool x.watch, .slice A_subs n_subs c_subs, .slice A_armed n_armed c_armed] 38)
  have hnb := box_new hW
  have hbk := heap_alloc_new w (.cells #[.int .i64 x.kind, .int .i64 x.xid, .string x.path, .string x.data, .slice A_acl n_acl c_acl, .int .i64 x.flags, .int .i64 x.version, .bool x.watch, .slice A_subs n_subs c_subs, .slice A_armed n_armed c_armed] 38)
  replace hacl := hacl.keep aclE_ok ((Kept.refl (fun _ => False) w).alloc (.cells #[.int .i64 x.kind, .int .i64 x.xid, .string x.path, .string x.data, .slice A_acl n_acl c_acl, .int .i64 x.flags, .int .i64 x.version, .bool x.watch, .slice A_subs n_subs c_subs, .slice A_armed n_armed c_armed] 38)) (disj_none ok)
  replace hi := hi.kept ((Kept.refl (fun _ => False) w).alloc (.cells #[.int .i64 x.kind, .int .i64 x.xid, .string x.path, .string x.data, .slice A_acl n_acl c_acl, .int .i64 x.flags, .int .i64 x.version, .bool x.watch, .slice A_subs n_subs c_subs, .slice A_armed n_armed c_armed] 38))
  have hlen : (oper1F.lay x).length = (sev (zz x.kind)).length + (sev (zz x.xid)).length + ((sev x.path.size).length + x.path.size) + ((sev x.data.size).length + x.data.size) + ((listF aclF).lay x.acl).length + (sev (zz x.flags)).length + (sev (zz x.version)).length + 1 := by simp only [oper1F, isoF, seqF, numF, textF, flagF, List.length_append, str_len, List.length_cons, List.length_nil] <;> omega
  have hl1 : l.length + ((sev (zz x.kind)).length + (sev (zz x.xid)).length + ((sev x.path.size).length + x.path.size) + ((sev x.data.size).length + x.data.size) + ((listF aclF).lay x.acl).length + (sev (zz x.flags)).length + (sev (zz x.version)).length + 1) ≤ 144900000000000 := by rw [← hlen]; exact hl
  clear hlen
  clear hl
  go_enter Try.func77, Try.ntmps77
  go_wp2_with fail
  have hcall0 : Calls Try.prog 72 #[.pointer (some ⟨b, 0, none⟩), .slice (some ⟨w.heap.size + 1, 0, none⟩) 2 2] ((w.alloc (.cells #[.int .i64 x.kind, .int .i64 x.xid, .string x.path, .string x.data, .slice A_acl n_acl c_acl, .int .i64 x.flags, .int .i64 x.version, .bool x.watch, .slice A_subs n_subs c_subs, .slice A_armed n_armed c_armed] 38)).alloc (.cells #[.int .i64 x.kind, .int .i64 x.xid] 3)) (WPost ((w.alloc (.cells #[.int .i64 x.kind, .int .i64 x.xid, .string x.path, .string x.data, .slice A_acl n_acl c_acl, .int .i64 x.flags, .int .i64 x.version, .bool x.watch, .slice A_subs n_subs c_subs, .slice A_armed n_armed c_armed] 38)).alloc (.cells #[.int .i64 x.kind, .int .i64 x.xid] 3)) b v (l ++ layN numF [x.kind, x.xid])) :=
    nums_call [x.kind, x.xid] _ _ (by simp) b _ _ S0.at_ (by simp only [List.mem_cons, List.not_mem_nil, or_false, forall_eq_or_imp, forall_eq]; exact ⟨hn_kind, hn_xid⟩) (by unfold maxLen; simp only [List.length_cons, List.length_nil]; omega) (by simp only [List.length_append, layN, List.flatMap_cons, List.flatMap_nil, List.append_nil, numF_lay]; omega)
  have HC0 := Lib.hid hcall0; clear hcall0
  refine HC0.out.mono ?_
  rintro e w1 h1
  obtain ⟨v1, rfl, S1⟩ := (S0.alloc _).step h1
  clear S0 h1 HC0
  have hb1 := S1.blk hbk hnb
  have c1_2 : w1.cell? ⟨w.heap.size, 2, none⟩ = some (.string x.path) := by simp [World.cell?, hb1]
  clear hb1
  go_wp2_with fail
  refine (wtext_wide x.path _ b _ _ S1.at_ hs_path (by simp only [List.length_append, layN, List.flatMap_cons, List.flatMap_nil, List.append_nil, numF_lay]; omega)).mono ?_
  rintro e w2 h2
  obtain ⟨v2, rfl, S2⟩ := S1.step h2
  clear S1 h2
  have hb2 := S2.blk hbk hnb
  have c2_3 : w2.cell? ⟨w.heap.size, 3, none⟩ = some (.string x.data) := by simp [World.cell?, hb2]
  clear hb2
  go_wp2_with fail
  refine (wtext_wide x.data _ b _ _ S2.at_ hs_data (by simp only [List.length_append, layN, List.flatMap_cons, List.flatMap_nil, List.append_nil, numF_lay, str_len]; omega)).mono ?_
  rintro e w3 h3
  obtain ⟨v3, rfl, S3⟩ := S2.step h3
  clear S2 h3
  have hb3 := S3.blk hbk hnb
  have c3_4 : w3.cell? ⟨w.heap.size, 4, none⟩ = some (.slice A_acl n_acl c_acl) := by simp [World.cell?, hb3]
  clear hb3
  go_wp2_with fail
  refine (putList_acl x.acl _ ok _ b _ _ S3.at_ (hacl.keep aclE_ok S3.kept hd) (hd.symm.sep hi S3.sep).symm (hi.kept S3.kept) (by simp only [List.length_append, layN, List.flatMap_cons, List.flatMap_nil, List.append_nil, numF_lay, str_len]; omega)).mono ?_
  rintro e w4 h4
  obtain ⟨v4, rfl, S4⟩ := S3.step h4
  clear S3 h4
  have hb4 := S4.blk hbk hnb
  have c4_5 : w4.cell? ⟨w.heap.size, 5, none⟩ = some (.int .i64 x.flags) := by simp [World.cell?, hb4]
  have c4_6 : w4.cell? ⟨w.heap.size, 6, none⟩ = some (.int .i64 x.version) := by simp [World.cell?, hb4]
  clear hb4
  go_wp2_with fail
  have hcall4 : Calls Try.prog 72 #[.pointer (some ⟨b, 0, none⟩), .slice (some ⟨w4.heap.size, 0, none⟩) 2 2] (w4.alloc (.cells #[.int .i64 x.flags, .int .i64 x.version] 3)) (WPost (w4.alloc (.cells #[.int .i64 x.flags, .int .i64 x.version] 3)) b v4 (l ++ layN numF [x.kind, x.xid] ++ (sev x.path.size ++ x.path.data.toList) ++ (sev x.data.size ++ x.data.data.toList) ++ (listF aclF).lay x.acl ++ layN numF [x.flags, x.version])) :=
    nums_call [x.flags, x.version] _ _ (by simp) b _ _ S4.at_ (by simp only [List.mem_cons, List.not_mem_nil, or_false, forall_eq_or_imp, forall_eq]; exact ⟨hn_flags, hn_version⟩) (by unfold maxLen; simp only [List.length_cons, List.length_nil]; omega) (by simp only [List.length_append, layN, List.flatMap_cons, List.flatMap_nil, List.append_nil, numF_lay, str_len]; omega)
  have HC4 := Lib.hid hcall4; clear hcall4
  refine HC4.out.mono ?_
  rintro e w5 h5
  obtain ⟨v5, rfl, S5⟩ := (S4.alloc _).step h5
  clear S4 h5 HC4
  have hb5 := S5.blk hbk hnb
  have c5_7 : w5.cell? ⟨w.heap.size, 7, none⟩ = some (.bool x.watch) := by simp [World.cell?, hb5]
  clear hb5
  go_wp2_with fail
  refine (wflag_wide x.watch _ b _ _ S5.at_ (by simp only [List.length_append, layN, List.flatMap_cons, List.flatMap_nil, List.append_nil, numF_lay, str_len]; omega)).mono ?_
  rintro e w6 h6
  obtain ⟨v6, rfl, S6⟩ := S5.step h6
  clear S5 h6
  go_wp2_with fail
  go_end0
  exact S6.unbox (by simp only [oper1F, isoF, seqF, numF, textF, flagF, layN, List.flatMap_cons, List.flatMap_nil, List.append_nil, List.append_assoc])

set_option maxRecDepth 100000 in
theorem putList_oper1 (xs : List Oper1) (sv : Value) (ok : Nat → Prop) (w : World) (b : Nat) (v : Value) (l : List UInt8) (hW : WAt w b v l) (hL : ListR oper1E w ok 10 sv xs) (hd : Disj ok (WS b v)) (hi : In w ok) (hl : l.length + ((listF oper1F).lay xs).length ≤ 144900000000000) :
    Calls Try.prog 78 #[.pointer (some ⟨b, 0, none⟩), sv, .func (.func 77) #[] #[]] w (WPost w b v (l ++ (listF oper1F).lay xs)) := by
  obtain ⟨rows, ⟨A, c, rfl, hlc, hm, hat⟩, hlen, hel⟩ := hL
  unfold maxLen at hm
  have hlen1 : rows.length ≤ xs.length := by omega
  have hlen2 : xs.length ≤ rows.length := by omega
  have hfin := (show (listF oper1F).lay xs = sev xs.length ++ layN oper1F xs from rfl)
  rw [hfin] at hl ⊢
  rw [← hlen] at hl ⊢
  clear hfin hlen
  rw [List.length_append] at hl
  go_enter Try.func78, Try.ntmps78
  go_wp2_with fail
  refine (wcount_wide rows.length _ b v l hW (by omega) (by omega)).mono ?_
  rintro e w0 h0
  obtain ⟨v0, rfl, S0⟩ := (WSt.start hW).step h0
  clear h0
  go_wp2_with fail
  go_loopw [14] (fun iv wr => PutRelL w b v (l ++ sev rows.length) xs.length (fun k => layN oper1F (xs.take k)) iv wr) (fun iv _ => xs.length - (intOf iv).toNat)
  case atStart => exact ⟨0, v0, rfl, Nat.zero_le _, by simpa [layN] using S0⟩
  case round =>
    obtain ⟨k, v1, rfl, hk, S1⟩ := hrel.ex
    clear hrel S0
    by_cases hlt : k < xs.length
    · have hkr : k < rows.length := by omega
      rcases hat with h0 | ⟨g, off, rfl, hok, hg, hc⟩
      · subst h0; simp at hkr
      have hE := oper1E_ok.keep (hel k hlt hkr) S1.kept hd
      have hcell : ∀ j (hj : j < rows[k].length), wr.cell? ⟨g, off + k * 10 + j, none⟩ = some rows[k][j] := fun j hj => by
        rw [← (hc k hkr).2 j hj]; exact World.cell?_of_block (S1.kept.block g hg (hd g hok.1))
      have hle := layN_le (f := oper1F) hlt
      have HTK := Lib.hid (layN_take (f := oper1F) hlt)
      generalize rows[k] = cs at hcell hE
      generalize xs[k] = x at hle hE HTK
      clear hc hel
      obtain ⟨A_acl, n_acl, c_acl, A_subs, n_subs, c_subs, A_armed, n_armed, c_armed, rfl⟩ := oper1E_cells hE
      have c0 : wr.cell? ⟨g, off + k * 10, none⟩ = some (.int .i64 x.kind) := hcell 0 (by simp)
      have c1 : wr.cell? ⟨g, off + k * 10 + 1, none⟩ = some (.int .i64 x.xid) := hcell 1 (by simp)
      have c2 : wr.cell? ⟨g, off + k * 10 + 2, none⟩ = some (.string x.path) := hcell 2 (by simp)
      have c3 : wr.cell? ⟨g, off + k * 10 + 3, none⟩ = some (.string x.data) := hcell 3 (by simp)
      have c4 : wr.cell? ⟨g, off + k * 10 + 4, none⟩ = some (.slice A_acl n_acl c_acl) := hcell 4 (by simp)
      have c5 : wr.cell? ⟨g, off + k * 10 + 5, none⟩ = some (.int .i64 x.flags) := hcell 5 (by simp)
      have c6 : wr.cell? ⟨g, off + k * 10 + 6, none⟩ = some (.int .i64 x.version) := hcell 6 (by simp)
      have c7 : wr.cell? ⟨g, off + k * 10 + 7, none⟩ = some (.bool x.watch) := hcell 7 (by simp)
      have c8 : wr.cell? ⟨g, off + k * 10 + 8, none⟩ = some (.slice A_subs n_subs c_subs) := hcell 8 (by simp)
      have c9 : wr.cell? ⟨g, off + k * 10 + 9, none⟩ = some (.slice A_armed n_armed c_armed) := hcell 9 (by simp)
      clear hcell
      have hkl : (k : Int) < (rows.length : Int) := by omega
      have hd1 := (hd.symm.sep hi S1.sep).symm
      have hi1 : In wr ok := hi.kept S1.kept
      have hll : (l ++ sev rows.length ++ layN oper1F (xs.take k)).length + (oper1F.lay x).length ≤ 144900000000000 := by simp only [List.length_append]; omega
      have hcall : ∀ (o : Obj), Calls Try.prog 77 #[.pointer (some ⟨b, 0, none⟩), .agg #[.int .i64 x.kind, .int .i64 x.xid, .string x.path, .string x.data, .slice A_acl n_acl c_acl, .int .i64 x.flags, .int .i64 x.version, .bool x.watch, .slice A_subs n_subs c_subs, .slice A_armed n_armed c_armed]] (wr.alloc o) (WPost (wr.alloc o) b v1 (l ++ sev rows.length ++ layN oper1F (xs.take k) ++ oper1F.lay x)) := fun o =>
        put_oper1 x _ ok _ b v1 _ (S1.alloc o).at_ (oper1E_ok.keep hE ((Kept.refl (fun _ => False) wr).alloc o) (disj_none ok)) hd1 (hi1.kept ((Kept.refl (fun _ => False) wr).alloc o)) hll
      have HCALL := Lib.hid hcall
      have HS := Lib.hid (fun (o : Obj) => S1.alloc o)
      clear hcall hE S1 hd1 hi1 hll
      go_wp2_with fail
      refine (HCALL.out _).mono ?_
      rintro e w2 h2
      obtain ⟨v2, rfl, S2⟩ := (HS.out _).step h2
      clear h2 HCALL HS
      go_wp2_with fail
      go_roundw
      case rel => exact ⟨k + 1, v2, rfl, hlt, by rw [HTK.out, ← List.append_assoc]; exact S2⟩
      case measure => simp [intOf]; omega
    · have hkl : ¬ (k : Int) < (rows.length : Int) := by omega
      obtain rfl : k = xs.length := by omega
      go_wp2_with fail
      go_end0
      exact S1.fin (by rw [List.take_length, List.append_assoc])
set_option maxRecDepth 100000 in
set_option maxHeartbeats 600000 in
theorem put_armed (x : Armed) (cs : List Value) (ok : Nat → Prop) (w : World) (b : Nat) (v : Value) (l : List UInt8) (hW : WAt w b v l) (hE : armedE w ok cs x) (hd : Disj ok (WS b v)) (hi : In w ok) (hl : l.length + (armedF.lay x).length ≤ 144900000000000) :
    Calls Try.prog 80 #[.pointer (some ⟨b, 0, none⟩), .agg cs.toArray] w (WPost w b v (l ++ armedF.lay x)) := by
  obtain ⟨rfl, hn_kind, hs_path, hn_czxid, hn_mzxid, hn_pzxid⟩ := hE
  have S0 := WSt.box hW (.cells #[.int .i64 x.kind, .string x.path, .int .i64 x.czxid, .int .i64 x.mzxid, .int .i64 x.pzxid] 83)
  have hnb := box_new hW
  have hbk := heap_alloc_new w (.cells #[.int .i64 x.kind, .string x.path, .int .i64 x.czxid, .int .i64 x.mzxid, .int .i64 x.pzxid] 83)
  replace hi := hi.kept ((Kept.refl (fun _ => False) w).alloc (.cells #[.int .i64 x.kind, .string x.path, .int .i64 x.czxid, .int .i64 x.mzxid, .int .i64 x.pzxid] 83))
  have hlen : (armedF.lay x).length = (sev (zz x.kind)).length + ((sev x.path.size).length + x.path.size) + (sev (zz x.czxid)).length + (sev (zz x.mzxid)).length + (sev (zz x.pzxid)).length := by simp only [armedF, isoF, seqF, numF, textF, List.length_append, str_len] <;> omega
  have hl1 : l.length + ((sev (zz x.kind)).length + ((sev x.path.size).length + x.path.size) + (sev (zz x.czxid)).length + (sev (zz x.mzxid)).length + (sev (zz x.pzxid)).length) ≤ 144900000000000 := by rw [← hlen]; exact hl
  clear hlen
  clear hl
  go_enter Try.func80, Try.ntmps80
  go_wp2_with fail
  refine (wnum_wide x.kind _ b _ _ S0.at_ hn_kind.1 hn_kind.2 (by omega)).mono ?_
  rintro e w1 h1
  obtain ⟨v1, rfl, S1⟩ := S0.step h1
  clear S0 h1
  have hb1 := S1.blk hbk hnb
  have c1_1 : w1.cell? ⟨w.heap.size, 1, none⟩ = some (.string x.path) := by simp [World.cell?, hb1]
  clear hb1
  go_wp2_with fail
  refine (wtext_wide x.path _ b _ _ S1.at_ hs_path (by simp only [List.length_append]; omega)).mono ?_
  rintro e w2 h2
  obtain ⟨v2, rfl, S2⟩ := S1.step h2
  clear S1 h2
  have hb2 := S2.blk hbk hnb
  have c2_2 : w2.cell? ⟨w.heap.size, 2, none⟩ = some (.int .i64 x.czxid) := by simp [World.cell?, hb2]
  have c2_3 : w2.cell? ⟨w.heap.size, 3, none⟩ = some (.int .i64 x.mzxid) := by simp [World.cell?, hb2]
  have c2_4 : w2.cell? ⟨w.heap.size, 4, none⟩ = some (.int .i64 x.pzxid) := by simp [World.cell?, hb2]
  clear hb2
  go_wp2_with fail
  have hcall2 : Calls Try.prog 72 #[.pointer (some ⟨b, 0, none⟩), .slice (some ⟨w2.heap.size, 0, none⟩) 3 3] (w2.alloc (.cells #[.int .i64 x.czxid, .int .i64 x.mzxid, .int .i64 x.pzxid] 3)) (WPost (w2.alloc (.cells #[.int .i64 x.czxid, .int .i64 x.mzxid, .int .i64 x.pzxid] 3)) b v2 (l ++ sev (zz x.kind) ++ (sev x.path.size ++ x.path.data.toList) ++ layN numF [x.czxid, x.mzxid, x.pzxid])) :=
    nums_call [x.czxid, x.mzxid, x.pzxid] _ _ (by simp) b _ _ S2.at_ (by simp only [List.mem_cons, List.not_mem_nil, or_false, forall_eq_or_imp, forall_eq]; exact ⟨hn_czxid, hn_mzxid, hn_pzxid⟩) (by unfold maxLen; simp only [List.length_cons, List.length_nil]; omega) (by simp only [List.length_append, layN, List.flatMap_cons, List.flatMap_nil, List.append_nil, numF_lay, str_len]; omega)
  have HC2 := Lib.hid hcall2; clear hcall2
  refine HC2.out.mono ?_
  rintro e w3 h3
  obtain ⟨v3, rfl, S3⟩ := (S2.alloc _).step h3
  clear S2 h3 HC2
  go_wp2_with fail
  go_end0
  exact S3.unbox (by simp only [armedF, isoF, seqF, numF, textF, layN, List.flatMap_cons, List.flatMap_nil, List.append_nil, List.append_assoc])

set_option maxRecDepth 100000 in
theorem putList_armed (xs : List Armed) (sv : Value) (ok : Nat → Prop) (w : World) (b : Nat) (v : Value) (l : List UInt8) (hW : WAt w b v l) (hL : ListR armedE w ok 5 sv xs) (hd : Disj ok (WS b v)) (hi : In w ok) (hl : l.length + ((listF armedF).lay xs).length ≤ 144900000000000) :
    Calls Try.prog 79 #[.pointer (some ⟨b, 0, none⟩), sv, .func (.func 80) #[] #[]] w (WPost w b v (l ++ (listF armedF).lay xs)) := by
  obtain ⟨rows, ⟨A, c, rfl, hlc, hm, hat⟩, hlen, hel⟩ := hL
  unfold maxLen at hm
  have hlen1 : rows.length ≤ xs.length := by omega
  have hlen2 : xs.length ≤ rows.length := by omega
  have hfin := (show (listF armedF).lay xs = sev xs.length ++ layN armedF xs from rfl)
  rw [hfin] at hl ⊢
  rw [← hlen] at hl ⊢
  clear hfin hlen
  rw [List.length_append] at hl
  go_enter Try.func79, Try.ntmps79
  go_wp2_with fail
  refine (wcount_wide rows.length _ b v l hW (by omega) (by omega)).mono ?_
  rintro e w0 h0
  obtain ⟨v0, rfl, S0⟩ := (WSt.start hW).step h0
  clear h0
  go_wp2_with fail
  go_loopw [14] (fun iv wr => PutRelL w b v (l ++ sev rows.length) xs.length (fun k => layN armedF (xs.take k)) iv wr) (fun iv _ => xs.length - (intOf iv).toNat)
  case atStart => exact ⟨0, v0, rfl, Nat.zero_le _, by simpa [layN] using S0⟩
  case round =>
    obtain ⟨k, v1, rfl, hk, S1⟩ := hrel.ex
    clear hrel S0
    by_cases hlt : k < xs.length
    · have hkr : k < rows.length := by omega
      rcases hat with h0 | ⟨g, off, rfl, hok, hg, hc⟩
      · subst h0; simp at hkr
      have hE := armedE_ok.keep (hel k hlt hkr) S1.kept hd
      have hcell : ∀ j (hj : j < rows[k].length), wr.cell? ⟨g, off + k * 5 + j, none⟩ = some rows[k][j] := fun j hj => by
        rw [← (hc k hkr).2 j hj]; exact World.cell?_of_block (S1.kept.block g hg (hd g hok.1))
      have hle := layN_le (f := armedF) hlt
      have HTK := Lib.hid (layN_take (f := armedF) hlt)
      generalize rows[k] = cs at hcell hE
      generalize xs[k] = x at hle hE HTK
      clear hc hel
      obtain ⟨rfl, _⟩ := id hE
      have c0 : wr.cell? ⟨g, off + k * 5, none⟩ = some (.int .i64 x.kind) := hcell 0 (by simp)
      have c1 : wr.cell? ⟨g, off + k * 5 + 1, none⟩ = some (.string x.path) := hcell 1 (by simp)
      have c2 : wr.cell? ⟨g, off + k * 5 + 2, none⟩ = some (.int .i64 x.czxid) := hcell 2 (by simp)
      have c3 : wr.cell? ⟨g, off + k * 5 + 3, none⟩ = some (.int .i64 x.mzxid) := hcell 3 (by simp)
      have c4 : wr.cell? ⟨g, off + k * 5 + 4, none⟩ = some (.int .i64 x.pzxid) := hcell 4 (by simp)
      clear hcell
      have hkl : (k : Int) < (rows.length : Int) := by omega
      have hd1 := (hd.symm.sep hi S1.sep).symm
      have hi1 : In wr ok := hi.kept S1.kept
      have hll : (l ++ sev rows.length ++ layN armedF (xs.take k)).length + (armedF.lay x).length ≤ 144900000000000 := by simp only [List.length_append]; omega
      have hcall : ∀ (o : Obj), Calls Try.prog 80 #[.pointer (some ⟨b, 0, none⟩), .agg #[.int .i64 x.kind, .string x.path, .int .i64 x.czxid, .int .i64 x.mzxid, .int .i64 x.pzxid]] (wr.alloc o) (WPost (wr.alloc o) b v1 (l ++ sev rows.length ++ layN armedF (xs.take k) ++ armedF.lay x)) := fun o =>
        put_armed x _ ok _ b v1 _ (S1.alloc o).at_ (armedE_ok.keep hE ((Kept.refl (fun _ => False) wr).alloc o) (disj_none ok)) hd1 (hi1.kept ((Kept.refl (fun _ => False) wr).alloc o)) hll
      have HCALL := Lib.hid hcall
      have HS := Lib.hid (fun (o : Obj) => S1.alloc o)
      clear hcall hE S1 hd1 hi1 hll
      go_wp2_with fail
      refine (HCALL.out _).mono ?_
      rintro e w2 h2
      obtain ⟨v2, rfl, S2⟩ := (HS.out _).step h2
      clear h2 HCALL HS
      go_wp2_with fail
      go_roundw
      case rel => exact ⟨k + 1, v2, rfl, hlt, by rw [HTK.out, ← List.append_assoc]; exact S2⟩
      case measure => simp [intOf]; omega
    · have hkl : ¬ (k : Int) < (rows.length : Int) := by omega
      obtain rfl : k = xs.length := by omega
      go_wp2_with fail
      go_end0
      exact S1.fin (by rw [List.take_length, List.append_assoc])
end Go.Proofs.Ytngcfnffbggniaa
