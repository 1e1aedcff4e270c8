/- An op, an armed, lists of them, laid. A request, laid. A request, taken up. Request: Put and Get. The document's own answers of layer 2: bytes read as req. -/
import Derived.Test.YtpmemcpfoapjmaaGreatQ10
import Derived.Test.YtpmemcpfoapjmaaGreatQ13
import Derived.Test.YtpmemcpfoapjmaaGreatQ07
import Derived.Test.YtpmemcpfoapjmaaGreatQ06
import Derived.Test.YtpmemcpfoapjmaaGreatQ14
import Derived.Outline
namespace Go.Proofs.YtpmemcpfoapjmaaGreat
open Go.ChangeShapes Go.WideShapes Go.ChangeAt Go.RowKit
set_option linter.unusedVariables false

set_option maxRecDepth 100000 in
set_option maxHeartbeats 600000 in
theorem put_oper1 (x : Oper1) (cs : List Value) (ok : Nat → Prop) (w : World) (b : Nat) (v : Value) (l : List UInt8) (hW : WAt w b v l) (hE : oper1E w ok cs x) (hd : Disj ok (WS b v)) (hi : In w ok) (hl : l.length + (oper1F.lay x).length ≤ 144900000000000) :
    Calls Tryz.prog 96 #[.pointer (some ⟨b, 0, none⟩), .agg cs.toArray] w (WPost w b v (l ++ oper1F.lay x)) := by
  obtain ⟨vsubs, varmed, vacl, rfl, hacl, hn_kind, hn_xid, hs_path, hs_data, hn_flags, hn_version, gsubs, garmed⟩ := hE
  obtain ⟨A_acl, n_acl, c_acl, rfl⟩ := hacl.shape
  obtain ⟨A_subs, n_subs, c_subs, rfl⟩ := gsubs
  obtain ⟨A_armed, n_armed, c_armed, rfl⟩ := garmed
  have S0 := WSt.box hW (.cells #[.int .i64 x.kind, .int .i64 x.xid, .string x.path, .string x.data, .slice A_acl n_acl c_acl, .int .i64 x.flags, .int .i64 x.version, .bool x.watch, .slice A_subs n_subs c_subs, .slice A_armed n_armed c_armed] 28)
  have hnb := box_new hW
  have hbk := heap_alloc_new w (.cells #[.int .i64 x.kind, .int .i64 x.xid, .string x.path, .string x.data, .slice A_acl n_acl c_acl, .int .i64 x.flags, .int .i64 x.version, .bool x.watch, .slice A_subs n_subs c_subs, .slice A_armed n_armed c_armed] 28)
  replace hacl := hacl.keep aclE_ok ((Kept.refl (fun _ => False) w).alloc (.cells #[.int .i64 x.kind, .int .i64 x.xid, .string x.path, .string x.data, .slice A_acl n_acl c_acl, .int .i64 x.flags, .int .i64 x.version, .bool x.watch, .slice A_subs n_subs c_subs, .slice A_armed n_armed c_armed] 28)) (disj_none ok)
  replace hi := hi.kept ((Kept.refl (fun _ => False) w).alloc (.cells #[.int .i64 x.kind, .int .i64 x.xid, .string x.path, .string x.data, .slice A_acl n_acl c_acl, .int .i64 x.flags, .int .i64 x.version, .bool x.watch, .slice A_subs n_subs c_subs, .slice A_armed n_armed c_armed] 28))
  have hlen : (oper1F.lay x).length = (sev (zz x.kind)).length + (sev (zz x.xid)).length + ((sev x.path.size).length + x.path.size) + ((sev x.data.size).length + x.data.size) + ((listF aclF).lay x.acl).length + (sev (zz x.flags)).length + (sev (zz x.version)).length + 1 := by simp only [oper1F, isoF, seqF, numF, textF, flagF, List.length_append, str_len, List.length_cons, List.length_nil] <;> omega
  have hl1 : l.length + ((sev (zz x.kind)).length + (sev (zz x.xid)).length + ((sev x.path.size).length + x.path.size) + ((sev x.data.size).length + x.data.size) + ((listF aclF).lay x.acl).length + (sev (zz x.flags)).length + (sev (zz x.version)).length + 1) ≤ 144900000000000 := by rw [← hlen]; exact hl
  clear hlen
  clear hl
  go_enter Tryz.func96, Tryz.ntmps96
  go_wp2_with fail
  have hcall0 : Calls Tryz.prog 52 #[.pointer (some ⟨b, 0, none⟩), .slice (some ⟨w.heap.size + 1, 0, none⟩) 2 2] ((w.alloc (.cells #[.int .i64 x.kind, .int .i64 x.xid, .string x.path, .string x.data, .slice A_acl n_acl c_acl, .int .i64 x.flags, .int .i64 x.version, .bool x.watch, .slice A_subs n_subs c_subs, .slice A_armed n_armed c_armed] 28)).alloc (.cells #[.int .i64 x.kind, .int .i64 x.xid] 3)) (WPost ((w.alloc (.cells #[.int .i64 x.kind, .int .i64 x.xid, .string x.path, .string x.data, .slice A_acl n_acl c_acl, .int .i64 x.flags, .int .i64 x.version, .bool x.watch, .slice A_subs n_subs c_subs, .slice A_armed n_armed c_armed] 28)).alloc (.cells #[.int .i64 x.kind, .int .i64 x.xid] 3)) b v (l ++ layN numF [x.kind, x.xid])) :=
    nums_call [x.kind, x.xid] _ _ (by simp) b _ _ S0.at_ (by simp only [List.mem_cons, List.not_mem_nil, or_false, forall_eq_or_imp, forall_eq]; exact ⟨hn_kind, hn_xid⟩) (by unfold maxLen; simp only [List.length_cons, List.length_nil]; omega) (by simp only [List.length_append, layN, List.flatMap_cons, List.flatMap_nil, List.append_nil, numF_lay]; omega)
  have HC0 := Lib.hid hcall0; clear hcall0
  refine HC0.out.mono ?_
  rintro e w1 h1
  obtain ⟨v1, rfl, S1⟩ := (S0.alloc _).step h1
  clear S0 h1 HC0
  have hb1 := S1.blk hbk hnb
  have c1_2 : w1.cell? ⟨w.heap.size, 2, none⟩ = some (.string x.path) := by simp [World.cell?, hb1]
  clear hb1
  go_wp2_with fail
  refine (wtext_wide x.path _ b _ _ S1.at_ hs_path (by simp only [List.length_append, layN, List.flatMap_cons, List.flatMap_nil, List.append_nil, numF_lay]; omega)).mono ?_
  rintro e w2 h2
  obtain ⟨v2, rfl, S2⟩ := S1.step h2
  clear S1 h2
  have hb2 := S2.blk hbk hnb
  have c2_3 : w2.cell? ⟨w.heap.size, 3, none⟩ = some (.string x.data) := by simp [World.cell?, hb2]
  clear hb2
  go_wp2_with fail
  refine (wtext_wide x.data _ b _ _ S2.at_ hs_data (by simp only [List.length_append, layN, List.flatMap_cons, List.flatMap_nil, List.append_nil, numF_lay, str_len]; omega)).mono ?_
  rintro e w3 h3
  obtain ⟨v3, rfl, S3⟩ := S2.step h3
  clear S2 h3
  have hb3 := S3.blk hbk hnb
  have c3_4 : w3.cell? ⟨w.heap.size, 4, none⟩ = some (.slice A_acl n_acl c_acl) := by simp [World.cell?, hb3]
  clear hb3
  go_wp2_with fail
  refine (putList_acl x.acl _ ok _ b _ _ S3.at_ (hacl.keep aclE_ok S3.kept hd) (hd.symm.sep hi S3.sep).symm (hi.kept S3.kept) (by simp only [List.length_append, layN, List.flatMap_cons, List.flatMap_nil, List.append_nil, numF_lay, str_len]; omega)).mono ?_
  rintro e w4 h4
  obtain ⟨v4, rfl, S4⟩ := S3.step h4
  clear S3 h4
  have hb4 := S4.blk hbk hnb
  have c4_5 : w4.cell? ⟨w.heap.size, 5, none⟩ = some (.int .i64 x.flags) := by simp [World.cell?, hb4]
  have c4_6 : w4.cell? ⟨w.heap.size, 6, none⟩ = some (.int .i64 x.version) := by simp [World.cell?, hb4]
  clear hb4
  go_wp2_with fail
  have hcall4 : Calls Tryz.prog 52 #[.pointer (some ⟨b, 0, none⟩), .slice (some ⟨w4.heap.size, 0, none⟩) 2 2] (w4.alloc (.cells #[.int .i64 x.flags, .int .i64 x.version] 3)) (WPost (w4.alloc (.cells #[.int .i64 x.flags, .int .i64 x.version] 3)) b v4 (l ++ layN numF [x.kind, x.xid] ++ (sev x.path.size ++ x.path.data.toList) ++ (sev x.data.size ++ x.data.data.toList) ++ (listF aclF).lay x.acl ++ layN numF [x.flags, x.version])) :=
    nums_call [x.flags, x.version] _ _ (by simp) b _ _ S4.at_ (by simp only [List.mem_cons, List.not_mem_nil, or_false, forall_eq_or_imp, forall_eq]; exact ⟨hn_flags, hn_version⟩) (by unfold maxLen; simp only [List.length_cons, List.length_nil]; omega) (by simp only [List.length_append, layN, List.flatMap_cons, List.flatMap_nil, List.append_nil, numF_lay, str_len]; omega)
  have HC4 := Lib.hid hcall4; clear hcall4
  refine HC4.out.mono ?_
  rintro e w5 h5
  obtain ⟨v5, rfl, S5⟩ := (S4.alloc _).step h5
  clear S4 h5 HC4
  have hb5 := S5.blk hbk hnb
  have c5_7 : w5.cell? ⟨w.heap.size, 7, none⟩ = some (.bool x.watch) := by simp [World.cell?, hb5]
  clear hb5
  go_wp2_with fail
  refine (wflag_wide x.watch _ b _ _ S5.at_ (by simp only [List.length_append, layN, List.flatMap_cons, List.flatMap_nil, List.append_nil, numF_lay, str_len]; omega)).mono ?_
  rintro e w6 h6
  obtain ⟨v6, rfl, S6⟩ := S5.step h6
  clear S5 h6
  go_wp2_with fail
  go_end0
  exact S6.unbox (by simp only [oper1F, isoF, seqF, numF, textF, flagF, layN, List.flatMap_cons, List.flatMap_nil, List.append_nil, List.append_assoc])

set_option maxRecDepth 100000 in
theorem putList_oper1 (xs : List Oper1) (sv : Value) (ok : Nat → Prop) (w : World) (b : Nat) (v : Value) (l : List UInt8) (hW : WAt w b v l) (hL : ListR oper1E w ok 10 sv xs) (hd : Disj ok (WS b v)) (hi : In w ok) (hl : l.length + ((listF oper1F).lay xs).length ≤ 144900000000000) :
    Calls Tryz.prog 97 #[.pointer (some ⟨b, 0, none⟩), sv, .func (.func 96) #[] #[]] w (WPost w b v (l ++ (listF oper1F).lay xs)) := by
  obtain ⟨rows, ⟨A, c, rfl, hlc, hm, hat⟩, hlen, hel⟩ := hL
  unfold maxLen at hm
  have hlen1 : rows.length ≤ xs.length := by omega
  have hlen2 : xs.length ≤ rows.length := by omega
  have hfin := (show (listF oper1F).lay xs = sev xs.length ++ layN oper1F xs from rfl)
  rw [hfin] at hl ⊢
  rw [← hlen] at hl ⊢
  clear hfin hlen
  rw [List.length_append] at hl
  go_enter Tryz.func97, Tryz.ntmps97
  go_wp2_with fail
  refine (wcount_wide rows.length _ b v l hW (by omega) (by omega)).mono ?_
  rintro e w0 h0
  obtain ⟨v0, rfl, S0⟩ := (WSt.start hW).step h0
  clear h0
  go_wp2_with fail
  go_loopw [14] (fun iv wr => PutRelL w b v (l ++ sev rows.length) xs.length (fun k => layN oper1F (xs.take k)) iv wr) (fun iv _ => xs.length - (intOf iv).toNat)
  case atStart => exact ⟨0, v0, rfl, Nat.zero_le _, by simpa [layN] using S0⟩
  case round =>
    obtain ⟨k, v1, rfl, hk, S1⟩ := hrel.ex
    clear hrel S0
    by_cases hlt : k < xs.length
    · have hkr : k < rows.length := by omega
      rcases hat with h0 | ⟨g, off, rfl, hok, hg, hc⟩
      · simp [h0.1] at hkr
      have hE := oper1E_ok.keep (hel k hlt hkr) S1.kept hd
      have hcell : ∀ j (hj : j < rows[k].length), wr.cell? ⟨g, off + k * 10 + j, none⟩ = some rows[k][j] := fun j hj => by
        rw [← (hc k hkr).2 j hj]; exact World.cell?_of_block (S1.kept.block g hg (hd g hok.1))
      have hle := layN_le (f := oper1F) hlt
      have HTK := Lib.hid (layN_take (f := oper1F) hlt)
      generalize rows[k] = cs at hcell hE
      generalize xs[k] = x at hle hE HTK
      clear hc hel
      obtain ⟨A_acl, n_acl, c_acl, A_subs, n_subs, c_subs, A_armed, n_armed, c_armed, rfl⟩ := oper1E_cells hE
      have c0 : wr.cell? ⟨g, off + k * 10, none⟩ = some (.int .i64 x.kind) := hcell 0 (by simp)
      have c1 : wr.cell? ⟨g, off + k * 10 + 1, none⟩ = some (.int .i64 x.xid) := hcell 1 (by simp)
      have c2 : wr.cell? ⟨g, off + k * 10 + 2, none⟩ = some (.string x.path) := hcell 2 (by simp)
      have c3 : wr.cell? ⟨g, off + k * 10 + 3, none⟩ = some (.string x.data) := hcell 3 (by simp)
      have c4 : wr.cell? ⟨g, off + k * 10 + 4, none⟩ = some (.slice A_acl n_acl c_acl) := hcell 4 (by simp)
      have c5 : wr.cell? ⟨g, off + k * 10 + 5, none⟩ = some (.int .i64 x.flags) := hcell 5 (by simp)
      have c6 : wr.cell? ⟨g, off + k * 10 + 6, none⟩ = some (.int .i64 x.version) := hcell 6 (by simp)
      have c7 : wr.cell? ⟨g, off + k * 10 + 7, none⟩ = some (.bool x.watch) := hcell 7 (by simp)
      have c8 : wr.cell? ⟨g, off + k * 10 + 8, none⟩ = some (.slice A_subs n_subs c_subs) := hcell 8 (by simp)
      have c9 : wr.cell? ⟨g, off + k * 10 + 9, none⟩ = some (.slice A_armed n_armed c_armed) := hcell 9 (by simp)
      clear hcell
      have hkl : (k : Int) < (rows.length : Int) := by omega
      have hd1 := (hd.symm.sep hi S1.sep).symm
      have hi1 : In wr ok := hi.kept S1.kept
      have hll : (l ++ sev rows.length ++ layN oper1F (xs.take k)).length + (oper1F.lay x).length ≤ 144900000000000 := by simp only [List.length_append]; omega
      have hcall : ∀ (o : Obj), Calls Tryz.prog 96 #[.pointer (some ⟨b, 0, none⟩), .agg #[.int .i64 x.kind, .int .i64 x.xid, .string x.path, .string x.data, .slice A_acl n_acl c_acl, .int .i64 x.flags, .int .i64 x.version, .bool x.watch, .slice A_subs n_subs c_subs, .slice A_armed n_armed c_armed]] (wr.alloc o) (WPost (wr.alloc o) b v1 (l ++ sev rows.length ++ layN oper1F (xs.take k) ++ oper1F.lay x)) := fun o =>
        put_oper1 x _ ok _ b v1 _ (S1.alloc o).at_ (oper1E_ok.keep hE ((Kept.refl (fun _ => False) wr).alloc o) (disj_none ok)) hd1 (hi1.kept ((Kept.refl (fun _ => False) wr).alloc o)) hll
      have HCALL := Lib.hid hcall
      have HS := Lib.hid (fun (o : Obj) => S1.alloc o)
      clear hcall hE S1 hd1 hi1 hll
      go_wp2_with fail
      refine (HCALL.out _).mono ?_
      rintro e w2 h2
      obtain ⟨v2, rfl, S2⟩ := (HS.out _).step h2
      clear h2 HCALL HS
      go_wp2_with fail
      go_roundw
      case rel => exact ⟨k + 1, v2, rfl, hlt, by rw [HTK.out, ← List.append_assoc]; exact S2⟩
      case measure => simp [intOf]; omega
    · have hkl : ¬ (k : Int) < (rows.length : Int) := by omega
      obtain rfl : k = xs.length := by omega
      go_wp2_with fail
      go_end0
      exact S1.fin (by rw [List.take_length, List.append_assoc])
set_option maxRecDepth 100000 in
set_option maxHeartbeats 600000 in
theorem put_armed (x : Armed) (cs : List Value) (ok : Nat → Prop) (w : World) (b : Nat) (v : Value) (l : List UInt8) (hW : WAt w b v l) (hE : armedE w ok cs x) (hd : Disj ok (WS b v)) (hi : In w ok) (hl : l.length + (armedF.lay x).length ≤ 144900000000000) :
    Calls Tryz.prog 99 #[.pointer (some ⟨b, 0, none⟩), .agg cs.toArray] w (WPost w b v (l ++ armedF.lay x)) := by
  obtain ⟨rfl, hn_kind, hs_path, hn_czxid, hn_mzxid, hn_pzxid⟩ := hE
  have S0 := WSt.box hW (.cells #[.int .i64 x.kind, .string x.path, .int .i64 x.czxid, .int .i64 x.mzxid, .int .i64 x.pzxid] 73)
  have hnb := box_new hW
  have hbk := heap_alloc_new w (.cells #[.int .i64 x.kind, .string x.path, .int .i64 x.czxid, .int .i64 x.mzxid, .int .i64 x.pzxid] 73)
  replace hi := hi.kept ((Kept.refl (fun _ => False) w).alloc (.cells #[.int .i64 x.kind, .string x.path, .int .i64 x.czxid, .int .i64 x.mzxid, .int .i64 x.pzxid] 73))
  have hlen : (armedF.lay x).length = (sev (zz x.kind)).length + ((sev x.path.size).length + x.path.size) + (sev (zz x.czxid)).length + (sev (zz x.mzxid)).length + (sev (zz x.pzxid)).length := by simp only [armedF, isoF, seqF, numF, textF, List.length_append, str_len] <;> omega
  have hl1 : l.length + ((sev (zz x.kind)).length + ((sev x.path.size).length + x.path.size) + (sev (zz x.czxid)).length + (sev (zz x.mzxid)).length + (sev (zz x.pzxid)).length) ≤ 144900000000000 := by rw [← hlen]; exact hl
  clear hlen
  clear hl
  go_enter Tryz.func99, Tryz.ntmps99
  go_wp2_with fail
  refine (wnum_wide x.kind _ b _ _ S0.at_ hn_kind.1 hn_kind.2 (by omega)).mono ?_
  rintro e w1 h1
  obtain ⟨v1, rfl, S1⟩ := S0.step h1
  clear S0 h1
  have hb1 := S1.blk hbk hnb
  have c1_1 : w1.cell? ⟨w.heap.size, 1, none⟩ = some (.string x.path) := by simp [World.cell?, hb1]
  clear hb1
  go_wp2_with fail
  refine (wtext_wide x.path _ b _ _ S1.at_ hs_path (by simp only [List.length_append]; omega)).mono ?_
  rintro e w2 h2
  obtain ⟨v2, rfl, S2⟩ := S1.step h2
  clear S1 h2
  have hb2 := S2.blk hbk hnb
  have c2_2 : w2.cell? ⟨w.heap.size, 2, none⟩ = some (.int .i64 x.czxid) := by simp [World.cell?, hb2]
  have c2_3 : w2.cell? ⟨w.heap.size, 3, none⟩ = some (.int .i64 x.mzxid) := by simp [World.cell?, hb2]
  have c2_4 : w2.cell? ⟨w.heap.size, 4, none⟩ = some (.int .i64 x.pzxid) := by simp [World.cell?, hb2]
  clear hb2
  go_wp2_with fail
  have hcall2 : Calls Tryz.prog 52 #[.pointer (some ⟨b, 0, none⟩), .slice (some ⟨w2.heap.size, 0, none⟩) 3 3] (w2.alloc (.cells #[.int .i64 x.czxid, .int .i64 x.mzxid, .int .i64 x.pzxid] 3)) (WPost (w2.alloc (.cells #[.int .i64 x.czxid, .int .i64 x.mzxid, .int .i64 x.pzxid] 3)) b v2 (l ++ sev (zz x.kind) ++ (sev x.path.size ++ x.path.data.toList) ++ layN numF [x.czxid, x.mzxid, x.pzxid])) :=
    nums_call [x.czxid, x.mzxid, x.pzxid] _ _ (by simp) b _ _ S2.at_ (by simp only [List.mem_cons, List.not_mem_nil, or_false, forall_eq_or_imp, forall_eq]; exact ⟨hn_czxid, hn_mzxid, hn_pzxid⟩) (by unfold maxLen; simp only [List.length_cons, List.length_nil]; omega) (by simp only [List.length_append, layN, List.flatMap_cons, List.flatMap_nil, List.append_nil, numF_lay, str_len]; omega)
  have HC2 := Lib.hid hcall2; clear hcall2
  refine HC2.out.mono ?_
  rintro e w3 h3
  obtain ⟨v3, rfl, S3⟩ := (S2.alloc _).step h3
  clear S2 h3 HC2
  go_wp2_with fail
  go_end0
  exact S3.unbox (by simp only [armedF, isoF, seqF, numF, textF, layN, List.flatMap_cons, List.flatMap_nil, List.append_nil, List.append_assoc])

set_option maxRecDepth 100000 in
theorem putList_armed (xs : List Armed) (sv : Value) (ok : Nat → Prop) (w : World) (b : Nat) (v : Value) (l : List UInt8) (hW : WAt w b v l) (hL : ListR armedE w ok 5 sv xs) (hd : Disj ok (WS b v)) (hi : In w ok) (hl : l.length + ((listF armedF).lay xs).length ≤ 144900000000000) :
    Calls Tryz.prog 98 #[.pointer (some ⟨b, 0, none⟩), sv, .func (.func 99) #[] #[]] w (WPost w b v (l ++ (listF armedF).lay xs)) := by
  obtain ⟨rows, ⟨A, c, rfl, hlc, hm, hat⟩, hlen, hel⟩ := hL
  unfold maxLen at hm
  have hlen1 : rows.length ≤ xs.length := by omega
  have hlen2 : xs.length ≤ rows.length := by omega
  have hfin := (show (listF armedF).lay xs = sev xs.length ++ layN armedF xs from rfl)
  rw [hfin] at hl ⊢
  rw [← hlen] at hl ⊢
  clear hfin hlen
  rw [List.length_append] at hl
  go_enter Tryz.func98, Tryz.ntmps98
  go_wp2_with fail
  refine (wcount_wide rows.length _ b v l hW (by omega) (by omega)).mono ?_
  rintro e w0 h0
  obtain ⟨v0, rfl, S0⟩ := (WSt.start hW).step h0
  clear h0
  go_wp2_with fail
  go_loopw [14] (fun iv wr => PutRelL w b v (l ++ sev rows.length) xs.length (fun k => layN armedF (xs.take k)) iv wr) (fun iv _ => xs.length - (intOf iv).toNat)
  case atStart => exact ⟨0, v0, rfl, Nat.zero_le _, by simpa [layN] using S0⟩
  case round =>
    obtain ⟨k, v1, rfl, hk, S1⟩ := hrel.ex
    clear hrel S0
    by_cases hlt : k < xs.length
    · have hkr : k < rows.length := by omega
      rcases hat with h0 | ⟨g, off, rfl, hok, hg, hc⟩
      · simp [h0.1] at hkr
      have hE := armedE_ok.keep (hel k hlt hkr) S1.kept hd
      have hcell : ∀ j (hj : j < rows[k].length), wr.cell? ⟨g, off + k * 5 + j, none⟩ = some rows[k][j] := fun j hj => by
        rw [← (hc k hkr).2 j hj]; exact World.cell?_of_block (S1.kept.block g hg (hd g hok.1))
      have hle := layN_le (f := armedF) hlt
      have HTK := Lib.hid (layN_take (f := armedF) hlt)
      generalize rows[k] = cs at hcell hE
      generalize xs[k] = x at hle hE HTK
      clear hc hel
      obtain ⟨rfl, _⟩ := id hE
      have c0 : wr.cell? ⟨g, off + k * 5, none⟩ = some (.int .i64 x.kind) := hcell 0 (by simp)
      have c1 : wr.cell? ⟨g, off + k * 5 + 1, none⟩ = some (.string x.path) := hcell 1 (by simp)
      have c2 : wr.cell? ⟨g, off + k * 5 + 2, none⟩ = some (.int .i64 x.czxid) := hcell 2 (by simp)
      have c3 : wr.cell? ⟨g, off + k * 5 + 3, none⟩ = some (.int .i64 x.mzxid) := hcell 3 (by simp)
      have c4 : wr.cell? ⟨g, off + k * 5 + 4, none⟩ = some (.int .i64 x.pzxid) := hcell 4 (by simp)
      clear hcell
      have hkl : (k : Int) < (rows.length : Int) := by omega
      have hd1 := (hd.symm.sep hi S1.sep).symm
      have hi1 : In wr ok := hi.kept S1.kept
      have hll : (l ++ sev rows.length ++ layN armedF (xs.take k)).length + (armedF.lay x).length ≤ 144900000000000 := by simp only [List.length_append]; omega
      have hcall : ∀ (o : Obj), Calls Tryz.prog 99 #[.pointer (some ⟨b, 0, none⟩), .agg #[.int .i64 x.kind, .string x.path, .int .i64 x.czxid, .int .i64 x.mzxid, .int .i64 x.pzxid]] (wr.alloc o) (WPost (wr.alloc o) b v1 (l ++ sev rows.length ++ layN armedF (xs.take k) ++ armedF.lay x)) := fun o =>
        put_armed x _ ok _ b v1 _ (S1.alloc o).at_ (armedE_ok.keep hE ((Kept.refl (fun _ => False) wr).alloc o) (disj_none ok)) hd1 (hi1.kept ((Kept.refl (fun _ => False) wr).alloc o)) hll
      have HCALL := Lib.hid hcall
      have HS := Lib.hid (fun (o : Obj) => S1.alloc o)
      clear hcall hE S1 hd1 hi1 hll
      go_wp2_with fail
      refine (HCALL.out _).mono ?_
      rintro e w2 h2
      obtain ⟨v2, rfl, S2⟩ := (HS.out _).step h2
      clear h2 HCALL HS
      go_wp2_with fail
      go_roundw
      case rel => exact ⟨k + 1, v2, rfl, hlt, by rw [HTK.out, ← List.append_assoc]; exact S2⟩
      case measure => simp [intOf]; omega
    · have hkl : ¬ (k : Int) < (rows.length : Int) := by omega
      obtain rfl : k = xs.length := by omega
      go_wp2_with fail
      go_end0
      exact S1.fin (by rw [List.take_length, List.append_assoc])
end Go.Proofs.YtpmemcpfoapjmaaGreat

namespace Go.Proofs.YtpmemcpfoapjmaaGreat
open Go.ChangeShapes Go.WideShapes Go.ChangeAt Go.RowKit
set_option linter.unusedVariables false

set_option maxRecDepth 100000 in
set_option maxHeartbeats 600000 in
theorem put_req (x : Req) (cs : List Value) (ok : Nat → Prop) (w : World) (b : Nat) (v : Value) (l : List UInt8) (hW : WAt w b v l) (hE : reqE w ok cs x) (hd : Disj ok (WS b v)) (hi : In w ok) (hl : l.length + (reqF.lay x).length ≤ 144900000000000) :
    Calls Tryz.prog 58 #[.pointer (some ⟨b, 0, none⟩), .agg cs.toArray] w (WPost w b v (l ++ reqF.lay x)) := by
  obtain ⟨vsubs, varmed, hq, hsubs, harmed⟩ := hE
  have hop : oper1E w ok cs x.op := ⟨vsubs, varmed, hq⟩
  obtain ⟨vacl, rfl, hacl, _⟩ := hq
  obtain ⟨A_acl, n_acl, c_acl, rfl⟩ := hacl.shape
  obtain ⟨A_subs, n_subs, c_subs, rfl⟩ := hsubs.shape
  obtain ⟨A_armed, n_armed, c_armed, rfl⟩ := harmed.shape
  have S0 := WSt.box hW (.cells #[.int .i64 x.op.kind, .int .i64 x.op.xid, .string x.op.path, .string x.op.data, .slice A_acl n_acl c_acl, .int .i64 x.op.flags, .int .i64 x.op.version, .bool x.op.watch, .slice A_subs n_subs c_subs, .slice A_armed n_armed c_armed] 28)
  have hnb := box_new hW
  have hbk := heap_alloc_new w (.cells #[.int .i64 x.op.kind, .int .i64 x.op.xid, .string x.op.path, .string x.op.data, .slice A_acl n_acl c_acl, .int .i64 x.op.flags, .int .i64 x.op.version, .bool x.op.watch, .slice A_subs n_subs c_subs, .slice A_armed n_armed c_armed] 28)
  replace hop := oper1E_ok.keep hop ((Kept.refl (fun _ => False) w).alloc (.cells #[.int .i64 x.op.kind, .int .i64 x.op.xid, .string x.op.path, .string x.op.data, .slice A_acl n_acl c_acl, .int .i64 x.op.flags, .int .i64 x.op.version, .bool x.op.watch, .slice A_subs n_subs c_subs, .slice A_armed n_armed c_armed] 28)) (disj_none ok)
  replace hsubs := hsubs.keep oper1E_ok ((Kept.refl (fun _ => False) w).alloc (.cells #[.int .i64 x.op.kind, .int .i64 x.op.xid, .string x.op.path, .string x.op.data, .slice A_acl n_acl c_acl, .int .i64 x.op.flags, .int .i64 x.op.version, .bool x.op.watch, .slice A_subs n_subs c_subs, .slice A_armed n_armed c_armed] 28)) (disj_none ok)
  replace harmed := harmed.keep armedE_ok ((Kept.refl (fun _ => False) w).alloc (.cells #[.int .i64 x.op.kind, .int .i64 x.op.xid, .string x.op.path, .string x.op.data, .slice A_acl n_acl c_acl, .int .i64 x.op.flags, .int .i64 x.op.version, .bool x.op.watch, .slice A_subs n_subs c_subs, .slice A_armed n_armed c_armed] 28)) (disj_none ok)
  replace hi := hi.kept ((Kept.refl (fun _ => False) w).alloc (.cells #[.int .i64 x.op.kind, .int .i64 x.op.xid, .string x.op.path, .string x.op.data, .slice A_acl n_acl c_acl, .int .i64 x.op.flags, .int .i64 x.op.version, .bool x.op.watch, .slice A_subs n_subs c_subs, .slice A_armed n_armed c_armed] 28))
  have hlen : (reqF.lay x).length = (oper1F.lay x.op).length + ((listF oper1F).lay x.subs).length + ((listF armedF).lay x.armed).length := by simp only [reqF, isoF, seqF, List.length_append] <;> omega
  have hl1 : l.length + ((oper1F.lay x.op).length + ((listF oper1F).lay x.subs).length + ((listF armedF).lay x.armed).length) ≤ 144900000000000 := by rw [← hlen]; exact hl
  clear hlen
  clear hl
  go_enter Tryz.func58, Tryz.ntmps58
  go_wp2_with fail
  refine (put_oper1 x.op _ ok _ b _ _ S0.at_ (oper1E_ok.keep hop S0.kept hd) (hd.symm.sep hi S0.sep).symm (hi.kept S0.kept) (by omega)).mono ?_
  rintro e w1 h1
  obtain ⟨v1, rfl, S1⟩ := S0.step h1
  clear S0 h1
  have hb1 := S1.blk hbk hnb
  have c1_8 : w1.cell? ⟨w.heap.size, 8, none⟩ = some (.slice A_subs n_subs c_subs) := by simp [World.cell?, hb1]
  clear hb1
  go_wp2_with fail
  refine (putList_oper1 x.subs _ ok _ b _ _ S1.at_ (hsubs.keep oper1E_ok S1.kept hd) (hd.symm.sep hi S1.sep).symm (hi.kept S1.kept) (by simp only [List.length_append]; omega)).mono ?_
  rintro e w2 h2
  obtain ⟨v2, rfl, S2⟩ := S1.step h2
  clear S1 h2
  have hb2 := S2.blk hbk hnb
  have c2_9 : w2.cell? ⟨w.heap.size, 9, none⟩ = some (.slice A_armed n_armed c_armed) := by simp [World.cell?, hb2]
  clear hb2
  go_wp2_with fail
  refine (putList_armed x.armed _ ok _ b _ _ S2.at_ (harmed.keep armedE_ok S2.kept hd) (hd.symm.sep hi S2.sep).symm (hi.kept S2.kept) (by simp only [List.length_append]; omega)).mono ?_
  rintro e w3 h3
  obtain ⟨v3, rfl, S3⟩ := S2.step h3
  clear S2 h3
  go_wp2_with fail
  go_end0
  exact S3.unbox (by simp only [reqF, isoF, seqF, List.append_assoc])

end Go.Proofs.YtpmemcpfoapjmaaGreat

namespace Go.Proofs.YtpmemcpfoapjmaaGreat
open Go.ChangeShapes Go.WideShapes Go.ChangeAt Go.RowKit
set_option linter.unusedVariables false

set_option maxRecDepth 100000 in
set_option maxHeartbeats 600000 in
theorem get_req (w : World) (b : Nat) (v : Value) (l : List UInt8) (p e : Nat) (hR : RAt w b v l p e) {x : Req} {q e' : Nat} (h : reqF.get l p e = (x, q, e')) :
    Calls Tryz.prog 77 #[.pointer (some ⟨b, 0, none⟩)] w (GPost reqE w b v l x q e') := by
  rcases h1 : oper1F.get l p e with ⟨x1, p1, e1⟩
  rcases h2 : (listF oper1F).get l p1 e1 with ⟨x2, p2, e2⟩
  rcases h3 : (listF armedF).get l p2 e2 with ⟨x3, p3, e3⟩
  have hf : reqF.get l p e = (⟨x1, x2, x3⟩, p3, e3) := by simp only [reqF, isoF, seqF, h1, h2, h3]
  rw [hf] at h
  simp only [Prod.mk.injEq] at h
  obtain ⟨rfl, rfl, rfl⟩ := h
  have H1 := Lib.hid h1; clear h1
  have H2 := Lib.hid h2; clear h2
  have H3 := Lib.hid h3; clear h3
  clear hf
  have hR0 := hR.alloc (.cells #[.int .i64 0, .int .i64 0, .string ⟨#[]⟩, .string ⟨#[]⟩, .slice none 0 0, .int .i64 0, .int .i64 0, .bool false, .slice none 0 0, .slice none 0 0] 28)
  have hsz : (Tryz.prog.info? 28).map (·.size) = some 10 := by kernel_rfl
  have HSZ := Lib.hid hsz; clear hsz
  go_enter Tryz.func77, Tryz.ntmps77
  go_wp2_with fail
  refine (get_oper1 _ b v l _ _ hR0 H1.out).mono ?_
  rintro en w1 ⟨cs, rfl, hE1, hR1, hk1⟩
  have hfl := oper1E_flat hE1
  have HFL := Lib.hid hfl.1
  have HF1 := Lib.hid hfl.2
  have B0 := TBox.start (cs := cs) hR hR1 hk1
  replace hE1 := rel_start oper1E_ok (o := .cells cs.toArray 28) hE1
  clear hR1 hk1 hfl
  go_wp2_with (refine wpList_store_new w1 rfl 28 _ (.tmp 5) rfl _ cs rfl rfl (by rw [HFL.out]; exact HSZ.out) HFL.out.symm HF1.out ?_)
  refine (getList_oper1 _ b v l _ _ B0.rd H2.out).mono ?_
  rintro en w2 ⟨sv2, rfl, hL2, hR2, hk2⟩
  obtain ⟨A2, n2, c2, rfl⟩ := hL2.shape
  replace hE1 := oper1E_ok.keep hE1 hk2 B0.ok_rs
  replace hL2 := B0.rel_list oper1E_ok hL2
  have B1a := B0.list hR2 hk2
  obtain ⟨hc2, hfz2⟩ := B1a.cell 8 (by rw [HFL.out]; omega)
  have B1 := B1a.set 8 (.slice A2 n2 c2)
  generalize cs[8]'(by rw [HFL.out]; omega) = u2 at hc2
  replace hE1 := oper1E_ok.keep hE1 (set_kept _ w1.heap.size 8 (.slice A2 n2 c2)) (ok_g w w1.heap.size)
  replace hL2 := hL2.keep oper1E_ok (set_kept _ w1.heap.size 8 (.slice A2 n2 c2)) (ok_g w w1.heap.size)
  clear B0 B1a hR2 hk2
  go_wp2_with fail
  refine (getList_armed _ b v l _ _ B1.rd H3.out).mono ?_
  rintro en w3 ⟨sv3, rfl, hL3, hR3, hk3⟩
  obtain ⟨A3, n3, c3, rfl⟩ := hL3.shape
  replace hE1 := oper1E_ok.keep hE1 hk3 B1.ok_rs
  replace hL2 := hL2.keep oper1E_ok hk3 B1.ok_rs
  replace hL3 := B1.rel_list armedE_ok hL3
  have B2a := B1.list hR3 hk3
  obtain ⟨hc3, hfz3⟩ := B2a.cell 9 (by rw [List.length_set]; rw [HFL.out]; omega)
  have B2 := B2a.set 9 (.slice A3 n3 c3)
  generalize (cs.set 8 (.slice A2 n2 c2))[9]'(by rw [List.length_set]; rw [HFL.out]; omega) = u3 at hc3
  replace hE1 := oper1E_ok.keep hE1 (set_kept _ w1.heap.size 9 (.slice A3 n3 c3)) (ok_g w w1.heap.size)
  replace hL2 := hL2.keep oper1E_ok (set_kept _ w1.heap.size 9 (.slice A3 n3 c3)) (ok_g w w1.heap.size)
  replace hL3 := hL3.keep armedE_ok (set_kept _ w1.heap.size 9 (.slice A3 n3 c3)) (ok_g w w1.heap.size)
  clear B1 B2a hR3 hk3
  have hfl2 : Flat 10 ((cs.set 8 (.slice A2 n2 c2)).set 9 (.slice A3 n3 c3)) := flat_set (flat_set ⟨HFL.out, HF1.out⟩ 8 rfl) 9 rfl
  have HL2 := Lib.hid hfl2.1
  have HF2 := Lib.hid hfl2.2
  have HB := Lib.hid B2.res
  have HX := Lib.hid (range_row B2.box)
  clear hfl2
  go_wp2_with (first | (refine wpList_load_mid rfl 28 (.tmp 3) rfl w1.heap.size 0 rfl ((cs.set 8 (.slice A2 n2 c2)).set 9 (.slice A3 n3 c3)) _ HX.out Tryz.underlying28 rfl (by rw [HL2.out]; exact HSZ.out) ?_) | (refine wpList_store_row _ rfl 28 _ _ rfl w.heap.size _ ((cs.set 8 (.slice A2 n2 c2)).set 9 (.slice A3 n3 c3)) rfl rfl HB.out (by rw [HL2.out]; exact HSZ.out) (by rw [HL2.out]; rfl) HF2.out ?_))
  have hrow := setRow_heap (w3.setCell ⟨w1.heap.size, 9, none⟩ (.slice A3 n3 c3)) w.heap.size _ (((cs.set 8 (.slice A2 n2 c2)).set 9 (.slice A3 n3 c3))).toArray _ _ HB.out
  have hload := run_loadVar_row (P := Tryz.prog) _ w.heap.size 28 28 _ (0, 0) _ hrow Tryz.underlying28 rfl (by rw [List.size_toArray, HL2.out]; exact HSZ.out)
  exact ret_cell 2 28 w.heap.size _ Tryz.results77 rfl hload rfl ⟨_, rfl, ⟨_, _, oper1Q_set (rel_fin oper1E_ok hE1 _) ⟨_, _, _, rfl⟩ ⟨_, _, _, rfl⟩, rel_finL oper1E_ok hL2 _, rel_finL armedE_ok hL3 _⟩, B2.finR _, B2.finK _⟩

end Go.Proofs.YtpmemcpfoapjmaaGreat

namespace Go.Proofs.YtpmemcpfoapjmaaGreat
open Go.ChangeShapes Go.WideShapes Go.ChangeAt Go.RowKit
set_option linter.unusedVariables false

def zReq : Req := ⟨⟨0, 0, ⟨#[]⟩, ⟨#[]⟩, [], 0, 0, false⟩, [], []⟩
theorem zReq_at (w : World) (ok : Nat → Prop) : reqE w ok [.int .i64 0, .int .i64 0, .string ⟨#[]⟩, .string ⟨#[]⟩, .slice none 0 0, .int .i64 0, .int .i64 0, .bool false, .slice none 0 0, .slice none 0 0] zReq := ⟨_, _, ⟨_, rfl, ListR.nil _ _ _ _, i64_zero, i64_zero, str_empty, str_empty, i64_zero, i64_zero, ⟨_, _, _, rfl⟩, ⟨_, _, _, rfl⟩⟩, ListR.nil _ _ _ _, ListR.nil _ _ _ _⟩

set_option maxRecDepth 100000 in
set_option maxHeartbeats 600000 in
theorem taken_req (s : ByteArray) (w : World) (hs : s.size ≤ maxLen) :
    Calls Tryz.prog 76 #[.string s, .func (.func 77) #[] #[]] w (TakenPost reqE zReq w (reqF.read s)) := by
  have hsz : (Tryz.prog.info? 28).map (·.size) = some 10 := by kernel_rfl
  have HSZ := Lib.hid hsz; clear hsz
  obtain ⟨x, q, e', hget⟩ : ∃ x q e', reqF.get s.data.toList 0 0 = (x, q, e') := ⟨_, _, _, eta3 _⟩
  have hread : reqF.read s = if rEndE s.data.toList.length q e' = 0 then some x else none := by unfold Fmt.read; rw [hget]
  generalize reqF.read s = ro at hread ⊢
  have HGET := Lib.hid hget; clear hget
  have HREAD := Lib.hid hread; clear hread
  go_enter Tryz.func76, Tryz.ntmps76
  go_wp2_with fail
  refine (read_any s _ hs).mono ?_
  rintro en w1 ⟨b, v, rfl, hR, hb, hv, hk1⟩
  have hge : w.heap.size + 1 ≤ b := by simpa using hb
  go_wp2_with fail
  refine (get_req _ b v _ _ _ hR HGET.out).mono ?_
  rintro en w2 ⟨cs, rfl, hE2, hR2, hk2⟩
  have hfl := reqE_flat hE2
  have HFL := Lib.hid hfl.1
  have HF1 := Lib.hid hfl.2
  have hR3 := hR2.alloc (.cells cs.toArray 28)
  have HHR := Lib.hid (⟨hR, hk1, hge, hk2⟩ : RAt w1 b v s.data.toList 0 0 ∧ Kept (fun _ => False) (w.alloc (.cells #[.int .i64 0, .int .i64 0, .string ⟨#[]⟩, .string ⟨#[]⟩, .slice none 0 0, .int .i64 0, .int .i64 0, .bool false, .slice none 0 0, .slice none 0 0] 28)) w1 ∧ w.heap.size + 1 ≤ b ∧ Kept (RS b) w1 w2)
  clear hR hk1 hge hk2 hb hv hR2 hfl
  go_wp2_with (refine wpList_store_new w2 rfl 28 _ (.tmp 13) rfl _ cs rfl rfl (by rw [HFL.out]; exact HSZ.out) HFL.out.symm HF1.out ?_)
  refine (rend_e _ b v _ _ _ hR3).mono ?_
  rintro en w4 ⟨rfl, hR4, hk4⟩
  have st : TakenSt w w1 w2 w4 b v s.data.toList 28 #[.int .i64 0, .int .i64 0, .string ⟨#[]⟩, .string ⟨#[]⟩, .slice none 0 0, .int .i64 0, .int .i64 0, .bool false, .slice none 0 0, .slice none 0 0] cs := ⟨HHR.out.1, HHR.out.2.1, HHR.out.2.2.1, HHR.out.2.2.2, hk4⟩
  have HRES := Lib.hid st.res
  have HBOX := Lib.hid (range_row st.box)
  have HO := Lib.hid st.old
  have HREL := Lib.hid (st.rel reqE_ok hE2)
  clear st HHR hR3 hR4 hk4 hE2
  by_cases h0 : rEndE s.data.toList.length q e' = 0
  · have hrd : ro = some x := by rw [HREAD.out, if_pos h0]
    have HRD := Lib.hid hrd; clear hrd
    have h0' : ((rEndE s.data.toList.length q e' : Nat) : Int) = 0 := by omega
    generalize ((rEndE s.data.toList.length q e' : Nat) : Int) = r at h0'
    subst h0'
    clear h0
    go_wp2_with (first | (refine wpList_load_mid rfl 28 (.tmp 7) rfl w2.heap.size 0 rfl cs _ HBOX.out Tryz.underlying28 rfl (by rw [HFL.out]; exact HSZ.out) ?_) | (refine wpList_store_row _ rfl 28 _ _ rfl w.heap.size _ cs rfl rfl HRES.out (by rw [HFL.out]; exact HSZ.out) HFL.out.symm HF1.out ?_))
    have hrow := setRow_heap w4 w.heap.size _ cs.toArray _ _ HRES.out
    have hload := run_loadVar_row (P := Tryz.prog) _ w.heap.size 28 28 _ (0, 0) _ hrow Tryz.underlying28 rfl (by rw [List.size_toArray, HFL.out]; exact HSZ.out)
    exact ret_cell_tmp 4 28 5 w.heap.size _ _ Tryz.results76 rfl rfl hload rfl ⟨cs, by rw [HRD.out]; rfl, old_setRow HO.out _, by rw [HRD.out]; exact HREL.out _⟩
  · have hrd : ro = none := by rw [HREAD.out, if_neg h0]
    have HRD := Lib.hid hrd; clear hrd
    have h0' : ¬ ((rEndE s.data.toList.length q e' : Nat) : Int) = 0 := by omega
    generalize ((rEndE s.data.toList.length q e' : Nat) : Int) = r at h0'
    clear h0
    have hA : Old w4 (w4.alloc (.cells #[.int .i64 0, .int .i64 0, .string ⟨#[]⟩, .string ⟨#[]⟩, .slice none 0 0, .int .i64 0, .int .i64 0, .bool false, .slice none 0 0, .slice none 0 0] 28)) := (Kept.refl _ w4).alloc _
    have HR5 : Hid ((w4.alloc (.cells #[.int .i64 0, .int .i64 0, .string ⟨#[]⟩, .string ⟨#[]⟩, .slice none 0 0, .int .i64 0, .int .i64 0, .bool false, .slice none 0 0, .slice none 0 0] 28)).heap[w.heap.size]? = some (.cells #[.int .i64 0, .int .i64 0, .string ⟨#[]⟩, .string ⟨#[]⟩, .slice none 0 0, .int .i64 0, .int .i64 0, .bool false, .slice none 0 0, .slice none 0 0] 28 (0, 0))) := by rw [hA.block _ (lt_of_block HRES.out) id]; exact HRES.out
    obtain ⟨zl, hzl⟩ : ∃ zl : List Value, zl = [.int .i64 0, .int .i64 0, .string ⟨#[]⟩, .string ⟨#[]⟩, .slice none 0 0, .int .i64 0, .int .i64 0, .bool false, .slice none 0 0, .slice none 0 0] := ⟨_, rfl⟩
    have HRN : Hid ((w4.alloc (.cells #[.int .i64 0, .int .i64 0, .string ⟨#[]⟩, .string ⟨#[]⟩, .slice none 0 0, .int .i64 0, .int .i64 0, .bool false, .slice none 0 0, .slice none 0 0] 28)).rangeAt w4.heap.size 0 zl) := by rw [hzl]; exact range_new w4 [.int .i64 0, .int .i64 0, .string ⟨#[]⟩, .string ⟨#[]⟩, .slice none 0 0, .int .i64 0, .int .i64 0, .bool false, .slice none 0 0, .slice none 0 0] 28
    have HZE : Hid (∀ (W : World) (ok : Nat → Prop), reqE W ok zl zReq) := by rw [hzl]; exact zReq_at
    have hzf : Flat 10 zl := reqE_flat (HZE.out w (fun _ => False))
    have HZL := Lib.hid hzf.1
    have HZ1 := Lib.hid hzf.2
    clear hzl hzf
    have HO5 := Lib.hid (HO.out.none hA)
    clear hA HREL
    go_wp2_with (first | (refine wpList_load_mid rfl 28 (.tmp 8) rfl w4.heap.size 0 rfl zl _ HRN.out Tryz.underlying28 rfl (by rw [HZL.out]; exact HSZ.out) ?_) | (refine wpList_store_row _ rfl 28 _ _ rfl w.heap.size _ zl rfl rfl HR5.out (by rw [HZL.out]; exact HSZ.out) HZL.out.symm HZ1.out ?_))
    have hrow := setRow_heap (w4.alloc (.cells #[.int .i64 0, .int .i64 0, .string ⟨#[]⟩, .string ⟨#[]⟩, .slice none 0 0, .int .i64 0, .int .i64 0, .bool false, .slice none 0 0, .slice none 0 0] 28)) w.heap.size _ zl.toArray _ _ HR5.out
    have hload := run_loadVar_row (P := Tryz.prog) _ w.heap.size 28 28 _ (0, 0) _ hrow Tryz.underlying28 rfl (by rw [List.size_toArray, HZL.out]; exact HSZ.out)
    exact ret_cell_tmp 4 28 5 w.heap.size _ _ Tryz.results76 rfl rfl hload rfl ⟨_, by rw [HRD.out]; rfl, old_setRow HO5.out _, by rw [HRD.out]; exact HZE.out _ _⟩

set_option maxRecDepth 100000 in
theorem GetRequest_any (s : ByteArray) (w : World) (hs : s.size ≤ maxLen) :
    Calls Tryz.prog 33 #[.string s] w (TakenPost reqE zReq w (reqF.read s)) := by
  have hsz : (Tryz.prog.info? 28).map (·.size) = some 10 := by kernel_rfl
  have HSZ := Lib.hid hsz; clear hsz
  have hbk := heap_alloc_new w (.cells #[.int .i64 0, .int .i64 0, .string ⟨#[]⟩, .string ⟨#[]⟩, .slice none 0 0, .int .i64 0, .int .i64 0, .bool false, .slice none 0 0, .slice none 0 0] 28)
  have hA : Old w (w.alloc (.cells #[.int .i64 0, .int .i64 0, .string ⟨#[]⟩, .string ⟨#[]⟩, .slice none 0 0, .int .i64 0, .int .i64 0, .bool false, .slice none 0 0, .slice none 0 0] 28)) := (Kept.refl _ w).alloc _
  go_enter Tryz.func33, Tryz.ntmps33
  go_wp2_with fail
  refine (taken_req s _ hs).mono ?_
  rintro en w1 ⟨cs, rfl, hO1, hE1⟩
  have hfl := reqE_flat hE1
  have HFL := Lib.hid hfl.1
  have HF1 := Lib.hid hfl.2
  have HRES : Hid (w1.heap[w.heap.size]? = some (.cells #[.int .i64 0, .int .i64 0, .string ⟨#[]⟩, .string ⟨#[]⟩, .slice none 0 0, .int .i64 0, .int .i64 0, .bool false, .slice none 0 0, .slice none 0 0] 28 (0, 0))) := by rw [hO1.block _ (lt_of_block hbk) id]; exact hbk
  have HO := Lib.hid (hA.none hO1)
  have HE := Lib.hid (fun c => fin_E reqE_ok (w := w) hE1 (by simp) c)
  clear hbk hA hfl hO1 hE1
  go_wp2_with (refine wpList_store_row _ rfl 28 _ _ rfl w.heap.size _ cs rfl rfl HRES.out (by rw [HFL.out]; exact HSZ.out) HFL.out.symm HF1.out ?_)
  have hrow := setRow_heap w1 w.heap.size _ cs.toArray _ _ HRES.out
  have hload := run_loadVar_row (P := Tryz.prog) _ w.heap.size 28 28 _ (0, 0) _ hrow Tryz.underlying28 rfl (by rw [List.size_toArray, HFL.out]; exact HSZ.out)
  exact ret_cell_tmp 2 28 3 w.heap.size _ _ Tryz.results33 rfl rfl hload rfl ⟨cs, rfl, old_setRow HO.out _, HE.out _⟩

end Go.Proofs.YtpmemcpfoapjmaaGreat

namespace Go.Proofs.YtpmemcpfoapjmaaGreat
open Go.ChangeShapes Go.WideShapes Go.ChangeAt Go.RowKit
set_option linter.unusedVariables false

set_option maxRecDepth 100000 in
set_option maxHeartbeats 1600000 in
theorem refget_req (s : ByteArray) (w : World) (hs : s.size ≤ 140737488355328) :
    Calls Tryz.prog 32 #[.string s] w (TakenPost reqE zReq w (reqF.read s)) := by
  have HSZ := Lib.hid (show (Tryz.prog.info? 28).map (·.size) = some 10 by kernel_rfl)
  obtain ⟨x, q, e, g1⟩ : ∃ aa qq ee, reqF.get s.data.toList 0 0 = (aa, qq, ee) := ⟨_, _, _, eta3 _⟩
  have hread : reqF.read s = if rEndE s.data.toList.length q e = 0 then some x else none := by unfold Fmt.read; rw [g1]
  rw [str_len] at hread
  generalize reqF.read s = ro at hread ⊢
  have HREAD := Lib.hid hread; clear hread
  have KE := Lib.hid (fend_of s q e)
  have HE0 := Lib.hid (show rEndE s.size q e = 0 → e = 0 from fun h => (rEndE_zero h).1)
  generalize hr : rEndE s.size q e = r at HREAD KE HE0
  clear hr
  have hW : FAt ((w.alloc (.cells ([.int .i64 0, .int .i64 0, .string ⟨#[]⟩, .string ⟨#[]⟩, .slice none 0 0, .int .i64 0, .int .i64 0, .bool false, .slice none 0 0, .slice none 0 0] : List Value).toArray 28)).alloc (.cells #[.string s, .int .i64 0, .int .i64 0] 111)) (w.heap.size + 1) s 0 0 := by
    have h := fresh_reader (w.alloc (.cells ([.int .i64 0, .int .i64 0, .string ⟨#[]⟩, .string ⟨#[]⟩, .slice none 0 0, .int .i64 0, .int .i64 0, .bool false, .slice none 0 0, .slice none 0 0] : List Value).toArray 28)) s hs
    rwa [show (w.alloc (.cells ([.int .i64 0, .int .i64 0, .string ⟨#[]⟩, .string ⟨#[]⟩, .slice none 0 0, .int .i64 0, .int .i64 0, .bool false, .slice none 0 0, .slice none 0 0] : List Value).toArray 28)).heap.size = w.heap.size + 1 from by simp] at h
  have hb0 : ((w.alloc (.cells ([.int .i64 0, .int .i64 0, .string ⟨#[]⟩, .string ⟨#[]⟩, .slice none 0 0, .int .i64 0, .int .i64 0, .bool false, .slice none 0 0, .slice none 0 0] : List Value).toArray 28)).alloc (.cells #[.string s, .int .i64 0, .int .i64 0] 111)).heap[w.heap.size]? = some (.cells ([.int .i64 0, .int .i64 0, .string ⟨#[]⟩, .string ⟨#[]⟩, .slice none 0 0, .int .i64 0, .int .i64 0, .bool false, .slice none 0 0, .slice none 0 0] : List Value).toArray 28 (0, 0)) := by
    rw [((Old.refl (w.alloc (.cells ([.int .i64 0, .int .i64 0, .string ⟨#[]⟩, .string ⟨#[]⟩, .slice none 0 0, .int .i64 0, .int .i64 0, .bool false, .slice none 0 0, .slice none 0 0] : List Value).toArray 28))).make _).block _ (by simp) id]; exact heap_alloc_new w _
  have hO0 : Old w ((w.alloc (.cells ([.int .i64 0, .int .i64 0, .string ⟨#[]⟩, .string ⟨#[]⟩, .slice none 0 0, .int .i64 0, .int .i64 0, .bool false, .slice none 0 0, .slice none 0 0] : List Value).toArray 28)).alloc (.cells #[.string s, .int .i64 0, .int .i64 0] 111)) := ((Old.refl w).make _).make _
  have hs0 : w.heap.size + 2 ≤ ((w.alloc (.cells ([.int .i64 0, .int .i64 0, .string ⟨#[]⟩, .string ⟨#[]⟩, .slice none 0 0, .int .i64 0, .int .i64 0, .bool false, .slice none 0 0, .slice none 0 0] : List Value).toArray 28)).alloc (.cells #[.string s, .int .i64 0, .int .i64 0] 111)).heap.size := by simp
  have K1 := Lib.hid (reftake_req _ _ s 0 0 0 hW (fun _ => rfl) g1)
  have HB := Lib.hid hb0; clear hb0
  have HO := Lib.hid hO0; clear hO0
  have HS0 := Lib.hid hs0; clear hs0
  clear hW g1
  go_enter Tryz.func32, Tryz.ntmps32
  go_wp2_with fail
  refine K1.out.mono ?_
  rintro en w0 ⟨cs, p0, rfl, hfl, hnl, hE0, hF0, hp0, hk0⟩
  have hA : Kept (fun _ => False) w0 (w0.alloc (.cells cs.toArray 28)) := (Kept.refl _ w0).alloc _
  have hz0 := Nat.le_trans HS0.out hk0.size
  have hbr : w0.heap[w.heap.size]? = some (.cells ([.int .i64 0, .int .i64 0, .string ⟨#[]⟩, .string ⟨#[]⟩, .slice none 0 0, .int .i64 0, .int .i64 0, .bool false, .slice none 0 0, .slice none 0 0] : List Value).toArray 28 (0, 0)) := (hk0.block _ (lt_of_block HB.out) (fun h => by have h' : w.heap.size = w.heap.size + 1 := h; omega)).trans HB.out
  have hbr1 := (hA.block _ (lt_of_block hbr) id).trans hbr
  have hO1 : Old w w0 := HO.out.step hk0 (fun k h => by have h' : k = w.heap.size + 1 := h; omega)
  have hO2 := hO1.none hA
  have hF1 := hF0.keep hA id
  have hbox := heap_alloc_new w0 (.cells cs.toArray 28)
  have hE1 : WkE e reqE (w0.alloc (.cells cs.toArray 28)) (fun j => w.heap.size + 2 ≤ j ∧ j ≠ w0.heap.size) cs x :=
    (WkE_ok reqE_ok).keep ((WkE_ok reqE_ok).mono hE0 (fun j hj hj' => ⟨Nat.le_trans HS0.out hj', by omega⟩)) hA (disj_none _)
  have HFL := Lib.hid hfl
  have HP0 := Lib.hid hp0
  clear hk0 hbr hO1 hF0 hE0 hfl hp0 hnl hA K1 HB HO HS0
  go_wp2_with (refine wpList_store_new w0 rfl 28 _ _ rfl _ cs rfl rfl (by rw [HFL.out.1]; exact HSZ.out) HFL.out.1.symm HFL.out.2 ?_)
  refine (KE.out _ _ _ hF1 HP0.out).mono ?_
  rintro en wz ⟨pz, rfl, hFz, hpz, hkz⟩
  have HBX := Lib.hid ((hkz.block _ (lt_of_block hbox) (fun h => by have h' : w0.heap.size = w.heap.size + 1 := h; omega)).trans hbox)
  have HRES := Lib.hid ((hkz.block _ (lt_of_block hbr1) (fun h => by have h' : w.heap.size = w.heap.size + 1 := h; omega)).trans hbr1)
  have HOZ := Lib.hid (hO2.step hkz (fun k h => by have h' : k = w.heap.size + 1 := h; omega))
  have HEZ := Lib.hid ((WkE_ok reqE_ok).keep hE1 hkz (fun j hj hs => by have := hj.1; have hs' : j = w.heap.size + 1 := hs; omega))
  clear hkz hpz hFz hF1 hbox hbr1 hO2 hE1 HP0 KE
  by_cases h0 : r = 0
  · have hrd : ro = some x := by rw [HREAD.out, if_pos h0]
    have HRD := Lib.hid hrd; clear hrd
    have HEE := Lib.hid (HE0.out h0)
    have h0' : ((r : Nat) : Int) = 0 := by omega
    generalize ((r : Nat) : Int) = ri at h0'
    subst h0'
    clear h0 HREAD HE0
    have HRG := Lib.hid (range_row HBX.out)
    have HSE2 := Lib.hid (info_len HSZ.out HFL.out.1)
    go_wp2_with (first
      | (refine wpList_load_mid rfl 28 (.tmp 5) rfl w0.heap.size 0 rfl cs _ HRG.out Tryz.underlying28 rfl HSE2.out ?_)
      | (refine wpList_store_row _ rfl 28 (.tmp 2) (.tmp 15) rfl w.heap.size _ cs rfl rfl HRES.out HSE2.out HFL.out.1.symm HFL.out.2 ?_))
    have hrow := setRow_heap wz w.heap.size _ cs.toArray _ _ HRES.out
    have hload := run_loadVar_row (P := Tryz.prog) _ w.heap.size 28 28 _ (0, 0) _ hrow Tryz.underlying28 rfl (by rw [List.size_toArray]; exact HSE2.out)
    refine ret_cell_tmp 2 28 3 w.heap.size _ _ Tryz.results32 rfl rfl hload rfl ⟨_, by rw [HRD.out]; rfl, old_setRow HOZ.out _, ?_⟩
    rw [HRD.out]
    exact reqE_ok.mono (reqE_ok.keep (HEZ.out HEE.out) (setRow_kept wz w.heap.size cs.toArray) (fun j hj hs => by have := hj.1; have hs' : j = w.heap.size := hs; omega)) (fun j _ hj => by have := hj.1; unfold New; omega)
  · have hrd : ro = none := by rw [HREAD.out, if_neg h0]
    have HRD := Lib.hid hrd; clear hrd
    have h0' : ¬ ((r : Nat) : Int) = 0 := by omega
    generalize ((r : Nat) : Int) = ri at h0'
    clear h0 HREAD HE0
    go_wp2_with (refine wpList_store_row _ rfl 28 _ _ rfl w.heap.size _ [.int .i64 0, .int .i64 0, .string ⟨#[]⟩, .string ⟨#[]⟩, .slice none 0 0, .int .i64 0, .int .i64 0, .bool false, .slice none 0 0, .slice none 0 0] rfl rfl HRES.out HSZ.out rfl (by simp [Value.oneCell']) ?_)
    have hrow := setRow_heap wz w.heap.size _ ([.int .i64 0, .int .i64 0, .string ⟨#[]⟩, .string ⟨#[]⟩, .slice none 0 0, .int .i64 0, .int .i64 0, .bool false, .slice none 0 0, .slice none 0 0] : List Value).toArray _ _ HRES.out
    have hload := run_loadVar_row (P := Tryz.prog) _ w.heap.size 28 28 _ (0, 0) _ hrow Tryz.underlying28 rfl (by rw [List.size_toArray]; exact HSZ.out)
    exact ret_cell_tmp 2 28 3 w.heap.size _ _ Tryz.results32 rfl rfl hload rfl ⟨_, by rw [HRD.out]; rfl, old_setRow HOZ.out _, by rw [HRD.out]; exact zReq_at _ _⟩
end Go.Proofs.YtpmemcpfoapjmaaGreat
