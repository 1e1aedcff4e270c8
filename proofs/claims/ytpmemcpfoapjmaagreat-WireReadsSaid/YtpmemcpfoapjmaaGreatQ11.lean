/- A part, and lists of them, laid. A transaction, an entry, lists of entries, laid. Entry: Put and Get. The document's own answers of layer 2: bytes read as entry. The document's own answers of layer 2: lists of rows, of texts, laid. The document's own answers of layer 2: texts, laid. The document's own answers of layer 2: a part, laid. -/
import Derived.Test.YtpmemcpfoapjmaaGreatQ10
import Derived.Test.YtpmemcpfoapjmaaGreatQ06
import Derived.Test.YtpmemcpfoapjmaaGreatQ07
import Derived.Outline
import Derived.Test.YtpmemcpfoapjmaaGreatQ08
namespace Go.Proofs.YtpmemcpfoapjmaaGreat
open Go.ChangeShapes Go.WideShapes Go.ChangeAt Go.RowKit
set_option linter.unusedVariables false

set_option maxRecDepth 100000 in
set_option maxHeartbeats 600000 in
theorem put_part (x : Part) (cs : List Value) (ok : Nat → Prop) (w : World) (b : Nat) (v : Value) (l : List UInt8) (hW : WAt w b v l) (hE : partE w ok cs x) (hd : Disj ok (WS b v)) (hi : In w ok) (hl : l.length + (partF.lay x).length ≤ 144900000000000) :
    Calls Tryz.prog 128 #[.pointer (some ⟨b, 0, none⟩), .agg cs.toArray] w (WPost w b v (l ++ partF.lay x)) := by
  obtain ⟨vsubs, vacl, rfl, hacl, hn_kind, hs_path, hs_data, hn_owner, hn_number, hn_err, gsubs⟩ := hE
  obtain ⟨A_acl, n_acl, c_acl, rfl⟩ := hacl.shape
  obtain ⟨A_subs, n_subs, c_subs, rfl⟩ := gsubs
  have S0 := WSt.box hW (.cells #[.int .i64 x.kind, .string x.path, .string x.data, .slice A_acl n_acl c_acl, .int .i64 x.owner, .int .i64 x.number, .int .i64 x.err, .slice A_subs n_subs c_subs] 36)
  have hnb := box_new hW
  have hbk := heap_alloc_new w (.cells #[.int .i64 x.kind, .string x.path, .string x.data, .slice A_acl n_acl c_acl, .int .i64 x.owner, .int .i64 x.number, .int .i64 x.err, .slice A_subs n_subs c_subs] 36)
  replace hacl := hacl.keep aclE_ok ((Kept.refl (fun _ => False) w).alloc (.cells #[.int .i64 x.kind, .string x.path, .string x.data, .slice A_acl n_acl c_acl, .int .i64 x.owner, .int .i64 x.number, .int .i64 x.err, .slice A_subs n_subs c_subs] 36)) (disj_none ok)
  replace hi := hi.kept ((Kept.refl (fun _ => False) w).alloc (.cells #[.int .i64 x.kind, .string x.path, .string x.data, .slice A_acl n_acl c_acl, .int .i64 x.owner, .int .i64 x.number, .int .i64 x.err, .slice A_subs n_subs c_subs] 36))
  have hlen : (partF.lay x).length = (sev (zz x.kind)).length + ((sev x.path.size).length + x.path.size) + ((sev x.data.size).length + x.data.size) + ((listF aclF).lay x.acl).length + (sev (zz x.owner)).length + (sev (zz x.number)).length + (sev (zz x.err)).length := by simp only [partF, isoF, seqF, numF, textF, List.length_append, str_len] <;> omega
  have hl1 : l.length + ((sev (zz x.kind)).length + ((sev x.path.size).length + x.path.size) + ((sev x.data.size).length + x.data.size) + ((listF aclF).lay x.acl).length + (sev (zz x.owner)).length + (sev (zz x.number)).length + (sev (zz x.err)).length) ≤ 144900000000000 := by rw [← hlen]; exact hl
  clear hlen
  clear hl
  go_enter Tryz.func128, Tryz.ntmps128
  go_wp2_with fail
  refine (wnum_wide x.kind _ b _ _ S0.at_ hn_kind.1 hn_kind.2 (by omega)).mono ?_
  rintro e w1 h1
  obtain ⟨v1, rfl, S1⟩ := S0.step h1
  clear S0 h1
  have hb1 := S1.blk hbk hnb
  have c1_1 : w1.cell? ⟨w.heap.size, 1, none⟩ = some (.string x.path) := by simp [World.cell?, hb1]
  clear hb1
  go_wp2_with fail
  refine (wtext_wide x.path _ b _ _ S1.at_ hs_path (by simp only [List.length_append]; omega)).mono ?_
  rintro e w2 h2
  obtain ⟨v2, rfl, S2⟩ := S1.step h2
  clear S1 h2
  have hb2 := S2.blk hbk hnb
  have c2_2 : w2.cell? ⟨w.heap.size, 2, none⟩ = some (.string x.data) := by simp [World.cell?, hb2]
  clear hb2
  go_wp2_with fail
  refine (wtext_wide x.data _ b _ _ S2.at_ hs_data (by simp only [List.length_append, str_len]; omega)).mono ?_
  rintro e w3 h3
  obtain ⟨v3, rfl, S3⟩ := S2.step h3
  clear S2 h3
  have hb3 := S3.blk hbk hnb
  have c3_3 : w3.cell? ⟨w.heap.size, 3, none⟩ = some (.slice A_acl n_acl c_acl) := by simp [World.cell?, hb3]
  clear hb3
  go_wp2_with fail
  refine (putList_acl x.acl _ ok _ b _ _ S3.at_ (hacl.keep aclE_ok S3.kept hd) (hd.symm.sep hi S3.sep).symm (hi.kept S3.kept) (by simp only [List.length_append, str_len]; omega)).mono ?_
  rintro e w4 h4
  obtain ⟨v4, rfl, S4⟩ := S3.step h4
  clear S3 h4
  have hb4 := S4.blk hbk hnb
  have c4_4 : w4.cell? ⟨w.heap.size, 4, none⟩ = some (.int .i64 x.owner) := by simp [World.cell?, hb4]
  have c4_5 : w4.cell? ⟨w.heap.size, 5, none⟩ = some (.int .i64 x.number) := by simp [World.cell?, hb4]
  clear hb4
  go_wp2_with fail
  have hcall4 : Calls Tryz.prog 52 #[.pointer (some ⟨b, 0, none⟩), .slice (some ⟨w4.heap.size, 0, none⟩) 2 2] (w4.alloc (.cells #[.int .i64 x.owner, .int .i64 x.number] 3)) (WPost (w4.alloc (.cells #[.int .i64 x.owner, .int .i64 x.number] 3)) b v4 (l ++ sev (zz x.kind) ++ (sev x.path.size ++ x.path.data.toList) ++ (sev x.data.size ++ x.data.data.toList) ++ (listF aclF).lay x.acl ++ layN numF [x.owner, x.number])) :=
    nums_call [x.owner, x.number] _ _ (by simp) b _ _ S4.at_ (by simp only [List.mem_cons, List.not_mem_nil, or_false, forall_eq_or_imp, forall_eq]; exact ⟨hn_owner, hn_number⟩) (by unfold maxLen; simp only [List.length_cons, List.length_nil]; omega) (by simp only [List.length_append, layN, List.flatMap_cons, List.flatMap_nil, List.append_nil, numF_lay, str_len]; omega)
  have HC4 := Lib.hid hcall4; clear hcall4
  refine HC4.out.mono ?_
  rintro e w5 h5
  obtain ⟨v5, rfl, S5⟩ := (S4.alloc _).step h5
  clear S4 h5 HC4
  have hb5 := S5.blk hbk hnb
  have c5_6 : w5.cell? ⟨w.heap.size, 6, none⟩ = some (.int .i64 x.err) := by simp [World.cell?, hb5]
  clear hb5
  go_wp2_with fail
  refine (putErr_any x.err _ b _ _ S5.at_ hn_err (by simp only [List.length_append, layN, List.flatMap_cons, List.flatMap_nil, List.append_nil, numF_lay, str_len]; omega)).mono ?_
  rintro e w6 h6
  obtain ⟨v6, rfl, S6⟩ := S5.step h6
  clear S5 h6
  go_wp2_with fail
  go_end0
  exact S6.unbox (by simp only [partF, isoF, seqF, numF, textF, layN, List.flatMap_cons, List.flatMap_nil, List.append_nil, List.append_assoc])

set_option maxRecDepth 100000 in
theorem putList_part (xs : List Part) (sv : Value) (ok : Nat → Prop) (w : World) (b : Nat) (v : Value) (l : List UInt8) (hW : WAt w b v l) (hL : ListR partE w ok 8 sv xs) (hd : Disj ok (WS b v)) (hi : In w ok) (hl : l.length + ((listF partF).lay xs).length ≤ 144900000000000) :
    Calls Tryz.prog 129 #[.pointer (some ⟨b, 0, none⟩), sv, .func (.func 128) #[] #[]] w (WPost w b v (l ++ (listF partF).lay xs)) := by
  obtain ⟨rows, ⟨A, c, rfl, hlc, hm, hat⟩, hlen, hel⟩ := hL
  unfold maxLen at hm
  have hlen1 : rows.length ≤ xs.length := by omega
  have hlen2 : xs.length ≤ rows.length := by omega
  have hfin := (show (listF partF).lay xs = sev xs.length ++ layN partF xs from rfl)
  rw [hfin] at hl ⊢
  rw [← hlen] at hl ⊢
  clear hfin hlen
  rw [List.length_append] at hl
  go_enter Tryz.func129, Tryz.ntmps129
  go_wp2_with fail
  refine (wcount_wide rows.length _ b v l hW (by omega) (by omega)).mono ?_
  rintro e w0 h0
  obtain ⟨v0, rfl, S0⟩ := (WSt.start hW).step h0
  clear h0
  go_wp2_with fail
  go_loopw [14] (fun iv wr => PutRelL w b v (l ++ sev rows.length) xs.length (fun k => layN partF (xs.take k)) iv wr) (fun iv _ => xs.length - (intOf iv).toNat)
  case atStart => exact ⟨0, v0, rfl, Nat.zero_le _, by simpa [layN] using S0⟩
  case round =>
    obtain ⟨k, v1, rfl, hk, S1⟩ := hrel.ex
    clear hrel S0
    by_cases hlt : k < xs.length
    · have hkr : k < rows.length := by omega
      rcases hat with h0 | ⟨g, off, rfl, hok, hg, hc⟩
      · simp [h0.1] at hkr
      have hE := partE_ok.keep (hel k hlt hkr) S1.kept hd
      have hcell : ∀ j (hj : j < rows[k].length), wr.cell? ⟨g, off + k * 8 + j, none⟩ = some rows[k][j] := fun j hj => by
        rw [← (hc k hkr).2 j hj]; exact World.cell?_of_block (S1.kept.block g hg (hd g hok.1))
      have hle := layN_le (f := partF) hlt
      have HTK := Lib.hid (layN_take (f := partF) hlt)
      generalize rows[k] = cs at hcell hE
      generalize xs[k] = x at hle hE HTK
      clear hc hel
      obtain ⟨A_acl, n_acl, c_acl, A_subs, n_subs, c_subs, rfl⟩ := partE_cells hE
      have c0 : wr.cell? ⟨g, off + k * 8, none⟩ = some (.int .i64 x.kind) := hcell 0 (by simp)
      have c1 : wr.cell? ⟨g, off + k * 8 + 1, none⟩ = some (.string x.path) := hcell 1 (by simp)
      have c2 : wr.cell? ⟨g, off + k * 8 + 2, none⟩ = some (.string x.data) := hcell 2 (by simp)
      have c3 : wr.cell? ⟨g, off + k * 8 + 3, none⟩ = some (.slice A_acl n_acl c_acl) := hcell 3 (by simp)
      have c4 : wr.cell? ⟨g, off + k * 8 + 4, none⟩ = some (.int .i64 x.owner) := hcell 4 (by simp)
      have c5 : wr.cell? ⟨g, off + k * 8 + 5, none⟩ = some (.int .i64 x.number) := hcell 5 (by simp)
      have c6 : wr.cell? ⟨g, off + k * 8 + 6, none⟩ = some (.int .i64 x.err) := hcell 6 (by simp)
      have c7 : wr.cell? ⟨g, off + k * 8 + 7, none⟩ = some (.slice A_subs n_subs c_subs) := hcell 7 (by simp)
      clear hcell
      have hkl : (k : Int) < (rows.length : Int) := by omega
      have hd1 := (hd.symm.sep hi S1.sep).symm
      have hi1 : In wr ok := hi.kept S1.kept
      have hll : (l ++ sev rows.length ++ layN partF (xs.take k)).length + (partF.lay x).length ≤ 144900000000000 := by simp only [List.length_append]; omega
      have hcall : ∀ (o : Obj), Calls Tryz.prog 128 #[.pointer (some ⟨b, 0, none⟩), .agg #[.int .i64 x.kind, .string x.path, .string x.data, .slice A_acl n_acl c_acl, .int .i64 x.owner, .int .i64 x.number, .int .i64 x.err, .slice A_subs n_subs c_subs]] (wr.alloc o) (WPost (wr.alloc o) b v1 (l ++ sev rows.length ++ layN partF (xs.take k) ++ partF.lay x)) := fun o =>
        put_part x _ ok _ b v1 _ (S1.alloc o).at_ (partE_ok.keep hE ((Kept.refl (fun _ => False) wr).alloc o) (disj_none ok)) hd1 (hi1.kept ((Kept.refl (fun _ => False) wr).alloc o)) hll
      have HCALL := Lib.hid hcall
      have HS := Lib.hid (fun (o : Obj) => S1.alloc o)
      clear hcall hE S1 hd1 hi1 hll
      go_wp2_with fail
      refine (HCALL.out _).mono ?_
      rintro e w2 h2
      obtain ⟨v2, rfl, S2⟩ := (HS.out _).step h2
      clear h2 HCALL HS
      go_wp2_with fail
      go_roundw
      case rel => exact ⟨k + 1, v2, rfl, hlt, by rw [HTK.out, ← List.append_assoc]; exact S2⟩
      case measure => simp [intOf]; omega
    · have hkl : ¬ (k : Int) < (rows.length : Int) := by omega
      obtain rfl : k = xs.length := by omega
      go_wp2_with fail
      go_end0
      exact S1.fin (by rw [List.take_length, List.append_assoc])
end Go.Proofs.YtpmemcpfoapjmaaGreat

namespace Go.Proofs.YtpmemcpfoapjmaaGreat
open Go.ChangeShapes Go.WideShapes Go.ChangeAt Go.RowKit
set_option linter.unusedVariables false

set_option maxRecDepth 100000 in
set_option maxHeartbeats 600000 in
theorem put_txn (x : Txn) (cs : List Value) (ok : Nat → Prop) (w : World) (b : Nat) (v : Value) (l : List UInt8) (hW : WAt w b v l) (hE : txnE w ok cs x) (hd : Disj ok (WS b v)) (hi : In w ok) (hl : l.length + (txnF.lay x).length ≤ 144900000000000) :
    Calls Tryz.prog 95 #[.pointer (some ⟨b, 0, none⟩), .agg cs.toArray] w (WPost w b v (l ++ txnF.lay x)) := by
  obtain ⟨vsubs, hq, hsubs⟩ := hE
  have hpart : partE w ok cs x.part := ⟨vsubs, hq⟩
  obtain ⟨vacl, rfl, hacl, _⟩ := hq
  obtain ⟨A_acl, n_acl, c_acl, rfl⟩ := hacl.shape
  obtain ⟨A_subs, n_subs, c_subs, rfl⟩ := hsubs.shape
  have S0 := WSt.box hW (.cells #[.int .i64 x.part.kind, .string x.part.path, .string x.part.data, .slice A_acl n_acl c_acl, .int .i64 x.part.owner, .int .i64 x.part.number, .int .i64 x.part.err, .slice A_subs n_subs c_subs] 36)
  have hnb := box_new hW
  have hbk := heap_alloc_new w (.cells #[.int .i64 x.part.kind, .string x.part.path, .string x.part.data, .slice A_acl n_acl c_acl, .int .i64 x.part.owner, .int .i64 x.part.number, .int .i64 x.part.err, .slice A_subs n_subs c_subs] 36)
  replace hpart := partE_ok.keep hpart ((Kept.refl (fun _ => False) w).alloc (.cells #[.int .i64 x.part.kind, .string x.part.path, .string x.part.data, .slice A_acl n_acl c_acl, .int .i64 x.part.owner, .int .i64 x.part.number, .int .i64 x.part.err, .slice A_subs n_subs c_subs] 36)) (disj_none ok)
  replace hsubs := hsubs.keep partE_ok ((Kept.refl (fun _ => False) w).alloc (.cells #[.int .i64 x.part.kind, .string x.part.path, .string x.part.data, .slice A_acl n_acl c_acl, .int .i64 x.part.owner, .int .i64 x.part.number, .int .i64 x.part.err, .slice A_subs n_subs c_subs] 36)) (disj_none ok)
  replace hi := hi.kept ((Kept.refl (fun _ => False) w).alloc (.cells #[.int .i64 x.part.kind, .string x.part.path, .string x.part.data, .slice A_acl n_acl c_acl, .int .i64 x.part.owner, .int .i64 x.part.number, .int .i64 x.part.err, .slice A_subs n_subs c_subs] 36))
  have hlen : (txnF.lay x).length = (partF.lay x.part).length + ((listF partF).lay x.subs).length := by simp only [txnF, isoF, seqF, List.length_append] <;> omega
  have hl1 : l.length + ((partF.lay x.part).length + ((listF partF).lay x.subs).length) ≤ 144900000000000 := by rw [← hlen]; exact hl
  clear hlen
  clear hl
  go_enter Tryz.func95, Tryz.ntmps95
  go_wp2_with fail
  refine (put_part x.part _ ok _ b _ _ S0.at_ (partE_ok.keep hpart S0.kept hd) (hd.symm.sep hi S0.sep).symm (hi.kept S0.kept) (by omega)).mono ?_
  rintro e w1 h1
  obtain ⟨v1, rfl, S1⟩ := S0.step h1
  clear S0 h1
  have hb1 := S1.blk hbk hnb
  have c1_7 : w1.cell? ⟨w.heap.size, 7, none⟩ = some (.slice A_subs n_subs c_subs) := by simp [World.cell?, hb1]
  clear hb1
  go_wp2_with fail
  refine (putList_part x.subs _ ok _ b _ _ S1.at_ (hsubs.keep partE_ok S1.kept hd) (hd.symm.sep hi S1.sep).symm (hi.kept S1.kept) (by simp only [List.length_append]; omega)).mono ?_
  rintro e w2 h2
  obtain ⟨v2, rfl, S2⟩ := S1.step h2
  clear S1 h2
  go_wp2_with fail
  go_end0
  exact S2.unbox (by simp only [txnF, isoF, seqF, List.append_assoc])

set_option maxRecDepth 100000 in
set_option maxHeartbeats 600000 in
theorem put_entry (x : Entry) (cs : List Value) (ok : Nat → Prop) (w : World) (b : Nat) (v : Value) (l : List UInt8) (hW : WAt w b v l) (hE : entryE w ok cs x) (hd : Disj ok (WS b v)) (hi : In w ok) (hl : l.length + (entryF.lay x).length ≤ 144900000000000) :
    Calls Tryz.prog 57 #[.pointer (some ⟨b, 0, none⟩), .agg cs.toArray] w (WPost w b v (l ++ entryF.lay x)) := by
  obtain ⟨ct, rfl, htxn, hn_zxid, hn_session, hn_xid⟩ := hE
  obtain ⟨A_acl, n_acl, c_acl, A_subs, n_subs, c_subs, rfl⟩ := txnE_cells htxn
  have S0 := WSt.box hW (.cells #[.int .i64 x.zxid, .int .i64 x.session, .int .i64 x.xid, .int .i64 x.txn.part.kind, .string x.txn.part.path, .string x.txn.part.data, .slice A_acl n_acl c_acl, .int .i64 x.txn.part.owner, .int .i64 x.txn.part.number, .int .i64 x.txn.part.err, .slice A_subs n_subs c_subs] 38)
  have hnb := box_new hW
  have hbk := heap_alloc_new w (.cells #[.int .i64 x.zxid, .int .i64 x.session, .int .i64 x.xid, .int .i64 x.txn.part.kind, .string x.txn.part.path, .string x.txn.part.data, .slice A_acl n_acl c_acl, .int .i64 x.txn.part.owner, .int .i64 x.txn.part.number, .int .i64 x.txn.part.err, .slice A_subs n_subs c_subs] 38)
  replace htxn := txnE_ok.keep htxn ((Kept.refl (fun _ => False) w).alloc (.cells #[.int .i64 x.zxid, .int .i64 x.session, .int .i64 x.xid, .int .i64 x.txn.part.kind, .string x.txn.part.path, .string x.txn.part.data, .slice A_acl n_acl c_acl, .int .i64 x.txn.part.owner, .int .i64 x.txn.part.number, .int .i64 x.txn.part.err, .slice A_subs n_subs c_subs] 38)) (disj_none ok)
  replace hi := hi.kept ((Kept.refl (fun _ => False) w).alloc (.cells #[.int .i64 x.zxid, .int .i64 x.session, .int .i64 x.xid, .int .i64 x.txn.part.kind, .string x.txn.part.path, .string x.txn.part.data, .slice A_acl n_acl c_acl, .int .i64 x.txn.part.owner, .int .i64 x.txn.part.number, .int .i64 x.txn.part.err, .slice A_subs n_subs c_subs] 38))
  have hlen : (entryF.lay x).length = (sev (zz x.zxid)).length + (sev (zz x.session)).length + (sev (zz x.xid)).length + (txnF.lay x.txn).length := by simp only [entryF, isoF, seqF, numF, List.length_append] <;> omega
  have hl1 : l.length + ((sev (zz x.zxid)).length + (sev (zz x.session)).length + (sev (zz x.xid)).length + (txnF.lay x.txn).length) ≤ 144900000000000 := by rw [← hlen]; exact hl
  clear hlen
  clear hl
  go_enter Tryz.func57, Tryz.ntmps57
  go_wp2_with fail
  have hcall0 : Calls Tryz.prog 52 #[.pointer (some ⟨b, 0, none⟩), .slice (some ⟨w.heap.size + 1, 0, none⟩) 3 3] ((w.alloc (.cells #[.int .i64 x.zxid, .int .i64 x.session, .int .i64 x.xid, .int .i64 x.txn.part.kind, .string x.txn.part.path, .string x.txn.part.data, .slice A_acl n_acl c_acl, .int .i64 x.txn.part.owner, .int .i64 x.txn.part.number, .int .i64 x.txn.part.err, .slice A_subs n_subs c_subs] 38)).alloc (.cells #[.int .i64 x.zxid, .int .i64 x.session, .int .i64 x.xid] 3)) (WPost ((w.alloc (.cells #[.int .i64 x.zxid, .int .i64 x.session, .int .i64 x.xid, .int .i64 x.txn.part.kind, .string x.txn.part.path, .string x.txn.part.data, .slice A_acl n_acl c_acl, .int .i64 x.txn.part.owner, .int .i64 x.txn.part.number, .int .i64 x.txn.part.err, .slice A_subs n_subs c_subs] 38)).alloc (.cells #[.int .i64 x.zxid, .int .i64 x.session, .int .i64 x.xid] 3)) b v (l ++ layN numF [x.zxid, x.session, x.xid])) :=
    nums_call [x.zxid, x.session, x.xid] _ _ (by simp) b _ _ S0.at_ (by simp only [List.mem_cons, List.not_mem_nil, or_false, forall_eq_or_imp, forall_eq]; exact ⟨hn_zxid, hn_session, hn_xid⟩) (by unfold maxLen; simp only [List.length_cons, List.length_nil]; omega) (by simp only [List.length_append, layN, List.flatMap_cons, List.flatMap_nil, List.append_nil, numF_lay]; omega)
  have HC0 := Lib.hid hcall0; clear hcall0
  refine HC0.out.mono ?_
  rintro e w1 h1
  obtain ⟨v1, rfl, S1⟩ := (S0.alloc _).step h1
  clear S0 h1 HC0
  have hb1 := S1.blk hbk hnb
  have c1_3 : w1.cell? ⟨w.heap.size, 3, none⟩ = some (.int .i64 x.txn.part.kind) := by simp [World.cell?, hb1]
  have c1_4 : w1.cell? ⟨w.heap.size, 4, none⟩ = some (.string x.txn.part.path) := by simp [World.cell?, hb1]
  have c1_5 : w1.cell? ⟨w.heap.size, 5, none⟩ = some (.string x.txn.part.data) := by simp [World.cell?, hb1]
  have c1_6 : w1.cell? ⟨w.heap.size, 6, none⟩ = some (.slice A_acl n_acl c_acl) := by simp [World.cell?, hb1]
  have c1_7 : w1.cell? ⟨w.heap.size, 7, none⟩ = some (.int .i64 x.txn.part.owner) := by simp [World.cell?, hb1]
  have c1_8 : w1.cell? ⟨w.heap.size, 8, none⟩ = some (.int .i64 x.txn.part.number) := by simp [World.cell?, hb1]
  have c1_9 : w1.cell? ⟨w.heap.size, 9, none⟩ = some (.int .i64 x.txn.part.err) := by simp [World.cell?, hb1]
  have c1_10 : w1.cell? ⟨w.heap.size, 10, none⟩ = some (.slice A_subs n_subs c_subs) := by simp [World.cell?, hb1]
  clear hb1
  go_wp2_with fail
  refine (put_txn x.txn _ ok _ b _ _ S1.at_ (txnE_ok.keep htxn S1.kept hd) (hd.symm.sep hi S1.sep).symm (hi.kept S1.kept) (by simp only [List.length_append, layN, List.flatMap_cons, List.flatMap_nil, List.append_nil, numF_lay]; omega)).mono ?_
  rintro e w2 h2
  obtain ⟨v2, rfl, S2⟩ := S1.step h2
  clear S1 h2
  go_wp2_with fail
  go_end0
  exact S2.unbox (by simp only [entryF, isoF, seqF, numF, layN, List.flatMap_cons, List.flatMap_nil, List.append_nil, List.append_assoc])

set_option maxRecDepth 100000 in
theorem putList_entry (xs : List Entry) (sv : Value) (ok : Nat → Prop) (w : World) (b : Nat) (v : Value) (l : List UInt8) (hW : WAt w b v l) (hL : ListR entryE w ok 11 sv xs) (hd : Disj ok (WS b v)) (hi : In w ok) (hl : l.length + ((listF entryF).lay xs).length ≤ 144900000000000) :
    Calls Tryz.prog 56 #[.pointer (some ⟨b, 0, none⟩), sv, .func (.func 57) #[] #[]] w (WPost w b v (l ++ (listF entryF).lay xs)) := by
  obtain ⟨rows, ⟨A, c, rfl, hlc, hm, hat⟩, hlen, hel⟩ := hL
  unfold maxLen at hm
  have hlen1 : rows.length ≤ xs.length := by omega
  have hlen2 : xs.length ≤ rows.length := by omega
  have hfin := (show (listF entryF).lay xs = sev xs.length ++ layN entryF xs from rfl)
  rw [hfin] at hl ⊢
  rw [← hlen] at hl ⊢
  clear hfin hlen
  rw [List.length_append] at hl
  go_enter Tryz.func56, Tryz.ntmps56
  go_wp2_with fail
  refine (wcount_wide rows.length _ b v l hW (by omega) (by omega)).mono ?_
  rintro e w0 h0
  obtain ⟨v0, rfl, S0⟩ := (WSt.start hW).step h0
  clear h0
  go_wp2_with fail
  go_loopw [14] (fun iv wr => PutRelL w b v (l ++ sev rows.length) xs.length (fun k => layN entryF (xs.take k)) iv wr) (fun iv _ => xs.length - (intOf iv).toNat)
  case atStart => exact ⟨0, v0, rfl, Nat.zero_le _, by simpa [layN] using S0⟩
  case round =>
    obtain ⟨k, v1, rfl, hk, S1⟩ := hrel.ex
    clear hrel S0
    by_cases hlt : k < xs.length
    · have hkr : k < rows.length := by omega
      rcases hat with h0 | ⟨g, off, rfl, hok, hg, hc⟩
      · simp [h0.1] at hkr
      have hE := entryE_ok.keep (hel k hlt hkr) S1.kept hd
      have hcell : ∀ j (hj : j < rows[k].length), wr.cell? ⟨g, off + k * 11 + j, none⟩ = some rows[k][j] := fun j hj => by
        rw [← (hc k hkr).2 j hj]; exact World.cell?_of_block (S1.kept.block g hg (hd g hok.1))
      have hle := layN_le (f := entryF) hlt
      have HTK := Lib.hid (layN_take (f := entryF) hlt)
      generalize rows[k] = cs at hcell hE
      generalize xs[k] = x at hle hE HTK
      clear hc hel
      obtain ⟨A_acl, n_acl, c_acl, A_subs, n_subs, c_subs, rfl⟩ := entryE_cells hE
      have c0 : wr.cell? ⟨g, off + k * 11, none⟩ = some (.int .i64 x.zxid) := hcell 0 (by simp)
      have c1 : wr.cell? ⟨g, off + k * 11 + 1, none⟩ = some (.int .i64 x.session) := hcell 1 (by simp)
      have c2 : wr.cell? ⟨g, off + k * 11 + 2, none⟩ = some (.int .i64 x.xid) := hcell 2 (by simp)
      have c3 : wr.cell? ⟨g, off + k * 11 + 3, none⟩ = some (.int .i64 x.txn.part.kind) := hcell 3 (by simp)
      have c4 : wr.cell? ⟨g, off + k * 11 + 4, none⟩ = some (.string x.txn.part.path) := hcell 4 (by simp)
      have c5 : wr.cell? ⟨g, off + k * 11 + 5, none⟩ = some (.string x.txn.part.data) := hcell 5 (by simp)
      have c6 : wr.cell? ⟨g, off + k * 11 + 6, none⟩ = some (.slice A_acl n_acl c_acl) := hcell 6 (by simp)
      have c7 : wr.cell? ⟨g, off + k * 11 + 7, none⟩ = some (.int .i64 x.txn.part.owner) := hcell 7 (by simp)
      have c8 : wr.cell? ⟨g, off + k * 11 + 8, none⟩ = some (.int .i64 x.txn.part.number) := hcell 8 (by simp)
      have c9 : wr.cell? ⟨g, off + k * 11 + 9, none⟩ = some (.int .i64 x.txn.part.err) := hcell 9 (by simp)
      have c10 : wr.cell? ⟨g, off + k * 11 + 10, none⟩ = some (.slice A_subs n_subs c_subs) := hcell 10 (by simp)
      clear hcell
      have hkl : (k : Int) < (rows.length : Int) := by omega
      have hd1 := (hd.symm.sep hi S1.sep).symm
      have hi1 : In wr ok := hi.kept S1.kept
      have hll : (l ++ sev rows.length ++ layN entryF (xs.take k)).length + (entryF.lay x).length ≤ 144900000000000 := by simp only [List.length_append]; omega
      have hcall : ∀ (o : Obj), Calls Tryz.prog 57 #[.pointer (some ⟨b, 0, none⟩), .agg #[.int .i64 x.zxid, .int .i64 x.session, .int .i64 x.xid, .int .i64 x.txn.part.kind, .string x.txn.part.path, .string x.txn.part.data, .slice A_acl n_acl c_acl, .int .i64 x.txn.part.owner, .int .i64 x.txn.part.number, .int .i64 x.txn.part.err, .slice A_subs n_subs c_subs]] (wr.alloc o) (WPost (wr.alloc o) b v1 (l ++ sev rows.length ++ layN entryF (xs.take k) ++ entryF.lay x)) := fun o =>
        put_entry x _ ok _ b v1 _ (S1.alloc o).at_ (entryE_ok.keep hE ((Kept.refl (fun _ => False) wr).alloc o) (disj_none ok)) hd1 (hi1.kept ((Kept.refl (fun _ => False) wr).alloc o)) hll
      have HCALL := Lib.hid hcall
      have HS := Lib.hid (fun (o : Obj) => S1.alloc o)
      clear hcall hE S1 hd1 hi1 hll
      go_wp2_with fail
      refine (HCALL.out _).mono ?_
      rintro e w2 h2
      obtain ⟨v2, rfl, S2⟩ := (HS.out _).step h2
      clear h2 HCALL HS
      go_wp2_with fail
      go_roundw
      case rel => exact ⟨k + 1, v2, rfl, hlt, by rw [HTK.out, ← List.append_assoc]; exact S2⟩
      case measure => simp [intOf]; omega
    · have hkl : ¬ (k : Int) < (rows.length : Int) := by omega
      obtain rfl : k = xs.length := by omega
      go_wp2_with fail
      go_end0
      exact S1.fin (by rw [List.take_length, List.append_assoc])
end Go.Proofs.YtpmemcpfoapjmaaGreat

namespace Go.Proofs.YtpmemcpfoapjmaaGreat
open Go.ChangeShapes Go.WideShapes Go.ChangeAt Go.RowKit
set_option linter.unusedVariables false

def zEntry : Entry := ⟨0, 0, 0, ⟨⟨0, ⟨#[]⟩, ⟨#[]⟩, [], 0, 0, 0⟩, []⟩⟩
theorem zEntry_at (w : World) (ok : Nat → Prop) : entryE w ok [.int .i64 0, .int .i64 0, .int .i64 0, .int .i64 0, .string ⟨#[]⟩, .string ⟨#[]⟩, .slice none 0 0, .int .i64 0, .int .i64 0, .int .i64 0, .slice none 0 0] zEntry := ⟨_, rfl, ⟨_, ⟨_, rfl, ListR.nil _ _ _ _, i64_zero, str_empty, str_empty, i64_zero, i64_zero, i64_zero, ⟨_, _, _, rfl⟩⟩, ListR.nil _ _ _ _⟩, i64_zero, i64_zero, i64_zero⟩

set_option maxRecDepth 100000 in
set_option maxHeartbeats 600000 in
theorem taken_entry (s : ByteArray) (w : World) (hs : s.size ≤ maxLen) :
    Calls Tryz.prog 74 #[.string s, .func (.func 75) #[] #[]] w (TakenPost entryE zEntry w (entryF.read s)) := by
  have hsz : (Tryz.prog.info? 38).map (·.size) = some 11 := by kernel_rfl
  have HSZ := Lib.hid hsz; clear hsz
  obtain ⟨x, q, e', hget⟩ : ∃ x q e', entryF.get s.data.toList 0 0 = (x, q, e') := ⟨_, _, _, eta3 _⟩
  have hread : entryF.read s = if rEndE s.data.toList.length q e' = 0 then some x else none := by unfold Fmt.read; rw [hget]
  generalize entryF.read s = ro at hread ⊢
  have HGET := Lib.hid hget; clear hget
  have HREAD := Lib.hid hread; clear hread
  go_enter Tryz.func74, Tryz.ntmps74
  go_wp2_with fail
  refine (read_any s _ hs).mono ?_
  rintro en w1 ⟨b, v, rfl, hR, hb, hv, hk1⟩
  have hge : w.heap.size + 1 ≤ b := by simpa using hb
  go_wp2_with fail
  refine (get_entry _ b v _ _ _ hR HGET.out).mono ?_
  rintro en w2 ⟨cs, rfl, hE2, hR2, hk2⟩
  have hfl := entryE_flat hE2
  have HFL := Lib.hid hfl.1
  have HF1 := Lib.hid hfl.2
  have hR3 := hR2.alloc (.cells cs.toArray 38)
  have HHR := Lib.hid (⟨hR, hk1, hge, hk2⟩ : RAt w1 b v s.data.toList 0 0 ∧ Kept (fun _ => False) (w.alloc (.cells #[.int .i64 0, .int .i64 0, .int .i64 0, .int .i64 0, .string ⟨#[]⟩, .string ⟨#[]⟩, .slice none 0 0, .int .i64 0, .int .i64 0, .int .i64 0, .slice none 0 0] 38)) w1 ∧ w.heap.size + 1 ≤ b ∧ Kept (RS b) w1 w2)
  clear hR hk1 hge hk2 hb hv hR2 hfl
  go_wp2_with (refine wpList_store_new w2 rfl 38 _ (.tmp 13) rfl _ cs rfl rfl (by rw [HFL.out]; exact HSZ.out) HFL.out.symm HF1.out ?_)
  refine (rend_e _ b v _ _ _ hR3).mono ?_
  rintro en w4 ⟨rfl, hR4, hk4⟩
  have st : TakenSt w w1 w2 w4 b v s.data.toList 38 #[.int .i64 0, .int .i64 0, .int .i64 0, .int .i64 0, .string ⟨#[]⟩, .string ⟨#[]⟩, .slice none 0 0, .int .i64 0, .int .i64 0, .int .i64 0, .slice none 0 0] cs := ⟨HHR.out.1, HHR.out.2.1, HHR.out.2.2.1, HHR.out.2.2.2, hk4⟩
  have HRES := Lib.hid st.res
  have HBOX := Lib.hid (range_row st.box)
  have HO := Lib.hid st.old
  have HREL := Lib.hid (st.rel entryE_ok hE2)
  clear st HHR hR3 hR4 hk4 hE2
  by_cases h0 : rEndE s.data.toList.length q e' = 0
  · have hrd : ro = some x := by rw [HREAD.out, if_pos h0]
    have HRD := Lib.hid hrd; clear hrd
    have h0' : ((rEndE s.data.toList.length q e' : Nat) : Int) = 0 := by omega
    generalize ((rEndE s.data.toList.length q e' : Nat) : Int) = r at h0'
    subst h0'
    clear h0
    go_wp2_with (first | (refine wpList_load_mid rfl 38 (.tmp 7) rfl w2.heap.size 0 rfl cs _ HBOX.out Tryz.underlying38 rfl (by rw [HFL.out]; exact HSZ.out) ?_) | (refine wpList_store_row _ rfl 38 _ _ rfl w.heap.size _ cs rfl rfl HRES.out (by rw [HFL.out]; exact HSZ.out) HFL.out.symm HF1.out ?_))
    have hrow := setRow_heap w4 w.heap.size _ cs.toArray _ _ HRES.out
    have hload := run_loadVar_row (P := Tryz.prog) _ w.heap.size 38 38 _ (0, 0) _ hrow Tryz.underlying38 rfl (by rw [List.size_toArray, HFL.out]; exact HSZ.out)
    exact ret_cell_tmp 4 38 5 w.heap.size _ _ Tryz.results74 rfl rfl hload rfl ⟨cs, by rw [HRD.out]; rfl, old_setRow HO.out _, by rw [HRD.out]; exact HREL.out _⟩
  · have hrd : ro = none := by rw [HREAD.out, if_neg h0]
    have HRD := Lib.hid hrd; clear hrd
    have h0' : ¬ ((rEndE s.data.toList.length q e' : Nat) : Int) = 0 := by omega
    generalize ((rEndE s.data.toList.length q e' : Nat) : Int) = r at h0'
    clear h0
    have hA : Old w4 (w4.alloc (.cells #[.int .i64 0, .int .i64 0, .int .i64 0, .int .i64 0, .string ⟨#[]⟩, .string ⟨#[]⟩, .slice none 0 0, .int .i64 0, .int .i64 0, .int .i64 0, .slice none 0 0] 38)) := (Kept.refl _ w4).alloc _
    have HR5 : Hid ((w4.alloc (.cells #[.int .i64 0, .int .i64 0, .int .i64 0, .int .i64 0, .string ⟨#[]⟩, .string ⟨#[]⟩, .slice none 0 0, .int .i64 0, .int .i64 0, .int .i64 0, .slice none 0 0] 38)).heap[w.heap.size]? = some (.cells #[.int .i64 0, .int .i64 0, .int .i64 0, .int .i64 0, .string ⟨#[]⟩, .string ⟨#[]⟩, .slice none 0 0, .int .i64 0, .int .i64 0, .int .i64 0, .slice none 0 0] 38 (0, 0))) := by rw [hA.block _ (lt_of_block HRES.out) id]; exact HRES.out
    obtain ⟨zl, hzl⟩ : ∃ zl : List Value, zl = [.int .i64 0, .int .i64 0, .int .i64 0, .int .i64 0, .string ⟨#[]⟩, .string ⟨#[]⟩, .slice none 0 0, .int .i64 0, .int .i64 0, .int .i64 0, .slice none 0 0] := ⟨_, rfl⟩
    have HRN : Hid ((w4.alloc (.cells #[.int .i64 0, .int .i64 0, .int .i64 0, .int .i64 0, .string ⟨#[]⟩, .string ⟨#[]⟩, .slice none 0 0, .int .i64 0, .int .i64 0, .int .i64 0, .slice none 0 0] 38)).rangeAt w4.heap.size 0 zl) := by rw [hzl]; exact range_new w4 [.int .i64 0, .int .i64 0, .int .i64 0, .int .i64 0, .string ⟨#[]⟩, .string ⟨#[]⟩, .slice none 0 0, .int .i64 0, .int .i64 0, .int .i64 0, .slice none 0 0] 38
    have HZE : Hid (∀ (W : World) (ok : Nat → Prop), entryE W ok zl zEntry) := by rw [hzl]; exact zEntry_at
    have hzf : Flat 11 zl := entryE_flat (HZE.out w (fun _ => False))
    have HZL := Lib.hid hzf.1
    have HZ1 := Lib.hid hzf.2
    clear hzl hzf
    have HO5 := Lib.hid (HO.out.none hA)
    clear hA HREL
    go_wp2_with (first | (refine wpList_load_mid rfl 38 (.tmp 8) rfl w4.heap.size 0 rfl zl _ HRN.out Tryz.underlying38 rfl (by rw [HZL.out]; exact HSZ.out) ?_) | (refine wpList_store_row _ rfl 38 _ _ rfl w.heap.size _ zl rfl rfl HR5.out (by rw [HZL.out]; exact HSZ.out) HZL.out.symm HZ1.out ?_))
    have hrow := setRow_heap (w4.alloc (.cells #[.int .i64 0, .int .i64 0, .int .i64 0, .int .i64 0, .string ⟨#[]⟩, .string ⟨#[]⟩, .slice none 0 0, .int .i64 0, .int .i64 0, .int .i64 0, .slice none 0 0] 38)) w.heap.size _ zl.toArray _ _ HR5.out
    have hload := run_loadVar_row (P := Tryz.prog) _ w.heap.size 38 38 _ (0, 0) _ hrow Tryz.underlying38 rfl (by rw [List.size_toArray, HZL.out]; exact HSZ.out)
    exact ret_cell_tmp 4 38 5 w.heap.size _ _ Tryz.results74 rfl rfl hload rfl ⟨_, by rw [HRD.out]; rfl, old_setRow HO5.out _, by rw [HRD.out]; exact HZE.out _ _⟩

set_option maxRecDepth 100000 in
theorem GetEntry_any (s : ByteArray) (w : World) (hs : s.size ≤ maxLen) :
    Calls Tryz.prog 31 #[.string s] w (TakenPost entryE zEntry w (entryF.read s)) := by
  have hsz : (Tryz.prog.info? 38).map (·.size) = some 11 := by kernel_rfl
  have HSZ := Lib.hid hsz; clear hsz
  have hbk := heap_alloc_new w (.cells #[.int .i64 0, .int .i64 0, .int .i64 0, .int .i64 0, .string ⟨#[]⟩, .string ⟨#[]⟩, .slice none 0 0, .int .i64 0, .int .i64 0, .int .i64 0, .slice none 0 0] 38)
  have hA : Old w (w.alloc (.cells #[.int .i64 0, .int .i64 0, .int .i64 0, .int .i64 0, .string ⟨#[]⟩, .string ⟨#[]⟩, .slice none 0 0, .int .i64 0, .int .i64 0, .int .i64 0, .slice none 0 0] 38)) := (Kept.refl _ w).alloc _
  go_enter Tryz.func31, Tryz.ntmps31
  go_wp2_with fail
  refine (taken_entry s _ hs).mono ?_
  rintro en w1 ⟨cs, rfl, hO1, hE1⟩
  have hfl := entryE_flat hE1
  have HFL := Lib.hid hfl.1
  have HF1 := Lib.hid hfl.2
  have HRES : Hid (w1.heap[w.heap.size]? = some (.cells #[.int .i64 0, .int .i64 0, .int .i64 0, .int .i64 0, .string ⟨#[]⟩, .string ⟨#[]⟩, .slice none 0 0, .int .i64 0, .int .i64 0, .int .i64 0, .slice none 0 0] 38 (0, 0))) := by rw [hO1.block _ (lt_of_block hbk) id]; exact hbk
  have HO := Lib.hid (hA.none hO1)
  have HE := Lib.hid (fun c => fin_E entryE_ok (w := w) hE1 (by simp) c)
  clear hbk hA hfl hO1 hE1
  go_wp2_with (refine wpList_store_row _ rfl 38 _ _ rfl w.heap.size _ cs rfl rfl HRES.out (by rw [HFL.out]; exact HSZ.out) HFL.out.symm HF1.out ?_)
  have hrow := setRow_heap w1 w.heap.size _ cs.toArray _ _ HRES.out
  have hload := run_loadVar_row (P := Tryz.prog) _ w.heap.size 38 38 _ (0, 0) _ hrow Tryz.underlying38 rfl (by rw [List.size_toArray, HFL.out]; exact HSZ.out)
  exact ret_cell_tmp 2 38 3 w.heap.size _ _ Tryz.results31 rfl rfl hload rfl ⟨cs, rfl, old_setRow HO.out _, HE.out _⟩

end Go.Proofs.YtpmemcpfoapjmaaGreat

namespace Go.Proofs.YtpmemcpfoapjmaaGreat
open Go.ChangeShapes Go.WideShapes Go.ChangeAt Go.RowKit
set_option linter.unusedVariables false

set_option maxRecDepth 100000 in
set_option maxHeartbeats 1600000 in
theorem refget_entry (s : ByteArray) (w : World) (hs : s.size ≤ 140737488355328) :
    Calls Tryz.prog 30 #[.string s] w (TakenPost entryE zEntry w (entryF.read s)) := by
  have HSZ := Lib.hid (show (Tryz.prog.info? 38).map (·.size) = some 11 by kernel_rfl)
  obtain ⟨x, q, e, g1⟩ : ∃ aa qq ee, entryF.get s.data.toList 0 0 = (aa, qq, ee) := ⟨_, _, _, eta3 _⟩
  have hread : entryF.read s = if rEndE s.data.toList.length q e = 0 then some x else none := by unfold Fmt.read; rw [g1]
  rw [str_len] at hread
  generalize entryF.read s = ro at hread ⊢
  have HREAD := Lib.hid hread; clear hread
  have KE := Lib.hid (fend_of s q e)
  have HE0 := Lib.hid (show rEndE s.size q e = 0 → e = 0 from fun h => (rEndE_zero h).1)
  generalize hr : rEndE s.size q e = r at HREAD KE HE0
  clear hr
  have hW : FAt ((w.alloc (.cells ([.int .i64 0, .int .i64 0, .int .i64 0, .int .i64 0, .string ⟨#[]⟩, .string ⟨#[]⟩, .slice none 0 0, .int .i64 0, .int .i64 0, .int .i64 0, .slice none 0 0] : List Value).toArray 38)).alloc (.cells #[.string s, .int .i64 0, .int .i64 0] 111)) (w.heap.size + 1) s 0 0 := by
    have h := fresh_reader (w.alloc (.cells ([.int .i64 0, .int .i64 0, .int .i64 0, .int .i64 0, .string ⟨#[]⟩, .string ⟨#[]⟩, .slice none 0 0, .int .i64 0, .int .i64 0, .int .i64 0, .slice none 0 0] : List Value).toArray 38)) s hs
    rwa [show (w.alloc (.cells ([.int .i64 0, .int .i64 0, .int .i64 0, .int .i64 0, .string ⟨#[]⟩, .string ⟨#[]⟩, .slice none 0 0, .int .i64 0, .int .i64 0, .int .i64 0, .slice none 0 0] : List Value).toArray 38)).heap.size = w.heap.size + 1 from by simp] at h
  have hb0 : ((w.alloc (.cells ([.int .i64 0, .int .i64 0, .int .i64 0, .int .i64 0, .string ⟨#[]⟩, .string ⟨#[]⟩, .slice none 0 0, .int .i64 0, .int .i64 0, .int .i64 0, .slice none 0 0] : List Value).toArray 38)).alloc (.cells #[.string s, .int .i64 0, .int .i64 0] 111)).heap[w.heap.size]? = some (.cells ([.int .i64 0, .int .i64 0, .int .i64 0, .int .i64 0, .string ⟨#[]⟩, .string ⟨#[]⟩, .slice none 0 0, .int .i64 0, .int .i64 0, .int .i64 0, .slice none 0 0] : List Value).toArray 38 (0, 0)) := by
    rw [((Old.refl (w.alloc (.cells ([.int .i64 0, .int .i64 0, .int .i64 0, .int .i64 0, .string ⟨#[]⟩, .string ⟨#[]⟩, .slice none 0 0, .int .i64 0, .int .i64 0, .int .i64 0, .slice none 0 0] : List Value).toArray 38))).make _).block _ (by simp) id]; exact heap_alloc_new w _
  have hO0 : Old w ((w.alloc (.cells ([.int .i64 0, .int .i64 0, .int .i64 0, .int .i64 0, .string ⟨#[]⟩, .string ⟨#[]⟩, .slice none 0 0, .int .i64 0, .int .i64 0, .int .i64 0, .slice none 0 0] : List Value).toArray 38)).alloc (.cells #[.string s, .int .i64 0, .int .i64 0] 111)) := ((Old.refl w).make _).make _
  have hs0 : w.heap.size + 2 ≤ ((w.alloc (.cells ([.int .i64 0, .int .i64 0, .int .i64 0, .int .i64 0, .string ⟨#[]⟩, .string ⟨#[]⟩, .slice none 0 0, .int .i64 0, .int .i64 0, .int .i64 0, .slice none 0 0] : List Value).toArray 38)).alloc (.cells #[.string s, .int .i64 0, .int .i64 0] 111)).heap.size := by simp
  have K1 := Lib.hid (reftake_entry _ _ s 0 0 0 hW (fun _ => rfl) g1)
  have HB := Lib.hid hb0; clear hb0
  have HO := Lib.hid hO0; clear hO0
  have HS0 := Lib.hid hs0; clear hs0
  clear hW g1
  go_enter Tryz.func30, Tryz.ntmps30
  go_wp2_with fail
  refine K1.out.mono ?_
  rintro en w0 ⟨cs, p0, rfl, hfl, hnl, hE0, hF0, hp0, hk0⟩
  have hA : Kept (fun _ => False) w0 (w0.alloc (.cells cs.toArray 38)) := (Kept.refl _ w0).alloc _
  have hz0 := Nat.le_trans HS0.out hk0.size
  have hbr : w0.heap[w.heap.size]? = some (.cells ([.int .i64 0, .int .i64 0, .int .i64 0, .int .i64 0, .string ⟨#[]⟩, .string ⟨#[]⟩, .slice none 0 0, .int .i64 0, .int .i64 0, .int .i64 0, .slice none 0 0] : List Value).toArray 38 (0, 0)) := (hk0.block _ (lt_of_block HB.out) (fun h => by have h' : w.heap.size = w.heap.size + 1 := h; omega)).trans HB.out
  have hbr1 := (hA.block _ (lt_of_block hbr) id).trans hbr
  have hO1 : Old w w0 := HO.out.step hk0 (fun k h => by have h' : k = w.heap.size + 1 := h; omega)
  have hO2 := hO1.none hA
  have hF1 := hF0.keep hA id
  have hbox := heap_alloc_new w0 (.cells cs.toArray 38)
  have hE1 : WkE e entryE (w0.alloc (.cells cs.toArray 38)) (fun j => w.heap.size + 2 ≤ j ∧ j ≠ w0.heap.size) cs x :=
    (WkE_ok entryE_ok).keep ((WkE_ok entryE_ok).mono hE0 (fun j hj hj' => ⟨Nat.le_trans HS0.out hj', by omega⟩)) hA (disj_none _)
  have HFL := Lib.hid hfl
  have HP0 := Lib.hid hp0
  clear hk0 hbr hO1 hF0 hE0 hfl hp0 hnl hA K1 HB HO HS0
  go_wp2_with (refine wpList_store_new w0 rfl 38 _ _ rfl _ cs rfl rfl (by rw [HFL.out.1]; exact HSZ.out) HFL.out.1.symm HFL.out.2 ?_)
  refine (KE.out _ _ _ hF1 HP0.out).mono ?_
  rintro en wz ⟨pz, rfl, hFz, hpz, hkz⟩
  have HBX := Lib.hid ((hkz.block _ (lt_of_block hbox) (fun h => by have h' : w0.heap.size = w.heap.size + 1 := h; omega)).trans hbox)
  have HRES := Lib.hid ((hkz.block _ (lt_of_block hbr1) (fun h => by have h' : w.heap.size = w.heap.size + 1 := h; omega)).trans hbr1)
  have HOZ := Lib.hid (hO2.step hkz (fun k h => by have h' : k = w.heap.size + 1 := h; omega))
  have HEZ := Lib.hid ((WkE_ok entryE_ok).keep hE1 hkz (fun j hj hs => by have := hj.1; have hs' : j = w.heap.size + 1 := hs; omega))
  clear hkz hpz hFz hF1 hbox hbr1 hO2 hE1 HP0 KE
  by_cases h0 : r = 0
  · have hrd : ro = some x := by rw [HREAD.out, if_pos h0]
    have HRD := Lib.hid hrd; clear hrd
    have HEE := Lib.hid (HE0.out h0)
    have h0' : ((r : Nat) : Int) = 0 := by omega
    generalize ((r : Nat) : Int) = ri at h0'
    subst h0'
    clear h0 HREAD HE0
    have HRG := Lib.hid (range_row HBX.out)
    have HSE2 := Lib.hid (info_len HSZ.out HFL.out.1)
    go_wp2_with (first
      | (refine wpList_load_mid rfl 38 (.tmp 5) rfl w0.heap.size 0 rfl cs _ HRG.out Tryz.underlying38 rfl HSE2.out ?_)
      | (refine wpList_store_row _ rfl 38 (.tmp 2) (.tmp 15) rfl w.heap.size _ cs rfl rfl HRES.out HSE2.out HFL.out.1.symm HFL.out.2 ?_))
    have hrow := setRow_heap wz w.heap.size _ cs.toArray _ _ HRES.out
    have hload := run_loadVar_row (P := Tryz.prog) _ w.heap.size 38 38 _ (0, 0) _ hrow Tryz.underlying38 rfl (by rw [List.size_toArray]; exact HSE2.out)
    refine ret_cell_tmp 2 38 3 w.heap.size _ _ Tryz.results30 rfl rfl hload rfl ⟨_, by rw [HRD.out]; rfl, old_setRow HOZ.out _, ?_⟩
    rw [HRD.out]
    exact entryE_ok.mono (entryE_ok.keep (HEZ.out HEE.out) (setRow_kept wz w.heap.size cs.toArray) (fun j hj hs => by have := hj.1; have hs' : j = w.heap.size := hs; omega)) (fun j _ hj => by have := hj.1; unfold New; omega)
  · have hrd : ro = none := by rw [HREAD.out, if_neg h0]
    have HRD := Lib.hid hrd; clear hrd
    have h0' : ¬ ((r : Nat) : Int) = 0 := by omega
    generalize ((r : Nat) : Int) = ri at h0'
    clear h0 HREAD HE0
    go_wp2_with (refine wpList_store_row _ rfl 38 _ _ rfl w.heap.size _ [.int .i64 0, .int .i64 0, .int .i64 0, .int .i64 0, .string ⟨#[]⟩, .string ⟨#[]⟩, .slice none 0 0, .int .i64 0, .int .i64 0, .int .i64 0, .slice none 0 0] rfl rfl HRES.out HSZ.out rfl (by simp [Value.oneCell']) ?_)
    have hrow := setRow_heap wz w.heap.size _ ([.int .i64 0, .int .i64 0, .int .i64 0, .int .i64 0, .string ⟨#[]⟩, .string ⟨#[]⟩, .slice none 0 0, .int .i64 0, .int .i64 0, .int .i64 0, .slice none 0 0] : List Value).toArray _ _ HRES.out
    have hload := run_loadVar_row (P := Tryz.prog) _ w.heap.size 38 38 _ (0, 0) _ hrow Tryz.underlying38 rfl (by rw [List.size_toArray]; exact HSZ.out)
    exact ret_cell_tmp 2 38 3 w.heap.size _ _ Tryz.results30 rfl rfl hload rfl ⟨_, by rw [HRD.out]; rfl, old_setRow HOZ.out _, by rw [HRD.out]; exact zEntry_at _ _⟩
end Go.Proofs.YtpmemcpfoapjmaaGreat

namespace Go.Proofs.YtpmemcpfoapjmaaGreat
open Go.ChangeShapes Go.WideShapes Go.ChangeAt Go.RowKit
set_option linter.unusedVariables false

/-- what has been laid of a list, behind pre -/
structure LaidRel {α : Type} (f : Fmt α) (pre : List UInt8) (w : World) (xs : List α) (sv iv : Value) (wr : World) : Prop where
  ex : ∃ k, iv = .int .i64 (k : Nat) ∧ k ≤ xs.length ∧ sv = .string ⟨(pre ++ layN f (xs.take k)).toArray⟩ ∧ Old w wr

theorem layN_zero {α : Type} (f : Fmt α) (pre : List UInt8) (xs : List α) : pre ++ layN f (xs.take 0) = pre := by simp [layN]

set_option maxRecDepth 100000 in
set_option maxHeartbeats 600000 in
theorem refacls_any (xs : List Acl) (sv : Value) (ok : Nat → Prop) (w : World) (hL : ListR aclE w ok 2 sv xs) (hl : ((listF aclF).lay xs).length ≤ 1000000000000000) :
    Calls Tryz.prog 102 #[sv] w (OldStr w ((listF aclF).lay xs)) := by
  obtain ⟨rows, ⟨A, c, rfl, hlc, hm, hat⟩, hlen, hel⟩ := hL
  unfold maxLen at hm
  have hlay : (listF aclF).lay xs = sev rows.length ++ layN aclF xs := by rw [hlen]; rfl
  rw [hlay] at hl ⊢
  rw [List.length_append] at hl
  have hlen1 : rows.length ≤ xs.length := by omega
  have hlen2 : xs.length ≤ rows.length := by omega
  clear hlen hlay
  have hst : ∀ W, Old w W → LaidRel aclF (sev rows.length) w xs (.string ⟨(sev rows.length).toArray⟩) (.int .i64 0) W := fun W h => ⟨0, rfl, Nat.zero_le _, by rw [layN_zero], h⟩
  have HST := Lib.hid hst; clear hst
  go_enter Tryz.func102, Tryz.ntmps102
  go_wp2_with fail
  refine (refcount_any rows.length _ (by unfold I64; omega)).mono ?_
  rintro e w0 ⟨rfl, hO0⟩
  rw [Int.toNat_natCast]
  have HO0 := Lib.hid hO0; clear hO0
  go_wp2_with fail
  go_loopw [3, 4] (fun sv iv wr => LaidRel aclF (sev rows.length) w xs sv iv wr) (fun _ iv _ => xs.length - (intOf iv).toNat)
  case atStart => exact HST.out _ HO0.out
  case round =>
    obtain ⟨k, rfl, hk, rfl, hO⟩ := hrel.ex
    clear hrel HST HO0
    by_cases hlt : k < xs.length
    · have hkr : k < rows.length := by omega
      rcases hat with h0 | ⟨g, off, rfl, hok, hg, hc⟩
      · simp [h0.1] at hkr
      have hE := aclE_ok.keep (hel k hlt hkr) hO (disj_none _)
      have hcell : ∀ j (hj : j < rows[k].length), wr.cell? ⟨g, off + k * 2 + j, none⟩ = some rows[k][j] := fun j hj => by
        rw [← (hc k hkr).2 j hj]; exact World.cell?_of_block (hO.block g hg id)
      have hle := layN_le (f := aclF) hlt
      have HTK := Lib.hid (layN_take (f := aclF) hlt)
      generalize rows[k] = cs at hcell hE
      generalize xs[k] = x at hle hE HTK
      clear hc hel
      obtain ⟨rfl, h0, h1⟩ := hE
      have c0 : wr.cell? ⟨g, off + k * 2, none⟩ = some (.int .i64 x.perms) := hcell 0 (by simp)
      have c1 : wr.cell? ⟨g, off + k * 2 + 1, none⟩ = some (.string x.id) := hcell 1 (by simp)
      clear hcell
      have t1 : x.id.size ≤ 9223372036854775000 := by unfold Str at h1; omega
      clear h1
      have hkl : (k : Int) < (rows.length : Int) := by omega
      have hlx : aclF.lay x = sev (zz x.perms) ++ (sev x.id.size ++ x.id.data.toList) := rfl
      obtain ⟨D, hD⟩ : ∃ D, sev rows.length ++ layN aclF (xs.take k) = D := ⟨_, rfl⟩
      have hDl : D.length + ((sev (zz x.perms)).length + ((sev x.id.size).length + x.id.data.toList.length)) ≤ 1000000000000000 := by
        rw [hlx] at hle
        simp only [List.length_append] at hle
        rw [← hD, List.length_append]; omega
      have hfin : D ++ (sev (zz x.perms) ++ (sev x.id.size ++ x.id.data.toList)) = sev rows.length ++ layN aclF (xs.take (k + 1)) := by
        rw [← hD, HTK.out, List.append_assoc, ← hlx]
      rw [hD]
      have HF := Lib.hid hfin
      clear hD hlx hle HTK hfin
      have q0 : ∀ W, Sem.run Tryz.prog (Op.stringOp .add ⟨D.toArray⟩ ⟨(sev (zz x.perms)).toArray⟩) W = .ok (.string ⟨(D ++ sev (zz x.perms)).toArray⟩) W := fun W => add_str _ _ _ (by omega) W
      have q1 : ∀ W, Sem.run Tryz.prog (Op.stringOp .add ⟨(D ++ sev (zz x.perms)).toArray⟩ ⟨(sev x.id.size ++ x.id.data.toList).toArray⟩) W = .ok (.string ⟨(D ++ (sev (zz x.perms) ++ (sev x.id.size ++ x.id.data.toList))).toArray⟩) W := fun W => by
        rw [add_str _ _ _ (by simp only [List.length_append]; omega) W, List.append_assoc]
      clear hDl
      go_upto_region 5 with fail
      go_region_held3 (fun w' => w'.cell? ⟨g, off + k * 2, none⟩ = some (.int .i64 x.perms) ∧ w'.cell? ⟨g, off + k * 2 + 1, none⟩ = some (.string x.id) ∧ Old w w')
        (((try dsimp only); (repeat' apply And.intro) <;> first | assumption | (simp only [World.cell?_drew]; assumption) | exact Old.drew (by assumption)))
        (first
          | (go_at_call 62; refine (refnum_any _ _ (by assumption)).mono ?_; rintro e w9 ⟨rfl, hO9⟩; go_split_ands; have hP9 : Old w w9 := Old.none (by assumption) hO9; have d0 : w9.cell? ⟨g, off + k * 2, none⟩ = some (.int .i64 x.perms) := Old.cell hO9 (by assumption); have d1 : w9.cell? ⟨g, off + k * 2 + 1, none⟩ = some (.string x.id) := Old.cell hO9 (by assumption); clear hO9)
          | (go_at_call 24; refine (reftext_any _ _ (by assumption)).mono ?_; rintro e w9 ⟨rfl, hO9⟩; go_split_ands; have hP9 : Old w w9 := Old.none (by assumption) hO9; have d0 : w9.cell? ⟨g, off + k * 2, none⟩ = some (.int .i64 x.perms) := Old.cell hO9 (by assumption); have d1 : w9.cell? ⟨g, off + k * 2 + 1, none⟩ = some (.string x.id) := Old.cell hO9 (by assumption); clear hO9))
      all_goals go_wp2_with fail
      all_goals go_roundw
      all_goals first
        | (case rel => exact ⟨k + 1, by go_num, hlt, by rw [HF.out], by assumption⟩)
        | (case measure => simp [intOf]; omega)
    · have hkl : ¬ (k : Int) < (rows.length : Int) := by omega
      obtain rfl : k = xs.length := by omega
      have ht : xs.take xs.length = xs := List.take_length
      rw [ht]
      go_wp2_with fail
      go_ret
      exact ⟨rfl, hO⟩
end Go.Proofs.YtpmemcpfoapjmaaGreat

namespace Go.Proofs.YtpmemcpfoapjmaaGreat
open Go.ChangeShapes Go.WideShapes Go.ChangeAt Go.RowKit
set_option linter.unusedVariables false

/-- one step of a walk: a name of its own, so that a chain of steps is found again -/
structure Stp (w w' : World) : Prop where
  old : Old w w'
theorem Old.carry {w w' : World} (h : Old w w') {g : Nat} {o : Obj} (hb : w.heap[g]? = some o) : w'.heap[g]? = some o := by
  rw [h.block g (Array.getElem?_eq_some_iff.1 hb).1 id]; exact hb
theorem Stp.carry {w w' : World} (h : Stp w w') {g : Nat} {o : Obj} (hb : w.heap[g]? = some o) : w'.heap[g]? = some o := Old.carry h.old hb
theorem carry_alloc {w : World} {o' : Obj} {g : Nat} {o : Obj} (hb : w.heap[g]? = some o) : (w.alloc o').drew.heap[g]? = some o :=
  Old.carry (((Old.refl w).make o').drew) hb
theorem new_drew (w : World) (o : Obj) : (w.alloc o).drew.heap[w.heap.size]? = some o := heap_alloc_new w o
theorem Old.undrew {w w' : World} (h : Old w w'.drew) : Old w w' := ⟨h.os, h.tape, h.output, h.size, h.block⟩
theorem carry_make {w : World} {o' : Obj} {g : Nat} {o : Obj} (hb : w.heap[g]? = some o) : (w.alloc o').heap[g]? = some o := Old.carry ((Old.refl w).make o') hb
theorem new_drew2 (w : World) (a o : Obj) : ((w.alloc a).alloc o).drew.heap[w.heap.size + 1]? = some o := by
  have h := heap_alloc_new (w.alloc a) o
  rwa [show (w.alloc a).heap.size = w.heap.size + 1 from by simp] at h
theorem new_make2 (w : World) (a o : Obj) : ((w.alloc a).alloc o).heap[w.heap.size + 1]? = some o := new_drew2 w a o
theorem carry_drew {w : World} {g : Nat} {o : Obj} (hb : w.heap[g]? = some o) : w.drew.heap[g]? = some o := hb

set_option maxRecDepth 100000 in
set_option maxHeartbeats 600000 in
theorem reftexts_any (xs : List ByteArray) (sv : Value) (ok : Nat → Prop) (w : World) (hL : ListR textE w ok 1 sv xs) (hl : ((listF (textF 4096)).lay xs).length ≤ 1000000000000000) :
    Calls Tryz.prog 26 #[sv] w (OldStr w ((listF (textF 4096)).lay xs)) := by
  obtain ⟨rows, ⟨A, c, rfl, hlc, hm, hat⟩, hlen, hel⟩ := hL
  unfold maxLen at hm
  have hlay : (listF (textF 4096)).lay xs = sev rows.length ++ layN (textF 4096) xs := by rw [hlen]; rfl
  rw [hlay] at hl ⊢
  rw [List.length_append] at hl
  have hlen1 : rows.length ≤ xs.length := by omega
  have hlen2 : xs.length ≤ rows.length := by omega
  clear hlen hlay
  have hst : ∀ W, Old w W → LaidRel (textF 4096) (sev rows.length) w xs (.string ⟨(sev rows.length).toArray⟩) (.int .i64 0) W := fun W h => ⟨0, rfl, Nat.zero_le _, by rw [layN_zero], h⟩
  have HST := Lib.hid hst; clear hst
  go_enter Tryz.func26, Tryz.ntmps26
  go_wp2_with fail
  refine (refcount_any rows.length _ (by unfold I64; omega)).mono ?_
  rintro e w0 ⟨rfl, hO0⟩
  rw [Int.toNat_natCast]
  have HO0 := Lib.hid hO0; clear hO0
  go_wp2_with fail
  go_loopw [3, 4] (fun sv iv wr => LaidRel (textF 4096) (sev rows.length) w xs sv iv wr) (fun _ iv _ => xs.length - (intOf iv).toNat)
  case atStart => exact HST.out _ HO0.out
  case round =>
    obtain ⟨k, rfl, hk, rfl, hO⟩ := hrel.ex
    clear hrel HST HO0
    by_cases hlt : k < xs.length
    · have hkr : k < rows.length := by omega
      rcases hat with h0 | ⟨g, off, rfl, hok, hg, hc⟩
      · simp [h0.1] at hkr
      have hE := textE_ok.keep (hel k hlt hkr) hO (disj_none _)
      have hcell : ∀ j (hj : j < rows[k].length), wr.cell? ⟨g, off + k * 1 + j, none⟩ = some rows[k][j] := fun j hj => by
        rw [← (hc k hkr).2 j hj]; exact World.cell?_of_block (hO.block g hg id)
      have hle := layN_le (f := textF 4096) hlt
      have HTK := Lib.hid (layN_take (f := textF 4096) hlt)
      generalize rows[k] = cs at hcell hE
      generalize xs[k] = x at hle hE HTK
      clear hc hel
      obtain ⟨rfl, h1⟩ := hE
      have c0 : wr.cell? ⟨g, off + k, none⟩ = some (.string x) := by have := hcell 0 (by simp); simpa using this
      clear hcell
      have t1 : x.size ≤ 9223372036854775000 := by unfold Str at h1; omega
      clear h1
      have hkl : (k : Int) < (rows.length : Int) := by omega
      have hlx : (textF 4096).lay x = sev x.size ++ x.data.toList := rfl
      obtain ⟨D, hD⟩ : ∃ D, sev rows.length ++ layN (textF 4096) (xs.take k) = D := ⟨_, rfl⟩
      have hDl : D.length + ((sev x.size).length + x.data.toList.length) ≤ 1000000000000000 := by
        rw [hlx] at hle
        simp only [List.length_append] at hle
        rw [← hD, List.length_append]; omega
      have hfin : D ++ (sev x.size ++ x.data.toList) = sev rows.length ++ layN (textF 4096) (xs.take (k + 1)) := by
        rw [← hD, HTK.out, List.append_assoc, ← hlx]
      rw [hD]
      have HF := Lib.hid hfin
      clear hD hlx hle HTK hfin
      have q1 : ∀ W, Sem.run Tryz.prog (Op.stringOp .add ⟨D.toArray⟩ ⟨(sev x.size ++ x.data.toList).toArray⟩) W = .ok (.string ⟨(D ++ (sev x.size ++ x.data.toList)).toArray⟩) W := fun W => by
        rw [add_str _ _ _ (by simp only [List.length_append]; omega) W]
      clear hDl
      go_wp2_with (go_at_call 24; refine (reftext_any _ _ t1).mono ?_; rintro e w9 ⟨rfl, hO9⟩; have HP := Lib.hid (hO.none hO9); clear hO9)
      go_roundw
      case rel => exact ⟨k + 1, by go_num, hlt, by rw [HF.out], HP.out⟩
      case measure => simp [intOf]; omega
    · have hkl : ¬ (k : Int) < (rows.length : Int) := by omega
      obtain rfl : k = xs.length := by omega
      have ht : xs.take xs.length = xs := List.take_length
      rw [ht]
      go_wp2_with fail
      go_ret
      exact ⟨rfl, hO⟩
end Go.Proofs.YtpmemcpfoapjmaaGreat

namespace Go.Proofs.YtpmemcpfoapjmaaGreat
open Go.ChangeShapes Go.WideShapes Go.ChangeAt Go.RowKit
set_option linter.unusedVariables false


set_option maxRecDepth 100000 in
set_option maxHeartbeats 4000000 in
theorem refput_part (x : Part) (cs : List Value) (ok : Nat → Prop) (w : World) (hE : partE w ok cs x) (hl : (partF.lay x).length ≤ 1000000000000000) :
    Calls Tryz.prog 100 #[.agg cs.toArray] w (OldStr w (partF.lay x)) := by
  obtain ⟨vsubs, vacl, rfl, hacl, h_kind, h_path, h_data, h_owner, h_number, h_err, hsl⟩ := hE
  obtain ⟨kind, path, data, acl, owner, number, err⟩ := x
  simp only at h_kind h_path h_data h_owner h_number h_err hacl
  have hlay : partF.lay ⟨kind, path, data, acl, owner, number, err⟩ = sev (zz kind) ++ (sev path.size ++ (path.data.toList ++ (sev data.size ++ (data.data.toList ++ ((listF aclF).lay acl ++ (sev (zz owner) ++ (sev (zz number) ++ sev (zz err)))))))) := by simp only [partF, isoF, seqF, lay_num, lay_text, List.append_assoc]
  rw [hlay] at hl ⊢
  clear hlay
  obtain ⟨L0, hL0⟩ : ∃ l : List UInt8, sev (zz kind) = l := ⟨_, rfl⟩
  have K0 := Lib.hid (show ∀ W, Calls Tryz.prog 62 #[.int .i64 kind] W (OldStr W L0) from fun W => by rw [← hL0]; exact refnum_any _ W h_kind)
  obtain ⟨L1, hL1⟩ : ∃ l : List UInt8, sev path.size ++ path.data.toList = l := ⟨_, rfl⟩
  have K1 := Lib.hid (show ∀ W, Calls Tryz.prog 24 #[.string path] W (OldStr W L1) from fun W => by rw [← hL1]; exact reftext_any _ W (by unfold Str at h_path; omega))
  obtain ⟨L2, hL2⟩ : ∃ l : List UInt8, sev data.size ++ data.data.toList = l := ⟨_, rfl⟩
  have K2 := Lib.hid (show ∀ W, Calls Tryz.prog 24 #[.string data] W (OldStr W L2) from fun W => by rw [← hL2]; exact reftext_any _ W (by unfold Str at h_data; omega))
  obtain ⟨L3, hL3⟩ : ∃ l : List UInt8, (listF aclF).lay acl = l := ⟨_, rfl⟩
  have K3 := Lib.hid (show ∀ W, Old w W → Calls Tryz.prog 102 #[vacl] W (OldStr W L3) from fun W h => by
    rw [← hL3]
    exact refacls_any acl vacl ok W (hacl.keep aclE_ok h (disj_none _)) (by simp only [List.length_append] at hl; omega))
  obtain ⟨L4, hL4⟩ : ∃ l : List UInt8, sev (zz owner) ++ (sev (zz number) ++ sev (zz err)) = l := ⟨_, rfl⟩
  have K4 := Lib.hid (show ∀ (g : Nat) (W : World), W.heap[g]? = some (.cells #[.int .i64 owner, .int .i64 number, .int .i64 err] 3 (0, 0)) → Calls Tryz.prog 22 #[.slice (some ⟨g, 0, none⟩) 3 3] W (OldStr W L4) from fun g W hb => by rw [← hL4]; exact refnums3 owner number err g W hb h_owner h_number h_err)
  have hfin : sev (zz kind) ++ (sev path.size ++ (path.data.toList ++ (sev data.size ++ (data.data.toList ++ ((listF aclF).lay acl ++ (sev (zz owner) ++ (sev (zz number) ++ sev (zz err)))))))) = L0 ++ (L1 ++ (L2 ++ (L3 ++ L4))) := by
    rw [← hL0, ← hL1, ← hL2, ← hL3, ← hL4]
    simp only [List.append_assoc]
  rw [hfin] at hl ⊢
  simp only [List.length_append] at hl
  clear hfin hL0 hL1 hL2 hL3 hL4
  have q0 : ∀ W, Sem.run Tryz.prog (Op.stringOp .add ⟨(L0).toArray⟩ ⟨(L1).toArray⟩) W = .ok (.string ⟨(L0 ++ L1).toArray⟩) W := fun W => by
    rw [add_str _ _ _ (by omega) W]
  have q1 : ∀ W, Sem.run Tryz.prog (Op.stringOp .add ⟨(L0 ++ L1).toArray⟩ ⟨(L2).toArray⟩) W = .ok (.string ⟨(L0 ++ (L1 ++ L2)).toArray⟩) W := fun W => by
    rw [add_str _ _ _ (by simp only [List.length_append]; omega) W] <;> simp only [List.append_assoc]
  have q2 : ∀ W, Sem.run Tryz.prog (Op.stringOp .add ⟨(L0 ++ (L1 ++ L2)).toArray⟩ ⟨(L3).toArray⟩) W = .ok (.string ⟨(L0 ++ (L1 ++ (L2 ++ L3))).toArray⟩) W := fun W => by
    rw [add_str _ _ _ (by simp only [List.length_append]; omega) W] <;> simp only [List.append_assoc]
  have q3 : ∀ W, Sem.run Tryz.prog (Op.stringOp .add ⟨(L0 ++ (L1 ++ (L2 ++ L3))).toArray⟩ ⟨(L4).toArray⟩) W = .ok (.string ⟨(L0 ++ (L1 ++ (L2 ++ (L3 ++ L4)))).toArray⟩) W := fun W => by
    rw [add_str _ _ _ (by simp only [List.length_append]; omega) W] <;> simp only [List.append_assoc]
  clear hl hacl
  have hb := heap_alloc_new w (.cells #[.int .i64 kind, .string path, .string data, vacl, .int .i64 owner, .int .i64 number, .int .i64 err, vsubs] 36)
  have hO0 : Old w (w.alloc (.cells #[.int .i64 kind, .string path, .string data, vacl, .int .i64 owner, .int .i64 number, .int .i64 err, vsubs] 36)) := (Old.refl w).make _
  have c0 : (w.alloc (.cells #[.int .i64 kind, .string path, .string data, vacl, .int .i64 owner, .int .i64 number, .int .i64 err, vsubs] 36)).cell? ⟨w.heap.size, 0, none⟩ = some (.int .i64 kind) := cell_of_row _ _ 0 _ _ _ hb
  have c1 : (w.alloc (.cells #[.int .i64 kind, .string path, .string data, vacl, .int .i64 owner, .int .i64 number, .int .i64 err, vsubs] 36)).cell? ⟨w.heap.size, 1, none⟩ = some (.string path) := cell_of_row _ _ 1 _ _ _ hb
  have c2 : (w.alloc (.cells #[.int .i64 kind, .string path, .string data, vacl, .int .i64 owner, .int .i64 number, .int .i64 err, vsubs] 36)).cell? ⟨w.heap.size, 2, none⟩ = some (.string data) := cell_of_row _ _ 2 _ _ _ hb
  have c3 : (w.alloc (.cells #[.int .i64 kind, .string path, .string data, vacl, .int .i64 owner, .int .i64 number, .int .i64 err, vsubs] 36)).cell? ⟨w.heap.size, 3, none⟩ = some (vacl) := cell_of_row _ _ 3 _ _ _ hb
  have c4 : (w.alloc (.cells #[.int .i64 kind, .string path, .string data, vacl, .int .i64 owner, .int .i64 number, .int .i64 err, vsubs] 36)).cell? ⟨w.heap.size, 4, none⟩ = some (.int .i64 owner) := cell_of_row _ _ 4 _ _ _ hb
  have c5 : (w.alloc (.cells #[.int .i64 kind, .string path, .string data, vacl, .int .i64 owner, .int .i64 number, .int .i64 err, vsubs] 36)).cell? ⟨w.heap.size, 5, none⟩ = some (.int .i64 number) := cell_of_row _ _ 5 _ _ _ hb
  have c6 : (w.alloc (.cells #[.int .i64 kind, .string path, .string data, vacl, .int .i64 owner, .int .i64 number, .int .i64 err, vsubs] 36)).cell? ⟨w.heap.size, 6, none⟩ = some (.int .i64 err) := cell_of_row _ _ 6 _ _ _ hb
  clear h_kind
  clear h_path
  clear h_data
  clear h_owner
  clear h_number
  clear h_err
  generalize hw1 : w.alloc (.cells #[.int .i64 kind, .string path, .string data, vacl, .int .i64 owner, .int .i64 number, .int .i64 err, vsubs] 36) = w1 at hO0 c0 c1 c2 c3 c4 c5 c6
  clear hb
  have HW := Lib.hid hw1; clear hw1
  have HO0 := Lib.hid hO0; clear hO0
  have C0 := Lib.hid c0; clear c0
  have C1 := Lib.hid c1; clear c1
  have C2 := Lib.hid c2; clear c2
  have C3 := Lib.hid c3; clear c3
  have C4 := Lib.hid c4; clear c4
  have C5 := Lib.hid c5; clear c5
  have C6 := Lib.hid c6; clear c6
  go_enter Tryz.func100, Tryz.ntmps100
  go_upto_region 1 with fail
  rw [HW.out]
  have hO0 := HO0.out
  have c0 := C0.out; clear C0
  have c1 := C1.out; clear C1
  have c2 := C2.out; clear C2
  have c3 := C3.out; clear C3
  have c4 := C4.out; clear C4
  have c5 := C5.out; clear C5
  have c6 := C6.out; clear C6
  clear HW HO0
  go_region_held3 (fun w' => w'.cell? ⟨w.heap.size, 0, none⟩ = some (.int .i64 kind) ∧ w'.cell? ⟨w.heap.size, 1, none⟩ = some (.string path) ∧ w'.cell? ⟨w.heap.size, 2, none⟩ = some (.string data) ∧ w'.cell? ⟨w.heap.size, 3, none⟩ = some (vacl) ∧ w'.cell? ⟨w.heap.size, 4, none⟩ = some (.int .i64 owner) ∧ w'.cell? ⟨w.heap.size, 5, none⟩ = some (.int .i64 number) ∧ w'.cell? ⟨w.heap.size, 6, none⟩ = some (.int .i64 err) ∧ Old w w')
    (((try go_split_ands); (try dsimp only); (try simp only [World.cell?_drew] at *); (repeat' apply And.intro) <;> (with_reducible first | assumption | exact Old.drew (by assumption) | exact Old.make (by assumption) _ | exact Old.drew (Old.make (by assumption) _) | exact Old.drew (Old.make (Old.undrew (by assumption)) _) | exact Old.cell ((Old.refl _).make _) (by assumption) | fail)))
    (first
      | (go_at_call 22; have _t := T4; go_split_ands; refine (K4.out _ _ ?_).mono ?_; (focus ((repeat (with_reducible first | exact new_drew _ _ | exact heap_alloc_new _ _ | exact new_drew2 _ _ _ | exact new_make2 _ _ _ | refine carry_alloc ?_ | refine carry_make ?_ | (apply Stp.carry; (focus (assumption; done))))); done)); rintro e w9 ⟨rfl, hO9⟩; have hP9 : Old w w9 := Old.none (by assumption) hO9; have d0 : w9.cell? ⟨w.heap.size, 0, none⟩ = some (.int .i64 kind) := Old.cell hO9 (by assumption); have d1 : w9.cell? ⟨w.heap.size, 1, none⟩ = some (.string path) := Old.cell hO9 (by assumption); have d2 : w9.cell? ⟨w.heap.size, 2, none⟩ = some (.string data) := Old.cell hO9 (by assumption); have d3 : w9.cell? ⟨w.heap.size, 3, none⟩ = some (vacl) := Old.cell hO9 (by assumption); have d4 : w9.cell? ⟨w.heap.size, 4, none⟩ = some (.int .i64 owner) := Old.cell hO9 (by assumption); have d5 : w9.cell? ⟨w.heap.size, 5, none⟩ = some (.int .i64 number) := Old.cell hO9 (by assumption); have d6 : w9.cell? ⟨w.heap.size, 6, none⟩ = some (.int .i64 err) := Old.cell hO9 (by assumption); have hQ9 := Stp.mk hO9; clear hO9; have T5 := True.intro)
      | (go_at_call 102; have _t := T3; go_split_ands; refine (K3.out _ (by assumption)).mono ?_; rintro e w9 ⟨rfl, hO9⟩; have hP9 : Old w w9 := Old.none (by assumption) hO9; have d0 : w9.cell? ⟨w.heap.size, 0, none⟩ = some (.int .i64 kind) := Old.cell hO9 (by assumption); have d1 : w9.cell? ⟨w.heap.size, 1, none⟩ = some (.string path) := Old.cell hO9 (by assumption); have d2 : w9.cell? ⟨w.heap.size, 2, none⟩ = some (.string data) := Old.cell hO9 (by assumption); have d3 : w9.cell? ⟨w.heap.size, 3, none⟩ = some (vacl) := Old.cell hO9 (by assumption); have d4 : w9.cell? ⟨w.heap.size, 4, none⟩ = some (.int .i64 owner) := Old.cell hO9 (by assumption); have d5 : w9.cell? ⟨w.heap.size, 5, none⟩ = some (.int .i64 number) := Old.cell hO9 (by assumption); have d6 : w9.cell? ⟨w.heap.size, 6, none⟩ = some (.int .i64 err) := Old.cell hO9 (by assumption); have hQ9 := Stp.mk hO9; clear hO9; have T4 := True.intro)
      | (go_at_call 24; have _t := T2; go_split_ands; refine (K2.out _).mono ?_; rintro e w9 ⟨rfl, hO9⟩; have hP9 : Old w w9 := Old.none (by assumption) hO9; have d0 : w9.cell? ⟨w.heap.size, 0, none⟩ = some (.int .i64 kind) := Old.cell hO9 (by assumption); have d1 : w9.cell? ⟨w.heap.size, 1, none⟩ = some (.string path) := Old.cell hO9 (by assumption); have d2 : w9.cell? ⟨w.heap.size, 2, none⟩ = some (.string data) := Old.cell hO9 (by assumption); have d3 : w9.cell? ⟨w.heap.size, 3, none⟩ = some (vacl) := Old.cell hO9 (by assumption); have d4 : w9.cell? ⟨w.heap.size, 4, none⟩ = some (.int .i64 owner) := Old.cell hO9 (by assumption); have d5 : w9.cell? ⟨w.heap.size, 5, none⟩ = some (.int .i64 number) := Old.cell hO9 (by assumption); have d6 : w9.cell? ⟨w.heap.size, 6, none⟩ = some (.int .i64 err) := Old.cell hO9 (by assumption); have hQ9 := Stp.mk hO9; clear hO9; have T3 := True.intro)
      | (go_at_call 24; have _t := T1; go_split_ands; refine (K1.out _).mono ?_; rintro e w9 ⟨rfl, hO9⟩; have hP9 : Old w w9 := Old.none (by assumption) hO9; have d0 : w9.cell? ⟨w.heap.size, 0, none⟩ = some (.int .i64 kind) := Old.cell hO9 (by assumption); have d1 : w9.cell? ⟨w.heap.size, 1, none⟩ = some (.string path) := Old.cell hO9 (by assumption); have d2 : w9.cell? ⟨w.heap.size, 2, none⟩ = some (.string data) := Old.cell hO9 (by assumption); have d3 : w9.cell? ⟨w.heap.size, 3, none⟩ = some (vacl) := Old.cell hO9 (by assumption); have d4 : w9.cell? ⟨w.heap.size, 4, none⟩ = some (.int .i64 owner) := Old.cell hO9 (by assumption); have d5 : w9.cell? ⟨w.heap.size, 5, none⟩ = some (.int .i64 number) := Old.cell hO9 (by assumption); have d6 : w9.cell? ⟨w.heap.size, 6, none⟩ = some (.int .i64 err) := Old.cell hO9 (by assumption); have hQ9 := Stp.mk hO9; clear hO9; have T2 := True.intro)
      | (go_at_call 62; go_split_ands; refine (K0.out _).mono ?_; rintro e w9 ⟨rfl, hO9⟩; have hP9 : Old w w9 := Old.none (by assumption) hO9; have d0 : w9.cell? ⟨w.heap.size, 0, none⟩ = some (.int .i64 kind) := Old.cell hO9 (by assumption); have d1 : w9.cell? ⟨w.heap.size, 1, none⟩ = some (.string path) := Old.cell hO9 (by assumption); have d2 : w9.cell? ⟨w.heap.size, 2, none⟩ = some (.string data) := Old.cell hO9 (by assumption); have d3 : w9.cell? ⟨w.heap.size, 3, none⟩ = some (vacl) := Old.cell hO9 (by assumption); have d4 : w9.cell? ⟨w.heap.size, 4, none⟩ = some (.int .i64 owner) := Old.cell hO9 (by assumption); have d5 : w9.cell? ⟨w.heap.size, 5, none⟩ = some (.int .i64 number) := Old.cell hO9 (by assumption); have d6 : w9.cell? ⟨w.heap.size, 6, none⟩ = some (.int .i64 err) := Old.cell hO9 (by assumption); have hQ9 := Stp.mk hO9; clear hO9; have T1 := True.intro))
  all_goals go_wp2_with fail
  all_goals go_ret
  all_goals exact ⟨rfl, by assumption⟩

end Go.Proofs.YtpmemcpfoapjmaaGreat
