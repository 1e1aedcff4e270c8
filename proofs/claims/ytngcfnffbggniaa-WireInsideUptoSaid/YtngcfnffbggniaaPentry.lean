/- A transaction, an entry, lists of entries, laid. -/
import Derived.Test.YtngcfnffbggniaaPpart
namespace Go.Proofs.Ytngcfnffbggniaa
open Go.ChangeShapes Go.WideShapes Go.ChangeAt Go.RowKit
set_option linter.unusedVariables false

set_option maxRecDepth 100000 in
set_option maxHeartbeats 600000 in
theorem put_txn (x : Txn) (cs : List Value) (ok : Nat → Prop) (w : World) (b : Nat) (v : Value) (l : List UInt8) (hW : WAt w b v l) (hE : txnE w ok cs x) (hd : Disj ok (WS b v)) (hi : In w ok) (hl : l.length + (txnF.lay x).length ≤ 144900000000000) :
    Calls Try.prog 73 #[.pointer (some ⟨b, 0, none⟩), .agg cs.toArray] w (WPost w b v (l ++ txnF.lay x)) := by
  obtain ⟨vsubs, hq, hsubs⟩ := hE
  have hpart : partE w ok cs x.part := ⟨vsubs, hq⟩
  obtain ⟨vacl, rfl, hacl, _⟩ := hq
  obtain ⟨A_acl, n_acl, c_acl, rfl⟩ := hacl.shape
  obtain ⟨A_subs, n_subs, c_subs, rfl⟩ := hsubs.shape
  have S0 := WSt.box hW (.cells #[.int .i64 x.part.kind, .string x.part.path, .string x.part.data, .slice A_acl n_acl c_acl, .int .i64 x.part.owner, .int .i64 x.part.number, .int .i64 x.part.err, .slice A_subs n_subs c_subs] 26)
  have hnb := box_new hW
  have hbk := heap_alloc_new w (.cells #[.int .i64 x.part.kind, .string x.part.path, .string x.part.data, .slice A_acl n_acl c_acl, .int .i64 x.part.owner, .int .i64 x.part.number, .int .i64 x.part.err, .slice A_subs n_subs c_subs] 26)
  replace hpart := partE_ok.keep hpart ((Kept.refl (fun _ => False) w).alloc (.cells #[.int .i64 x.part.kind, .string x.part.path, .string x.part.data, .slice A_acl n_acl c_acl, .int .i64 x.part.owner, .int .i64 x.part.number, .int .i64 x.part.err, .slice A_subs n_subs c_subs] 26)) (disj_none ok)
  replace hsubs := hsubs.keep partE_ok ((Kept.refl (fun _ => False) w).alloc (.cells #[.int .i64 x.part.kind, .string x.part.path, .string x.part.data, .slice A_acl n_acl c_acl, .int .i64 x.part.owner, .int .i64 x.part.number, .int .i64 x.part.err, .slice A_subs n_subs c_subs] 26)) (disj_none ok)
  replace hi := hi.kept ((Kept.refl (fun _ => False) w).alloc (.cells #[.int .i64 x.part.kind, .string x.part.path, .string x.part.data, .slice A_acl n_acl c_acl, .int .i64 x.part.owner, .int .i64 x.part.number, .int .i64 x.part.err, .slice A_subs n_subs c_subs] 26))
  have hlen : (txnF.lay x).length = (partF.lay x.part).length + ((listF partF).lay x.subs).length := by simp only [txnF, isoF, seqF, List.length_append] <;> omega
  have hl1 : l.length + ((partF.lay x.part).length + ((listF partF).lay x.subs).length) ≤ 144900000000000 := by rw [← hlen]; exact hl
  clear hlen
  clear hl
  go_enter Try.func73, Try.ntmps73
  go_wp2_with fail
  refine (put_part x.part _ ok _ b _ _ S0.at_ (partE_ok.keep hpart S0.kept hd) (hd.symm.sep hi S0.sep).symm (hi.kept S0.kept) (by omega)).mono ?_
  rintro e w1 h1
  obtain ⟨v1, rfl, S1⟩ := S0.step h1
  clear S0 h1
  have hb1 := S1.blk hbk hnb
  have c1_7 : w1.cell? ⟨w.heap.size, 7, none⟩ = some (.slice A_subs n_subs c_subs) := by simp [World.cell?, hb1]
  clear hb1
  go_wp2_with fail
  refine (putList_part x.subs _ ok _ b _ _ S1.at_ (hsubs.keep partE_ok S1.kept hd) (hd.symm.sep hi S1.sep).symm (hi.kept S1.kept) (by simp only [List.length_append]; omega)).mono ?_
  rintro e w2 h2
  obtain ⟨v2, rfl, S2⟩ := S1.step h2
  clear S1 h2
  go_wp2_with fail
  go_end0
  exact S2.unbox (by simp only [txnF, isoF, seqF, List.append_assoc])

set_option maxRecDepth 100000 in
set_option maxHeartbeats 600000 in
theorem put_entry (x : Entry) (cs : List Value) (ok : Nat → Prop) (w : World) (b : Nat) (v : Value) (l : List UInt8) (hW : WAt w b v l) (hE : entryE w ok cs x) (hd : Disj ok (WS b v)) (hi : In w ok) (hl : l.length + (entryF.lay x).length ≤ 144900000000000) :
    Calls Try.prog 33 #[.pointer (some ⟨b, 0, none⟩), .agg cs.toArray] w (WPost w b v (l ++ entryF.lay x)) := by
  obtain ⟨ct, rfl, htxn, hn_zxid, hn_session, hn_xid⟩ := hE
  obtain ⟨A_acl, n_acl, c_acl, A_subs, n_subs, c_subs, rfl⟩ := txnE_cells htxn
  have S0 := WSt.box hW (.cells #[.int .i64 x.zxid, .int .i64 x.session, .int .i64 x.xid, .int .i64 x.txn.part.kind, .string x.txn.part.path, .string x.txn.part.data, .slice A_acl n_acl c_acl, .int .i64 x.txn.part.owner, .int .i64 x.txn.part.number, .int .i64 x.txn.part.err, .slice A_subs n_subs c_subs] 28)
  have hnb := box_new hW
  have hbk := heap_alloc_new w (.cells #[.int .i64 x.zxid, .int .i64 x.session, .int .i64 x.xid, .int .i64 x.txn.part.kind, .string x.txn.part.path, .string x.txn.part.data, .slice A_acl n_acl c_acl, .int .i64 x.txn.part.owner, .int .i64 x.txn.part.number, .int .i64 x.txn.part.err, .slice A_subs n_subs c_subs] 28)
  replace htxn := txnE_ok.keep htxn ((Kept.refl (fun _ => False) w).alloc (.cells #[.int .i64 x.zxid, .int .i64 x.session, .int .i64 x.xid, .int .i64 x.txn.part.kind, .string x.txn.part.path, .string x.txn.part.data, .slice A_acl n_acl c_acl, .int .i64 x.txn.part.owner, .int .i64 x.txn.part.number, .int .i64 x.txn.part.err, .slice A_subs n_subs c_subs] 28)) (disj_none ok)
  replace hi := hi.kept ((Kept.refl (fun _ => False) w).alloc (.cells #[.int .i64 x.zxid, .int .i64 x.session, .int .i64 x.xid, .int .i64 x.txn.part.kind, .string x.txn.part.path, .string x.txn.part.data, .slice A_acl n_acl c_acl, .int .i64 x.txn.part.owner, .int .i64 x.txn.part.number, .int .i64 x.txn.part.err, .slice A_subs n_subs c_subs] 28))
  have hlen : (entryF.lay x).length = (sev (zz x.zxid)).length + (sev (zz x.session)).length + (sev (zz x.xid)).length + (txnF.lay x.txn).length := by simp only [entryF, isoF, seqF, numF, List.length_append] <;> omega
  have hl1 : l.length + ((sev (zz x.zxid)).length + (sev (zz x.session)).length + (sev (zz x.xid)).length + (txnF.lay x.txn).length) ≤ 144900000000000 := by rw [← hlen]; exact hl
  clear hlen
  clear hl
  go_enter Try.func33, Try.ntmps33
  go_wp2_with fail
  have hcall0 : Calls Try.prog 72 #[.pointer (some ⟨b, 0, none⟩), .slice (some ⟨w.heap.size + 1, 0, none⟩) 3 3] ((w.alloc (.cells #[.int .i64 x.zxid, .int .i64 x.session, .int .i64 x.xid, .int .i64 x.txn.part.kind, .string x.txn.part.path, .string x.txn.part.data, .slice A_acl n_acl c_acl, .int .i64 x.txn.part.owner, .int .i64 x.txn.part.number, .int .i64 x.txn.part.err, .slice A_subs n_subs c_subs] 28)).alloc (.cells #[.int .i64 x.zxid, .int .i64 x.session, .int .i64 x.xid] 3)) (WPost ((w.alloc (.cells #[.int .i64 x.zxid, .int .i64 x.session, .int .i64 x.xid, .int .i64 x.txn.part.kind, .string x.txn.part.path, .string x.txn.part.data, .slice A_acl n_acl c_acl, .int .i64 x.txn.part.owner, .int .i64 x.txn.part.number, .int .i64 x.txn.part.err, .slice A_subs n_subs c_subs] 28)).alloc (.cells #[.int .i64 x.zxid, .int .i64 x.session, .int .i64 x.xid] 3)) b v (l ++ layN numF [x.zxid, x.session, x.xid])) :=
    nums_call [x.zxid, x.session, x.xid] _ _ (by simp) b _ _ S0.at_ (by simp only [List.mem_cons, List.not_mem_nil, or_false, forall_eq_or_imp, forall_eq]; exact ⟨hn_zxid, hn_session, hn_xid⟩) (by unfold maxLen; simp only [List.length_cons, List.length_nil]; omega) (by simp only [List.length_append, layN, List.flatMap_cons, List.flatMap_nil, List.append_nil, numF_lay]; omega)
  have HC0 := Lib.hid hcall0; clear hcall0
  refine HC0.out.mono ?_
  rintro e w1 h1
  obtain ⟨v1, rfl, S1⟩ := (S0.alloc _).step h1
  clear S0 h1 HC0
  have hb1 := S1.blk hbk hnb
  have c1_3 : w1.cell? ⟨w.heap.size, 3, none⟩ = some (.int .i64 x.txn.part.kind) := by simp [World.cell?, hb1]
  have c1_4 : w1.cell? ⟨w.heap.size, 4, none⟩ = some (.string x.txn.part.path) := by simp [World.cell?, hb1]
  have c1_5 : w1.cell? ⟨w.heap.size, 5, none⟩ = some (.string x.txn.part.data) := by simp [World.cell?, hb1]
  have c1_6 : w1.cell? ⟨w.heap.size, 6, none⟩ = some (.slice A_acl n_acl c_acl) := by simp [World.cell?, hb1]
  have c1_7 : w1.cell? ⟨w.heap.size, 7, none⟩ = some (.int .i64 x.txn.part.owner) := by simp [World.cell?, hb1]
  have c1_8 : w1.cell? ⟨w.heap.size, 8, none⟩ = some (.int .i64 x.txn.part.number) := by simp [World.cell?, hb1]
  have c1_9 : w1.cell? ⟨w.heap.size, 9, none⟩ = some (.int .i64 x.txn.part.err) := by simp [World.cell?, hb1]
  have c1_10 : w1.cell? ⟨w.heap.size, 10, none⟩ = some (.slice A_subs n_subs c_subs) := by simp [World.cell?, hb1]
  clear hb1
  go_wp2_with fail
  refine (put_txn x.txn _ ok _ b _ _ S1.at_ (txnE_ok.keep htxn S1.kept hd) (hd.symm.sep hi S1.sep).symm (hi.kept S1.kept) (by simp only [List.length_append, layN, List.flatMap_cons, List.flatMap_nil, List.append_nil, numF_lay]; omega)).mono ?_
  rintro e w2 h2
  obtain ⟨v2, rfl, S2⟩ := S1.step h2
  clear S1 h2
  go_wp2_with fail
  go_end0
  exact S2.unbox (by simp only [entryF, isoF, seqF, numF, layN, List.flatMap_cons, List.flatMap_nil, List.append_nil, List.append_assoc])

set_option maxRecDepth 100000 in
theorem putList_entry (xs : List Entry) (sv : Value) (ok : Nat → Prop) (w : World) (b : Nat) (v : Value) (l : List UInt8) (hW : WAt w b v l) (hL : ListR entryE w ok 11 sv xs) (hd : Disj ok (WS b v)) (hi : In w ok) (hl : l.length + ((listF entryF).lay xs).length ≤ 144900000000000) :
    Calls Try.prog 106 #[.pointer (some ⟨b, 0, none⟩), sv, .func (.func 33) #[] #[]] w (WPost w b v (l ++ (listF entryF).lay xs)) := by
  obtain ⟨rows, ⟨A, c, rfl, hlc, hm, hat⟩, hlen, hel⟩ := hL
  unfold maxLen at hm
  have hlen1 : rows.length ≤ xs.length := by omega
  have hlen2 : xs.length ≤ rows.length := by omega
  have hfin := (show (listF entryF).lay xs = sev xs.length ++ layN entryF xs from rfl)
  rw [hfin] at hl ⊢
  rw [← hlen] at hl ⊢
  clear hfin hlen
  rw [List.length_append] at hl
  go_enter Try.func106, Try.ntmps106
  go_wp2_with fail
  refine (wcount_wide rows.length _ b v l hW (by omega) (by omega)).mono ?_
  rintro e w0 h0
  obtain ⟨v0, rfl, S0⟩ := (WSt.start hW).step h0
  clear h0
  go_wp2_with fail
  go_loopw [14] (fun iv wr => PutRelL w b v (l ++ sev rows.length) xs.length (fun k => layN entryF (xs.take k)) iv wr) (fun iv _ => xs.length - (intOf iv).toNat)
  case atStart => exact ⟨0, v0, rfl, Nat.zero_le _, by simpa [layN] using S0⟩
  case round =>
    obtain ⟨k, v1, rfl, hk, S1⟩ := hrel.ex
    clear hrel S0
    by_cases hlt : k < xs.length
    · have hkr : k < rows.length := by omega
      rcases hat with h0 | ⟨g, off, rfl, hok, hg, hc⟩
      · subst h0; simp at hkr
      have hE := entryE_ok.keep (hel k hlt hkr) S1.kept hd
      have hcell : ∀ j (hj : j < rows[k].length), wr.cell? ⟨g, off + k * 11 + j, none⟩ = some rows[k][j] := fun j hj => by
        rw [← (hc k hkr).2 j hj]; exact World.cell?_of_block (S1.kept.block g hg (hd g hok))
      have hle := layN_le (f := entryF) hlt
      have HTK := Lib.hid (layN_take (f := entryF) hlt)
      generalize rows[k] = cs at hcell hE
      generalize xs[k] = x at hle hE HTK
      clear hc hel
      obtain ⟨A_acl, n_acl, c_acl, A_subs, n_subs, c_subs, rfl⟩ := entryE_cells hE
      have c0 : wr.cell? ⟨g, off + k * 11, none⟩ = some (.int .i64 x.zxid) := hcell 0 (by simp)
      have c1 : wr.cell? ⟨g, off + k * 11 + 1, none⟩ = some (.int .i64 x.session) := hcell 1 (by simp)
      have c2 : wr.cell? ⟨g, off + k * 11 + 2, none⟩ = some (.int .i64 x.xid) := hcell 2 (by simp)
      have c3 : wr.cell? ⟨g, off + k * 11 + 3, none⟩ = some (.int .i64 x.txn.part.kind) := hcell 3 (by simp)
      have c4 : wr.cell? ⟨g, off + k * 11 + 4, none⟩ = some (.string x.txn.part.path) := hcell 4 (by simp)
      have c5 : wr.cell? ⟨g, off + k * 11 + 5, none⟩ = some (.string x.txn.part.data) := hcell 5 (by simp)
      have c6 : wr.cell? ⟨g, off + k * 11 + 6, none⟩ = some (.slice A_acl n_acl c_acl) := hcell 6 (by simp)
      have c7 : wr.cell? ⟨g, off + k * 11 + 7, none⟩ = some (.int .i64 x.txn.part.owner) := hcell 7 (by simp)
      have c8 : wr.cell? ⟨g, off + k * 11 + 8, none⟩ = some (.int .i64 x.txn.part.number) := hcell 8 (by simp)
      have c9 : wr.cell? ⟨g, off + k * 11 + 9, none⟩ = some (.int .i64 x.txn.part.err) := hcell 9 (by simp)
      have c10 : wr.cell? ⟨g, off + k * 11 + 10, none⟩ = some (.slice A_subs n_subs c_subs) := hcell 10 (by simp)
      clear hcell
      have hkl : (k : Int) < (rows.length : Int) := by omega
      have hd1 := (hd.symm.sep hi S1.sep).symm
      have hi1 : In wr ok := hi.kept S1.kept
      have hll : (l ++ sev rows.length ++ layN entryF (xs.take k)).length + (entryF.lay x).length ≤ 144900000000000 := by simp only [List.length_append]; omega
      have hcall : ∀ (o : Obj), Calls Try.prog 33 #[.pointer (some ⟨b, 0, none⟩), .agg #[.int .i64 x.zxid, .int .i64 x.session, .int .i64 x.xid, .int .i64 x.txn.part.kind, .string x.txn.part.path, .string x.txn.part.data, .slice A_acl n_acl c_acl, .int .i64 x.txn.part.owner, .int .i64 x.txn.part.number, .int .i64 x.txn.part.err, .slice A_subs n_subs c_subs]] (wr.alloc o) (WPost (wr.alloc o) b v1 (l ++ sev rows.length ++ layN entryF (xs.take k) ++ entryF.lay x)) := fun o =>
        put_entry x _ ok _ b v1 _ (S1.alloc o).at_ (entryE_ok.keep hE ((Kept.refl (fun _ => False) wr).alloc o) (disj_none ok)) hd1 (hi1.kept ((Kept.refl (fun _ => False) wr).alloc o)) hll
      have HCALL := Lib.hid hcall
      have HS := Lib.hid (fun (o : Obj) => S1.alloc o)
      clear hcall hE S1 hd1 hi1 hll
      go_wp2_with fail
      refine (HCALL.out _).mono ?_
      rintro e w2 h2
      obtain ⟨v2, rfl, S2⟩ := (HS.out _).step h2
      clear h2 HCALL HS
      go_wp2_with fail
      go_roundw
      case rel => exact ⟨k + 1, v2, rfl, hlt, by rw [HTK.out, ← List.append_assoc]; exact S2⟩
      case measure => simp [intOf]; omega
    · have hkl : ¬ (k : Int) < (rows.length : Int) := by omega
      obtain rfl : k = xs.length := by omega
      go_wp2_with fail
      go_end0
      exact S1.fin (by rw [List.take_length, List.append_assoc])
end Go.Proofs.Ytngcfnffbggniaa
