/- The document's own answers of layer 2: an entry, taken up. Lists of rows, laid. A part, and lists of them, laid. A transaction, an entry, lists of entries, laid. Entry: Put and Get. The document's own answers of layer 2: bytes read as entry. -/
import Derived.Test.YtpmemcpfoapjmaaGreatV13
import Derived.Test.YtpmemcpfoapjmaaGreatV10
import Derived.StillTailTactics
import Derived.Test.YtpmemcpfoapjmaaGreatV07
import Derived.Test.YtpmemcpfoapjmaaGreatV06
import Derived.Outline
namespace Go.Proofs.YtpmemcpfoapjmaaGreat
open Go.ChangeShapes Go.WideShapes Go.ChangeAt Go.RowKit
set_option linter.unusedVariables false

theorem split8 {l : List Value} (h : l.length = 8) : ∃ v0 v1 v2 v3 v4 v5 v6 v7, l = [v0, v1, v2, v3, v4, v5, v6, v7] := by
  match l, h with
  | [v0, v1, v2, v3, v4, v5, v6, v7], _ => exact ⟨v0, v1, v2, v3, v4, v5, v6, v7, rfl⟩

set_option maxRecDepth 100000 in
set_option maxHeartbeats 3200000 in
theorem reftake_entry (w : World) (b : Nat) (s : ByteArray) (p pos e : Nat) (hF : FAt w b s p e) (hp : e = 0 → p = pos) {x : Entry} {q e' : Nat} (h : entryF.get s.data.toList pos e = (x, q, e')) :
    Calls Tryz.prog 68 #[.pointer (some ⟨b, 0, none⟩)] w (FGPost entryE 11 [] w b s x q e') := by
  have HSZ := Lib.hid (show (Tryz.prog.info? 38).map (·.size) = some 11 by kernel_rfl)
  have HST := Lib.hid (show (Tryz.prog.info? 36).map (·.size) = some 8 by kernel_rfl)
  obtain ⟨v0, q0, e0, g0⟩ : ∃ aa qq ee, numF.get s.data.toList pos e = (aa, qq, ee) := ⟨_, _, _, eta3 _⟩
  obtain ⟨v1, q1, e1, g1⟩ : ∃ aa qq ee, numF.get s.data.toList q0 e0 = (aa, qq, ee) := ⟨_, _, _, eta3 _⟩
  obtain ⟨v2, q2, e2, g2⟩ : ∃ aa qq ee, numF.get s.data.toList q1 e1 = (aa, qq, ee) := ⟨_, _, _, eta3 _⟩
  obtain ⟨t, q3, e3, g3⟩ : ∃ aa qq ee, txnF.get s.data.toList q2 e2 = (aa, qq, ee) := ⟨_, _, _, eta3 _⟩
  have hget : entryF.get s.data.toList pos e = (⟨v0, v1, v2, t⟩, q3, e3) := by simp only [entryF, isoF, seqF, g0, g1, g2, g3]
  rw [hget] at h
  simp only [Prod.mk.injEq] at h
  obtain ⟨rfl, rfl, rfl⟩ := h
  have i0 : I64 v0 := num_fit g0
  have i1 : I64 v1 := num_fit g1
  have i2 : I64 v2 := num_fit g2
  have hn3 : numsN 3 s.data.toList pos e = ([v0, v1, v2], q2, e2) := by simp only [numsN, getN, g0, g1, g2]
  have K0 := Lib.hid (ftake_of (by decide) hn3)
  have K1 := Lib.hid (fun (W : World) (p : Nat) (hF : FAt W b s p e2) (hp : e2 = 0 → p = q2) => reftake_txn W b s p q2 e2 hF hp g3)
  have hbw := lt_of_block hF.at_
  have hF0 : FAt (w.alloc (.cells ([.int .i64 0, .int .i64 0, .int .i64 0, .int .i64 0, .string ⟨#[]⟩, .string ⟨#[]⟩, .slice none 0 0, .int .i64 0, .int .i64 0, .int .i64 0, .slice none 0 0] : List Value).toArray 38)) b s p e := hF.keep ((Kept.refl (fun _ => False) w).alloc _) id
  have HRES0 := Lib.hid (heap_alloc_new w (.cells ([.int .i64 0, .int .i64 0, .int .i64 0, .int .i64 0, .string ⟨#[]⟩, .string ⟨#[]⟩, .slice none 0 0, .int .i64 0, .int .i64 0, .int .i64 0, .slice none 0 0] : List Value).toArray 38))
  have HP := Lib.hid hp
  clear hget g0 g1 g2 g3 hn3 hF hp
  go_enter Tryz.func68, Tryz.ntmps68
  go_wp2_with fail
  refine (K0.out _ _ _ hF0 HP.out).mono ?_
  rintro en w0 ⟨tk, p0, rfl, hblk, hgt, hF1, hp1, hk0⟩
  have hz0 : w.heap.size + 1 ≤ w0.heap.size := by have := hk0.size; simpa using this
  have hgt1 : w.heap.size + 1 ≤ tk := by simpa using hgt
  clear hgt
  have HP1 := Lib.hid hp1
  have HRES1 := Lib.hid ((hk0.block _ (by simp) (fun hs => by have hs' : w.heap.size = b := hs; omega)).trans HRES0.out)
  have HBLK := Lib.hid hblk
  have HK0 := Lib.hid (Kept.trans' ((Kept.refl (RS b) w).alloc _) hk0 (fun _ _ h => h))
  clear hblk hp1 hk0 hF0 HRES0 HP K0
  go_wp2_with fail
  refine (K1.out _ _ hF1 HP1.out).mono ?_
  rintro en w1 ⟨cs, p2, rfl, hfl, hnl, hE1, hF2, hp2, hk1⟩
  have hz1 := hk1.size
  obtain ⟨a0, a1, a2, a3, a4, a5, a6, a7, rfl⟩ := split8 hfl.1
  have hone := hfl.2
  have HP2 := Lib.hid hp2
  have HRES2 := Lib.hid ((hk1.block _ (lt_of_block HRES1.out) (fun hs => by have hs' : w.heap.size = b := hs; omega)).trans HRES1.out)
  have hblk2 := (hk1.block _ (lt_of_block HBLK.out) (fun hs => by have hs' : tk = b := hs; omega)).trans HBLK.out
  have hbox := heap_alloc_new w1 (.cells ([a0, a1, a2, a3, a4, a5, a6, a7] : List Value).toArray 36)
  have hA : Kept (fun _ => False) w1 (w1.alloc (.cells ([a0, a1, a2, a3, a4, a5, a6, a7] : List Value).toArray 36)) := (Kept.refl _ w1).alloc _
  have HONE := Lib.hid hone
  have HFL := Lib.hid hfl
  have hblk3 := (hA.block _ (lt_of_block hblk2) id).trans hblk2
  have hres3 := (hA.block _ (lt_of_block HRES2.out) id).trans HRES2.out
  have hE3 := (WkE_ok txnE_ok).keep hE1 hA (disj_none _)
  have hF3 := hF2.keep hA id
  have hK3 := Kept.trans' (HK0.out.trans hk1) hA (fun _ _ h => h.elim)
  clear hfl hnl hE1 hF2 hk1 hone HRES1 HBLK HK0 hF1 HP1 K1 hp2 hblk2 HRES2
  go_upto_region 3 with (refine wpList_store_new w1 rfl 36 _ _ rfl _ [a0, a1, a2, a3, a4, a5, a6, a7] rfl rfl HST.out rfl HONE.out ?_)
  generalize w1.alloc (.cells ([a0, a1, a2, a3, a4, a5, a6, a7] : List Value).toArray 36) = w2 at hbox hblk3 hres3 hE3 hF3 hK3 hA
  have d0 : w2.cell? ⟨tk, 0, none⟩ = some (.int .i64 v0) := cell_of_heap hblk3 rfl
  have d1 : w2.cell? ⟨tk, 1, none⟩ = some (.int .i64 v1) := cell_of_heap hblk3 rfl
  have d2 : w2.cell? ⟨tk, 2, none⟩ = some (.int .i64 v2) := cell_of_heap hblk3 rfl
  have hcc := fun i v hv => cell_of_heap (i := i) (v := v) hbox hv
  have b0 := hcc 0 _ rfl
  have b1 := hcc 1 _ rfl
  have b2 := hcc 2 _ rfl
  have b3 := hcc 3 _ rfl
  have b4 := hcc 4 _ rfl
  have b5 := hcc 5 _ rfl
  have b6 := hcc 6 _ rfl
  have b7 := hcc 7 _ rfl
  have HRES3 := Lib.hid hres3
  have HE3 := Lib.hid hE3
  have HF3 := Lib.hid hF3
  have HK3 := Lib.hid hK3
  have HI := Lib.hid (And.intro i0 (And.intro i1 i2))
  clear hcc hbox hblk3 hres3 hE3 hF3 hK3 hA i0 i1 i2
  go_still_tail 11, (by kernel_rfl)
  change wpList _ _ _ _ _ w2.drew
  have HRY : Hid (w2.drew.heap[w.heap.size]? = _) := HRES3
  have HFY := Lib.hid (show FAt w2.drew b s p2 e3 from HF3.out.drewN 1)
  have HKY := Lib.hid (show Kept (RS b) w w2.drew from HK3.out.drewN 1)
  have HEY := Lib.hid (show WkE e3 txnE w2.drew (New w0) [a0, a1, a2, a3, a4, a5, a6, a7] t from (WkE_ok txnE_ok).keep HE3.out ((Kept.refl (fun _ => False) w2).drewN 1) (disj_none _))
  generalize w2.drew = wy at HRY HFY HKY HEY ⊢
  have hone : ∀ v ∈ [Value.int .i64 v0, .int .i64 v1, .int .i64 v2, a0, a1, a2, a3, a4, a5, a6, a7], v.oneCell' = true := fun v hv => by
    simp only [List.mem_cons, List.not_mem_nil, or_false] at hv
    rcases hv with rfl | rfl | rfl | hv
    · rfl
    · rfl
    · rfl
    · exact HONE.out v (by simpa using hv)
  have HONE2 := Lib.hid hone; clear hone
  clear d0 d1 d2 b0 b1 b2 b3 b4 b5 b6 b7
  go_wp2_with (refine wpList_store_row _ rfl 38 (.tmp 2) (.tmp 19) rfl w.heap.size _ [.int .i64 v0, .int .i64 v1, .int .i64 v2, a0, a1, a2, a3, a4, a5, a6, a7] rfl rfl HRY.out HSZ.out rfl HONE2.out ?_)
  have hrow := setRow_heap wy w.heap.size _ ([.int .i64 v0, .int .i64 v1, .int .i64 v2, a0, a1, a2, a3, a4, a5, a6, a7] : List Value).toArray _ _ HRY.out
  have hload := run_loadVar_row (P := Tryz.prog) _ w.heap.size 38 38 _ (0, 0) _ hrow Tryz.underlying38 rfl (by rw [List.size_toArray]; exact HSZ.out)
  refine ret_cell 2 38 w.heap.size _ Tryz.results68 rfl hload rfl ⟨_, p2, rfl, ⟨rfl, HONE2.out⟩, by simp, fun h0 => ?_, HFY.out.keep (setRow_kept _ _ _) (fun hs => by omega), HP2.out, Kept.trans' HKY.out (setRow_kept _ _ _) (fun k hk hs => by omega)⟩
  have ht := txnE_ok.mono (txnE_ok.keep (HEY.out h0) (setRow_kept wy w.heap.size ([.int .i64 v0, .int .i64 v1, .int .i64 v2, a0, a1, a2, a3, a4, a5, a6, a7] : List Value).toArray) (fun j hj hs => by have h1 : w0.heap.size ≤ j := hj; have hs' : j = w.heap.size := hs; omega)) (ok' := New w) (fun j _ hj => by have h1 : w0.heap.size ≤ j := hj; unfold New; omega)
  exact ⟨[a0, a1, a2, a3, a4, a5, a6, a7], rfl, ht, HI.out.1, HI.out.2.1, HI.out.2.2⟩
end Go.Proofs.YtpmemcpfoapjmaaGreat

namespace Go.Proofs.YtpmemcpfoapjmaaGreat
open Go.ChangeShapes Go.WideShapes Go.ChangeAt Go.RowKit
set_option linter.unusedVariables false

theorem put_acl (x : Acl) (cs : List Value) (ok : Nat → Prop) (w : World) (b : Nat) (v : Value) (l : List UInt8) (hW : WAt w b v l) (hE : aclE w ok cs x) (hd : Disj ok (WS b v)) (hi : In w ok) (hl : l.length + (aclF.lay x).length ≤ 144900000000000) :
    Calls Tryz.prog 131 #[.pointer (some ⟨b, 0, none⟩), .agg cs.toArray] w (WPost w b v (l ++ aclF.lay x)) := by
  obtain ⟨rfl, h1, h2⟩ := hE
  exact putAcl_any x w b v l hW h1 h2 hl

set_option maxRecDepth 100000 in
theorem putList_acl (xs : List Acl) (sv : Value) (ok : Nat → Prop) (w : World) (b : Nat) (v : Value) (l : List UInt8) (hW : WAt w b v l) (hL : ListR aclE w ok 2 sv xs) (hd : Disj ok (WS b v)) (hi : In w ok) (hl : l.length + ((listF aclF).lay xs).length ≤ 144900000000000) :
    Calls Tryz.prog 130 #[.pointer (some ⟨b, 0, none⟩), sv, .func (.func 131) #[] #[]] w (WPost w b v (l ++ (listF aclF).lay xs)) := by
  obtain ⟨rows, ⟨A, c, rfl, hlc, hm, hat⟩, hlen, hel⟩ := hL
  unfold maxLen at hm
  have hlen1 : rows.length ≤ xs.length := by omega
  have hlen2 : xs.length ≤ rows.length := by omega
  have hfin := (show (listF aclF).lay xs = sev xs.length ++ layN aclF xs from rfl)
  rw [hfin] at hl ⊢
  rw [← hlen] at hl ⊢
  clear hfin hlen
  rw [List.length_append] at hl
  go_enter Tryz.func130, Tryz.ntmps130
  go_wp2_with fail
  refine (wcount_wide rows.length _ b v l hW (by omega) (by omega)).mono ?_
  rintro e w0 h0
  obtain ⟨v0, rfl, S0⟩ := (WSt.start hW).step h0
  clear h0
  go_wp2_with fail
  go_loopw [14] (fun iv wr => PutRelL w b v (l ++ sev rows.length) xs.length (fun k => layN aclF (xs.take k)) iv wr) (fun iv _ => xs.length - (intOf iv).toNat)
  case atStart => exact ⟨0, v0, rfl, Nat.zero_le _, by simpa [layN] using S0⟩
  case round =>
    obtain ⟨k, v1, rfl, hk, S1⟩ := hrel.ex
    clear hrel S0
    by_cases hlt : k < xs.length
    · have hkr : k < rows.length := by omega
      rcases hat with h0 | ⟨g, off, rfl, hok, hg, hc⟩
      · simp [h0.1] at hkr
      have hE := aclE_ok.keep (hel k hlt hkr) S1.kept hd
      have hcell : ∀ j (hj : j < rows[k].length), wr.cell? ⟨g, off + k * 2 + j, none⟩ = some rows[k][j] := fun j hj => by
        rw [← (hc k hkr).2 j hj]; exact World.cell?_of_block (S1.kept.block g hg (hd g hok.1))
      have hle := layN_le (f := aclF) hlt
      have HTK := Lib.hid (layN_take (f := aclF) hlt)
      generalize rows[k] = cs at hcell hE
      generalize xs[k] = x at hle hE HTK
      clear hc hel
      obtain ⟨rfl, _⟩ := id hE
      have c0 : wr.cell? ⟨g, off + k * 2, none⟩ = some (.int .i64 x.perms) := hcell 0 (by simp)
      have c1 : wr.cell? ⟨g, off + k * 2 + 1, none⟩ = some (.string x.id) := hcell 1 (by simp)
      clear hcell
      have hkl : (k : Int) < (rows.length : Int) := by omega
      have hd1 := (hd.symm.sep hi S1.sep).symm
      have hi1 : In wr ok := hi.kept S1.kept
      have hll : (l ++ sev rows.length ++ layN aclF (xs.take k)).length + (aclF.lay x).length ≤ 144900000000000 := by simp only [List.length_append]; omega
      have hcall : ∀ (o : Obj), Calls Tryz.prog 131 #[.pointer (some ⟨b, 0, none⟩), .agg #[.int .i64 x.perms, .string x.id]] (wr.alloc o) (WPost (wr.alloc o) b v1 (l ++ sev rows.length ++ layN aclF (xs.take k) ++ aclF.lay x)) := fun o =>
        put_acl x _ ok _ b v1 _ (S1.alloc o).at_ (aclE_ok.keep hE ((Kept.refl (fun _ => False) wr).alloc o) (disj_none ok)) hd1 (hi1.kept ((Kept.refl (fun _ => False) wr).alloc o)) hll
      have HCALL := Lib.hid hcall
      have HS := Lib.hid (fun (o : Obj) => S1.alloc o)
      clear hcall hE S1 hd1 hi1 hll
      go_wp2_with fail
      refine (HCALL.out _).mono ?_
      rintro e w2 h2
      obtain ⟨v2, rfl, S2⟩ := (HS.out _).step h2
      clear h2 HCALL HS
      go_wp2_with fail
      go_roundw
      case rel => exact ⟨k + 1, v2, rfl, hlt, by rw [HTK.out, ← List.append_assoc]; exact S2⟩
      case measure => simp [intOf]; omega
    · have hkl : ¬ (k : Int) < (rows.length : Int) := by omega
      obtain rfl : k = xs.length := by omega
      go_wp2_with fail
      go_end0
      exact S1.fin (by rw [List.take_length, List.append_assoc])
end Go.Proofs.YtpmemcpfoapjmaaGreat

namespace Go.Proofs.YtpmemcpfoapjmaaGreat
open Go.ChangeShapes Go.WideShapes Go.ChangeAt Go.RowKit
set_option linter.unusedVariables false

set_option maxRecDepth 100000 in
set_option maxHeartbeats 600000 in
theorem put_part (x : Part) (cs : List Value) (ok : Nat → Prop) (w : World) (b : Nat) (v : Value) (l : List UInt8) (hW : WAt w b v l) (hE : partE w ok cs x) (hd : Disj ok (WS b v)) (hi : In w ok) (hl : l.length + (partF.lay x).length ≤ 144900000000000) :
    Calls Tryz.prog 128 #[.pointer (some ⟨b, 0, none⟩), .agg cs.toArray] w (WPost w b v (l ++ partF.lay x)) := by
  obtain ⟨vsubs, vacl, rfl, hacl, hn_kind, hs_path, hs_data, hn_owner, hn_number, hn_err, gsubs⟩ := hE
  obtain ⟨A_acl, n_acl, c_acl, rfl⟩ := hacl.shape
  obtain ⟨A_subs, n_subs, c_subs, rfl⟩ := gsubs
  have S0 := WSt.box hW (.cells #[.int .i64 x.kind, .string x.path, .string x.data, .slice A_acl n_acl c_acl, .int .i64 x.owner, .int .i64 x.number, .int .i64 x.err, .slice A_subs n_subs c_subs] 36)
  have hnb := box_new hW
  have hbk := heap_alloc_new w (.cells #[.int .i64 x.kind, .string x.path, .string x.data, .slice A_acl n_acl c_acl, .int .i64 x.owner, .int .i64 x.number, .int .i64 x.err, .slice A_subs n_subs c_subs] 36)
  replace hacl := hacl.keep aclE_ok ((Kept.refl (fun _ => False) w).alloc (.cells #[.int .i64 x.kind, .string x.path, .string x.data, .slice A_acl n_acl c_acl, .int .i64 x.owner, .int .i64 x.number, .int .i64 x.err, .slice A_subs n_subs c_subs] 36)) (disj_none ok)
  replace hi := hi.kept ((Kept.refl (fun _ => False) w).alloc (.cells #[.int .i64 x.kind, .string x.path, .string x.data, .slice A_acl n_acl c_acl, .int .i64 x.owner, .int .i64 x.number, .int .i64 x.err, .slice A_subs n_subs c_subs] 36))
  have hlen : (partF.lay x).length = (sev (zz x.kind)).length + ((sev x.path.size).length + x.path.size) + ((sev x.data.size).length + x.data.size) + ((listF aclF).lay x.acl).length + (sev (zz x.owner)).length + (sev (zz x.number)).length + (sev (zz x.err)).length := by simp only [partF, isoF, seqF, numF, textF, List.length_append, str_len] <;> omega
  have hl1 : l.length + ((sev (zz x.kind)).length + ((sev x.path.size).length + x.path.size) + ((sev x.data.size).length + x.data.size) + ((listF aclF).lay x.acl).length + (sev (zz x.owner)).length + (sev (zz x.number)).length + (sev (zz x.err)).length) ≤ 144900000000000 := by rw [← hlen]; exact hl
  clear hlen
  clear hl
  go_enter Tryz.func128, Tryz.ntmps128
  go_wp2_with fail
  refine (wnum_wide x.kind _ b _ _ S0.at_ hn_kind.1 hn_kind.2 (by omega)).mono ?_
  rintro e w1 h1
  obtain ⟨v1, rfl, S1⟩ := S0.step h1
  clear S0 h1
  have hb1 := S1.blk hbk hnb
  have c1_1 : w1.cell? ⟨w.heap.size, 1, none⟩ = some (.string x.path) := by simp [World.cell?, hb1]
  clear hb1
  go_wp2_with fail
  refine (wtext_wide x.path _ b _ _ S1.at_ hs_path (by simp only [List.length_append]; omega)).mono ?_
  rintro e w2 h2
  obtain ⟨v2, rfl, S2⟩ := S1.step h2
  clear S1 h2
  have hb2 := S2.blk hbk hnb
  have c2_2 : w2.cell? ⟨w.heap.size, 2, none⟩ = some (.string x.data) := by simp [World.cell?, hb2]
  clear hb2
  go_wp2_with fail
  refine (wtext_wide x.data _ b _ _ S2.at_ hs_data (by simp only [List.length_append, str_len]; omega)).mono ?_
  rintro e w3 h3
  obtain ⟨v3, rfl, S3⟩ := S2.step h3
  clear S2 h3
  have hb3 := S3.blk hbk hnb
  have c3_3 : w3.cell? ⟨w.heap.size, 3, none⟩ = some (.slice A_acl n_acl c_acl) := by simp [World.cell?, hb3]
  clear hb3
  go_wp2_with fail
  refine (putList_acl x.acl _ ok _ b _ _ S3.at_ (hacl.keep aclE_ok S3.kept hd) (hd.symm.sep hi S3.sep).symm (hi.kept S3.kept) (by simp only [List.length_append, str_len]; omega)).mono ?_
  rintro e w4 h4
  obtain ⟨v4, rfl, S4⟩ := S3.step h4
  clear S3 h4
  have hb4 := S4.blk hbk hnb
  have c4_4 : w4.cell? ⟨w.heap.size, 4, none⟩ = some (.int .i64 x.owner) := by simp [World.cell?, hb4]
  have c4_5 : w4.cell? ⟨w.heap.size, 5, none⟩ = some (.int .i64 x.number) := by simp [World.cell?, hb4]
  clear hb4
  go_wp2_with fail
  have hcall4 : Calls Tryz.prog 52 #[.pointer (some ⟨b, 0, none⟩), .slice (some ⟨w4.heap.size, 0, none⟩) 2 2] (w4.alloc (.cells #[.int .i64 x.owner, .int .i64 x.number] 3)) (WPost (w4.alloc (.cells #[.int .i64 x.owner, .int .i64 x.number] 3)) b v4 (l ++ sev (zz x.kind) ++ (sev x.path.size ++ x.path.data.toList) ++ (sev x.data.size ++ x.data.data.toList) ++ (listF aclF).lay x.acl ++ layN numF [x.owner, x.number])) :=
    nums_call [x.owner, x.number] _ _ (by simp) b _ _ S4.at_ (by simp only [List.mem_cons, List.not_mem_nil, or_false, forall_eq_or_imp, forall_eq]; exact ⟨hn_owner, hn_number⟩) (by unfold maxLen; simp only [List.length_cons, List.length_nil]; omega) (by simp only [List.length_append, layN, List.flatMap_cons, List.flatMap_nil, List.append_nil, numF_lay, str_len]; omega)
  have HC4 := Lib.hid hcall4; clear hcall4
  refine HC4.out.mono ?_
  rintro e w5 h5
  obtain ⟨v5, rfl, S5⟩ := (S4.alloc _).step h5
  clear S4 h5 HC4
  have hb5 := S5.blk hbk hnb
  have c5_6 : w5.cell? ⟨w.heap.size, 6, none⟩ = some (.int .i64 x.err) := by simp [World.cell?, hb5]
  clear hb5
  go_wp2_with fail
  refine (putErr_any x.err _ b _ _ S5.at_ hn_err (by simp only [List.length_append, layN, List.flatMap_cons, List.flatMap_nil, List.append_nil, numF_lay, str_len]; omega)).mono ?_
  rintro e w6 h6
  obtain ⟨v6, rfl, S6⟩ := S5.step h6
  clear S5 h6
  go_wp2_with fail
  go_end0
  exact S6.unbox (by simp only [partF, isoF, seqF, numF, textF, layN, List.flatMap_cons, List.flatMap_nil, List.append_nil, List.append_assoc])

set_option maxRecDepth 100000 in
theorem putList_part (xs : List Part) (sv : Value) (ok : Nat → Prop) (w : World) (b : Nat) (v : Value) (l : List UInt8) (hW : WAt w b v l) (hL : ListR partE w ok 8 sv xs) (hd : Disj ok (WS b v)) (hi : In w ok) (hl : l.length + ((listF partF).lay xs).length ≤ 144900000000000) :
    Calls Tryz.prog 129 #[.pointer (some ⟨b, 0, none⟩), sv, .func (.func 128) #[] #[]] w (WPost w b v (l ++ (listF partF).lay xs)) := by
  obtain ⟨rows, ⟨A, c, rfl, hlc, hm, hat⟩, hlen, hel⟩ := hL
  unfold maxLen at hm
  have hlen1 : rows.length ≤ xs.length := by omega
  have hlen2 : xs.length ≤ rows.length := by omega
  have hfin := (show (listF partF).lay xs = sev xs.length ++ layN partF xs from rfl)
  rw [hfin] at hl ⊢
  rw [← hlen] at hl ⊢
  clear hfin hlen
  rw [List.length_append] at hl
  go_enter Tryz.func129, Tryz.ntmps129
  go_wp2_with fail
  refine (wcount_wide rows.length _ b v l hW (by omega) (by omega)).mono ?_
  rintro e w0 h0
  obtain ⟨v0, rfl, S0⟩ := (WSt.start hW).step h0
  clear h0
  go_wp2_with fail
  go_loopw [14] (fun iv wr => PutRelL w b v (l ++ sev rows.length) xs.length (fun k => layN partF (xs.take k)) iv wr) (fun iv _ => xs.length - (intOf iv).toNat)
  case atStart => exact ⟨0, v0, rfl, Nat.zero_le _, by simpa [layN] using S0⟩
  case round =>
    obtain ⟨k, v1, rfl, hk, S1⟩ := hrel.ex
    clear hrel S0
    by_cases hlt : k < xs.length
    · have hkr : k < rows.length := by omega
      rcases hat with h0 | ⟨g, off, rfl, hok, hg, hc⟩
      · simp [h0.1] at hkr
      have hE := partE_ok.keep (hel k hlt hkr) S1.kept hd
      have hcell : ∀ j (hj : j < rows[k].length), wr.cell? ⟨g, off + k * 8 + j, none⟩ = some rows[k][j] := fun j hj => by
        rw [← (hc k hkr).2 j hj]; exact World.cell?_of_block (S1.kept.block g hg (hd g hok.1))
      have hle := layN_le (f := partF) hlt
      have HTK := Lib.hid (layN_take (f := partF) hlt)
      generalize rows[k] = cs at hcell hE
      generalize xs[k] = x at hle hE HTK
      clear hc hel
      obtain ⟨A_acl, n_acl, c_acl, A_subs, n_subs, c_subs, rfl⟩ := partE_cells hE
      have c0 : wr.cell? ⟨g, off + k * 8, none⟩ = some (.int .i64 x.kind) := hcell 0 (by simp)
      have c1 : wr.cell? ⟨g, off + k * 8 + 1, none⟩ = some (.string x.path) := hcell 1 (by simp)
      have c2 : wr.cell? ⟨g, off + k * 8 + 2, none⟩ = some (.string x.data) := hcell 2 (by simp)
      have c3 : wr.cell? ⟨g, off + k * 8 + 3, none⟩ = some (.slice A_acl n_acl c_acl) := hcell 3 (by simp)
      have c4 : wr.cell? ⟨g, off + k * 8 + 4, none⟩ = some (.int .i64 x.owner) := hcell 4 (by simp)
      have c5 : wr.cell? ⟨g, off + k * 8 + 5, none⟩ = some (.int .i64 x.number) := hcell 5 (by simp)
      have c6 : wr.cell? ⟨g, off + k * 8 + 6, none⟩ = some (.int .i64 x.err) := hcell 6 (by simp)
      have c7 : wr.cell? ⟨g, off + k * 8 + 7, none⟩ = some (.slice A_subs n_subs c_subs) := hcell 7 (by simp)
      clear hcell
      have hkl : (k : Int) < (rows.length : Int) := by omega
      have hd1 := (hd.symm.sep hi S1.sep).symm
      have hi1 : In wr ok := hi.kept S1.kept
      have hll : (l ++ sev rows.length ++ layN partF (xs.take k)).length + (partF.lay x).length ≤ 144900000000000 := by simp only [List.length_append]; omega
      have hcall : ∀ (o : Obj), Calls Tryz.prog 128 #[.pointer (some ⟨b, 0, none⟩), .agg #[.int .i64 x.kind, .string x.path, .string x.data, .slice A_acl n_acl c_acl, .int .i64 x.owner, .int .i64 x.number, .int .i64 x.err, .slice A_subs n_subs c_subs]] (wr.alloc o) (WPost (wr.alloc o) b v1 (l ++ sev rows.length ++ layN partF (xs.take k) ++ partF.lay x)) := fun o =>
        put_part x _ ok _ b v1 _ (S1.alloc o).at_ (partE_ok.keep hE ((Kept.refl (fun _ => False) wr).alloc o) (disj_none ok)) hd1 (hi1.kept ((Kept.refl (fun _ => False) wr).alloc o)) hll
      have HCALL := Lib.hid hcall
      have HS := Lib.hid (fun (o : Obj) => S1.alloc o)
      clear hcall hE S1 hd1 hi1 hll
      go_wp2_with fail
      refine (HCALL.out _).mono ?_
      rintro e w2 h2
      obtain ⟨v2, rfl, S2⟩ := (HS.out _).step h2
      clear h2 HCALL HS
      go_wp2_with fail
      go_roundw
      case rel => exact ⟨k + 1, v2, rfl, hlt, by rw [HTK.out, ← List.append_assoc]; exact S2⟩
      case measure => simp [intOf]; omega
    · have hkl : ¬ (k : Int) < (rows.length : Int) := by omega
      obtain rfl : k = xs.length := by omega
      go_wp2_with fail
      go_end0
      exact S1.fin (by rw [List.take_length, List.append_assoc])
end Go.Proofs.YtpmemcpfoapjmaaGreat

namespace Go.Proofs.YtpmemcpfoapjmaaGreat
open Go.ChangeShapes Go.WideShapes Go.ChangeAt Go.RowKit
set_option linter.unusedVariables false

set_option maxRecDepth 100000 in
set_option maxHeartbeats 600000 in
theorem put_txn (x : Txn) (cs : List Value) (ok : Nat → Prop) (w : World) (b : Nat) (v : Value) (l : List UInt8) (hW : WAt w b v l) (hE : txnE w ok cs x) (hd : Disj ok (WS b v)) (hi : In w ok) (hl : l.length + (txnF.lay x).length ≤ 144900000000000) :
    Calls Tryz.prog 95 #[.pointer (some ⟨b, 0, none⟩), .agg cs.toArray] w (WPost w b v (l ++ txnF.lay x)) := by
  obtain ⟨vsubs, hq, hsubs⟩ := hE
  have hpart : partE w ok cs x.part := ⟨vsubs, hq⟩
  obtain ⟨vacl, rfl, hacl, _⟩ := hq
  obtain ⟨A_acl, n_acl, c_acl, rfl⟩ := hacl.shape
  obtain ⟨A_subs, n_subs, c_subs, rfl⟩ := hsubs.shape
  have S0 := WSt.box hW (.cells #[.int .i64 x.part.kind, .string x.part.path, .string x.part.data, .slice A_acl n_acl c_acl, .int .i64 x.part.owner, .int .i64 x.part.number, .int .i64 x.part.err, .slice A_subs n_subs c_subs] 36)
  have hnb := box_new hW
  have hbk := heap_alloc_new w (.cells #[.int .i64 x.part.kind, .string x.part.path, .string x.part.data, .slice A_acl n_acl c_acl, .int .i64 x.part.owner, .int .i64 x.part.number, .int .i64 x.part.err, .slice A_subs n_subs c_subs] 36)
  replace hpart := partE_ok.keep hpart ((Kept.refl (fun _ => False) w).alloc (.cells #[.int .i64 x.part.kind, .string x.part.path, .string x.part.data, .slice A_acl n_acl c_acl, .int .i64 x.part.owner, .int .i64 x.part.number, .int .i64 x.part.err, .slice A_subs n_subs c_subs] 36)) (disj_none ok)
  replace hsubs := hsubs.keep partE_ok ((Kept.refl (fun _ => False) w).alloc (.cells #[.int .i64 x.part.kind, .string x.part.path, .string x.part.data, .slice A_acl n_acl c_acl, .int .i64 x.part.owner, .int .i64 x.part.number, .int .i64 x.part.err, .slice A_subs n_subs c_subs] 36)) (disj_none ok)
  replace hi := hi.kept ((Kept.refl (fun _ => False) w).alloc (.cells #[.int .i64 x.part.kind, .string x.part.path, .string x.part.data, .slice A_acl n_acl c_acl, .int .i64 x.part.owner, .int .i64 x.part.number, .int .i64 x.part.err, .slice A_subs n_subs c_subs] 36))
  have hlen : (txnF.lay x).length = (partF.lay x.part).length + ((listF partF).lay x.subs).length := by simp only [txnF, isoF, seqF, List.length_append] <;> omega
  have hl1 : l.length + ((partF.lay x.part).length + ((listF partF).lay x.subs).length) ≤ 144900000000000 := by rw [← hlen]; exact hl
  clear hlen
  clear hl
  go_enter Tryz.func95, Tryz.ntmps95
  go_wp2_with fail
  refine (put_part x.part _ ok _ b _ _ S0.at_ (partE_ok.keep hpart S0.kept hd) (hd.symm.sep hi S0.sep).symm (hi.kept S0.kept) (by omega)).mono ?_
  rintro e w1 h1
  obtain ⟨v1, rfl, S1⟩ := S0.step h1
  clear S0 h1
  have hb1 := S1.blk hbk hnb
  have c1_7 : w1.cell? ⟨w.heap.size, 7, none⟩ = some (.slice A_subs n_subs c_subs) := by simp [World.cell?, hb1]
  clear hb1
  go_wp2_with fail
  refine (putList_part x.subs _ ok _ b _ _ S1.at_ (hsubs.keep partE_ok S1.kept hd) (hd.symm.sep hi S1.sep).symm (hi.kept S1.kept) (by simp only [List.length_append]; omega)).mono ?_
  rintro e w2 h2
  obtain ⟨v2, rfl, S2⟩ := S1.step h2
  clear S1 h2
  go_wp2_with fail
  go_end0
  exact S2.unbox (by simp only [txnF, isoF, seqF, List.append_assoc])

set_option maxRecDepth 100000 in
set_option maxHeartbeats 600000 in
theorem put_entry (x : Entry) (cs : List Value) (ok : Nat → Prop) (w : World) (b : Nat) (v : Value) (l : List UInt8) (hW : WAt w b v l) (hE : entryE w ok cs x) (hd : Disj ok (WS b v)) (hi : In w ok) (hl : l.length + (entryF.lay x).length ≤ 144900000000000) :
    Calls Tryz.prog 57 #[.pointer (some ⟨b, 0, none⟩), .agg cs.toArray] w (WPost w b v (l ++ entryF.lay x)) := by
  obtain ⟨ct, rfl, htxn, hn_zxid, hn_session, hn_xid⟩ := hE
  obtain ⟨A_acl, n_acl, c_acl, A_subs, n_subs, c_subs, rfl⟩ := txnE_cells htxn
  have S0 := WSt.box hW (.cells #[.int .i64 x.zxid, .int .i64 x.session, .int .i64 x.xid, .int .i64 x.txn.part.kind, .string x.txn.part.path, .string x.txn.part.data, .slice A_acl n_acl c_acl, .int .i64 x.txn.part.owner, .int .i64 x.txn.part.number, .int .i64 x.txn.part.err, .slice A_subs n_subs c_subs] 38)
  have hnb := box_new hW
  have hbk := heap_alloc_new w (.cells #[.int .i64 x.zxid, .int .i64 x.session, .int .i64 x.xid, .int .i64 x.txn.part.kind, .string x.txn.part.path, .string x.txn.part.data, .slice A_acl n_acl c_acl, .int .i64 x.txn.part.owner, .int .i64 x.txn.part.number, .int .i64 x.txn.part.err, .slice A_subs n_subs c_subs] 38)
  replace htxn := txnE_ok.keep htxn ((Kept.refl (fun _ => False) w).alloc (.cells #[.int .i64 x.zxid, .int .i64 x.session, .int .i64 x.xid, .int .i64 x.txn.part.kind, .string x.txn.part.path, .string x.txn.part.data, .slice A_acl n_acl c_acl, .int .i64 x.txn.part.owner, .int .i64 x.txn.part.number, .int .i64 x.txn.part.err, .slice A_subs n_subs c_subs] 38)) (disj_none ok)
  replace hi := hi.kept ((Kept.refl (fun _ => False) w).alloc (.cells #[.int .i64 x.zxid, .int .i64 x.session, .int .i64 x.xid, .int .i64 x.txn.part.kind, .string x.txn.part.path, .string x.txn.part.data, .slice A_acl n_acl c_acl, .int .i64 x.txn.part.owner, .int .i64 x.txn.part.number, .int .i64 x.txn.part.err, .slice A_subs n_subs c_subs] 38))
  have hlen : (entryF.lay x).length = (sev (zz x.zxid)).length + (sev (zz x.session)).length + (sev (zz x.xid)).length + (txnF.lay x.txn).length := by simp only [entryF, isoF, seqF, numF, List.length_append] <;> omega
  have hl1 : l.length + ((sev (zz x.zxid)).length + (sev (zz x.session)).length + (sev (zz x.xid)).length + (txnF.lay x.txn).length) ≤ 144900000000000 := by rw [← hlen]; exact hl
  clear hlen
  clear hl
  go_enter Tryz.func57, Tryz.ntmps57
  go_wp2_with fail
  have hcall0 : Calls Tryz.prog 52 #[.pointer (some ⟨b, 0, none⟩), .slice (some ⟨w.heap.size + 1, 0, none⟩) 3 3] ((w.alloc (.cells #[.int .i64 x.zxid, .int .i64 x.session, .int .i64 x.xid, .int .i64 x.txn.part.kind, .string x.txn.part.path, .string x.txn.part.data, .slice A_acl n_acl c_acl, .int .i64 x.txn.part.owner, .int .i64 x.txn.part.number, .int .i64 x.txn.part.err, .slice A_subs n_subs c_subs] 38)).alloc (.cells #[.int .i64 x.zxid, .int .i64 x.session, .int .i64 x.xid] 3)) (WPost ((w.alloc (.cells #[.int .i64 x.zxid, .int .i64 x.session, .int .i64 x.xid, .int .i64 x.txn.part.kind, .string x.txn.part.path, .string x.txn.part.data, .slice A_acl n_acl c_acl, .int .i64 x.txn.part.owner, .int .i64 x.txn.part.number, .int .i64 x.txn.part.err, .slice A_subs n_subs c_subs] 38)).alloc (.cells #[.int .i64 x.zxid, .int .i64 x.session, .int .i64 x.xid] 3)) b v (l ++ layN numF [x.zxid, x.session, x.xid])) :=
    nums_call [x.zxid, x.session, x.xid] _ _ (by simp) b _ _ S0.at_ (by simp only [List.mem_cons, List.not_mem_nil, or_false, forall_eq_or_imp, forall_eq]; exact ⟨hn_zxid, hn_session, hn_xid⟩) (by unfold maxLen; simp only [List.length_cons, List.length_nil]; omega) (by simp only [List.length_append, layN, List.flatMap_cons, List.flatMap_nil, List.append_nil, numF_lay]; omega)
  have HC0 := Lib.hid hcall0; clear hcall0
  refine HC0.out.mono ?_
  rintro e w1 h1
  obtain ⟨v1, rfl, S1⟩ := (S0.alloc _).step h1
  clear S0 h1 HC0
  have hb1 := S1.blk hbk hnb
  have c1_3 : w1.cell? ⟨w.heap.size, 3, none⟩ = some (.int .i64 x.txn.part.kind) := by simp [World.cell?, hb1]
  have c1_4 : w1.cell? ⟨w.heap.size, 4, none⟩ = some (.string x.txn.part.path) := by simp [World.cell?, hb1]
  have c1_5 : w1.cell? ⟨w.heap.size, 5, none⟩ = some (.string x.txn.part.data) := by simp [World.cell?, hb1]
  have c1_6 : w1.cell? ⟨w.heap.size, 6, none⟩ = some (.slice A_acl n_acl c_acl) := by simp [World.cell?, hb1]
  have c1_7 : w1.cell? ⟨w.heap.size, 7, none⟩ = some (.int .i64 x.txn.part.owner) := by simp [World.cell?, hb1]
  have c1_8 : w1.cell? ⟨w.heap.size, 8, none⟩ = some (.int .i64 x.txn.part.number) := by simp [World.cell?, hb1]
  have c1_9 : w1.cell? ⟨w.heap.size, 9, none⟩ = some (.int .i64 x.txn.part.err) := by simp [World.cell?, hb1]
  have c1_10 : w1.cell? ⟨w.heap.size, 10, none⟩ = some (.slice A_subs n_subs c_subs) := by simp [World.cell?, hb1]
  clear hb1
  go_wp2_with fail
  refine (put_txn x.txn _ ok _ b _ _ S1.at_ (txnE_ok.keep htxn S1.kept hd) (hd.symm.sep hi S1.sep).symm (hi.kept S1.kept) (by simp only [List.length_append, layN, List.flatMap_cons, List.flatMap_nil, List.append_nil, numF_lay]; omega)).mono ?_
  rintro e w2 h2
  obtain ⟨v2, rfl, S2⟩ := S1.step h2
  clear S1 h2
  go_wp2_with fail
  go_end0
  exact S2.unbox (by simp only [entryF, isoF, seqF, numF, layN, List.flatMap_cons, List.flatMap_nil, List.append_nil, List.append_assoc])

set_option maxRecDepth 100000 in
theorem putList_entry (xs : List Entry) (sv : Value) (ok : Nat → Prop) (w : World) (b : Nat) (v : Value) (l : List UInt8) (hW : WAt w b v l) (hL : ListR entryE w ok 11 sv xs) (hd : Disj ok (WS b v)) (hi : In w ok) (hl : l.length + ((listF entryF).lay xs).length ≤ 144900000000000) :
    Calls Tryz.prog 56 #[.pointer (some ⟨b, 0, none⟩), sv, .func (.func 57) #[] #[]] w (WPost w b v (l ++ (listF entryF).lay xs)) := by
  obtain ⟨rows, ⟨A, c, rfl, hlc, hm, hat⟩, hlen, hel⟩ := hL
  unfold maxLen at hm
  have hlen1 : rows.length ≤ xs.length := by omega
  have hlen2 : xs.length ≤ rows.length := by omega
  have hfin := (show (listF entryF).lay xs = sev xs.length ++ layN entryF xs from rfl)
  rw [hfin] at hl ⊢
  rw [← hlen] at hl ⊢
  clear hfin hlen
  rw [List.length_append] at hl
  go_enter Tryz.func56, Tryz.ntmps56
  go_wp2_with fail
  refine (wcount_wide rows.length _ b v l hW (by omega) (by omega)).mono ?_
  rintro e w0 h0
  obtain ⟨v0, rfl, S0⟩ := (WSt.start hW).step h0
  clear h0
  go_wp2_with fail
  go_loopw [14] (fun iv wr => PutRelL w b v (l ++ sev rows.length) xs.length (fun k => layN entryF (xs.take k)) iv wr) (fun iv _ => xs.length - (intOf iv).toNat)
  case atStart => exact ⟨0, v0, rfl, Nat.zero_le _, by simpa [layN] using S0⟩
  case round =>
    obtain ⟨k, v1, rfl, hk, S1⟩ := hrel.ex
    clear hrel S0
    by_cases hlt : k < xs.length
    · have hkr : k < rows.length := by omega
      rcases hat with h0 | ⟨g, off, rfl, hok, hg, hc⟩
      · simp [h0.1] at hkr
      have hE := entryE_ok.keep (hel k hlt hkr) S1.kept hd
      have hcell : ∀ j (hj : j < rows[k].length), wr.cell? ⟨g, off + k * 11 + j, none⟩ = some rows[k][j] := fun j hj => by
        rw [← (hc k hkr).2 j hj]; exact World.cell?_of_block (S1.kept.block g hg (hd g hok.1))
      have hle := layN_le (f := entryF) hlt
      have HTK := Lib.hid (layN_take (f := entryF) hlt)
      generalize rows[k] = cs at hcell hE
      generalize xs[k] = x at hle hE HTK
      clear hc hel
      obtain ⟨A_acl, n_acl, c_acl, A_subs, n_subs, c_subs, rfl⟩ := entryE_cells hE
      have c0 : wr.cell? ⟨g, off + k * 11, none⟩ = some (.int .i64 x.zxid) := hcell 0 (by simp)
      have c1 : wr.cell? ⟨g, off + k * 11 + 1, none⟩ = some (.int .i64 x.session) := hcell 1 (by simp)
      have c2 : wr.cell? ⟨g, off + k * 11 + 2, none⟩ = some (.int .i64 x.xid) := hcell 2 (by simp)
      have c3 : wr.cell? ⟨g, off + k * 11 + 3, none⟩ = some (.int .i64 x.txn.part.kind) := hcell 3 (by simp)
      have c4 : wr.cell? ⟨g, off + k * 11 + 4, none⟩ = some (.string x.txn.part.path) := hcell 4 (by simp)
      have c5 : wr.cell? ⟨g, off + k * 11 + 5, none⟩ = some (.string x.txn.part.data) := hcell 5 (by simp)
      have c6 : wr.cell? ⟨g, off + k * 11 + 6, none⟩ = some (.slice A_acl n_acl c_acl) := hcell 6 (by simp)
      have c7 : wr.cell? ⟨g, off + k * 11 + 7, none⟩ = some (.int .i64 x.txn.part.owner) := hcell 7 (by simp)
      have c8 : wr.cell? ⟨g, off + k * 11 + 8, none⟩ = some (.int .i64 x.txn.part.number) := hcell 8 (by simp)
      have c9 : wr.cell? ⟨g, off + k * 11 + 9, none⟩ = some (.int .i64 x.txn.part.err) := hcell 9 (by simp)
      have c10 : wr.cell? ⟨g, off + k * 11 + 10, none⟩ = some (.slice A_subs n_subs c_subs) := hcell 10 (by simp)
      clear hcell
      have hkl : (k : Int) < (rows.length : Int) := by omega
      have hd1 := (hd.symm.sep hi S1.sep).symm
      have hi1 : In wr ok := hi.kept S1.kept
      have hll : (l ++ sev rows.length ++ layN entryF (xs.take k)).length + (entryF.lay x).length ≤ 144900000000000 := by simp only [List.length_append]; omega
      have hcall : ∀ (o : Obj), Calls Tryz.prog 57 #[.pointer (some ⟨b, 0, none⟩), .agg #[.int .i64 x.zxid, .int .i64 x.session, .int .i64 x.xid, .int .i64 x.txn.part.kind, .string x.txn.part.path, .string x.txn.part.data, .slice A_acl n_acl c_acl, .int .i64 x.txn.part.owner, .int .i64 x.txn.part.number, .int .i64 x.txn.part.err, .slice A_subs n_subs c_subs]] (wr.alloc o) (WPost (wr.alloc o) b v1 (l ++ sev rows.length ++ layN entryF (xs.take k) ++ entryF.lay x)) := fun o =>
        put_entry x _ ok _ b v1 _ (S1.alloc o).at_ (entryE_ok.keep hE ((Kept.refl (fun _ => False) wr).alloc o) (disj_none ok)) hd1 (hi1.kept ((Kept.refl (fun _ => False) wr).alloc o)) hll
      have HCALL := Lib.hid hcall
      have HS := Lib.hid (fun (o : Obj) => S1.alloc o)
      clear hcall hE S1 hd1 hi1 hll
      go_wp2_with fail
      refine (HCALL.out _).mono ?_
      rintro e w2 h2
      obtain ⟨v2, rfl, S2⟩ := (HS.out _).step h2
      clear h2 HCALL HS
      go_wp2_with fail
      go_roundw
      case rel => exact ⟨k + 1, v2, rfl, hlt, by rw [HTK.out, ← List.append_assoc]; exact S2⟩
      case measure => simp [intOf]; omega
    · have hkl : ¬ (k : Int) < (rows.length : Int) := by omega
      obtain rfl : k = xs.length := by omega
      go_wp2_with fail
      go_end0
      exact S1.fin (by rw [List.take_length, List.append_assoc])
end Go.Proofs.YtpmemcpfoapjmaaGreat

namespace Go.Proofs.YtpmemcpfoapjmaaGreat
open Go.ChangeShapes Go.WideShapes Go.ChangeAt Go.RowKit
set_option linter.unusedVariables false

def zEntry : Entry := ⟨0, 0, 0, ⟨⟨0, ⟨#[]⟩, ⟨#[]⟩, [], 0, 0, 0⟩, []⟩⟩
theorem zEntry_at (w : World) (ok : Nat → Prop) : entryE w ok [.int .i64 0, .int .i64 0, .int .i64 0, .int .i64 0, .string ⟨#[]⟩, .string ⟨#[]⟩, .slice none 0 0, .int .i64 0, .int .i64 0, .int .i64 0, .slice none 0 0] zEntry := ⟨_, rfl, ⟨_, ⟨_, rfl, ListR.nil _ _ _ _, i64_zero, str_empty, str_empty, i64_zero, i64_zero, i64_zero, ⟨_, _, _, rfl⟩⟩, ListR.nil _ _ _ _⟩, i64_zero, i64_zero, i64_zero⟩

set_option maxRecDepth 100000 in
set_option maxHeartbeats 600000 in
theorem taken_entry (s : ByteArray) (w : World) (hs : s.size ≤ maxLen) :
    Calls Tryz.prog 74 #[.string s, .func (.func 75) #[] #[]] w (TakenPost entryE zEntry w (entryF.read s)) := by
  have hsz : (Tryz.prog.info? 38).map (·.size) = some 11 := by kernel_rfl
  have HSZ := Lib.hid hsz; clear hsz
  obtain ⟨x, q, e', hget⟩ : ∃ x q e', entryF.get s.data.toList 0 0 = (x, q, e') := ⟨_, _, _, eta3 _⟩
  have hread : entryF.read s = if rEndE s.data.toList.length q e' = 0 then some x else none := by unfold Fmt.read; rw [hget]
  generalize entryF.read s = ro at hread ⊢
  have HGET := Lib.hid hget; clear hget
  have HREAD := Lib.hid hread; clear hread
  go_enter Tryz.func74, Tryz.ntmps74
  go_wp2_with fail
  refine (read_any s _ hs).mono ?_
  rintro en w1 ⟨b, v, rfl, hR, hb, hv, hk1⟩
  have hge : w.heap.size + 1 ≤ b := by simpa using hb
  go_wp2_with fail
  refine (get_entry _ b v _ _ _ hR HGET.out).mono ?_
  rintro en w2 ⟨cs, rfl, hE2, hR2, hk2⟩
  have hfl := entryE_flat hE2
  have HFL := Lib.hid hfl.1
  have HF1 := Lib.hid hfl.2
  have hR3 := hR2.alloc (.cells cs.toArray 38)
  have HHR := Lib.hid (⟨hR, hk1, hge, hk2⟩ : RAt w1 b v s.data.toList 0 0 ∧ Kept (fun _ => False) (w.alloc (.cells #[.int .i64 0, .int .i64 0, .int .i64 0, .int .i64 0, .string ⟨#[]⟩, .string ⟨#[]⟩, .slice none 0 0, .int .i64 0, .int .i64 0, .int .i64 0, .slice none 0 0] 38)) w1 ∧ w.heap.size + 1 ≤ b ∧ Kept (RS b) w1 w2)
  clear hR hk1 hge hk2 hb hv hR2 hfl
  go_wp2_with (refine wpList_store_new w2 rfl 38 _ (.tmp 13) rfl _ cs rfl rfl (by rw [HFL.out]; exact HSZ.out) HFL.out.symm HF1.out ?_)
  refine (rend_e _ b v _ _ _ hR3).mono ?_
  rintro en w4 ⟨rfl, hR4, hk4⟩
  have st : TakenSt w w1 w2 w4 b v s.data.toList 38 #[.int .i64 0, .int .i64 0, .int .i64 0, .int .i64 0, .string ⟨#[]⟩, .string ⟨#[]⟩, .slice none 0 0, .int .i64 0, .int .i64 0, .int .i64 0, .slice none 0 0] cs := ⟨HHR.out.1, HHR.out.2.1, HHR.out.2.2.1, HHR.out.2.2.2, hk4⟩
  have HRES := Lib.hid st.res
  have HBOX := Lib.hid (range_row st.box)
  have HO := Lib.hid st.old
  have HREL := Lib.hid (st.rel entryE_ok hE2)
  clear st HHR hR3 hR4 hk4 hE2
  by_cases h0 : rEndE s.data.toList.length q e' = 0
  · have hrd : ro = some x := by rw [HREAD.out, if_pos h0]
    have HRD := Lib.hid hrd; clear hrd
    have h0' : ((rEndE s.data.toList.length q e' : Nat) : Int) = 0 := by omega
    generalize ((rEndE s.data.toList.length q e' : Nat) : Int) = r at h0'
    subst h0'
    clear h0
    go_wp2_with (first | (refine wpList_load_mid rfl 38 (.tmp 7) rfl w2.heap.size 0 rfl cs _ HBOX.out Tryz.underlying38 rfl (by rw [HFL.out]; exact HSZ.out) ?_) | (refine wpList_store_row _ rfl 38 _ _ rfl w.heap.size _ cs rfl rfl HRES.out (by rw [HFL.out]; exact HSZ.out) HFL.out.symm HF1.out ?_))
    have hrow := setRow_heap w4 w.heap.size _ cs.toArray _ _ HRES.out
    have hload := run_loadVar_row (P := Tryz.prog) _ w.heap.size 38 38 _ (0, 0) _ hrow Tryz.underlying38 rfl (by rw [List.size_toArray, HFL.out]; exact HSZ.out)
    exact ret_cell_tmp 4 38 5 w.heap.size _ _ Tryz.results74 rfl rfl hload rfl ⟨cs, by rw [HRD.out]; rfl, old_setRow HO.out _, by rw [HRD.out]; exact HREL.out _⟩
  · have hrd : ro = none := by rw [HREAD.out, if_neg h0]
    have HRD := Lib.hid hrd; clear hrd
    have h0' : ¬ ((rEndE s.data.toList.length q e' : Nat) : Int) = 0 := by omega
    generalize ((rEndE s.data.toList.length q e' : Nat) : Int) = r at h0'
    clear h0
    have hA : Old w4 (w4.alloc (.cells #[.int .i64 0, .int .i64 0, .int .i64 0, .int .i64 0, .string ⟨#[]⟩, .string ⟨#[]⟩, .slice none 0 0, .int .i64 0, .int .i64 0, .int .i64 0, .slice none 0 0] 38)) := (Kept.refl _ w4).alloc _
    have HR5 : Hid ((w4.alloc (.cells #[.int .i64 0, .int .i64 0, .int .i64 0, .int .i64 0, .string ⟨#[]⟩, .string ⟨#[]⟩, .slice none 0 0, .int .i64 0, .int .i64 0, .int .i64 0, .slice none 0 0] 38)).heap[w.heap.size]? = some (.cells #[.int .i64 0, .int .i64 0, .int .i64 0, .int .i64 0, .string ⟨#[]⟩, .string ⟨#[]⟩, .slice none 0 0, .int .i64 0, .int .i64 0, .int .i64 0, .slice none 0 0] 38 (0, 0))) := by rw [hA.block _ (lt_of_block HRES.out) id]; exact HRES.out
    obtain ⟨zl, hzl⟩ : ∃ zl : List Value, zl = [.int .i64 0, .int .i64 0, .int .i64 0, .int .i64 0, .string ⟨#[]⟩, .string ⟨#[]⟩, .slice none 0 0, .int .i64 0, .int .i64 0, .int .i64 0, .slice none 0 0] := ⟨_, rfl⟩
    have HRN : Hid ((w4.alloc (.cells #[.int .i64 0, .int .i64 0, .int .i64 0, .int .i64 0, .string ⟨#[]⟩, .string ⟨#[]⟩, .slice none 0 0, .int .i64 0, .int .i64 0, .int .i64 0, .slice none 0 0] 38)).rangeAt w4.heap.size 0 zl) := by rw [hzl]; exact range_new w4 [.int .i64 0, .int .i64 0, .int .i64 0, .int .i64 0, .string ⟨#[]⟩, .string ⟨#[]⟩, .slice none 0 0, .int .i64 0, .int .i64 0, .int .i64 0, .slice none 0 0] 38
    have HZE : Hid (∀ (W : World) (ok : Nat → Prop), entryE W ok zl zEntry) := by rw [hzl]; exact zEntry_at
    have hzf : Flat 11 zl := entryE_flat (HZE.out w (fun _ => False))
    have HZL := Lib.hid hzf.1
    have HZ1 := Lib.hid hzf.2
    clear hzl hzf
    have HO5 := Lib.hid (HO.out.none hA)
    clear hA HREL
    go_wp2_with (first | (refine wpList_load_mid rfl 38 (.tmp 8) rfl w4.heap.size 0 rfl zl _ HRN.out Tryz.underlying38 rfl (by rw [HZL.out]; exact HSZ.out) ?_) | (refine wpList_store_row _ rfl 38 _ _ rfl w.heap.size _ zl rfl rfl HR5.out (by rw [HZL.out]; exact HSZ.out) HZL.out.symm HZ1.out ?_))
    have hrow := setRow_heap (w4.alloc (.cells #[.int .i64 0, .int .i64 0, .int .i64 0, .int .i64 0, .string ⟨#[]⟩, .string ⟨#[]⟩, .slice none 0 0, .int .i64 0, .int .i64 0, .int .i64 0, .slice none 0 0] 38)) w.heap.size _ zl.toArray _ _ HR5.out
    have hload := run_loadVar_row (P := Tryz.prog) _ w.heap.size 38 38 _ (0, 0) _ hrow Tryz.underlying38 rfl (by rw [List.size_toArray, HZL.out]; exact HSZ.out)
    exact ret_cell_tmp 4 38 5 w.heap.size _ _ Tryz.results74 rfl rfl hload rfl ⟨_, by rw [HRD.out]; rfl, old_setRow HO5.out _, by rw [HRD.out]; exact HZE.out _ _⟩

set_option maxRecDepth 100000 in
theorem GetEntry_any (s : ByteArray) (w : World) (hs : s.size ≤ maxLen) :
    Calls Tryz.prog 31 #[.string s] w (TakenPost entryE zEntry w (entryF.read s)) := by
  have hsz : (Tryz.prog.info? 38).map (·.size) = some 11 := by kernel_rfl
  have HSZ := Lib.hid hsz; clear hsz
  have hbk := heap_alloc_new w (.cells #[.int .i64 0, .int .i64 0, .int .i64 0, .int .i64 0, .string ⟨#[]⟩, .string ⟨#[]⟩, .slice none 0 0, .int .i64 0, .int .i64 0, .int .i64 0, .slice none 0 0] 38)
  have hA : Old w (w.alloc (.cells #[.int .i64 0, .int .i64 0, .int .i64 0, .int .i64 0, .string ⟨#[]⟩, .string ⟨#[]⟩, .slice none 0 0, .int .i64 0, .int .i64 0, .int .i64 0, .slice none 0 0] 38)) := (Kept.refl _ w).alloc _
  go_enter Tryz.func31, Tryz.ntmps31
  go_wp2_with fail
  refine (taken_entry s _ hs).mono ?_
  rintro en w1 ⟨cs, rfl, hO1, hE1⟩
  have hfl := entryE_flat hE1
  have HFL := Lib.hid hfl.1
  have HF1 := Lib.hid hfl.2
  have HRES : Hid (w1.heap[w.heap.size]? = some (.cells #[.int .i64 0, .int .i64 0, .int .i64 0, .int .i64 0, .string ⟨#[]⟩, .string ⟨#[]⟩, .slice none 0 0, .int .i64 0, .int .i64 0, .int .i64 0, .slice none 0 0] 38 (0, 0))) := by rw [hO1.block _ (lt_of_block hbk) id]; exact hbk
  have HO := Lib.hid (hA.none hO1)
  have HE := Lib.hid (fun c => fin_E entryE_ok (w := w) hE1 (by simp) c)
  clear hbk hA hfl hO1 hE1
  go_wp2_with (refine wpList_store_row _ rfl 38 _ _ rfl w.heap.size _ cs rfl rfl HRES.out (by rw [HFL.out]; exact HSZ.out) HFL.out.symm HF1.out ?_)
  have hrow := setRow_heap w1 w.heap.size _ cs.toArray _ _ HRES.out
  have hload := run_loadVar_row (P := Tryz.prog) _ w.heap.size 38 38 _ (0, 0) _ hrow Tryz.underlying38 rfl (by rw [List.size_toArray, HFL.out]; exact HSZ.out)
  exact ret_cell_tmp 2 38 3 w.heap.size _ _ Tryz.results31 rfl rfl hload rfl ⟨cs, rfl, old_setRow HO.out _, HE.out _⟩

end Go.Proofs.YtpmemcpfoapjmaaGreat

namespace Go.Proofs.YtpmemcpfoapjmaaGreat
open Go.ChangeShapes Go.WideShapes Go.ChangeAt Go.RowKit
set_option linter.unusedVariables false

set_option maxRecDepth 100000 in
set_option maxHeartbeats 1600000 in
theorem refget_entry (s : ByteArray) (w : World) (hs : s.size ≤ 140737488355328) :
    Calls Tryz.prog 30 #[.string s] w (TakenPost entryE zEntry w (entryF.read s)) := by
  have HSZ := Lib.hid (show (Tryz.prog.info? 38).map (·.size) = some 11 by kernel_rfl)
  obtain ⟨x, q, e, g1⟩ : ∃ aa qq ee, entryF.get s.data.toList 0 0 = (aa, qq, ee) := ⟨_, _, _, eta3 _⟩
  have hread : entryF.read s = if rEndE s.data.toList.length q e = 0 then some x else none := by unfold Fmt.read; rw [g1]
  rw [str_len] at hread
  generalize entryF.read s = ro at hread ⊢
  have HREAD := Lib.hid hread; clear hread
  have KE := Lib.hid (fend_of s q e)
  have HE0 := Lib.hid (show rEndE s.size q e = 0 → e = 0 from fun h => (rEndE_zero h).1)
  generalize hr : rEndE s.size q e = r at HREAD KE HE0
  clear hr
  have hW : FAt ((w.alloc (.cells ([.int .i64 0, .int .i64 0, .int .i64 0, .int .i64 0, .string ⟨#[]⟩, .string ⟨#[]⟩, .slice none 0 0, .int .i64 0, .int .i64 0, .int .i64 0, .slice none 0 0] : List Value).toArray 38)).alloc (.cells #[.string s, .int .i64 0, .int .i64 0] 111)) (w.heap.size + 1) s 0 0 := by
    have h := fresh_reader (w.alloc (.cells ([.int .i64 0, .int .i64 0, .int .i64 0, .int .i64 0, .string ⟨#[]⟩, .string ⟨#[]⟩, .slice none 0 0, .int .i64 0, .int .i64 0, .int .i64 0, .slice none 0 0] : List Value).toArray 38)) s hs
    rwa [show (w.alloc (.cells ([.int .i64 0, .int .i64 0, .int .i64 0, .int .i64 0, .string ⟨#[]⟩, .string ⟨#[]⟩, .slice none 0 0, .int .i64 0, .int .i64 0, .int .i64 0, .slice none 0 0] : List Value).toArray 38)).heap.size = w.heap.size + 1 from by simp] at h
  have hb0 : ((w.alloc (.cells ([.int .i64 0, .int .i64 0, .int .i64 0, .int .i64 0, .string ⟨#[]⟩, .string ⟨#[]⟩, .slice none 0 0, .int .i64 0, .int .i64 0, .int .i64 0, .slice none 0 0] : List Value).toArray 38)).alloc (.cells #[.string s, .int .i64 0, .int .i64 0] 111)).heap[w.heap.size]? = some (.cells ([.int .i64 0, .int .i64 0, .int .i64 0, .int .i64 0, .string ⟨#[]⟩, .string ⟨#[]⟩, .slice none 0 0, .int .i64 0, .int .i64 0, .int .i64 0, .slice none 0 0] : List Value).toArray 38 (0, 0)) := by
    rw [((Old.refl (w.alloc (.cells ([.int .i64 0, .int .i64 0, .int .i64 0, .int .i64 0, .string ⟨#[]⟩, .string ⟨#[]⟩, .slice none 0 0, .int .i64 0, .int .i64 0, .int .i64 0, .slice none 0 0] : List Value).toArray 38))).make _).block _ (by simp) id]; exact heap_alloc_new w _
  have hO0 : Old w ((w.alloc (.cells ([.int .i64 0, .int .i64 0, .int .i64 0, .int .i64 0, .string ⟨#[]⟩, .string ⟨#[]⟩, .slice none 0 0, .int .i64 0, .int .i64 0, .int .i64 0, .slice none 0 0] : List Value).toArray 38)).alloc (.cells #[.string s, .int .i64 0, .int .i64 0] 111)) := ((Old.refl w).make _).make _
  have hs0 : w.heap.size + 2 ≤ ((w.alloc (.cells ([.int .i64 0, .int .i64 0, .int .i64 0, .int .i64 0, .string ⟨#[]⟩, .string ⟨#[]⟩, .slice none 0 0, .int .i64 0, .int .i64 0, .int .i64 0, .slice none 0 0] : List Value).toArray 38)).alloc (.cells #[.string s, .int .i64 0, .int .i64 0] 111)).heap.size := by simp
  have K1 := Lib.hid (reftake_entry _ _ s 0 0 0 hW (fun _ => rfl) g1)
  have HB := Lib.hid hb0; clear hb0
  have HO := Lib.hid hO0; clear hO0
  have HS0 := Lib.hid hs0; clear hs0
  clear hW g1
  go_enter Tryz.func30, Tryz.ntmps30
  go_wp2_with fail
  refine K1.out.mono ?_
  rintro en w0 ⟨cs, p0, rfl, hfl, hnl, hE0, hF0, hp0, hk0⟩
  have hA : Kept (fun _ => False) w0 (w0.alloc (.cells cs.toArray 38)) := (Kept.refl _ w0).alloc _
  have hz0 := Nat.le_trans HS0.out hk0.size
  have hbr : w0.heap[w.heap.size]? = some (.cells ([.int .i64 0, .int .i64 0, .int .i64 0, .int .i64 0, .string ⟨#[]⟩, .string ⟨#[]⟩, .slice none 0 0, .int .i64 0, .int .i64 0, .int .i64 0, .slice none 0 0] : List Value).toArray 38 (0, 0)) := (hk0.block _ (lt_of_block HB.out) (fun h => by have h' : w.heap.size = w.heap.size + 1 := h; omega)).trans HB.out
  have hbr1 := (hA.block _ (lt_of_block hbr) id).trans hbr
  have hO1 : Old w w0 := HO.out.step hk0 (fun k h => by have h' : k = w.heap.size + 1 := h; omega)
  have hO2 := hO1.none hA
  have hF1 := hF0.keep hA id
  have hbox := heap_alloc_new w0 (.cells cs.toArray 38)
  have hE1 : WkE e entryE (w0.alloc (.cells cs.toArray 38)) (fun j => w.heap.size + 2 ≤ j ∧ j ≠ w0.heap.size) cs x :=
    (WkE_ok entryE_ok).keep ((WkE_ok entryE_ok).mono hE0 (fun j hj hj' => ⟨Nat.le_trans HS0.out hj', by omega⟩)) hA (disj_none _)
  have HFL := Lib.hid hfl
  have HP0 := Lib.hid hp0
  clear hk0 hbr hO1 hF0 hE0 hfl hp0 hnl hA K1 HB HO HS0
  go_wp2_with (refine wpList_store_new w0 rfl 38 _ _ rfl _ cs rfl rfl (by rw [HFL.out.1]; exact HSZ.out) HFL.out.1.symm HFL.out.2 ?_)
  refine (KE.out _ _ _ hF1 HP0.out).mono ?_
  rintro en wz ⟨pz, rfl, hFz, hpz, hkz⟩
  have HBX := Lib.hid ((hkz.block _ (lt_of_block hbox) (fun h => by have h' : w0.heap.size = w.heap.size + 1 := h; omega)).trans hbox)
  have HRES := Lib.hid ((hkz.block _ (lt_of_block hbr1) (fun h => by have h' : w.heap.size = w.heap.size + 1 := h; omega)).trans hbr1)
  have HOZ := Lib.hid (hO2.step hkz (fun k h => by have h' : k = w.heap.size + 1 := h; omega))
  have HEZ := Lib.hid ((WkE_ok entryE_ok).keep hE1 hkz (fun j hj hs => by have := hj.1; have hs' : j = w.heap.size + 1 := hs; omega))
  clear hkz hpz hFz hF1 hbox hbr1 hO2 hE1 HP0 KE
  by_cases h0 : r = 0
  · have hrd : ro = some x := by rw [HREAD.out, if_pos h0]
    have HRD := Lib.hid hrd; clear hrd
    have HEE := Lib.hid (HE0.out h0)
    have h0' : ((r : Nat) : Int) = 0 := by omega
    generalize ((r : Nat) : Int) = ri at h0'
    subst h0'
    clear h0 HREAD HE0
    have HRG := Lib.hid (range_row HBX.out)
    have HSE2 := Lib.hid (info_len HSZ.out HFL.out.1)
    go_wp2_with (first
      | (refine wpList_load_mid rfl 38 (.tmp 5) rfl w0.heap.size 0 rfl cs _ HRG.out Tryz.underlying38 rfl HSE2.out ?_)
      | (refine wpList_store_row _ rfl 38 (.tmp 2) (.tmp 15) rfl w.heap.size _ cs rfl rfl HRES.out HSE2.out HFL.out.1.symm HFL.out.2 ?_))
    have hrow := setRow_heap wz w.heap.size _ cs.toArray _ _ HRES.out
    have hload := run_loadVar_row (P := Tryz.prog) _ w.heap.size 38 38 _ (0, 0) _ hrow Tryz.underlying38 rfl (by rw [List.size_toArray]; exact HSE2.out)
    refine ret_cell_tmp 2 38 3 w.heap.size _ _ Tryz.results30 rfl rfl hload rfl ⟨_, by rw [HRD.out]; rfl, old_setRow HOZ.out _, ?_⟩
    rw [HRD.out]
    exact entryE_ok.mono (entryE_ok.keep (HEZ.out HEE.out) (setRow_kept wz w.heap.size cs.toArray) (fun j hj hs => by have := hj.1; have hs' : j = w.heap.size := hs; omega)) (fun j _ hj => by have := hj.1; unfold New; omega)
  · have hrd : ro = none := by rw [HREAD.out, if_neg h0]
    have HRD := Lib.hid hrd; clear hrd
    have h0' : ¬ ((r : Nat) : Int) = 0 := by omega
    generalize ((r : Nat) : Int) = ri at h0'
    clear h0 HREAD HE0
    go_wp2_with (refine wpList_store_row _ rfl 38 _ _ rfl w.heap.size _ [.int .i64 0, .int .i64 0, .int .i64 0, .int .i64 0, .string ⟨#[]⟩, .string ⟨#[]⟩, .slice none 0 0, .int .i64 0, .int .i64 0, .int .i64 0, .slice none 0 0] rfl rfl HRES.out HSZ.out rfl (by simp [Value.oneCell']) ?_)
    have hrow := setRow_heap wz w.heap.size _ ([.int .i64 0, .int .i64 0, .int .i64 0, .int .i64 0, .string ⟨#[]⟩, .string ⟨#[]⟩, .slice none 0 0, .int .i64 0, .int .i64 0, .int .i64 0, .slice none 0 0] : List Value).toArray _ _ HRES.out
    have hload := run_loadVar_row (P := Tryz.prog) _ w.heap.size 38 38 _ (0, 0) _ hrow Tryz.underlying38 rfl (by rw [List.size_toArray]; exact HSZ.out)
    exact ret_cell_tmp 2 38 3 w.heap.size _ _ Tryz.results30 rfl rfl hload rfl ⟨_, by rw [HRD.out]; rfl, old_setRow HOZ.out _, by rw [HRD.out]; exact zEntry_at _ _⟩
end Go.Proofs.YtpmemcpfoapjmaaGreat
