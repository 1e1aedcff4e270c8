/- The document's own answers of layer 2: a list of texts, taken up. An op, an armed, lists of them, laid. A request, laid. A message, laid. A request, taken up. A message, taken up. -/
import Derived.Test.YtpmemcpfoapjmaaGreatV10
import Derived.Test.YtpmemcpfoapjmaaGreatV14
import Derived.Test.YtpmemcpfoapjmaaGreatV15
namespace Go.Proofs.YtpmemcpfoapjmaaGreat
open Go.ChangeShapes Go.WideShapes Go.ChangeAt Go.RowKit
set_option linter.unusedVariables false

set_option maxRecDepth 100000 in
set_option maxHeartbeats 800000 in
theorem reftake_texts (w : World) (b : Nat) (s : ByteArray) (p pos e : Nat) (hF : FAt w b s p e) (hp : e = 0 → p = pos) {xs : List ByteArray} {q e' : Nat} (h : (listF (textF 4096)).get s.data.toList pos e = (xs, q, e')) :
    Calls Tryz.prog 70 #[.pointer (some ⟨b, 0, none⟩)] w (FLPost textE 1 w b s xs q e') := by
  obtain ⟨i0, hi, hz0, hz1, hz2⟩ := info_parts info_text
  have hcl := rCount_le s.data.toList 256 pos e
  rcases h1 : rCount s.data.toList 256 pos e with ⟨n, p1, e1⟩
  have HCC := Lib.hid (refcnt_any w b s p pos e hF hp h1)
  rw [h1] at hcl
  simp only [listF, h1] at h hcl
  have HH := Lib.hid h; clear h
  have HZ1 := Lib.hid hz1; clear hz1
  have HZ2 := Lib.hid hz2; clear hz2
  have HZ0 := Lib.hid hz0; clear hz0
  have HI := Lib.hid hi; clear hi
  clear h1 hp
  have hn : n ≤ 256 := by omega
  clear hcl
  have hbw := lt_of_block hF.at_
  clear hF
  go_enter Tryz.func70, Tryz.ntmps70
  go_wp2_with fail
  refine HCC.out.mono ?_
  rintro en w0 ⟨p0, rfl, hF0, hp0, hk0⟩
  have HP0 := Lib.hid hp0; clear hp0
  go_wp2_with fail
  go_loopw [3, 5] (fun acc iv wr => FGetRel textE (textF 4096) w b s 9 1 n p1 e1 acc iv wr) (fun _ iv _ => n - (intOf iv).toNat)
  case atStart => exact ⟨0, p0, rfl, Nat.zero_le _, AccR.nil _ _ _ _ _, hF0, HP0.out, hk0⟩
  case round =>
    obtain ⟨k, pk, rfl, hkn, hacc, hFk, hpk, hK⟩ := hrel.ex
    clear hrel HCC hF0 hk0 HP0
    have c2 := hFk.c2
    by_cases hlt : k < n
    · have hkl : (k : Int) < (n : Int) := by omega
      by_cases hz : (getN (textF 4096).get k s.data.toList p1 e1).2.2 = 0
      · rcases hgn : getN (textF 4096).get k s.data.toList p1 e1 with ⟨ys, qk, ek⟩
        have hlen := getN_len ((textF 4096)).get k s.data.toList p1 e1
        have hsn := getN_snoc ((textF 4096)).get k s.data.toList p1 e1
        rw [hgn] at hacc hFk hpk c2 hz hlen hsn
        simp only at hacc hFk hpk c2 hz hlen hsn
        subst hz
        rcases g2 : (textF 4096).get s.data.toList qk 0 with ⟨a2, qb, eb⟩
        rw [g2] at hsn
        simp only at hsn
        have i2 : Str a2 := text_fit (by decide) g2
        have K2 := Lib.hid (ftext_of (by decide) g2)
        have HSN := Lib.hid hsn
        have HPK := Lib.hid hpk
        clear hgn g2 hsn hpk
        go_wp2_with fail
        refine (K2.out _ _ _ hFk HPK.out).mono ?_
        rintro en w2 ⟨pb, rfl, hFb, hpb, hka2⟩
        have HPB := Lib.hid hpb; clear hpb
        have hacc1 := (hacc.keep (WkE_ok textE_ok) hka2 (fun g hg hs => by have hs' : g = b := hs; have hg' : w.heap.size ≤ g := hg; omega)).weak (e' := eb) (fun _ => rfl)
        have hE2 : WkE eb textE w2 (fun g => w.heap.size ≤ g ∧ some g ≠ u3.ownBlock) [.string a2] a2 := fun _ => ⟨rfl, i2⟩
        have hfl : Flat 1 [Value.string a2] := ⟨rfl, by simp [Value.oneCell']⟩
        have hwl : w.heap.size ≤ w2.heap.size := Nat.le_trans hK.size hka2.size
        have hK1 := hK.trans hka2
        clear hacc hK hka2 hFk K2 c2 HPK
        go_wp2_with (first | (refine wpList_one rfl 29 9 (.tmp 24) rfl (.string a2) [.string a2] rfl rfl i0 _ Tryz.underlying29 HI.out HZ0.out (by rw [HZ1.out]; rfl) (by decide) (by decide) ?_) | (at_builtin; go_loud (refine wpList_push (WkE_ok textE_ok) w w2 rfl (.tmp 23) (.tmp 25) 29 rfl 9 i0 _ 1 16 Tryz.underlying29 HI.out HZ0.out HZ1.out HZ2.out rfl (by decide) u3 _ hacc1 _ _ hE2 hfl rfl rfl (by omega) (by decide) hwl ?_); intro v' w' hacc' hk'))
        go_roundw
        case rel => exact ⟨k + 1, pb, by go_num, hlt, by rw [HSN.out]; exact hacc', by rw [HSN.out]; exact hFb.keep hk' (fun hs => by have hs' : w.heap.size ≤ b := hs; omega), by rw [HSN.out]; exact HPB.out, Kept.trans' hK1 hk' (fun g hg hs => by have hs' : w.heap.size ≤ g := hs; omega)⟩
        case measure => simp [intOf]; omega
      · have hne : (((getN (textF 4096).get k s.data.toList p1 e1).2.2 : Nat) : Int) ≠ 0 := by omega
        have hfin : e' ≠ 0 := by
          have h2 := getN_wrong (textF_ok (by decide)) hkn hz
          rw [HH.out] at h2
          simp only at h2
          omega
        have hee : (getN (textF 4096).get k s.data.toList p1 e1).2.2 = e' := by
          have h2 := getN_wrong (textF_ok (by decide)) hkn hz
          rw [HH.out] at h2
          exact h2.symm
        have hsl := hacc.isSl
        rw [hee] at hFk c2 hne
        have HSL := Lib.hid hsl
        clear hacc hpk hz hee hsl HH
        have hneb : (((e' : Nat) : Int) == 0) = false := by simpa using hne
        go_wp2_with fail
        go_ret
        exact ⟨_, pk, rfl, HSL.out, fun h0 => absurd h0 hfin, hFk, fun h0 => absurd h0 hfin, hK⟩
    · have hkl : ¬ (k : Int) < (n : Int) := by omega
      obtain rfl : k = n := by omega
      have hlist := hacc.list (WkE_ok textE_ok)
      have hsl := hacc.isSl
      rw [HH.out] at hlist hFk hpk c2
      have HL := Lib.hid hlist.weak
      have HSL := Lib.hid hsl
      have HPK := Lib.hid hpk
      clear hacc hlist hpk hsl HH
      go_wp2_with fail
      go_ret
      exact ⟨_, pk, rfl, HSL.out, HL.out, hFk, HPK.out, hK⟩
end Go.Proofs.YtpmemcpfoapjmaaGreat

namespace Go.Proofs.YtpmemcpfoapjmaaGreat
open Go.ChangeShapes Go.WideShapes Go.ChangeAt Go.RowKit
set_option linter.unusedVariables false

set_option maxRecDepth 100000 in
set_option maxHeartbeats 600000 in
theorem put_oper1 (x : Oper1) (cs : List Value) (ok : Nat → Prop) (w : World) (b : Nat) (v : Value) (l : List UInt8) (hW : WAt w b v l) (hE : oper1E w ok cs x) (hd : Disj ok (WS b v)) (hi : In w ok) (hl : l.length + (oper1F.lay x).length ≤ 144900000000000) :
    Calls Tryz.prog 96 #[.pointer (some ⟨b, 0, none⟩), .agg cs.toArray] w (WPost w b v (l ++ oper1F.lay x)) := by
  obtain ⟨vsubs, varmed, vacl, rfl, hacl, hn_kind, hn_xid, hs_path, hs_data, hn_flags, hn_version, gsubs, garmed⟩ := hE
  obtain ⟨A_acl, n_acl, c_acl, rfl⟩ := hacl.shape
  obtain ⟨A_subs, n_subs, c_subs, rfl⟩ := gsubs
  obtain ⟨A_armed, n_armed, c_armed, rfl⟩ := garmed
  have S0 := WSt.box hW (.cells #[.int .i64 x.kind, .int .i64 x.xid, .string x.path, .string x.data, .slice A_acl n_acl c_acl, .int .i64 x.flags, .int .i64 x.version, .bool x.watch, .slice A_subs n_subs c_subs, .slice A_armed n_armed c_armed] 28)
  have hnb := box_new hW
  have hbk := heap_alloc_new w (.cells #[.int .i64 x.kind, .int .i64 x.xid, .string x.path, .string x.data, .slice A_acl n_acl c_acl, .int .i64 x.flags, .int .i64 x.version, .bool x.watch, .slice A_subs n_subs c_subs, .slice A_armed n_armed c_armed] 28)
  replace hacl := hacl.keep aclE_ok ((Kept.refl (fun _ => False) w).alloc (.cells #[.int .i64 x.kind, .int .i64 x.xid, .string x.path, .string x.data, .slice A_acl n_acl c_acl, .int .i64 x.flags, .int .i64 x.version, .bool x.watch, .slice A_subs n_subs c_subs, .slice A_armed n_armed c_armed] 28)) (disj_none ok)
  replace hi := hi.kept ((Kept.refl (fun _ => False) w).alloc (.cells #[.int .i64 x.kind, .int .i64 x.xid, .string x.path, .string x.data, .slice A_acl n_acl c_acl, .int .i64 x.flags, .int .i64 x.version, .bool x.watch, .slice A_subs n_subs c_subs, .slice A_armed n_armed c_armed] 28))
  have hlen : (oper1F.lay x).length = (sev (zz x.kind)).length + (sev (zz x.xid)).length + ((sev x.path.size).length + x.path.size) + ((sev x.data.size).length + x.data.size) + ((listF aclF).lay x.acl).length + (sev (zz x.flags)).length + (sev (zz x.version)).length + 1 := by simp only [oper1F, isoF, seqF, numF, textF, flagF, List.length_append, str_len, List.length_cons, List.length_nil] <;> omega
  have hl1 : l.length + ((sev (zz x.kind)).length + (sev (zz x.xid)).length + ((sev x.path.size).length + x.path.size) + ((sev x.data.size).length + x.data.size) + ((listF aclF).lay x.acl).length + (sev (zz x.flags)).length + (sev (zz x.version)).length + 1) ≤ 144900000000000 := by rw [← hlen]; exact hl
  clear hlen
  clear hl
  go_enter Tryz.func96, Tryz.ntmps96
  go_wp2_with fail
  have hcall0 : Calls Tryz.prog 52 #[.pointer (some ⟨b, 0, none⟩), .slice (some ⟨w.heap.size + 1, 0, none⟩) 2 2] ((w.alloc (.cells #[.int .i64 x.kind, .int .i64 x.xid, .string x.path, .string x.data, .slice A_acl n_acl c_acl, .int .i64 x.flags, .int .i64 x.version, .bool x.watch, .slice A_subs n_subs c_subs, .slice A_armed n_armed c_armed] 28)).alloc (.cells #[.int .i64 x.kind, .int .i64 x.xid] 3)) (WPost ((w.alloc (.cells #[.int .i64 x.kind, .int .i64 x.xid, .string x.path, .string x.data, .slice A_acl n_acl c_acl, .int .i64 x.flags, .int .i64 x.version, .bool x.watch, .slice A_subs n_subs c_subs, .slice A_armed n_armed c_armed] 28)).alloc (.cells #[.int .i64 x.kind, .int .i64 x.xid] 3)) b v (l ++ layN numF [x.kind, x.xid])) :=
    nums_call [x.kind, x.xid] _ _ (by simp) b _ _ S0.at_ (by simp only [List.mem_cons, List.not_mem_nil, or_false, forall_eq_or_imp, forall_eq]; exact ⟨hn_kind, hn_xid⟩) (by unfold maxLen; simp only [List.length_cons, List.length_nil]; omega) (by simp only [List.length_append, layN, List.flatMap_cons, List.flatMap_nil, List.append_nil, numF_lay]; omega)
  have HC0 := Lib.hid hcall0; clear hcall0
  refine HC0.out.mono ?_
  rintro e w1 h1
  obtain ⟨v1, rfl, S1⟩ := (S0.alloc _).step h1
  clear S0 h1 HC0
  have hb1 := S1.blk hbk hnb
  have c1_2 : w1.cell? ⟨w.heap.size, 2, none⟩ = some (.string x.path) := by simp [World.cell?, hb1]
  clear hb1
  go_wp2_with fail
  refine (wtext_wide x.path _ b _ _ S1.at_ hs_path (by simp only [List.length_append, layN, List.flatMap_cons, List.flatMap_nil, List.append_nil, numF_lay]; omega)).mono ?_
  rintro e w2 h2
  obtain ⟨v2, rfl, S2⟩ := S1.step h2
  clear S1 h2
  have hb2 := S2.blk hbk hnb
  have c2_3 : w2.cell? ⟨w.heap.size, 3, none⟩ = some (.string x.data) := by simp [World.cell?, hb2]
  clear hb2
  go_wp2_with fail
  refine (wtext_wide x.data _ b _ _ S2.at_ hs_data (by simp only [List.length_append, layN, List.flatMap_cons, List.flatMap_nil, List.append_nil, numF_lay, str_len]; omega)).mono ?_
  rintro e w3 h3
  obtain ⟨v3, rfl, S3⟩ := S2.step h3
  clear S2 h3
  have hb3 := S3.blk hbk hnb
  have c3_4 : w3.cell? ⟨w.heap.size, 4, none⟩ = some (.slice A_acl n_acl c_acl) := by simp [World.cell?, hb3]
  clear hb3
  go_wp2_with fail
  refine (putList_acl x.acl _ ok _ b _ _ S3.at_ (hacl.keep aclE_ok S3.kept hd) (hd.symm.sep hi S3.sep).symm (hi.kept S3.kept) (by simp only [List.length_append, layN, List.flatMap_cons, List.flatMap_nil, List.append_nil, numF_lay, str_len]; omega)).mono ?_
  rintro e w4 h4
  obtain ⟨v4, rfl, S4⟩ := S3.step h4
  clear S3 h4
  have hb4 := S4.blk hbk hnb
  have c4_5 : w4.cell? ⟨w.heap.size, 5, none⟩ = some (.int .i64 x.flags) := by simp [World.cell?, hb4]
  have c4_6 : w4.cell? ⟨w.heap.size, 6, none⟩ = some (.int .i64 x.version) := by simp [World.cell?, hb4]
  clear hb4
  go_wp2_with fail
  have hcall4 : Calls Tryz.prog 52 #[.pointer (some ⟨b, 0, none⟩), .slice (some ⟨w4.heap.size, 0, none⟩) 2 2] (w4.alloc (.cells #[.int .i64 x.flags, .int .i64 x.version] 3)) (WPost (w4.alloc (.cells #[.int .i64 x.flags, .int .i64 x.version] 3)) b v4 (l ++ layN numF [x.kind, x.xid] ++ (sev x.path.size ++ x.path.data.toList) ++ (sev x.data.size ++ x.data.data.toList) ++ (listF aclF).lay x.acl ++ layN numF [x.flags, x.version])) :=
    nums_call [x.flags, x.version] _ _ (by simp) b _ _ S4.at_ (by simp only [List.mem_cons, List.not_mem_nil, or_false, forall_eq_or_imp, forall_eq]; exact ⟨hn_flags, hn_version⟩) (by unfold maxLen; simp only [List.length_cons, List.length_nil]; omega) (by simp only [List.length_append, layN, List.flatMap_cons, List.flatMap_nil, List.append_nil, numF_lay, str_len]; omega)
  have HC4 := Lib.hid hcall4; clear hcall4
  refine HC4.out.mono ?_
  rintro e w5 h5
  obtain ⟨v5, rfl, S5⟩ := (S4.alloc _).step h5
  clear S4 h5 HC4
  have hb5 := S5.blk hbk hnb
  have c5_7 : w5.cell? ⟨w.heap.size, 7, none⟩ = some (.bool x.watch) := by simp [World.cell?, hb5]
  clear hb5
  go_wp2_with fail
  refine (wflag_wide x.watch _ b _ _ S5.at_ (by simp only [List.length_append, layN, List.flatMap_cons, List.flatMap_nil, List.append_nil, numF_lay, str_len]; omega)).mono ?_
  rintro e w6 h6
  obtain ⟨v6, rfl, S6⟩ := S5.step h6
  clear S5 h6
  go_wp2_with fail
  go_end0
  exact S6.unbox (by simp only [oper1F, isoF, seqF, numF, textF, flagF, layN, List.flatMap_cons, List.flatMap_nil, List.append_nil, List.append_assoc])

set_option maxRecDepth 100000 in
theorem putList_oper1 (xs : List Oper1) (sv : Value) (ok : Nat → Prop) (w : World) (b : Nat) (v : Value) (l : List UInt8) (hW : WAt w b v l) (hL : ListR oper1E w ok 10 sv xs) (hd : Disj ok (WS b v)) (hi : In w ok) (hl : l.length + ((listF oper1F).lay xs).length ≤ 144900000000000) :
    Calls Tryz.prog 97 #[.pointer (some ⟨b, 0, none⟩), sv, .func (.func 96) #[] #[]] w (WPost w b v (l ++ (listF oper1F).lay xs)) := by
  obtain ⟨rows, ⟨A, c, rfl, hlc, hm, hat⟩, hlen, hel⟩ := hL
  unfold maxLen at hm
  have hlen1 : rows.length ≤ xs.length := by omega
  have hlen2 : xs.length ≤ rows.length := by omega
  have hfin := (show (listF oper1F).lay xs = sev xs.length ++ layN oper1F xs from rfl)
  rw [hfin] at hl ⊢
  rw [← hlen] at hl ⊢
  clear hfin hlen
  rw [List.length_append] at hl
  go_enter Tryz.func97, Tryz.ntmps97
  go_wp2_with fail
  refine (wcount_wide rows.length _ b v l hW (by omega) (by omega)).mono ?_
  rintro e w0 h0
  obtain ⟨v0, rfl, S0⟩ := (WSt.start hW).step h0
  clear h0
  go_wp2_with fail
  go_loopw [14] (fun iv wr => PutRelL w b v (l ++ sev rows.length) xs.length (fun k => layN oper1F (xs.take k)) iv wr) (fun iv _ => xs.length - (intOf iv).toNat)
  case atStart => exact ⟨0, v0, rfl, Nat.zero_le _, by simpa [layN] using S0⟩
  case round =>
    obtain ⟨k, v1, rfl, hk, S1⟩ := hrel.ex
    clear hrel S0
    by_cases hlt : k < xs.length
    · have hkr : k < rows.length := by omega
      rcases hat with h0 | ⟨g, off, rfl, hok, hg, hc⟩
      · simp [h0.1] at hkr
      have hE := oper1E_ok.keep (hel k hlt hkr) S1.kept hd
      have hcell : ∀ j (hj : j < rows[k].length), wr.cell? ⟨g, off + k * 10 + j, none⟩ = some rows[k][j] := fun j hj => by
        rw [← (hc k hkr).2 j hj]; exact World.cell?_of_block (S1.kept.block g hg (hd g hok.1))
      have hle := layN_le (f := oper1F) hlt
      have HTK := Lib.hid (layN_take (f := oper1F) hlt)
      generalize rows[k] = cs at hcell hE
      generalize xs[k] = x at hle hE HTK
      clear hc hel
      obtain ⟨A_acl, n_acl, c_acl, A_subs, n_subs, c_subs, A_armed, n_armed, c_armed, rfl⟩ := oper1E_cells hE
      have c0 : wr.cell? ⟨g, off + k * 10, none⟩ = some (.int .i64 x.kind) := hcell 0 (by simp)
      have c1 : wr.cell? ⟨g, off + k * 10 + 1, none⟩ = some (.int .i64 x.xid) := hcell 1 (by simp)
      have c2 : wr.cell? ⟨g, off + k * 10 + 2, none⟩ = some (.string x.path) := hcell 2 (by simp)
      have c3 : wr.cell? ⟨g, off + k * 10 + 3, none⟩ = some (.string x.data) := hcell 3 (by simp)
      have c4 : wr.cell? ⟨g, off + k * 10 + 4, none⟩ = some (.slice A_acl n_acl c_acl) := hcell 4 (by simp)
      have c5 : wr.cell? ⟨g, off + k * 10 + 5, none⟩ = some (.int .i64 x.flags) := hcell 5 (by simp)
      have c6 : wr.cell? ⟨g, off + k * 10 + 6, none⟩ = some (.int .i64 x.version) := hcell 6 (by simp)
      have c7 : wr.cell? ⟨g, off + k * 10 + 7, none⟩ = some (.bool x.watch) := hcell 7 (by simp)
      have c8 : wr.cell? ⟨g, off + k * 10 + 8, none⟩ = some (.slice A_subs n_subs c_subs) := hcell 8 (by simp)
      have c9 : wr.cell? ⟨g, off + k * 10 + 9, none⟩ = some (.slice A_armed n_armed c_armed) := hcell 9 (by simp)
      clear hcell
      have hkl : (k : Int) < (rows.length : Int) := by omega
      have hd1 := (hd.symm.sep hi S1.sep).symm
      have hi1 : In wr ok := hi.kept S1.kept
      have hll : (l ++ sev rows.length ++ layN oper1F (xs.take k)).length + (oper1F.lay x).length ≤ 144900000000000 := by simp only [List.length_append]; omega
      have hcall : ∀ (o : Obj), Calls Tryz.prog 96 #[.pointer (some ⟨b, 0, none⟩), .agg #[.int .i64 x.kind, .int .i64 x.xid, .string x.path, .string x.data, .slice A_acl n_acl c_acl, .int .i64 x.flags, .int .i64 x.version, .bool x.watch, .slice A_subs n_subs c_subs, .slice A_armed n_armed c_armed]] (wr.alloc o) (WPost (wr.alloc o) b v1 (l ++ sev rows.length ++ layN oper1F (xs.take k) ++ oper1F.lay x)) := fun o =>
        put_oper1 x _ ok _ b v1 _ (S1.alloc o).at_ (oper1E_ok.keep hE ((Kept.refl (fun _ => False) wr).alloc o) (disj_none ok)) hd1 (hi1.kept ((Kept.refl (fun _ => False) wr).alloc o)) hll
      have HCALL := Lib.hid hcall
      have HS := Lib.hid (fun (o : Obj) => S1.alloc o)
      clear hcall hE S1 hd1 hi1 hll
      go_wp2_with fail
      refine (HCALL.out _).mono ?_
      rintro e w2 h2
      obtain ⟨v2, rfl, S2⟩ := (HS.out _).step h2
      clear h2 HCALL HS
      go_wp2_with fail
      go_roundw
      case rel => exact ⟨k + 1, v2, rfl, hlt, by rw [HTK.out, ← List.append_assoc]; exact S2⟩
      case measure => simp [intOf]; omega
    · have hkl : ¬ (k : Int) < (rows.length : Int) := by omega
      obtain rfl : k = xs.length := by omega
      go_wp2_with fail
      go_end0
      exact S1.fin (by rw [List.take_length, List.append_assoc])
set_option maxRecDepth 100000 in
set_option maxHeartbeats 600000 in
theorem put_armed (x : Armed) (cs : List Value) (ok : Nat → Prop) (w : World) (b : Nat) (v : Value) (l : List UInt8) (hW : WAt w b v l) (hE : armedE w ok cs x) (hd : Disj ok (WS b v)) (hi : In w ok) (hl : l.length + (armedF.lay x).length ≤ 144900000000000) :
    Calls Tryz.prog 99 #[.pointer (some ⟨b, 0, none⟩), .agg cs.toArray] w (WPost w b v (l ++ armedF.lay x)) := by
  obtain ⟨rfl, hn_kind, hs_path, hn_czxid, hn_mzxid, hn_pzxid⟩ := hE
  have S0 := WSt.box hW (.cells #[.int .i64 x.kind, .string x.path, .int .i64 x.czxid, .int .i64 x.mzxid, .int .i64 x.pzxid] 73)
  have hnb := box_new hW
  have hbk := heap_alloc_new w (.cells #[.int .i64 x.kind, .string x.path, .int .i64 x.czxid, .int .i64 x.mzxid, .int .i64 x.pzxid] 73)
  replace hi := hi.kept ((Kept.refl (fun _ => False) w).alloc (.cells #[.int .i64 x.kind, .string x.path, .int .i64 x.czxid, .int .i64 x.mzxid, .int .i64 x.pzxid] 73))
  have hlen : (armedF.lay x).length = (sev (zz x.kind)).length + ((sev x.path.size).length + x.path.size) + (sev (zz x.czxid)).length + (sev (zz x.mzxid)).length + (sev (zz x.pzxid)).length := by simp only [armedF, isoF, seqF, numF, textF, List.length_append, str_len] <;> omega
  have hl1 : l.length + ((sev (zz x.kind)).length + ((sev x.path.size).length + x.path.size) + (sev (zz x.czxid)).length + (sev (zz x.mzxid)).length + (sev (zz x.pzxid)).length) ≤ 144900000000000 := by rw [← hlen]; exact hl
  clear hlen
  clear hl
  go_enter Tryz.func99, Tryz.ntmps99
  go_wp2_with fail
  refine (wnum_wide x.kind _ b _ _ S0.at_ hn_kind.1 hn_kind.2 (by omega)).mono ?_
  rintro e w1 h1
  obtain ⟨v1, rfl, S1⟩ := S0.step h1
  clear S0 h1
  have hb1 := S1.blk hbk hnb
  have c1_1 : w1.cell? ⟨w.heap.size, 1, none⟩ = some (.string x.path) := by simp [World.cell?, hb1]
  clear hb1
  go_wp2_with fail
  refine (wtext_wide x.path _ b _ _ S1.at_ hs_path (by simp only [List.length_append]; omega)).mono ?_
  rintro e w2 h2
  obtain ⟨v2, rfl, S2⟩ := S1.step h2
  clear S1 h2
  have hb2 := S2.blk hbk hnb
  have c2_2 : w2.cell? ⟨w.heap.size, 2, none⟩ = some (.int .i64 x.czxid) := by simp [World.cell?, hb2]
  have c2_3 : w2.cell? ⟨w.heap.size, 3, none⟩ = some (.int .i64 x.mzxid) := by simp [World.cell?, hb2]
  have c2_4 : w2.cell? ⟨w.heap.size, 4, none⟩ = some (.int .i64 x.pzxid) := by simp [World.cell?, hb2]
  clear hb2
  go_wp2_with fail
  have hcall2 : Calls Tryz.prog 52 #[.pointer (some ⟨b, 0, none⟩), .slice (some ⟨w2.heap.size, 0, none⟩) 3 3] (w2.alloc (.cells #[.int .i64 x.czxid, .int .i64 x.mzxid, .int .i64 x.pzxid] 3)) (WPost (w2.alloc (.cells #[.int .i64 x.czxid, .int .i64 x.mzxid, .int .i64 x.pzxid] 3)) b v2 (l ++ sev (zz x.kind) ++ (sev x.path.size ++ x.path.data.toList) ++ layN numF [x.czxid, x.mzxid, x.pzxid])) :=
    nums_call [x.czxid, x.mzxid, x.pzxid] _ _ (by simp) b _ _ S2.at_ (by simp only [List.mem_cons, List.not_mem_nil, or_false, forall_eq_or_imp, forall_eq]; exact ⟨hn_czxid, hn_mzxid, hn_pzxid⟩) (by unfold maxLen; simp only [List.length_cons, List.length_nil]; omega) (by simp only [List.length_append, layN, List.flatMap_cons, List.flatMap_nil, List.append_nil, numF_lay, str_len]; omega)
  have HC2 := Lib.hid hcall2; clear hcall2
  refine HC2.out.mono ?_
  rintro e w3 h3
  obtain ⟨v3, rfl, S3⟩ := (S2.alloc _).step h3
  clear S2 h3 HC2
  go_wp2_with fail
  go_end0
  exact S3.unbox (by simp only [armedF, isoF, seqF, numF, textF, layN, List.flatMap_cons, List.flatMap_nil, List.append_nil, List.append_assoc])

set_option maxRecDepth 100000 in
theorem putList_armed (xs : List Armed) (sv : Value) (ok : Nat → Prop) (w : World) (b : Nat) (v : Value) (l : List UInt8) (hW : WAt w b v l) (hL : ListR armedE w ok 5 sv xs) (hd : Disj ok (WS b v)) (hi : In w ok) (hl : l.length + ((listF armedF).lay xs).length ≤ 144900000000000) :
    Calls Tryz.prog 98 #[.pointer (some ⟨b, 0, none⟩), sv, .func (.func 99) #[] #[]] w (WPost w b v (l ++ (listF armedF).lay xs)) := by
  obtain ⟨rows, ⟨A, c, rfl, hlc, hm, hat⟩, hlen, hel⟩ := hL
  unfold maxLen at hm
  have hlen1 : rows.length ≤ xs.length := by omega
  have hlen2 : xs.length ≤ rows.length := by omega
  have hfin := (show (listF armedF).lay xs = sev xs.length ++ layN armedF xs from rfl)
  rw [hfin] at hl ⊢
  rw [← hlen] at hl ⊢
  clear hfin hlen
  rw [List.length_append] at hl
  go_enter Tryz.func98, Tryz.ntmps98
  go_wp2_with fail
  refine (wcount_wide rows.length _ b v l hW (by omega) (by omega)).mono ?_
  rintro e w0 h0
  obtain ⟨v0, rfl, S0⟩ := (WSt.start hW).step h0
  clear h0
  go_wp2_with fail
  go_loopw [14] (fun iv wr => PutRelL w b v (l ++ sev rows.length) xs.length (fun k => layN armedF (xs.take k)) iv wr) (fun iv _ => xs.length - (intOf iv).toNat)
  case atStart => exact ⟨0, v0, rfl, Nat.zero_le _, by simpa [layN] using S0⟩
  case round =>
    obtain ⟨k, v1, rfl, hk, S1⟩ := hrel.ex
    clear hrel S0
    by_cases hlt : k < xs.length
    · have hkr : k < rows.length := by omega
      rcases hat with h0 | ⟨g, off, rfl, hok, hg, hc⟩
      · simp [h0.1] at hkr
      have hE := armedE_ok.keep (hel k hlt hkr) S1.kept hd
      have hcell : ∀ j (hj : j < rows[k].length), wr.cell? ⟨g, off + k * 5 + j, none⟩ = some rows[k][j] := fun j hj => by
        rw [← (hc k hkr).2 j hj]; exact World.cell?_of_block (S1.kept.block g hg (hd g hok.1))
      have hle := layN_le (f := armedF) hlt
      have HTK := Lib.hid (layN_take (f := armedF) hlt)
      generalize rows[k] = cs at hcell hE
      generalize xs[k] = x at hle hE HTK
      clear hc hel
      obtain ⟨rfl, _⟩ := id hE
      have c0 : wr.cell? ⟨g, off + k * 5, none⟩ = some (.int .i64 x.kind) := hcell 0 (by simp)
      have c1 : wr.cell? ⟨g, off + k * 5 + 1, none⟩ = some (.string x.path) := hcell 1 (by simp)
      have c2 : wr.cell? ⟨g, off + k * 5 + 2, none⟩ = some (.int .i64 x.czxid) := hcell 2 (by simp)
      have c3 : wr.cell? ⟨g, off + k * 5 + 3, none⟩ = some (.int .i64 x.mzxid) := hcell 3 (by simp)
      have c4 : wr.cell? ⟨g, off + k * 5 + 4, none⟩ = some (.int .i64 x.pzxid) := hcell 4 (by simp)
      clear hcell
      have hkl : (k : Int) < (rows.length : Int) := by omega
      have hd1 := (hd.symm.sep hi S1.sep).symm
      have hi1 : In wr ok := hi.kept S1.kept
      have hll : (l ++ sev rows.length ++ layN armedF (xs.take k)).length + (armedF.lay x).length ≤ 144900000000000 := by simp only [List.length_append]; omega
      have hcall : ∀ (o : Obj), Calls Tryz.prog 99 #[.pointer (some ⟨b, 0, none⟩), .agg #[.int .i64 x.kind, .string x.path, .int .i64 x.czxid, .int .i64 x.mzxid, .int .i64 x.pzxid]] (wr.alloc o) (WPost (wr.alloc o) b v1 (l ++ sev rows.length ++ layN armedF (xs.take k) ++ armedF.lay x)) := fun o =>
        put_armed x _ ok _ b v1 _ (S1.alloc o).at_ (armedE_ok.keep hE ((Kept.refl (fun _ => False) wr).alloc o) (disj_none ok)) hd1 (hi1.kept ((Kept.refl (fun _ => False) wr).alloc o)) hll
      have HCALL := Lib.hid hcall
      have HS := Lib.hid (fun (o : Obj) => S1.alloc o)
      clear hcall hE S1 hd1 hi1 hll
      go_wp2_with fail
      refine (HCALL.out _).mono ?_
      rintro e w2 h2
      obtain ⟨v2, rfl, S2⟩ := (HS.out _).step h2
      clear h2 HCALL HS
      go_wp2_with fail
      go_roundw
      case rel => exact ⟨k + 1, v2, rfl, hlt, by rw [HTK.out, ← List.append_assoc]; exact S2⟩
      case measure => simp [intOf]; omega
    · have hkl : ¬ (k : Int) < (rows.length : Int) := by omega
      obtain rfl : k = xs.length := by omega
      go_wp2_with fail
      go_end0
      exact S1.fin (by rw [List.take_length, List.append_assoc])
end Go.Proofs.YtpmemcpfoapjmaaGreat

namespace Go.Proofs.YtpmemcpfoapjmaaGreat
open Go.ChangeShapes Go.WideShapes Go.ChangeAt Go.RowKit
set_option linter.unusedVariables false

set_option maxRecDepth 100000 in
set_option maxHeartbeats 600000 in
theorem put_req (x : Req) (cs : List Value) (ok : Nat → Prop) (w : World) (b : Nat) (v : Value) (l : List UInt8) (hW : WAt w b v l) (hE : reqE w ok cs x) (hd : Disj ok (WS b v)) (hi : In w ok) (hl : l.length + (reqF.lay x).length ≤ 144900000000000) :
    Calls Tryz.prog 58 #[.pointer (some ⟨b, 0, none⟩), .agg cs.toArray] w (WPost w b v (l ++ reqF.lay x)) := by
  obtain ⟨vsubs, varmed, hq, hsubs, harmed⟩ := hE
  have hop : oper1E w ok cs x.op := ⟨vsubs, varmed, hq⟩
  obtain ⟨vacl, rfl, hacl, _⟩ := hq
  obtain ⟨A_acl, n_acl, c_acl, rfl⟩ := hacl.shape
  obtain ⟨A_subs, n_subs, c_subs, rfl⟩ := hsubs.shape
  obtain ⟨A_armed, n_armed, c_armed, rfl⟩ := harmed.shape
  have S0 := WSt.box hW (.cells #[.int .i64 x.op.kind, .int .i64 x.op.xid, .string x.op.path, .string x.op.data, .slice A_acl n_acl c_acl, .int .i64 x.op.flags, .int .i64 x.op.version, .bool x.op.watch, .slice A_subs n_subs c_subs, .slice A_armed n_armed c_armed] 28)
  have hnb := box_new hW
  have hbk := heap_alloc_new w (.cells #[.int .i64 x.op.kind, .int .i64 x.op.xid, .string x.op.path, .string x.op.data, .slice A_acl n_acl c_acl, .int .i64 x.op.flags, .int .i64 x.op.version, .bool x.op.watch, .slice A_subs n_subs c_subs, .slice A_armed n_armed c_armed] 28)
  replace hop := oper1E_ok.keep hop ((Kept.refl (fun _ => False) w).alloc (.cells #[.int .i64 x.op.kind, .int .i64 x.op.xid, .string x.op.path, .string x.op.data, .slice A_acl n_acl c_acl, .int .i64 x.op.flags, .int .i64 x.op.version, .bool x.op.watch, .slice A_subs n_subs c_subs, .slice A_armed n_armed c_armed] 28)) (disj_none ok)
  replace hsubs := hsubs.keep oper1E_ok ((Kept.refl (fun _ => False) w).alloc (.cells #[.int .i64 x.op.kind, .int .i64 x.op.xid, .string x.op.path, .string x.op.data, .slice A_acl n_acl c_acl, .int .i64 x.op.flags, .int .i64 x.op.version, .bool x.op.watch, .slice A_subs n_subs c_subs, .slice A_armed n_armed c_armed] 28)) (disj_none ok)
  replace harmed := harmed.keep armedE_ok ((Kept.refl (fun _ => False) w).alloc (.cells #[.int .i64 x.op.kind, .int .i64 x.op.xid, .string x.op.path, .string x.op.data, .slice A_acl n_acl c_acl, .int .i64 x.op.flags, .int .i64 x.op.version, .bool x.op.watch, .slice A_subs n_subs c_subs, .slice A_armed n_armed c_armed] 28)) (disj_none ok)
  replace hi := hi.kept ((Kept.refl (fun _ => False) w).alloc (.cells #[.int .i64 x.op.kind, .int .i64 x.op.xid, .string x.op.path, .string x.op.data, .slice A_acl n_acl c_acl, .int .i64 x.op.flags, .int .i64 x.op.version, .bool x.op.watch, .slice A_subs n_subs c_subs, .slice A_armed n_armed c_armed] 28))
  have hlen : (reqF.lay x).length = (oper1F.lay x.op).length + ((listF oper1F).lay x.subs).length + ((listF armedF).lay x.armed).length := by simp only [reqF, isoF, seqF, List.length_append] <;> omega
  have hl1 : l.length + ((oper1F.lay x.op).length + ((listF oper1F).lay x.subs).length + ((listF armedF).lay x.armed).length) ≤ 144900000000000 := by rw [← hlen]; exact hl
  clear hlen
  clear hl
  go_enter Tryz.func58, Tryz.ntmps58
  go_wp2_with fail
  refine (put_oper1 x.op _ ok _ b _ _ S0.at_ (oper1E_ok.keep hop S0.kept hd) (hd.symm.sep hi S0.sep).symm (hi.kept S0.kept) (by omega)).mono ?_
  rintro e w1 h1
  obtain ⟨v1, rfl, S1⟩ := S0.step h1
  clear S0 h1
  have hb1 := S1.blk hbk hnb
  have c1_8 : w1.cell? ⟨w.heap.size, 8, none⟩ = some (.slice A_subs n_subs c_subs) := by simp [World.cell?, hb1]
  clear hb1
  go_wp2_with fail
  refine (putList_oper1 x.subs _ ok _ b _ _ S1.at_ (hsubs.keep oper1E_ok S1.kept hd) (hd.symm.sep hi S1.sep).symm (hi.kept S1.kept) (by simp only [List.length_append]; omega)).mono ?_
  rintro e w2 h2
  obtain ⟨v2, rfl, S2⟩ := S1.step h2
  clear S1 h2
  have hb2 := S2.blk hbk hnb
  have c2_9 : w2.cell? ⟨w.heap.size, 9, none⟩ = some (.slice A_armed n_armed c_armed) := by simp [World.cell?, hb2]
  clear hb2
  go_wp2_with fail
  refine (putList_armed x.armed _ ok _ b _ _ S2.at_ (harmed.keep armedE_ok S2.kept hd) (hd.symm.sep hi S2.sep).symm (hi.kept S2.kept) (by simp only [List.length_append]; omega)).mono ?_
  rintro e w3 h3
  obtain ⟨v3, rfl, S3⟩ := S2.step h3
  clear S2 h3
  go_wp2_with fail
  go_end0
  exact S3.unbox (by simp only [reqF, isoF, seqF, List.append_assoc])

end Go.Proofs.YtpmemcpfoapjmaaGreat

namespace Go.Proofs.YtpmemcpfoapjmaaGreat
open Go.ChangeShapes Go.WideShapes Go.ChangeAt Go.RowKit
set_option linter.unusedVariables false

set_option maxRecDepth 100000 in
set_option maxHeartbeats 600000 in
theorem put_message (x : Message) (cs : List Value) (ok : Nat → Prop) (w : World) (b : Nat) (v : Value) (l : List UInt8) (hW : WAt w b v l) (hE : messageE w ok cs x) (hd : Disj ok (WS b v)) (hi : In w ok) (hl : l.length + (messageF.lay x).length ≤ 144900000000000) :
    Calls Tryz.prog 20 #[.pointer (some ⟨b, 0, none⟩), .agg cs.toArray] w (WPost w b v (l ++ messageF.lay x)) := by
  obtain ⟨vmarks, ventries, cr, vids, rfl, hmarks, hentries, hreq, hids, hn_kind, hn_epoch, hn_zxid, hn_number, hn_session, hs_data⟩ := hE
  obtain ⟨A_acl, n_acl, c_acl, A_subs, n_subs, c_subs, A_armed, n_armed, c_armed, rfl⟩ := reqE_cells hreq
  obtain ⟨A_marks, n_marks, c_marks, rfl⟩ := hmarks.shape
  obtain ⟨A_entries, n_entries, c_entries, rfl⟩ := hentries.shape
  obtain ⟨A_ids, n_ids, c_ids, rfl⟩ := hids.shape
  have S0 := WSt.box hW (.cells #[.int .i64 x.kind, .int .i64 x.epoch, .int .i64 x.zxid, .int .i64 x.number, .int .i64 x.session, .slice A_marks n_marks c_marks, .string x.data, .slice A_entries n_entries c_entries, .int .i64 x.request.op.kind, .int .i64 x.request.op.xid, .string x.request.op.path, .string x.request.op.data, .slice A_acl n_acl c_acl, .int .i64 x.request.op.flags, .int .i64 x.request.op.version, .bool x.request.op.watch, .slice A_subs n_subs c_subs, .slice A_armed n_armed c_armed, .slice A_ids n_ids c_ids] 31)
  have hnb := box_new hW
  have hbk := heap_alloc_new w (.cells #[.int .i64 x.kind, .int .i64 x.epoch, .int .i64 x.zxid, .int .i64 x.number, .int .i64 x.session, .slice A_marks n_marks c_marks, .string x.data, .slice A_entries n_entries c_entries, .int .i64 x.request.op.kind, .int .i64 x.request.op.xid, .string x.request.op.path, .string x.request.op.data, .slice A_acl n_acl c_acl, .int .i64 x.request.op.flags, .int .i64 x.request.op.version, .bool x.request.op.watch, .slice A_subs n_subs c_subs, .slice A_armed n_armed c_armed, .slice A_ids n_ids c_ids] 31)
  replace hmarks := hmarks.keep intE_ok ((Kept.refl (fun _ => False) w).alloc (.cells #[.int .i64 x.kind, .int .i64 x.epoch, .int .i64 x.zxid, .int .i64 x.number, .int .i64 x.session, .slice A_marks n_marks c_marks, .string x.data, .slice A_entries n_entries c_entries, .int .i64 x.request.op.kind, .int .i64 x.request.op.xid, .string x.request.op.path, .string x.request.op.data, .slice A_acl n_acl c_acl, .int .i64 x.request.op.flags, .int .i64 x.request.op.version, .bool x.request.op.watch, .slice A_subs n_subs c_subs, .slice A_armed n_armed c_armed, .slice A_ids n_ids c_ids] 31)) (disj_none ok)
  replace hentries := hentries.keep entryE_ok ((Kept.refl (fun _ => False) w).alloc (.cells #[.int .i64 x.kind, .int .i64 x.epoch, .int .i64 x.zxid, .int .i64 x.number, .int .i64 x.session, .slice A_marks n_marks c_marks, .string x.data, .slice A_entries n_entries c_entries, .int .i64 x.request.op.kind, .int .i64 x.request.op.xid, .string x.request.op.path, .string x.request.op.data, .slice A_acl n_acl c_acl, .int .i64 x.request.op.flags, .int .i64 x.request.op.version, .bool x.request.op.watch, .slice A_subs n_subs c_subs, .slice A_armed n_armed c_armed, .slice A_ids n_ids c_ids] 31)) (disj_none ok)
  replace hreq := reqE_ok.keep hreq ((Kept.refl (fun _ => False) w).alloc (.cells #[.int .i64 x.kind, .int .i64 x.epoch, .int .i64 x.zxid, .int .i64 x.number, .int .i64 x.session, .slice A_marks n_marks c_marks, .string x.data, .slice A_entries n_entries c_entries, .int .i64 x.request.op.kind, .int .i64 x.request.op.xid, .string x.request.op.path, .string x.request.op.data, .slice A_acl n_acl c_acl, .int .i64 x.request.op.flags, .int .i64 x.request.op.version, .bool x.request.op.watch, .slice A_subs n_subs c_subs, .slice A_armed n_armed c_armed, .slice A_ids n_ids c_ids] 31)) (disj_none ok)
  replace hids := hids.keep textE_ok ((Kept.refl (fun _ => False) w).alloc (.cells #[.int .i64 x.kind, .int .i64 x.epoch, .int .i64 x.zxid, .int .i64 x.number, .int .i64 x.session, .slice A_marks n_marks c_marks, .string x.data, .slice A_entries n_entries c_entries, .int .i64 x.request.op.kind, .int .i64 x.request.op.xid, .string x.request.op.path, .string x.request.op.data, .slice A_acl n_acl c_acl, .int .i64 x.request.op.flags, .int .i64 x.request.op.version, .bool x.request.op.watch, .slice A_subs n_subs c_subs, .slice A_armed n_armed c_armed, .slice A_ids n_ids c_ids] 31)) (disj_none ok)
  replace hi := hi.kept ((Kept.refl (fun _ => False) w).alloc (.cells #[.int .i64 x.kind, .int .i64 x.epoch, .int .i64 x.zxid, .int .i64 x.number, .int .i64 x.session, .slice A_marks n_marks c_marks, .string x.data, .slice A_entries n_entries c_entries, .int .i64 x.request.op.kind, .int .i64 x.request.op.xid, .string x.request.op.path, .string x.request.op.data, .slice A_acl n_acl c_acl, .int .i64 x.request.op.flags, .int .i64 x.request.op.version, .bool x.request.op.watch, .slice A_subs n_subs c_subs, .slice A_armed n_armed c_armed, .slice A_ids n_ids c_ids] 31))
  have hlen : (messageF.lay x).length = (sev (zz x.kind)).length + (sev (zz x.epoch)).length + (sev (zz x.zxid)).length + (sev (zz x.number)).length + (sev (zz x.session)).length + ((listF numF).lay x.marks).length + ((sev x.data.size).length + x.data.size) + ((listF entryF).lay x.entries).length + (reqF.lay x.request).length + ((listF (textF 4096)).lay x.ids).length := by simp only [messageF, isoF, seqF, numF, textF, List.length_append, str_len] <;> omega
  have hl1 : l.length + ((sev (zz x.kind)).length + (sev (zz x.epoch)).length + (sev (zz x.zxid)).length + (sev (zz x.number)).length + (sev (zz x.session)).length + ((listF numF).lay x.marks).length + ((sev x.data.size).length + x.data.size) + ((listF entryF).lay x.entries).length + (reqF.lay x.request).length + ((listF (textF 4096)).lay x.ids).length) ≤ 144900000000000 := by rw [← hlen]; exact hl
  clear hlen
  clear hl
  go_enter Tryz.func20, Tryz.ntmps20
  go_wp2_with fail
  have hcall0 : Calls Tryz.prog 52 #[.pointer (some ⟨b, 0, none⟩), .slice (some ⟨w.heap.size + 1, 0, none⟩) 5 5] ((w.alloc (.cells #[.int .i64 x.kind, .int .i64 x.epoch, .int .i64 x.zxid, .int .i64 x.number, .int .i64 x.session, .slice A_marks n_marks c_marks, .string x.data, .slice A_entries n_entries c_entries, .int .i64 x.request.op.kind, .int .i64 x.request.op.xid, .string x.request.op.path, .string x.request.op.data, .slice A_acl n_acl c_acl, .int .i64 x.request.op.flags, .int .i64 x.request.op.version, .bool x.request.op.watch, .slice A_subs n_subs c_subs, .slice A_armed n_armed c_armed, .slice A_ids n_ids c_ids] 31)).alloc (.cells #[.int .i64 x.kind, .int .i64 x.epoch, .int .i64 x.zxid, .int .i64 x.number, .int .i64 x.session] 3)) (WPost ((w.alloc (.cells #[.int .i64 x.kind, .int .i64 x.epoch, .int .i64 x.zxid, .int .i64 x.number, .int .i64 x.session, .slice A_marks n_marks c_marks, .string x.data, .slice A_entries n_entries c_entries, .int .i64 x.request.op.kind, .int .i64 x.request.op.xid, .string x.request.op.path, .string x.request.op.data, .slice A_acl n_acl c_acl, .int .i64 x.request.op.flags, .int .i64 x.request.op.version, .bool x.request.op.watch, .slice A_subs n_subs c_subs, .slice A_armed n_armed c_armed, .slice A_ids n_ids c_ids] 31)).alloc (.cells #[.int .i64 x.kind, .int .i64 x.epoch, .int .i64 x.zxid, .int .i64 x.number, .int .i64 x.session] 3)) b v (l ++ layN numF [x.kind, x.epoch, x.zxid, x.number, x.session])) :=
    nums_call [x.kind, x.epoch, x.zxid, x.number, x.session] _ _ (by simp) b _ _ S0.at_ (by simp only [List.mem_cons, List.not_mem_nil, or_false, forall_eq_or_imp, forall_eq]; exact ⟨hn_kind, hn_epoch, hn_zxid, hn_number, hn_session⟩) (by unfold maxLen; simp only [List.length_cons, List.length_nil]; omega) (by simp only [List.length_append, layN, List.flatMap_cons, List.flatMap_nil, List.append_nil, numF_lay]; omega)
  have HC0 := Lib.hid hcall0; clear hcall0
  refine HC0.out.mono ?_
  rintro e w1 h1
  obtain ⟨v1, rfl, S1⟩ := (S0.alloc _).step h1
  clear S0 h1 HC0
  have hb1 := S1.blk hbk hnb
  have c1_5 : w1.cell? ⟨w.heap.size, 5, none⟩ = some (.slice A_marks n_marks c_marks) := by simp [World.cell?, hb1]
  clear hb1
  go_wp2_with fail
  refine (putList_num x.marks _ ok _ b _ _ S1.at_ (hmarks.keep intE_ok S1.kept hd) (hd.symm.sep hi S1.sep).symm (hi.kept S1.kept) (by simp only [List.length_append, layN, List.flatMap_cons, List.flatMap_nil, List.append_nil, numF_lay]; omega)).mono ?_
  rintro e w2 h2
  obtain ⟨v2, rfl, S2⟩ := S1.step h2
  clear S1 h2
  have hb2 := S2.blk hbk hnb
  have c2_6 : w2.cell? ⟨w.heap.size, 6, none⟩ = some (.string x.data) := by simp [World.cell?, hb2]
  clear hb2
  go_wp2_with fail
  refine (wtext_wide x.data _ b _ _ S2.at_ hs_data (by simp only [List.length_append, layN, List.flatMap_cons, List.flatMap_nil, List.append_nil, numF_lay]; omega)).mono ?_
  rintro e w3 h3
  obtain ⟨v3, rfl, S3⟩ := S2.step h3
  clear S2 h3
  have hb3 := S3.blk hbk hnb
  have c3_7 : w3.cell? ⟨w.heap.size, 7, none⟩ = some (.slice A_entries n_entries c_entries) := by simp [World.cell?, hb3]
  clear hb3
  go_wp2_with fail
  refine (putList_entry x.entries _ ok _ b _ _ S3.at_ (hentries.keep entryE_ok S3.kept hd) (hd.symm.sep hi S3.sep).symm (hi.kept S3.kept) (by simp only [List.length_append, layN, List.flatMap_cons, List.flatMap_nil, List.append_nil, numF_lay, str_len]; omega)).mono ?_
  rintro e w4 h4
  obtain ⟨v4, rfl, S4⟩ := S3.step h4
  clear S3 h4
  have hb4 := S4.blk hbk hnb
  have c4_8 : w4.cell? ⟨w.heap.size, 8, none⟩ = some (.int .i64 x.request.op.kind) := by simp [World.cell?, hb4]
  have c4_9 : w4.cell? ⟨w.heap.size, 9, none⟩ = some (.int .i64 x.request.op.xid) := by simp [World.cell?, hb4]
  have c4_10 : w4.cell? ⟨w.heap.size, 10, none⟩ = some (.string x.request.op.path) := by simp [World.cell?, hb4]
  have c4_11 : w4.cell? ⟨w.heap.size, 11, none⟩ = some (.string x.request.op.data) := by simp [World.cell?, hb4]
  have c4_12 : w4.cell? ⟨w.heap.size, 12, none⟩ = some (.slice A_acl n_acl c_acl) := by simp [World.cell?, hb4]
  have c4_13 : w4.cell? ⟨w.heap.size, 13, none⟩ = some (.int .i64 x.request.op.flags) := by simp [World.cell?, hb4]
  have c4_14 : w4.cell? ⟨w.heap.size, 14, none⟩ = some (.int .i64 x.request.op.version) := by simp [World.cell?, hb4]
  have c4_15 : w4.cell? ⟨w.heap.size, 15, none⟩ = some (.bool x.request.op.watch) := by simp [World.cell?, hb4]
  have c4_16 : w4.cell? ⟨w.heap.size, 16, none⟩ = some (.slice A_subs n_subs c_subs) := by simp [World.cell?, hb4]
  have c4_17 : w4.cell? ⟨w.heap.size, 17, none⟩ = some (.slice A_armed n_armed c_armed) := by simp [World.cell?, hb4]
  clear hb4
  go_wp2_with fail
  refine (put_req x.request _ ok _ b _ _ S4.at_ (reqE_ok.keep hreq S4.kept hd) (hd.symm.sep hi S4.sep).symm (hi.kept S4.kept) (by simp only [List.length_append, layN, List.flatMap_cons, List.flatMap_nil, List.append_nil, numF_lay, str_len]; omega)).mono ?_
  rintro e w5 h5
  obtain ⟨v5, rfl, S5⟩ := S4.step h5
  clear S4 h5
  have hb5 := S5.blk hbk hnb
  have c5_18 : w5.cell? ⟨w.heap.size, 18, none⟩ = some (.slice A_ids n_ids c_ids) := by simp [World.cell?, hb5]
  clear hb5
  go_wp2_with fail
  refine (putList_text x.ids _ ok _ b _ _ S5.at_ (hids.keep textE_ok S5.kept hd) (hd.symm.sep hi S5.sep).symm (hi.kept S5.kept) (by simp only [List.length_append, layN, List.flatMap_cons, List.flatMap_nil, List.append_nil, numF_lay, str_len]; omega)).mono ?_
  rintro e w6 h6
  obtain ⟨v6, rfl, S6⟩ := S5.step h6
  clear S5 h6
  go_wp2_with fail
  go_end0
  exact S6.unbox (by simp only [messageF, isoF, seqF, numF, textF, layN, List.flatMap_cons, List.flatMap_nil, List.append_nil, List.append_assoc])

end Go.Proofs.YtpmemcpfoapjmaaGreat

namespace Go.Proofs.YtpmemcpfoapjmaaGreat
open Go.ChangeShapes Go.WideShapes Go.ChangeAt Go.RowKit
set_option linter.unusedVariables false

set_option maxRecDepth 100000 in
set_option maxHeartbeats 600000 in
theorem get_req (w : World) (b : Nat) (v : Value) (l : List UInt8) (p e : Nat) (hR : RAt w b v l p e) {x : Req} {q e' : Nat} (h : reqF.get l p e = (x, q, e')) :
    Calls Tryz.prog 77 #[.pointer (some ⟨b, 0, none⟩)] w (GPost reqE w b v l x q e') := by
  rcases h1 : oper1F.get l p e with ⟨x1, p1, e1⟩
  rcases h2 : (listF oper1F).get l p1 e1 with ⟨x2, p2, e2⟩
  rcases h3 : (listF armedF).get l p2 e2 with ⟨x3, p3, e3⟩
  have hf : reqF.get l p e = (⟨x1, x2, x3⟩, p3, e3) := by simp only [reqF, isoF, seqF, h1, h2, h3]
  rw [hf] at h
  simp only [Prod.mk.injEq] at h
  obtain ⟨rfl, rfl, rfl⟩ := h
  have H1 := Lib.hid h1; clear h1
  have H2 := Lib.hid h2; clear h2
  have H3 := Lib.hid h3; clear h3
  clear hf
  have hR0 := hR.alloc (.cells #[.int .i64 0, .int .i64 0, .string ⟨#[]⟩, .string ⟨#[]⟩, .slice none 0 0, .int .i64 0, .int .i64 0, .bool false, .slice none 0 0, .slice none 0 0] 28)
  have hsz : (Tryz.prog.info? 28).map (·.size) = some 10 := by kernel_rfl
  have HSZ := Lib.hid hsz; clear hsz
  go_enter Tryz.func77, Tryz.ntmps77
  go_wp2_with fail
  refine (get_oper1 _ b v l _ _ hR0 H1.out).mono ?_
  rintro en w1 ⟨cs, rfl, hE1, hR1, hk1⟩
  have hfl := oper1E_flat hE1
  have HFL := Lib.hid hfl.1
  have HF1 := Lib.hid hfl.2
  have B0 := TBox.start (cs := cs) hR hR1 hk1
  replace hE1 := rel_start oper1E_ok (o := .cells cs.toArray 28) hE1
  clear hR1 hk1 hfl
  go_wp2_with (refine wpList_store_new w1 rfl 28 _ (.tmp 5) rfl _ cs rfl rfl (by rw [HFL.out]; exact HSZ.out) HFL.out.symm HF1.out ?_)
  refine (getList_oper1 _ b v l _ _ B0.rd H2.out).mono ?_
  rintro en w2 ⟨sv2, rfl, hL2, hR2, hk2⟩
  obtain ⟨A2, n2, c2, rfl⟩ := hL2.shape
  replace hE1 := oper1E_ok.keep hE1 hk2 B0.ok_rs
  replace hL2 := B0.rel_list oper1E_ok hL2
  have B1a := B0.list hR2 hk2
  obtain ⟨hc2, hfz2⟩ := B1a.cell 8 (by rw [HFL.out]; omega)
  have B1 := B1a.set 8 (.slice A2 n2 c2)
  generalize cs[8]'(by rw [HFL.out]; omega) = u2 at hc2
  replace hE1 := oper1E_ok.keep hE1 (set_kept _ w1.heap.size 8 (.slice A2 n2 c2)) (ok_g w w1.heap.size)
  replace hL2 := hL2.keep oper1E_ok (set_kept _ w1.heap.size 8 (.slice A2 n2 c2)) (ok_g w w1.heap.size)
  clear B0 B1a hR2 hk2
  go_wp2_with fail
  refine (getList_armed _ b v l _ _ B1.rd H3.out).mono ?_
  rintro en w3 ⟨sv3, rfl, hL3, hR3, hk3⟩
  obtain ⟨A3, n3, c3, rfl⟩ := hL3.shape
  replace hE1 := oper1E_ok.keep hE1 hk3 B1.ok_rs
  replace hL2 := hL2.keep oper1E_ok hk3 B1.ok_rs
  replace hL3 := B1.rel_list armedE_ok hL3
  have B2a := B1.list hR3 hk3
  obtain ⟨hc3, hfz3⟩ := B2a.cell 9 (by rw [List.length_set]; rw [HFL.out]; omega)
  have B2 := B2a.set 9 (.slice A3 n3 c3)
  generalize (cs.set 8 (.slice A2 n2 c2))[9]'(by rw [List.length_set]; rw [HFL.out]; omega) = u3 at hc3
  replace hE1 := oper1E_ok.keep hE1 (set_kept _ w1.heap.size 9 (.slice A3 n3 c3)) (ok_g w w1.heap.size)
  replace hL2 := hL2.keep oper1E_ok (set_kept _ w1.heap.size 9 (.slice A3 n3 c3)) (ok_g w w1.heap.size)
  replace hL3 := hL3.keep armedE_ok (set_kept _ w1.heap.size 9 (.slice A3 n3 c3)) (ok_g w w1.heap.size)
  clear B1 B2a hR3 hk3
  have hfl2 : Flat 10 ((cs.set 8 (.slice A2 n2 c2)).set 9 (.slice A3 n3 c3)) := flat_set (flat_set ⟨HFL.out, HF1.out⟩ 8 rfl) 9 rfl
  have HL2 := Lib.hid hfl2.1
  have HF2 := Lib.hid hfl2.2
  have HB := Lib.hid B2.res
  have HX := Lib.hid (range_row B2.box)
  clear hfl2
  go_wp2_with (first | (refine wpList_load_mid rfl 28 (.tmp 3) rfl w1.heap.size 0 rfl ((cs.set 8 (.slice A2 n2 c2)).set 9 (.slice A3 n3 c3)) _ HX.out Tryz.underlying28 rfl (by rw [HL2.out]; exact HSZ.out) ?_) | (refine wpList_store_row _ rfl 28 _ _ rfl w.heap.size _ ((cs.set 8 (.slice A2 n2 c2)).set 9 (.slice A3 n3 c3)) rfl rfl HB.out (by rw [HL2.out]; exact HSZ.out) (by rw [HL2.out]; rfl) HF2.out ?_))
  have hrow := setRow_heap (w3.setCell ⟨w1.heap.size, 9, none⟩ (.slice A3 n3 c3)) w.heap.size _ (((cs.set 8 (.slice A2 n2 c2)).set 9 (.slice A3 n3 c3))).toArray _ _ HB.out
  have hload := run_loadVar_row (P := Tryz.prog) _ w.heap.size 28 28 _ (0, 0) _ hrow Tryz.underlying28 rfl (by rw [List.size_toArray, HL2.out]; exact HSZ.out)
  exact ret_cell 2 28 w.heap.size _ Tryz.results77 rfl hload rfl ⟨_, rfl, ⟨_, _, oper1Q_set (rel_fin oper1E_ok hE1 _) ⟨_, _, _, rfl⟩ ⟨_, _, _, rfl⟩, rel_finL oper1E_ok hL2 _, rel_finL armedE_ok hL3 _⟩, B2.finR _, B2.finK _⟩

end Go.Proofs.YtpmemcpfoapjmaaGreat

namespace Go.Proofs.YtpmemcpfoapjmaaGreat
open Go.ChangeShapes Go.WideShapes Go.ChangeAt Go.RowKit
set_option linter.unusedVariables false

set_option maxRecDepth 100000 in
set_option maxHeartbeats 600000 in
theorem get_message (w : World) (b : Nat) (v : Value) (l : List UInt8) (p e : Nat) (hR : RAt w b v l p e) {x : Message} {q e' : Nat} (h : messageF.get l p e = (x, q, e')) :
    Calls Tryz.prog 73 #[.pointer (some ⟨b, 0, none⟩)] w (GPost messageE w b v l x q e') := by
  rcases h1 : numF.get l p e with ⟨x1, p1, e1⟩
  have hi1 : I64 x1 := by have := numF_i64 (l := l) (p := p) (e := e); rw [h1] at this; exact this
  rcases h2 : numF.get l p1 e1 with ⟨x2, p2, e2⟩
  have hi2 : I64 x2 := by have := numF_i64 (l := l) (p := p1) (e := e1); rw [h2] at this; exact this
  rcases h3 : numF.get l p2 e2 with ⟨x3, p3, e3⟩
  have hi3 : I64 x3 := by have := numF_i64 (l := l) (p := p2) (e := e2); rw [h3] at this; exact this
  rcases h4 : numF.get l p3 e3 with ⟨x4, p4, e4⟩
  have hi4 : I64 x4 := by have := numF_i64 (l := l) (p := p3) (e := e3); rw [h4] at this; exact this
  rcases h5 : numF.get l p4 e4 with ⟨x5, p5, e5⟩
  have hi5 : I64 x5 := by have := numF_i64 (l := l) (p := p4) (e := e4); rw [h5] at this; exact this
  rcases h6 : (listF numF).get l p5 e5 with ⟨x6, p6, e6⟩
  rcases h7 : (textF 65536).get l p6 e6 with ⟨x7, p7, e7⟩
  have hi7 : Str x7 := by have := textF_str (most := 65536) (by omega) (l := l) (p := p6) (e := e6); rw [h7] at this; exact this
  rcases h8 : (listF entryF).get l p7 e7 with ⟨x8, p8, e8⟩
  rcases h9 : reqF.get l p8 e8 with ⟨x9, p9, e9⟩
  rcases h10 : (listF (textF 4096)).get l p9 e9 with ⟨x10, p10, e10⟩
  have hf : messageF.get l p e = (⟨x1, x2, x3, x4, x5, x6, x7, x8, x9, x10⟩, p10, e10) := by simp only [messageF, isoF, seqF, h1, h2, h3, h4, h5, h6, h7, h8, h9, h10]
  rw [hf] at h
  simp only [Prod.mk.injEq] at h
  obtain ⟨rfl, rfl, rfl⟩ := h
  have H1 := Lib.hid h1; clear h1
  have H2 := Lib.hid h2; clear h2
  have H3 := Lib.hid h3; clear h3
  have H4 := Lib.hid h4; clear h4
  have H5 := Lib.hid h5; clear h5
  have H6 := Lib.hid h6; clear h6
  have H7 := Lib.hid h7; clear h7
  have H8 := Lib.hid h8; clear h8
  have H9 := Lib.hid h9; clear h9
  have H10 := Lib.hid h10; clear h10
  clear hf
  have S0 := RSt.start (hR.alloc (.cells #[.int .i64 0, .int .i64 0, .int .i64 0, .int .i64 0, .int .i64 0, .slice none 0 0, .string ⟨#[]⟩, .slice none 0 0, .int .i64 0, .int .i64 0, .string ⟨#[]⟩, .string ⟨#[]⟩, .slice none 0 0, .int .i64 0, .int .i64 0, .bool false, .slice none 0 0, .slice none 0 0, .slice none 0 0] 31))
  have hbk := heap_alloc_new w (.cells #[.int .i64 0, .int .i64 0, .int .i64 0, .int .i64 0, .int .i64 0, .slice none 0 0, .string ⟨#[]⟩, .slice none 0 0, .int .i64 0, .int .i64 0, .string ⟨#[]⟩, .string ⟨#[]⟩, .slice none 0 0, .int .i64 0, .int .i64 0, .bool false, .slice none 0 0, .slice none 0 0, .slice none 0 0] 31)
  have hnb := rbox_new hR
  have hz0 : w.heap.size + 1 ≤ (w.alloc (.cells #[.int .i64 0, .int .i64 0, .int .i64 0, .int .i64 0, .int .i64 0, .slice none 0 0, .string ⟨#[]⟩, .slice none 0 0, .int .i64 0, .int .i64 0, .string ⟨#[]⟩, .string ⟨#[]⟩, .slice none 0 0, .int .i64 0, .int .i64 0, .bool false, .slice none 0 0, .slice none 0 0, .slice none 0 0] 31)).heap.size := by simp
  go_enter Tryz.func73, Tryz.ntmps73
  go_wp2_with fail
  refine (gnum_any _ b v l _ _ S0.at_ H1.out).mono ?_
  rintro en w1 ⟨rfl, hR1, hk1⟩
  have S1 : RSt (w.alloc (.cells #[.int .i64 0, .int .i64 0, .int .i64 0, .int .i64 0, .int .i64 0, .slice none 0 0, .string ⟨#[]⟩, .slice none 0 0, .int .i64 0, .int .i64 0, .string ⟨#[]⟩, .string ⟨#[]⟩, .slice none 0 0, .int .i64 0, .int .i64 0, .bool false, .slice none 0 0, .slice none 0 0, .slice none 0 0] 31)) b v l w1 p1 e1 := ⟨hR1, S0.kept.trans hk1⟩
  clear S0 hR1 hk1
  go_wp2_with fail
  refine (gnum_any _ b v l _ _ S1.at_ H2.out).mono ?_
  rintro en w2 ⟨rfl, hR2, hk2⟩
  have S2 : RSt (w.alloc (.cells #[.int .i64 0, .int .i64 0, .int .i64 0, .int .i64 0, .int .i64 0, .slice none 0 0, .string ⟨#[]⟩, .slice none 0 0, .int .i64 0, .int .i64 0, .string ⟨#[]⟩, .string ⟨#[]⟩, .slice none 0 0, .int .i64 0, .int .i64 0, .bool false, .slice none 0 0, .slice none 0 0, .slice none 0 0] 31)) b v l w2 p2 e2 := ⟨hR2, S1.kept.trans hk2⟩
  clear S1 hR2 hk2
  go_wp2_with fail
  refine (gnum_any _ b v l _ _ S2.at_ H3.out).mono ?_
  rintro en w3 ⟨rfl, hR3, hk3⟩
  have S3 : RSt (w.alloc (.cells #[.int .i64 0, .int .i64 0, .int .i64 0, .int .i64 0, .int .i64 0, .slice none 0 0, .string ⟨#[]⟩, .slice none 0 0, .int .i64 0, .int .i64 0, .string ⟨#[]⟩, .string ⟨#[]⟩, .slice none 0 0, .int .i64 0, .int .i64 0, .bool false, .slice none 0 0, .slice none 0 0, .slice none 0 0] 31)) b v l w3 p3 e3 := ⟨hR3, S2.kept.trans hk3⟩
  clear S2 hR3 hk3
  go_wp2_with fail
  refine (gnum_any _ b v l _ _ S3.at_ H4.out).mono ?_
  rintro en w4 ⟨rfl, hR4, hk4⟩
  have S4 : RSt (w.alloc (.cells #[.int .i64 0, .int .i64 0, .int .i64 0, .int .i64 0, .int .i64 0, .slice none 0 0, .string ⟨#[]⟩, .slice none 0 0, .int .i64 0, .int .i64 0, .string ⟨#[]⟩, .string ⟨#[]⟩, .slice none 0 0, .int .i64 0, .int .i64 0, .bool false, .slice none 0 0, .slice none 0 0, .slice none 0 0] 31)) b v l w4 p4 e4 := ⟨hR4, S3.kept.trans hk4⟩
  clear S3 hR4 hk4
  go_wp2_with fail
  refine (gnum_any _ b v l _ _ S4.at_ H5.out).mono ?_
  rintro en w5 ⟨rfl, hR5, hk5⟩
  have S5 : RSt (w.alloc (.cells #[.int .i64 0, .int .i64 0, .int .i64 0, .int .i64 0, .int .i64 0, .slice none 0 0, .string ⟨#[]⟩, .slice none 0 0, .int .i64 0, .int .i64 0, .string ⟨#[]⟩, .string ⟨#[]⟩, .slice none 0 0, .int .i64 0, .int .i64 0, .bool false, .slice none 0 0, .slice none 0 0, .slice none 0 0] 31)) b v l w5 p5 e5 := ⟨hR5, S4.kept.trans hk5⟩
  clear S4 hR5 hk5
  go_wp2_with fail
  refine (getList_num _ b v l _ _ S5.at_ H6.out).mono ?_
  rintro en w6 ⟨sv6, rfl, hL6, hR6, hk6⟩
  obtain ⟨A6, n6, c6, rfl⟩ := hL6.shape
  have hd6 := new_rs S5.at_
  have hz6 : w.heap.size + 1 ≤ w5.heap.size := Nat.le_trans hz0 S5.kept.size
  have S6 : RSt (w.alloc (.cells #[.int .i64 0, .int .i64 0, .int .i64 0, .int .i64 0, .int .i64 0, .slice none 0 0, .string ⟨#[]⟩, .slice none 0 0, .int .i64 0, .int .i64 0, .string ⟨#[]⟩, .string ⟨#[]⟩, .slice none 0 0, .int .i64 0, .int .i64 0, .bool false, .slice none 0 0, .slice none 0 0, .slice none 0 0] 31)) b v l w6 p6 e6 := ⟨hR6, S5.kept.trans hk6⟩
  clear S5 hR6 hk6
  go_wp2_with fail
  refine (gtext_any 65536 _ b v l _ _ S6.at_ (by omega) H7.out).mono ?_
  rintro en w7 ⟨rfl, hR7, hk7⟩
  replace hL6 := hL6.keep intE_ok hk7 hd6
  have S7 : RSt (w.alloc (.cells #[.int .i64 0, .int .i64 0, .int .i64 0, .int .i64 0, .int .i64 0, .slice none 0 0, .string ⟨#[]⟩, .slice none 0 0, .int .i64 0, .int .i64 0, .string ⟨#[]⟩, .string ⟨#[]⟩, .slice none 0 0, .int .i64 0, .int .i64 0, .bool false, .slice none 0 0, .slice none 0 0, .slice none 0 0] 31)) b v l w7 p7 e7 := ⟨hR7, S6.kept.trans hk7⟩
  clear S6 hR7 hk7
  go_wp2_with fail
  refine (getList_entry _ b v l _ _ S7.at_ H8.out).mono ?_
  rintro en w8 ⟨sv8, rfl, hL8, hR8, hk8⟩
  obtain ⟨A8, n8, c8, rfl⟩ := hL8.shape
  replace hL6 := hL6.keep intE_ok hk8 hd6
  have hd8 := new_rs S7.at_
  have hz8 : w.heap.size + 1 ≤ w7.heap.size := Nat.le_trans hz0 S7.kept.size
  have S8 : RSt (w.alloc (.cells #[.int .i64 0, .int .i64 0, .int .i64 0, .int .i64 0, .int .i64 0, .slice none 0 0, .string ⟨#[]⟩, .slice none 0 0, .int .i64 0, .int .i64 0, .string ⟨#[]⟩, .string ⟨#[]⟩, .slice none 0 0, .int .i64 0, .int .i64 0, .bool false, .slice none 0 0, .slice none 0 0, .slice none 0 0] 31)) b v l w8 p8 e8 := ⟨hR8, S7.kept.trans hk8⟩
  clear S7 hR8 hk8
  go_wp2_with fail
  refine (get_req _ b v l _ _ S8.at_ H9.out).mono ?_
  rintro en w9 ⟨cs9, rfl, hL9, hR9, hk9⟩
  obtain ⟨A9_acl, n9_acl, c9_acl, A9_subs, n9_subs, c9_subs, A9_armed, n9_armed, c9_armed, rfl⟩ := reqE_cells hL9
  replace hL6 := hL6.keep intE_ok hk9 hd6
  replace hL8 := hL8.keep entryE_ok hk9 hd8
  have hd9 := new_rs S8.at_
  have hz9 : w.heap.size + 1 ≤ w8.heap.size := Nat.le_trans hz0 S8.kept.size
  have S9 : RSt (w.alloc (.cells #[.int .i64 0, .int .i64 0, .int .i64 0, .int .i64 0, .int .i64 0, .slice none 0 0, .string ⟨#[]⟩, .slice none 0 0, .int .i64 0, .int .i64 0, .string ⟨#[]⟩, .string ⟨#[]⟩, .slice none 0 0, .int .i64 0, .int .i64 0, .bool false, .slice none 0 0, .slice none 0 0, .slice none 0 0] 31)) b v l w9 p9 e9 := ⟨hR9, S8.kept.trans hk9⟩
  clear S8 hR9 hk9
  go_wp2_with fail
  refine (getList_text _ b v l _ _ S9.at_ H10.out).mono ?_
  rintro en w10 ⟨sv10, rfl, hL10, hR10, hk10⟩
  obtain ⟨A10, n10, c10, rfl⟩ := hL10.shape
  replace hL6 := hL6.keep intE_ok hk10 hd6
  replace hL8 := hL8.keep entryE_ok hk10 hd8
  replace hL9 := reqE_ok.keep hL9 hk10 hd9
  have hd10 := new_rs S9.at_
  have hz10 : w.heap.size + 1 ≤ w9.heap.size := Nat.le_trans hz0 S9.kept.size
  have S10 : RSt (w.alloc (.cells #[.int .i64 0, .int .i64 0, .int .i64 0, .int .i64 0, .int .i64 0, .slice none 0 0, .string ⟨#[]⟩, .slice none 0 0, .int .i64 0, .int .i64 0, .string ⟨#[]⟩, .string ⟨#[]⟩, .slice none 0 0, .int .i64 0, .int .i64 0, .bool false, .slice none 0 0, .slice none 0 0, .slice none 0 0] 31)) b v l w10 p10 e10 := ⟨hR10, S9.kept.trans hk10⟩
  clear S9 hR10 hk10
  have hb := S10.blk hbk hnb
  have hsz : (Tryz.prog.info? 31).map (·.size) = some 19 := by kernel_rfl
  have HSZ := Lib.hid hsz; clear hsz
  have HB := Lib.hid hb; clear hb
  go_wp2_with (refine wpList_store_row _ rfl 31 _ _ rfl w.heap.size _ [.int .i64 x1, .int .i64 x2, .int .i64 x3, .int .i64 x4, .int .i64 x5, .slice A6 n6 c6, .string x7, .slice A8 n8 c8, .int .i64 x9.op.kind, .int .i64 x9.op.xid, .string x9.op.path, .string x9.op.data, .slice A9_acl n9_acl c9_acl, .int .i64 x9.op.flags, .int .i64 x9.op.version, .bool x9.op.watch, .slice A9_subs n9_subs c9_subs, .slice A9_armed n9_armed c9_armed, .slice A10 n10 c10] rfl rfl HB.out HSZ.out rfl (by simp [Value.oneCell']) ?_)
  have hrow := setRow_heap w10 w.heap.size _ ([.int .i64 x1, .int .i64 x2, .int .i64 x3, .int .i64 x4, .int .i64 x5, .slice A6 n6 c6, .string x7, .slice A8 n8 c8, .int .i64 x9.op.kind, .int .i64 x9.op.xid, .string x9.op.path, .string x9.op.data, .slice A9_acl n9_acl c9_acl, .int .i64 x9.op.flags, .int .i64 x9.op.version, .bool x9.op.watch, .slice A9_subs n9_subs c9_subs, .slice A9_armed n9_armed c9_armed, .slice A10 n10 c10] : List Value).toArray _ _ HB.out
  have hload := run_loadVar_row (P := Tryz.prog) _ w.heap.size 31 31 _ (0, 0) _ hrow Tryz.underlying31 rfl HSZ.out
  exact ret_cell 2 31 w.heap.size _ Tryz.results73 rfl hload rfl ⟨_, rfl, ⟨_, _, _, _, rfl, fin_list intE_ok hL6 hz6 _, fin_list entryE_ok hL8 hz8 _, fin_E reqE_ok hL9 hz9 _, fin_list textE_ok hL10 hz10 _, hi1, hi2, hi3, hi4, hi5, hi7⟩, fin_R hR S10.at_ _, fin_K hR S10.kept _⟩

end Go.Proofs.YtpmemcpfoapjmaaGreat
