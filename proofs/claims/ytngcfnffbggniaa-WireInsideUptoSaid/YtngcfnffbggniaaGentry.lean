/- Transactions and entries, taken up. -/
import Derived.Test.YtngcfnffbggniaaGpart
import Derived.Test.YtngcfnffbggniaaGtwo
namespace Go.Proofs.Ytngcfnffbggniaa
open Go.ChangeShapes Go.WideShapes Go.ChangeAt Go.RowKit
set_option linter.unusedVariables false

set_option maxRecDepth 100000 in
set_option maxHeartbeats 600000 in
theorem get_txn (w : World) (b : Nat) (v : Value) (l : List UInt8) (p e : Nat) (hR : RAt w b v l p e) {x : Txn} {q e' : Nat} (h : txnF.get l p e = (x, q, e')) :
    Calls Try.prog 112 #[.pointer (some ⟨b, 0, none⟩)] w (GPost txnE w b v l x q e') := by
  rcases h1 : partF.get l p e with ⟨x1, p1, e1⟩
  rcases h2 : (listF partF).get l p1 e1 with ⟨x2, p2, e2⟩
  have hf : txnF.get l p e = (⟨x1, x2⟩, p2, e2) := by simp only [txnF, isoF, seqF, h1, h2]
  rw [hf] at h
  simp only [Prod.mk.injEq] at h
  obtain ⟨rfl, rfl, rfl⟩ := h
  have H1 := Lib.hid h1; clear h1
  have H2 := Lib.hid h2; clear h2
  clear hf
  have hR0 := hR.alloc (.cells #[.int .i64 0, .string ⟨#[]⟩, .string ⟨#[]⟩, .slice none 0 0, .int .i64 0, .int .i64 0, .int .i64 0, .slice none 0 0] 26)
  have hsz : (Try.prog.info? 26).map (·.size) = some 8 := by kernel_rfl
  have HSZ := Lib.hid hsz; clear hsz
  go_enter Try.func112, Try.ntmps112
  go_wp2_with fail
  refine (get_part _ b v l _ _ hR0 H1.out).mono ?_
  rintro en w1 ⟨cs, rfl, hE1, hR1, hk1⟩
  have hfl := partE_flat hE1
  have HFL := Lib.hid hfl.1
  have HF1 := Lib.hid hfl.2
  have B0 := TBox.start (cs := cs) hR hR1 hk1
  replace hE1 := rel_start partE_ok (o := .cells cs.toArray 26) hE1
  clear hR1 hk1 hfl
  go_wp2_with (refine wpList_store_new w1 rfl 26 _ (.tmp 5) rfl _ cs rfl rfl (by rw [HFL.out]; exact HSZ.out) HFL.out.symm HF1.out ?_)
  refine (getList_part _ b v l _ _ B0.rd H2.out).mono ?_
  rintro en w2 ⟨sv2, rfl, hL2, hR2, hk2⟩
  obtain ⟨A2, n2, c2, rfl⟩ := hL2.shape
  replace hE1 := partE_ok.keep hE1 hk2 B0.ok_rs
  replace hL2 := B0.rel_list partE_ok hL2
  have B1a := B0.list hR2 hk2
  obtain ⟨hc2, hfz2⟩ := B1a.cell 7 (by rw [HFL.out]; omega)
  have B1 := B1a.set 7 (.slice A2 n2 c2)
  generalize cs[7]'(by rw [HFL.out]; omega) = u2 at hc2
  replace hE1 := partE_ok.keep hE1 (set_kept _ w1.heap.size 7 (.slice A2 n2 c2)) (ok_g w w1.heap.size)
  replace hL2 := hL2.keep partE_ok (set_kept _ w1.heap.size 7 (.slice A2 n2 c2)) (ok_g w w1.heap.size)
  clear B0 B1a hR2 hk2
  have hfl2 : Flat 8 (cs.set 7 (.slice A2 n2 c2)) := flat_set ⟨HFL.out, HF1.out⟩ 7 rfl
  have HL2 := Lib.hid hfl2.1
  have HF2 := Lib.hid hfl2.2
  have HB := Lib.hid B1.res
  have HX := Lib.hid (range_row B1.box)
  clear hfl2
  go_wp2_with (first | (refine wpList_load_mid rfl 26 (.tmp 3) rfl w1.heap.size 0 rfl (cs.set 7 (.slice A2 n2 c2)) _ HX.out Try.underlying26 rfl (by rw [HL2.out]; exact HSZ.out) ?_) | (refine wpList_store_row _ rfl 26 _ _ rfl w.heap.size _ (cs.set 7 (.slice A2 n2 c2)) rfl rfl HB.out (by rw [HL2.out]; exact HSZ.out) (by rw [HL2.out]; rfl) HF2.out ?_))
  have hrow := setRow_heap (w2.setCell ⟨w1.heap.size, 7, none⟩ (.slice A2 n2 c2)) w.heap.size _ ((cs.set 7 (.slice A2 n2 c2))).toArray _ _ HB.out
  have hload := run_loadVar_row (P := Try.prog) _ w.heap.size 26 26 _ (0, 0) _ hrow Try.underlying26 rfl (by rw [List.size_toArray, HL2.out]; exact HSZ.out)
  exact ret_cell 2 26 w.heap.size _ Try.results112 rfl hload rfl ⟨_, rfl, ⟨_, partQ_set (rel_fin partE_ok hE1 _) ⟨_, _, _, rfl⟩, rel_finL partE_ok hL2 _⟩, B1.finR _, B1.finK _⟩

set_option maxRecDepth 100000 in
set_option maxHeartbeats 600000 in
theorem get_entry (w : World) (b : Nat) (v : Value) (l : List UInt8) (p e : Nat) (hR : RAt w b v l p e) {x : Entry} {q e' : Nat} (h : entryF.get l p e = (x, q, e')) :
    Calls Try.prog 65 #[.pointer (some ⟨b, 0, none⟩)] w (GPost entryE w b v l x q e') := by
  rcases h1 : numF.get l p e with ⟨x1, p1, e1⟩
  have hi1 : I64 x1 := by have := numF_i64 (l := l) (p := p) (e := e); rw [h1] at this; exact this
  rcases h2 : numF.get l p1 e1 with ⟨x2, p2, e2⟩
  have hi2 : I64 x2 := by have := numF_i64 (l := l) (p := p1) (e := e1); rw [h2] at this; exact this
  rcases h3 : numF.get l p2 e2 with ⟨x3, p3, e3⟩
  have hi3 : I64 x3 := by have := numF_i64 (l := l) (p := p2) (e := e2); rw [h3] at this; exact this
  rcases h4 : txnF.get l p3 e3 with ⟨x4, p4, e4⟩
  have hf : entryF.get l p e = (⟨x1, x2, x3, x4⟩, p4, e4) := by simp only [entryF, isoF, seqF, h1, h2, h3, h4]
  rw [hf] at h
  simp only [Prod.mk.injEq] at h
  obtain ⟨rfl, rfl, rfl⟩ := h
  have H1 := Lib.hid h1; clear h1
  have H2 := Lib.hid h2; clear h2
  have H3 := Lib.hid h3; clear h3
  have H4 := Lib.hid h4; clear h4
  clear hf
  have S0 := RSt.start (hR.alloc (.cells #[.int .i64 0, .int .i64 0, .int .i64 0, .int .i64 0, .string ⟨#[]⟩, .string ⟨#[]⟩, .slice none 0 0, .int .i64 0, .int .i64 0, .int .i64 0, .slice none 0 0] 28))
  have hbk := heap_alloc_new w (.cells #[.int .i64 0, .int .i64 0, .int .i64 0, .int .i64 0, .string ⟨#[]⟩, .string ⟨#[]⟩, .slice none 0 0, .int .i64 0, .int .i64 0, .int .i64 0, .slice none 0 0] 28)
  have hnb := rbox_new hR
  have hz0 : w.heap.size + 1 ≤ (w.alloc (.cells #[.int .i64 0, .int .i64 0, .int .i64 0, .int .i64 0, .string ⟨#[]⟩, .string ⟨#[]⟩, .slice none 0 0, .int .i64 0, .int .i64 0, .int .i64 0, .slice none 0 0] 28)).heap.size := by simp
  go_enter Try.func65, Try.ntmps65
  go_wp2_with fail
  refine (gnum_any _ b v l _ _ S0.at_ H1.out).mono ?_
  rintro en w1 ⟨rfl, hR1, hk1⟩
  have S1 : RSt (w.alloc (.cells #[.int .i64 0, .int .i64 0, .int .i64 0, .int .i64 0, .string ⟨#[]⟩, .string ⟨#[]⟩, .slice none 0 0, .int .i64 0, .int .i64 0, .int .i64 0, .slice none 0 0] 28)) b v l w1 p1 e1 := ⟨hR1, S0.kept.trans hk1⟩
  clear S0 hR1 hk1
  go_wp2_with fail
  refine (gnum_any _ b v l _ _ S1.at_ H2.out).mono ?_
  rintro en w2 ⟨rfl, hR2, hk2⟩
  have S2 : RSt (w.alloc (.cells #[.int .i64 0, .int .i64 0, .int .i64 0, .int .i64 0, .string ⟨#[]⟩, .string ⟨#[]⟩, .slice none 0 0, .int .i64 0, .int .i64 0, .int .i64 0, .slice none 0 0] 28)) b v l w2 p2 e2 := ⟨hR2, S1.kept.trans hk2⟩
  clear S1 hR2 hk2
  go_wp2_with fail
  refine (gnum_any _ b v l _ _ S2.at_ H3.out).mono ?_
  rintro en w3 ⟨rfl, hR3, hk3⟩
  have S3 : RSt (w.alloc (.cells #[.int .i64 0, .int .i64 0, .int .i64 0, .int .i64 0, .string ⟨#[]⟩, .string ⟨#[]⟩, .slice none 0 0, .int .i64 0, .int .i64 0, .int .i64 0, .slice none 0 0] 28)) b v l w3 p3 e3 := ⟨hR3, S2.kept.trans hk3⟩
  clear S2 hR3 hk3
  go_wp2_with fail
  refine (get_txn _ b v l _ _ S3.at_ H4.out).mono ?_
  rintro en w4 ⟨cs4, rfl, hL4, hR4, hk4⟩
  obtain ⟨A4_acl, n4_acl, c4_acl, A4_subs, n4_subs, c4_subs, rfl⟩ := txnE_cells hL4
  have hd4 := new_rs S3.at_
  have hz4 : w.heap.size + 1 ≤ w3.heap.size := Nat.le_trans hz0 S3.kept.size
  have S4 : RSt (w.alloc (.cells #[.int .i64 0, .int .i64 0, .int .i64 0, .int .i64 0, .string ⟨#[]⟩, .string ⟨#[]⟩, .slice none 0 0, .int .i64 0, .int .i64 0, .int .i64 0, .slice none 0 0] 28)) b v l w4 p4 e4 := ⟨hR4, S3.kept.trans hk4⟩
  clear S3 hR4 hk4
  have hb := S4.blk hbk hnb
  have hsz : (Try.prog.info? 28).map (·.size) = some 11 := by kernel_rfl
  have HSZ := Lib.hid hsz; clear hsz
  have HB := Lib.hid hb; clear hb
  go_wp2_with (refine wpList_store_row _ rfl 28 _ _ rfl w.heap.size _ [.int .i64 x1, .int .i64 x2, .int .i64 x3, .int .i64 x4.part.kind, .string x4.part.path, .string x4.part.data, .slice A4_acl n4_acl c4_acl, .int .i64 x4.part.owner, .int .i64 x4.part.number, .int .i64 x4.part.err, .slice A4_subs n4_subs c4_subs] rfl rfl HB.out HSZ.out rfl (by simp [Value.oneCell']) ?_)
  have hrow := setRow_heap w4 w.heap.size _ ([.int .i64 x1, .int .i64 x2, .int .i64 x3, .int .i64 x4.part.kind, .string x4.part.path, .string x4.part.data, .slice A4_acl n4_acl c4_acl, .int .i64 x4.part.owner, .int .i64 x4.part.number, .int .i64 x4.part.err, .slice A4_subs n4_subs c4_subs] : List Value).toArray _ _ HB.out
  have hload := run_loadVar_row (P := Try.prog) _ w.heap.size 28 28 _ (0, 0) _ hrow Try.underlying28 rfl HSZ.out
  exact ret_cell 2 28 w.heap.size _ Try.results65 rfl hload rfl ⟨_, rfl, ⟨_, rfl, fin_E txnE_ok hL4 hz4 _, hi1, hi2, hi3⟩, fin_R hR S4.at_ _, fin_K hR S4.kept _⟩

theorem info_entry : (Try.prog.info? 28).map (fun i => (i.zero, i.size, i.bytes)) = some (some (.agg #[.int .i64 0, .int .i64 0, .int .i64 0, .int .i64 0, .string ⟨#[]⟩, .string ⟨#[]⟩, .slice none 0 0, .int .i64 0, .int .i64 0, .int .i64 0, .slice none 0 0]), 11, 136) := by kernel_rfl

set_option maxRecDepth 100000 in
set_option maxHeartbeats 600000 in
theorem getList_entry (w : World) (b : Nat) (v : Value) (l : List UInt8) (p e : Nat) (hR : RAt w b v l p e) {xs : List Entry} {q e' : Nat} (h : (listF entryF).get l p e = (xs, q, e')) :
    Calls Try.prog 116 #[.pointer (some ⟨b, 0, none⟩), .func (.func 65) #[] #[]] w (LPost entryE 11 w b v l xs q e') := by
  obtain ⟨i0, hi, hz0, hz1, hz2⟩ := info_parts info_entry
  have hcl := rCount_le l 256 p e
  have hcc := rcount_any 256 w b v l p e hR (by omega) (by omega)
  rcases h1 : rCount l 256 p e with ⟨n, p1, e1⟩
  rw [h1] at hcl hcc
  simp only [listF, h1] at h hcl hcc
  have HH := Lib.hid h; clear h
  have HZ1 := Lib.hid hz1; clear hz1
  have HZ2 := Lib.hid hz2; clear hz2
  have HZ0 := Lib.hid hz0; clear hz0
  have HI := Lib.hid hi; clear hi
  clear h1
  have hn : n ≤ 256 := by omega
  clear hcl
  have HCC := Lib.hid hcc; clear hcc
  go_enter Try.func116, Try.ntmps116
  go_wp2_with fail
  refine HCC.out.mono ?_
  rintro en w0 ⟨rfl, hR0, hk0⟩
  go_wp2_with fail
  go_loopw [5, 8] (fun acc iv wr => GetRel entryE entryF w b v l 28 11 n p1 e1 acc iv wr) (fun _ iv _ => n - (intOf iv).toNat)
  case atStart => exact ⟨0, rfl, Nat.zero_le _, AccR.nil _ _ _ _ _, hR0, hk0⟩
  case round =>
    obtain ⟨k, rfl, hkn, hacc, hRk, hK⟩ := hrel.ex
    clear hrel HCC hR0 hk0
    by_cases hlt : k < n
    · have hkl : (k : Int) < (n : Int) := by omega
      go_wp2_with fail
      refine (get_entry wr b v l _ _ hRk (eta3 _)).mono ?_
      rintro en w1 ⟨cs, rfl, hE1, hR1, hk1⟩
      have hfl := entryE_flat hE1
      have hacc1 := hacc.keep entryE_ok hk1 (new_rs hR)
      have hown := hacc.own
      have hE2 : entryE w1 (fun g => w.heap.size ≤ g ∧ some g ≠ u5.ownBlock) _ _ := entryE_ok.mono hE1 (fun g _ hg => ⟨Nat.le_trans hK.size hg, fun e => by have := (hown g e.symm).2; have hg' : wr.heap.size ≤ g := hg; omega⟩)
      have hsn := getN_snoc (entryF).get k l p1 e1
      have hlen := getN_len (entryF).get k l p1 e1
      have hwl : w.heap.size ≤ w1.heap.size := Nat.le_trans hK.size hk1.size
      have HSN := Lib.hid hsn; clear hsn
      have HLEN := Lib.hid hlen; clear hlen
      have hK1 := hK.trans hk1
      clear hacc hown hE1 hRk hK hk1
      go_wp2_with (first | (refine wpList_one rfl 60 28 (.tmp 13) rfl (.agg cs.toArray) cs rfl rfl i0 _ Try.underlying60 HI.out HZ0.out (by rw [HZ1.out, hfl.1]) (by rw [hfl.1]; omega) (by rw [hfl.1]; omega) ?_) | (at_builtin; go_loud (refine wpList_push entryE_ok w w1 rfl (.tmp 10) (.tmp 14) 60 rfl 28 i0 _ 11 136 Try.underlying60 HI.out HZ0.out HZ1.out HZ2.out rfl (by decide) u5 _ hacc1 cs _ hE2 hfl rfl rfl (by rw [HLEN.out]; omega) (by decide) hwl ?_); intro v' w' hacc' hk'))
      go_roundw
      case rel => exact ⟨k + 1, by go_num, hlt, by rw [HSN.out]; dsimp only; exact hacc', by rw [HSN.out]; dsimp only; exact hR1.keep hk' (fun g hg hs => by have := hR.inn g hg; have hs' : w.heap.size ≤ g := hs; omega), Kept.trans' hK1 hk' (fun g hg hs => by have hs' : w.heap.size ≤ g := hs; omega)⟩
      case measure => simp [intOf]; omega
    · have hkl : ¬ (k : Int) < (n : Int) := by omega
      obtain rfl : k = n := by omega
      have hlist := hacc.list entryE_ok
      rw [HH.out] at hlist hRk
      have HL := Lib.hid hlist
      have HR := Lib.hid hRk
      clear hacc hlist hRk
      go_wp2_with fail
      go_ret
      exact ⟨_, rfl, HL.out, HR.out, hK⟩

end Go.Proofs.Ytngcfnffbggniaa
