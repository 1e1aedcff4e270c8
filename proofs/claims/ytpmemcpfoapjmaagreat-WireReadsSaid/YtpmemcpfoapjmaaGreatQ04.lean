/- Rows of an ACL, numbers, texts, taken up. -/
import Derived.Test.YtpmemcpfoapjmaaGreatQ03
namespace Go.Proofs.YtpmemcpfoapjmaaGreat
open Go.ChangeShapes Go.WideShapes Go.ChangeAt Go.RowKit
set_option linter.unusedVariables false

theorem eta3 {α : Type} (t : α × Nat × Nat) : t = (t.1, t.2.1, t.2.2) := rfl
/-- a struct that a call answers -/
theorem ret_cell {P : Program} {fn : Func} {R : Ending → World → Prop} {a : Act} {w : World} (A t : Nat) (g : Nat) (cells : Array Value) (hres : fn.results = #[.cell A t]) (hA : a.tmps.getD A undef = .pointer (some ⟨g, 0, none⟩))
    (hload : (loadVar t ⟨g, 0, none⟩).run P w = .ok (.agg cells) w) (hd : a.defers = []) (hR : R (.returned (.agg cells)) w) : bodyPost P fn R .ret a w :=
  bodyPost_ret (v := .agg cells) (by have h1 : a.tmps[A]?.getD undef = .pointer (some ⟨g, 0, none⟩) := (by simpa using hA); simp [results, hres, h1, asAddr, hload]) hd hR
theorem ret_cell_tmp {P : Program} {fn : Func} {R : Ending → World → Prop} {a : Act} {w : World} (A t B : Nat) (g : Nat) (cells : Array Value) (v : Value) (hres : fn.results = #[.cell A t, .tmp B]) (hA : a.tmps.getD A undef = .pointer (some ⟨g, 0, none⟩)) (hB : a.tmps.getD B undef = v)
    (hload : (loadVar t ⟨g, 0, none⟩).run P w = .ok (.agg cells) w) (hd : a.defers = []) (hR : R (.returned (.tuple #[.agg cells, v])) w) : bodyPost P fn R .ret a w :=
  bodyPost_ret (v := .tuple #[.agg cells, v]) (by have h1 : a.tmps[A]?.getD undef = .pointer (some ⟨g, 0, none⟩) := (by simpa using hA); have h2 : a.tmps[B]?.getD undef = v := (by simpa using hB); simp [results, hres, h1, h2, asAddr, hload]) hd hR

theorem fin_list {α : Type} {E : CellsOf α} (hE : E.Ok) {w wj wn : World} {sz : Nat} {sv : Value} {xs : List α} (hL : ListR E wn (New wj) sz sv xs) (hz : w.heap.size + 1 ≤ wj.heap.size) (c : Array Value) : ListR E (wn.setRow w.heap.size c) (New w) sz sv xs :=
  (hL.keep hE (setRow_kept wn w.heap.size c) (fun k hk hs => by have hk' : wj.heap.size ≤ k := hk; have hs' : k = w.heap.size := hs; omega)).mono hE (fun k _ hk => by have hk' : wj.heap.size ≤ k := hk; unfold New; omega)
theorem fin_E {α : Type} {E : CellsOf α} (hE : E.Ok) {w wj wn : World} {cs : List Value} {x : α} (hL : E wn (New wj) cs x) (hz : w.heap.size + 1 ≤ wj.heap.size) (c : Array Value) : E (wn.setRow w.heap.size c) (New w) cs x :=
  hE.mono (hE.keep hL (setRow_kept wn w.heap.size c) (fun k hk hs => by have hk' : wj.heap.size ≤ k := hk; have hs' : k = w.heap.size := hs; omega)) (fun k _ hk => by have hk' : wj.heap.size ≤ k := hk; unfold New; omega)
theorem fin_R {w wn : World} {b : Nat} {v : Value} {l : List UInt8} {p e q e' : Nat} (h0 : RAt w b v l p e) (h : RAt wn b v l q e') (c : Array Value) : RAt (wn.setRow w.heap.size c) b v l q e' :=
  h.keep (setRow_kept wn w.heap.size c) (fun k hk hs => by have := h0.inn k hk; have hs' : k = w.heap.size := hs; omega)
theorem fin_K {w wn : World} {o : Obj} {b : Nat} {v : Value} {l : List UInt8} {p e : Nat} (h0 : RAt w b v l p e) (h : Kept (RS b) (w.alloc o) wn) (c : Array Value) : Kept (RS b) w (wn.setRow w.heap.size c) :=
  Kept.trans' (Kept.trans' ((Kept.refl (RS b) w).alloc o) h (fun _ _ s => s)) (setRow_kept wn w.heap.size c) (fun k hk hs => by have hs' : k = w.heap.size := hs; omega)

theorem info_num : (Tryz.prog.info? 3).map (fun i => (i.zero, i.size, i.bytes)) = some (some (.int .i64 0), 1, 8) := by kernel_rfl

set_option maxRecDepth 100000 in
set_option maxHeartbeats 600000 in
theorem getList_num (w : World) (b : Nat) (v : Value) (l : List UInt8) (p e : Nat) (hR : RAt w b v l p e) {xs : List Int} {q e' : Nat} (h : (listF numF).get l p e = (xs, q, e')) :
    Calls Tryz.prog 108 #[.pointer (some ⟨b, 0, none⟩), .func (.func 109) #[] #[]] w (LPost intE 1 w b v l xs q e') := by
  obtain ⟨i0, hi, hz0, hz1, hz2⟩ := info_parts info_num
  have hcl := rCount_le l 256 p e
  have hcc := rcount_any 256 w b v l p e hR (by omega) (by omega)
  rcases h1 : rCount l 256 p e with ⟨n, p1, e1⟩
  rw [h1] at hcl hcc
  simp only [listF, h1] at h hcl hcc
  have HH := Lib.hid h; clear h
  have HZ1 := Lib.hid hz1; clear hz1
  have HZ2 := Lib.hid hz2; clear hz2
  have HZ0 := Lib.hid hz0; clear hz0
  have HI := Lib.hid hi; clear hi
  clear h1
  have hn : n ≤ 256 := by omega
  clear hcl
  have HCC := Lib.hid hcc; clear hcc
  go_enter Tryz.func108, Tryz.ntmps108
  go_wp2_with fail
  refine HCC.out.mono ?_
  rintro en w0 ⟨rfl, hR0, hk0⟩
  go_wp2_with fail
  go_loopw [5, 8] (fun acc iv wr => GetRel intE numF w b v l 3 1 n p1 e1 acc iv wr) (fun _ iv _ => n - (intOf iv).toNat)
  case atStart => exact ⟨0, rfl, Nat.zero_le _, AccR.nil _ _ _ _ _, hR0, hk0⟩
  case round =>
    obtain ⟨k, rfl, hkn, hacc, hRk, hK⟩ := hrel.ex
    clear hrel HCC hR0 hk0
    by_cases hlt : k < n
    · have hkl : (k : Int) < (n : Int) := by omega
      go_wp2_with fail
      refine (getNum_any wr b v l _ _ hRk (eta3 _)).mono ?_
      rintro en w1 ⟨rfl, hR1, hk1⟩
      have hE1 : intE w1 (New wr) [.int .i64 (numF.get l (getN numF.get k l p1 e1).2.1 (getN numF.get k l p1 e1).2.2).1] (numF.get l (getN numF.get k l p1 e1).2.1 (getN numF.get k l p1 e1).2.2).1 := ⟨rfl, numF_i64⟩
      have hfl : Flat 1 [Value.int .i64 (numF.get l (getN numF.get k l p1 e1).2.1 (getN numF.get k l p1 e1).2.2).1] := ⟨rfl, by simp [Value.oneCell']⟩
      have hacc1 := hacc.keep intE_ok hk1 (new_rs hR)
      have hown := hacc.own
      have hE2 : intE w1 (fun g => w.heap.size ≤ g ∧ some g ≠ u5.ownBlock) _ _ := intE_ok.mono hE1 (fun g _ hg => ⟨Nat.le_trans hK.size hg, fun e => by have := (hown g e.symm).2; have hg' : wr.heap.size ≤ g := hg; omega⟩)
      have hsn := getN_snoc (numF).get k l p1 e1
      have hlen := getN_len (numF).get k l p1 e1
      have hwl : w.heap.size ≤ w1.heap.size := Nat.le_trans hK.size hk1.size
      have HSN := Lib.hid hsn; clear hsn
      have HLEN := Lib.hid hlen; clear hlen
      have hK1 := hK.trans hk1
      clear hacc hown hE1 hRk hK hk1
      go_wp2_with (first | (refine wpList_one rfl 22 3 (.tmp 13) rfl _ _ rfl rfl i0 _ Tryz.underlying22 HI.out HZ0.out (by rw [HZ1.out, hfl.1]) (by rw [hfl.1]; omega) (by rw [hfl.1]; omega) ?_) | (at_builtin; go_loud (refine wpList_push intE_ok w w1 rfl (.tmp 10) (.tmp 14) 22 rfl 3 i0 _ 1 8 Tryz.underlying22 HI.out HZ0.out HZ1.out HZ2.out rfl (by decide) u5 _ hacc1 _ _ hE2 hfl rfl rfl (by rw [HLEN.out]; omega) (by decide) hwl ?_); intro v' w' hacc' hk'))
      go_roundw
      case rel => exact ⟨k + 1, by go_num, hlt, by rw [HSN.out]; dsimp only; exact hacc', by rw [HSN.out]; dsimp only; exact hR1.keep hk' (fun g hg hs => by have := hR.inn g hg; have hs' : w.heap.size ≤ g := hs; omega), Kept.trans' hK1 hk' (fun g hg hs => by have hs' : w.heap.size ≤ g := hs; omega)⟩
      case measure => simp [intOf]; omega
    · have hkl : ¬ (k : Int) < (n : Int) := by omega
      obtain rfl : k = n := by omega
      have hlist := hacc.list intE_ok
      rw [HH.out] at hlist hRk
      have HL := Lib.hid hlist
      have HR := Lib.hid hRk
      clear hacc hlist hRk
      go_wp2_with fail
      go_ret
      exact ⟨_, rfl, HL.out, HR.out, hK⟩

theorem info_text : (Tryz.prog.info? 9).map (fun i => (i.zero, i.size, i.bytes)) = some (some (.string ⟨#[]⟩), 1, 16) := by kernel_rfl

set_option maxRecDepth 100000 in
set_option maxHeartbeats 600000 in
theorem getList_text (w : World) (b : Nat) (v : Value) (l : List UInt8) (p e : Nat) (hR : RAt w b v l p e) {xs : List ByteArray} {q e' : Nat} (h : (listF (textF 4096)).get l p e = (xs, q, e')) :
    Calls Tryz.prog 112 #[.pointer (some ⟨b, 0, none⟩), .func (.func 91) #[] #[]] w (LPost textE 1 w b v l xs q e') := by
  obtain ⟨i0, hi, hz0, hz1, hz2⟩ := info_parts info_text
  have hcl := rCount_le l 256 p e
  have hcc := rcount_any 256 w b v l p e hR (by omega) (by omega)
  rcases h1 : rCount l 256 p e with ⟨n, p1, e1⟩
  rw [h1] at hcl hcc
  simp only [listF, h1] at h hcl hcc
  have HH := Lib.hid h; clear h
  have HZ1 := Lib.hid hz1; clear hz1
  have HZ2 := Lib.hid hz2; clear hz2
  have HZ0 := Lib.hid hz0; clear hz0
  have HI := Lib.hid hi; clear hi
  clear h1
  have hn : n ≤ 256 := by omega
  clear hcl
  have HCC := Lib.hid hcc; clear hcc
  go_enter Tryz.func112, Tryz.ntmps112
  go_wp2_with fail
  refine HCC.out.mono ?_
  rintro en w0 ⟨rfl, hR0, hk0⟩
  go_wp2_with fail
  go_loopw [5, 8] (fun acc iv wr => GetRel textE (textF 4096) w b v l 9 1 n p1 e1 acc iv wr) (fun _ iv _ => n - (intOf iv).toNat)
  case atStart => exact ⟨0, rfl, Nat.zero_le _, AccR.nil _ _ _ _ _, hR0, hk0⟩
  case round =>
    obtain ⟨k, rfl, hkn, hacc, hRk, hK⟩ := hrel.ex
    clear hrel HCC hR0 hk0
    by_cases hlt : k < n
    · have hkl : (k : Int) < (n : Int) := by omega
      go_wp2_with fail
      refine (getText_any wr b v l _ _ hRk (eta3 _)).mono ?_
      rintro en w1 ⟨rfl, hR1, hk1⟩
      have hE1 : textE w1 (New wr) [.string ((textF 4096).get l (getN (textF 4096).get k l p1 e1).2.1 (getN (textF 4096).get k l p1 e1).2.2).1] ((textF 4096).get l (getN (textF 4096).get k l p1 e1).2.1 (getN (textF 4096).get k l p1 e1).2.2).1 := ⟨rfl, textF_str (by omega)⟩
      have hfl : Flat 1 [Value.string ((textF 4096).get l (getN (textF 4096).get k l p1 e1).2.1 (getN (textF 4096).get k l p1 e1).2.2).1] := ⟨rfl, by simp [Value.oneCell']⟩
      have hacc1 := hacc.keep textE_ok hk1 (new_rs hR)
      have hown := hacc.own
      have hE2 : textE w1 (fun g => w.heap.size ≤ g ∧ some g ≠ u5.ownBlock) _ _ := textE_ok.mono hE1 (fun g _ hg => ⟨Nat.le_trans hK.size hg, fun e => by have := (hown g e.symm).2; have hg' : wr.heap.size ≤ g := hg; omega⟩)
      have hsn := getN_snoc ((textF 4096)).get k l p1 e1
      have hlen := getN_len ((textF 4096)).get k l p1 e1
      have hwl : w.heap.size ≤ w1.heap.size := Nat.le_trans hK.size hk1.size
      have HSN := Lib.hid hsn; clear hsn
      have HLEN := Lib.hid hlen; clear hlen
      have hK1 := hK.trans hk1
      clear hacc hown hE1 hRk hK hk1
      go_wp2_with (first | (refine wpList_one rfl 29 9 (.tmp 13) rfl _ _ rfl rfl i0 _ Tryz.underlying29 HI.out HZ0.out (by rw [HZ1.out, hfl.1]) (by rw [hfl.1]; omega) (by rw [hfl.1]; omega) ?_) | (at_builtin; go_loud (refine wpList_push textE_ok w w1 rfl (.tmp 10) (.tmp 14) 29 rfl 9 i0 _ 1 16 Tryz.underlying29 HI.out HZ0.out HZ1.out HZ2.out rfl (by decide) u5 _ hacc1 _ _ hE2 hfl rfl rfl (by rw [HLEN.out]; omega) (by decide) hwl ?_); intro v' w' hacc' hk'))
      go_roundw
      case rel => exact ⟨k + 1, by go_num, hlt, by rw [HSN.out]; dsimp only; exact hacc', by rw [HSN.out]; dsimp only; exact hR1.keep hk' (fun g hg hs => by have := hR.inn g hg; have hs' : w.heap.size ≤ g := hs; omega), Kept.trans' hK1 hk' (fun g hg hs => by have hs' : w.heap.size ≤ g := hs; omega)⟩
      case measure => simp [intOf]; omega
    · have hkl : ¬ (k : Int) < (n : Int) := by omega
      obtain rfl : k = n := by omega
      have hlist := hacc.list textE_ok
      rw [HH.out] at hlist hRk
      have HL := Lib.hid hlist
      have HR := Lib.hid hRk
      clear hacc hlist hRk
      go_wp2_with fail
      go_ret
      exact ⟨_, rfl, HL.out, HR.out, hK⟩

set_option maxRecDepth 100000 in
set_option maxHeartbeats 600000 in
theorem get_acl (w : World) (b : Nat) (v : Value) (l : List UInt8) (p e : Nat) (hR : RAt w b v l p e) {x : Acl} {q e' : Nat} (h : aclF.get l p e = (x, q, e')) :
    Calls Tryz.prog 139 #[.pointer (some ⟨b, 0, none⟩)] w (GPost aclE w b v l x q e') := by
  rcases h1 : numF.get l p e with ⟨x1, p1, e1⟩
  have hi1 : I64 x1 := by have := numF_i64 (l := l) (p := p) (e := e); rw [h1] at this; exact this
  rcases h2 : (textF 4096).get l p1 e1 with ⟨x2, p2, e2⟩
  have hi2 : Str x2 := by have := textF_str (most := 4096) (by omega) (l := l) (p := p1) (e := e1); rw [h2] at this; exact this
  have hf : aclF.get l p e = (⟨x1, x2⟩, p2, e2) := by simp only [aclF, isoF, seqF, h1, h2]
  rw [hf] at h
  simp only [Prod.mk.injEq] at h
  obtain ⟨rfl, rfl, rfl⟩ := h
  have H1 := Lib.hid h1; clear h1
  have H2 := Lib.hid h2; clear h2
  clear hf
  have S0 := RSt.start (hR.alloc (.cells #[.int .i64 0, .string ⟨#[]⟩] 56))
  have hbk := heap_alloc_new w (.cells #[.int .i64 0, .string ⟨#[]⟩] 56)
  have hnb := rbox_new hR
  have hz0 : w.heap.size + 1 ≤ (w.alloc (.cells #[.int .i64 0, .string ⟨#[]⟩] 56)).heap.size := by simp
  go_enter Tryz.func139, Tryz.ntmps139
  go_wp2_with fail
  refine (gnum_any _ b v l _ _ S0.at_ H1.out).mono ?_
  rintro en w1 ⟨rfl, hR1, hk1⟩
  have S1 : RSt (w.alloc (.cells #[.int .i64 0, .string ⟨#[]⟩] 56)) b v l w1 p1 e1 := ⟨hR1, S0.kept.trans hk1⟩
  clear S0 hR1 hk1
  go_wp2_with fail
  refine (getText_any _ b v l _ _ S1.at_ H2.out).mono ?_
  rintro en w2 ⟨rfl, hR2, hk2⟩
  have S2 : RSt (w.alloc (.cells #[.int .i64 0, .string ⟨#[]⟩] 56)) b v l w2 p2 e2 := ⟨hR2, S1.kept.trans hk2⟩
  clear S1 hR2 hk2
  have hb := S2.blk hbk hnb
  have hsz : (Tryz.prog.info? 56).map (·.size) = some 2 := by kernel_rfl
  have HSZ := Lib.hid hsz; clear hsz
  have HB := Lib.hid hb; clear hb
  go_wp2_with (refine wpList_store_row _ rfl 56 _ _ rfl w.heap.size _ [.int .i64 x1, .string x2] rfl rfl HB.out HSZ.out rfl (by simp [Value.oneCell']) ?_)
  have hrow := setRow_heap w2 w.heap.size _ ([.int .i64 x1, .string x2] : List Value).toArray _ _ HB.out
  have hload := run_loadVar_row (P := Tryz.prog) _ w.heap.size 56 56 _ (0, 0) _ hrow Tryz.underlying56 rfl HSZ.out
  exact ret_cell 2 56 w.heap.size _ Tryz.results139 rfl hload rfl ⟨_, rfl, ⟨rfl, hi1, hi2⟩, fin_R hR S2.at_ _, fin_K hR S2.kept _⟩

theorem info_acl : (Tryz.prog.info? 56).map (fun i => (i.zero, i.size, i.bytes)) = some (some (.agg #[.int .i64 0, .string ⟨#[]⟩]), 2, 24) := by kernel_rfl

set_option maxRecDepth 100000 in
set_option maxHeartbeats 600000 in
theorem getList_acl (w : World) (b : Nat) (v : Value) (l : List UInt8) (p e : Nat) (hR : RAt w b v l p e) {xs : List Acl} {q e' : Nat} (h : (listF aclF).get l p e = (xs, q, e')) :
    Calls Tryz.prog 138 #[.pointer (some ⟨b, 0, none⟩), .func (.func 139) #[] #[]] w (LPost aclE 2 w b v l xs q e') := by
  obtain ⟨i0, hi, hz0, hz1, hz2⟩ := info_parts info_acl
  have hcl := rCount_le l 256 p e
  have hcc := rcount_any 256 w b v l p e hR (by omega) (by omega)
  rcases h1 : rCount l 256 p e with ⟨n, p1, e1⟩
  rw [h1] at hcl hcc
  simp only [listF, h1] at h hcl hcc
  have HH := Lib.hid h; clear h
  have HZ1 := Lib.hid hz1; clear hz1
  have HZ2 := Lib.hid hz2; clear hz2
  have HZ0 := Lib.hid hz0; clear hz0
  have HI := Lib.hid hi; clear hi
  clear h1
  have hn : n ≤ 256 := by omega
  clear hcl
  have HCC := Lib.hid hcc; clear hcc
  go_enter Tryz.func138, Tryz.ntmps138
  go_wp2_with fail
  refine HCC.out.mono ?_
  rintro en w0 ⟨rfl, hR0, hk0⟩
  go_wp2_with fail
  go_loopw [5, 8] (fun acc iv wr => GetRel aclE aclF w b v l 56 2 n p1 e1 acc iv wr) (fun _ iv _ => n - (intOf iv).toNat)
  case atStart => exact ⟨0, rfl, Nat.zero_le _, AccR.nil _ _ _ _ _, hR0, hk0⟩
  case round =>
    obtain ⟨k, rfl, hkn, hacc, hRk, hK⟩ := hrel.ex
    clear hrel HCC hR0 hk0
    by_cases hlt : k < n
    · have hkl : (k : Int) < (n : Int) := by omega
      go_wp2_with fail
      refine (get_acl wr b v l _ _ hRk (eta3 _)).mono ?_
      rintro en w1 ⟨cs, rfl, hE1, hR1, hk1⟩
      have hfl := aclE_flat hE1
      have hacc1 := hacc.keep aclE_ok hk1 (new_rs hR)
      have hown := hacc.own
      have hE2 : aclE w1 (fun g => w.heap.size ≤ g ∧ some g ≠ u5.ownBlock) _ _ := aclE_ok.mono hE1 (fun g _ hg => ⟨Nat.le_trans hK.size hg, fun e => by have := (hown g e.symm).2; have hg' : wr.heap.size ≤ g := hg; omega⟩)
      have hsn := getN_snoc (aclF).get k l p1 e1
      have hlen := getN_len (aclF).get k l p1 e1
      have hwl : w.heap.size ≤ w1.heap.size := Nat.le_trans hK.size hk1.size
      have HSN := Lib.hid hsn; clear hsn
      have HLEN := Lib.hid hlen; clear hlen
      have hK1 := hK.trans hk1
      clear hacc hown hE1 hRk hK hk1
      go_wp2_with (first | (refine wpList_one rfl 24 56 (.tmp 13) rfl (.agg cs.toArray) cs rfl rfl i0 _ Tryz.underlying24 HI.out HZ0.out (by rw [HZ1.out, hfl.1]) (by rw [hfl.1]; omega) (by rw [hfl.1]; omega) ?_) | (at_builtin; go_loud (refine wpList_push aclE_ok w w1 rfl (.tmp 10) (.tmp 14) 24 rfl 56 i0 _ 2 24 Tryz.underlying24 HI.out HZ0.out HZ1.out HZ2.out rfl (by decide) u5 _ hacc1 cs _ hE2 hfl rfl rfl (by rw [HLEN.out]; omega) (by decide) hwl ?_); intro v' w' hacc' hk'))
      go_roundw
      case rel => exact ⟨k + 1, by go_num, hlt, by rw [HSN.out]; dsimp only; exact hacc', by rw [HSN.out]; dsimp only; exact hR1.keep hk' (fun g hg hs => by have := hR.inn g hg; have hs' : w.heap.size ≤ g := hs; omega), Kept.trans' hK1 hk' (fun g hg hs => by have hs' : w.heap.size ≤ g := hs; omega)⟩
      case measure => simp [intOf]; omega
    · have hkl : ¬ (k : Int) < (n : Int) := by omega
      obtain rfl : k = n := by omega
      have hlist := hacc.list aclE_ok
      rw [HH.out] at hlist hRk
      have HL := Lib.hid hlist
      have HR := Lib.hid hRk
      clear hacc hlist hRk
      go_wp2_with fail
      go_ret
      exact ⟨_, rfl, HL.out, HR.out, hK⟩

end Go.Proofs.YtpmemcpfoapjmaaGreat
