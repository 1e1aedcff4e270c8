/- Answers, taken up. An answer, laid. Lists of answers, laid. A reply, laid. A reply, taken up. Reply: Put and Get. -/
import Derived.Test.YtpmemcpfoapjmaaGreatQ04
import Derived.Test.YtpmemcpfoapjmaaGreatQ10
import Derived.Test.YtpmemcpfoapjmaaGreatQ03
import Derived.Test.YtpmemcpfoapjmaaGreatQ07
import Derived.Test.YtpmemcpfoapjmaaGreatQ06
namespace Go.Proofs.YtpmemcpfoapjmaaGreat
open Go.ChangeShapes Go.WideShapes Go.ChangeAt Go.RowKit
set_option linter.unusedVariables false

set_option maxRecDepth 100000 in
set_option maxHeartbeats 600000 in
theorem get_stat (w : World) (b : Nat) (v : Value) (l : List UInt8) (p e : Nat) (hR : RAt w b v l p e) {x : Stat} {q e' : Nat} (h : statF.get l p e = (x, q, e')) :
    Calls Tryz.prog 142 #[.pointer (some ⟨b, 0, none⟩)] w (GPost statE w b v l x q e') := by
  rcases h1 : numF.get l p e with ⟨x1, p1, e1⟩
  have hi1 : I64 x1 := by have := numF_i64 (l := l) (p := p) (e := e); rw [h1] at this; exact this
  rcases h2 : numF.get l p1 e1 with ⟨x2, p2, e2⟩
  have hi2 : I64 x2 := by have := numF_i64 (l := l) (p := p1) (e := e1); rw [h2] at this; exact this
  rcases h3 : numF.get l p2 e2 with ⟨x3, p3, e3⟩
  have hi3 : I64 x3 := by have := numF_i64 (l := l) (p := p2) (e := e2); rw [h3] at this; exact this
  rcases h4 : numF.get l p3 e3 with ⟨x4, p4, e4⟩
  have hi4 : I64 x4 := by have := numF_i64 (l := l) (p := p3) (e := e3); rw [h4] at this; exact this
  rcases h5 : numF.get l p4 e4 with ⟨x5, p5, e5⟩
  have hi5 : I64 x5 := by have := numF_i64 (l := l) (p := p4) (e := e4); rw [h5] at this; exact this
  rcases h6 : numF.get l p5 e5 with ⟨x6, p6, e6⟩
  have hi6 : I64 x6 := by have := numF_i64 (l := l) (p := p5) (e := e5); rw [h6] at this; exact this
  rcases h7 : numF.get l p6 e6 with ⟨x7, p7, e7⟩
  have hi7 : I64 x7 := by have := numF_i64 (l := l) (p := p6) (e := e6); rw [h7] at this; exact this
  rcases h8 : numF.get l p7 e7 with ⟨x8, p8, e8⟩
  have hi8 : I64 x8 := by have := numF_i64 (l := l) (p := p7) (e := e7); rw [h8] at this; exact this
  rcases h9 : numF.get l p8 e8 with ⟨x9, p9, e9⟩
  have hi9 : I64 x9 := by have := numF_i64 (l := l) (p := p8) (e := e8); rw [h9] at this; exact this
  have hf : statF.get l p e = (⟨x1, x2, x3, x4, x5, x6, x7, x8, x9⟩, p9, e9) := by simp only [statF, isoF, seqF, h1, h2, h3, h4, h5, h6, h7, h8, h9]
  rw [hf] at h
  simp only [Prod.mk.injEq] at h
  obtain ⟨rfl, rfl, rfl⟩ := h
  have H1 := Lib.hid h1; clear h1
  have H2 := Lib.hid h2; clear h2
  have H3 := Lib.hid h3; clear h3
  have H4 := Lib.hid h4; clear h4
  have H5 := Lib.hid h5; clear h5
  have H6 := Lib.hid h6; clear h6
  have H7 := Lib.hid h7; clear h7
  have H8 := Lib.hid h8; clear h8
  have H9 := Lib.hid h9; clear h9
  clear hf
  have S0 := RSt.start (hR.alloc (.cells #[.int .i64 0, .int .i64 0, .int .i64 0, .int .i64 0, .int .i64 0, .int .i64 0, .int .i64 0, .int .i64 0, .int .i64 0] 75))
  have hbk := heap_alloc_new w (.cells #[.int .i64 0, .int .i64 0, .int .i64 0, .int .i64 0, .int .i64 0, .int .i64 0, .int .i64 0, .int .i64 0, .int .i64 0] 75)
  have hnb := rbox_new hR
  have hz0 : w.heap.size + 1 ≤ (w.alloc (.cells #[.int .i64 0, .int .i64 0, .int .i64 0, .int .i64 0, .int .i64 0, .int .i64 0, .int .i64 0, .int .i64 0, .int .i64 0] 75)).heap.size := by simp
  go_enter Tryz.func142, Tryz.ntmps142
  go_wp2_with fail
  refine (gnum_any _ b v l _ _ S0.at_ H1.out).mono ?_
  rintro en w1 ⟨rfl, hR1, hk1⟩
  have S1 : RSt (w.alloc (.cells #[.int .i64 0, .int .i64 0, .int .i64 0, .int .i64 0, .int .i64 0, .int .i64 0, .int .i64 0, .int .i64 0, .int .i64 0] 75)) b v l w1 p1 e1 := ⟨hR1, S0.kept.trans hk1⟩
  clear S0 hR1 hk1
  go_wp2_with fail
  refine (gnum_any _ b v l _ _ S1.at_ H2.out).mono ?_
  rintro en w2 ⟨rfl, hR2, hk2⟩
  have S2 : RSt (w.alloc (.cells #[.int .i64 0, .int .i64 0, .int .i64 0, .int .i64 0, .int .i64 0, .int .i64 0, .int .i64 0, .int .i64 0, .int .i64 0] 75)) b v l w2 p2 e2 := ⟨hR2, S1.kept.trans hk2⟩
  clear S1 hR2 hk2
  go_wp2_with fail
  refine (gnum_any _ b v l _ _ S2.at_ H3.out).mono ?_
  rintro en w3 ⟨rfl, hR3, hk3⟩
  have S3 : RSt (w.alloc (.cells #[.int .i64 0, .int .i64 0, .int .i64 0, .int .i64 0, .int .i64 0, .int .i64 0, .int .i64 0, .int .i64 0, .int .i64 0] 75)) b v l w3 p3 e3 := ⟨hR3, S2.kept.trans hk3⟩
  clear S2 hR3 hk3
  go_wp2_with fail
  refine (gnum_any _ b v l _ _ S3.at_ H4.out).mono ?_
  rintro en w4 ⟨rfl, hR4, hk4⟩
  have S4 : RSt (w.alloc (.cells #[.int .i64 0, .int .i64 0, .int .i64 0, .int .i64 0, .int .i64 0, .int .i64 0, .int .i64 0, .int .i64 0, .int .i64 0] 75)) b v l w4 p4 e4 := ⟨hR4, S3.kept.trans hk4⟩
  clear S3 hR4 hk4
  go_wp2_with fail
  refine (gnum_any _ b v l _ _ S4.at_ H5.out).mono ?_
  rintro en w5 ⟨rfl, hR5, hk5⟩
  have S5 : RSt (w.alloc (.cells #[.int .i64 0, .int .i64 0, .int .i64 0, .int .i64 0, .int .i64 0, .int .i64 0, .int .i64 0, .int .i64 0, .int .i64 0] 75)) b v l w5 p5 e5 := ⟨hR5, S4.kept.trans hk5⟩
  clear S4 hR5 hk5
  go_wp2_with fail
  refine (gnum_any _ b v l _ _ S5.at_ H6.out).mono ?_
  rintro en w6 ⟨rfl, hR6, hk6⟩
  have S6 : RSt (w.alloc (.cells #[.int .i64 0, .int .i64 0, .int .i64 0, .int .i64 0, .int .i64 0, .int .i64 0, .int .i64 0, .int .i64 0, .int .i64 0] 75)) b v l w6 p6 e6 := ⟨hR6, S5.kept.trans hk6⟩
  clear S5 hR6 hk6
  go_wp2_with fail
  refine (gnum_any _ b v l _ _ S6.at_ H7.out).mono ?_
  rintro en w7 ⟨rfl, hR7, hk7⟩
  have S7 : RSt (w.alloc (.cells #[.int .i64 0, .int .i64 0, .int .i64 0, .int .i64 0, .int .i64 0, .int .i64 0, .int .i64 0, .int .i64 0, .int .i64 0] 75)) b v l w7 p7 e7 := ⟨hR7, S6.kept.trans hk7⟩
  clear S6 hR7 hk7
  go_wp2_with fail
  refine (gnum_any _ b v l _ _ S7.at_ H8.out).mono ?_
  rintro en w8 ⟨rfl, hR8, hk8⟩
  have S8 : RSt (w.alloc (.cells #[.int .i64 0, .int .i64 0, .int .i64 0, .int .i64 0, .int .i64 0, .int .i64 0, .int .i64 0, .int .i64 0, .int .i64 0] 75)) b v l w8 p8 e8 := ⟨hR8, S7.kept.trans hk8⟩
  clear S7 hR8 hk8
  go_wp2_with fail
  refine (gnum_any _ b v l _ _ S8.at_ H9.out).mono ?_
  rintro en w9 ⟨rfl, hR9, hk9⟩
  have S9 : RSt (w.alloc (.cells #[.int .i64 0, .int .i64 0, .int .i64 0, .int .i64 0, .int .i64 0, .int .i64 0, .int .i64 0, .int .i64 0, .int .i64 0] 75)) b v l w9 p9 e9 := ⟨hR9, S8.kept.trans hk9⟩
  clear S8 hR9 hk9
  have hb := S9.blk hbk hnb
  have hsz : (Tryz.prog.info? 75).map (·.size) = some 9 := by kernel_rfl
  have HSZ := Lib.hid hsz; clear hsz
  have HB := Lib.hid hb; clear hb
  go_wp2_with (refine wpList_store_row _ rfl 75 _ _ rfl w.heap.size _ [.int .i64 x1, .int .i64 x2, .int .i64 x3, .int .i64 x4, .int .i64 x5, .int .i64 x6, .int .i64 x7, .int .i64 x8, .int .i64 x9] rfl rfl HB.out HSZ.out rfl (by simp [Value.oneCell']) ?_)
  have hrow := setRow_heap w9 w.heap.size _ ([.int .i64 x1, .int .i64 x2, .int .i64 x3, .int .i64 x4, .int .i64 x5, .int .i64 x6, .int .i64 x7, .int .i64 x8, .int .i64 x9] : List Value).toArray _ _ HB.out
  have hload := run_loadVar_row (P := Tryz.prog) _ w.heap.size 75 75 _ (0, 0) _ hrow Tryz.underlying75 rfl HSZ.out
  exact ret_cell 2 75 w.heap.size _ Tryz.results142 rfl hload rfl ⟨_, rfl, ⟨rfl, hi1, hi2, hi3, hi4, hi5, hi6, hi7, hi8, hi9⟩, fin_R hR S9.at_ _, fin_K hR S9.kept _⟩

set_option maxRecDepth 100000 in
set_option maxHeartbeats 600000 in
theorem get_ans (w : World) (b : Nat) (v : Value) (l : List UInt8) (p e : Nat) (hR : RAt w b v l p e) {x : Ans} {q e' : Nat} (h : ansF.get l p e = (x, q, e')) :
    Calls Tryz.prog 119 #[.pointer (some ⟨b, 0, none⟩)] w (GPost ansE w b v l x q e') := by
  rcases h1 : numF.get l p e with ⟨x1, p1, e1⟩
  have hi1 : I64 x1 := by have := numF_i64 (l := l) (p := p) (e := e); rw [h1] at this; exact this
  rcases h2 : numF.get l p1 e1 with ⟨x2, p2, e2⟩
  have hi2 : I64 x2 := by have := numF_i64 (l := l) (p := p1) (e := e1); rw [h2] at this; exact this
  rcases h3 : numF.get l p2 e2 with ⟨x3, p3, e3⟩
  have hi3 : I64 x3 := by have := numF_i64 (l := l) (p := p2) (e := e2); rw [h3] at this; exact this
  rcases h4 : (textF 4096).get l p3 e3 with ⟨x4, p4, e4⟩
  have hi4 : Str x4 := by have := textF_str (most := 4096) (by omega) (l := l) (p := p3) (e := e3); rw [h4] at this; exact this
  rcases h5 : (textF 4096).get l p4 e4 with ⟨x5, p5, e5⟩
  have hi5 : Str x5 := by have := textF_str (most := 4096) (by omega) (l := l) (p := p4) (e := e4); rw [h5] at this; exact this
  rcases h6 : statF.get l p5 e5 with ⟨x6, p6, e6⟩
  rcases h7 : (listF aclF).get l p6 e6 with ⟨x7, p7, e7⟩
  rcases h8 : (listF (textF 4096)).get l p7 e7 with ⟨x8, p8, e8⟩
  have hf : ansF.get l p e = (⟨x1, x2, x3, x4, x5, x6, x7, x8⟩, p8, e8) := by simp only [ansF, isoF, seqF, h1, h2, h3, h4, h5, h6, h7, h8]
  rw [hf] at h
  simp only [Prod.mk.injEq] at h
  obtain ⟨rfl, rfl, rfl⟩ := h
  have H1 := Lib.hid h1; clear h1
  have H2 := Lib.hid h2; clear h2
  have H3 := Lib.hid h3; clear h3
  have H4 := Lib.hid h4; clear h4
  have H5 := Lib.hid h5; clear h5
  have H6 := Lib.hid h6; clear h6
  have H7 := Lib.hid h7; clear h7
  have H8 := Lib.hid h8; clear h8
  clear hf
  have S0 := RSt.start (hR.alloc (.cells #[.int .i64 0, .int .i64 0, .int .i64 0, .string ⟨#[]⟩, .string ⟨#[]⟩, .int .i64 0, .int .i64 0, .int .i64 0, .int .i64 0, .int .i64 0, .int .i64 0, .int .i64 0, .int .i64 0, .int .i64 0, .slice none 0 0, .slice none 0 0, .slice none 0 0] 78))
  have hbk := heap_alloc_new w (.cells #[.int .i64 0, .int .i64 0, .int .i64 0, .string ⟨#[]⟩, .string ⟨#[]⟩, .int .i64 0, .int .i64 0, .int .i64 0, .int .i64 0, .int .i64 0, .int .i64 0, .int .i64 0, .int .i64 0, .int .i64 0, .slice none 0 0, .slice none 0 0, .slice none 0 0] 78)
  have hnb := rbox_new hR
  have hz0 : w.heap.size + 1 ≤ (w.alloc (.cells #[.int .i64 0, .int .i64 0, .int .i64 0, .string ⟨#[]⟩, .string ⟨#[]⟩, .int .i64 0, .int .i64 0, .int .i64 0, .int .i64 0, .int .i64 0, .int .i64 0, .int .i64 0, .int .i64 0, .int .i64 0, .slice none 0 0, .slice none 0 0, .slice none 0 0] 78)).heap.size := by simp
  go_enter Tryz.func119, Tryz.ntmps119
  go_wp2_with fail
  refine (gnum_any _ b v l _ _ S0.at_ H1.out).mono ?_
  rintro en w1 ⟨rfl, hR1, hk1⟩
  have S1 : RSt (w.alloc (.cells #[.int .i64 0, .int .i64 0, .int .i64 0, .string ⟨#[]⟩, .string ⟨#[]⟩, .int .i64 0, .int .i64 0, .int .i64 0, .int .i64 0, .int .i64 0, .int .i64 0, .int .i64 0, .int .i64 0, .int .i64 0, .slice none 0 0, .slice none 0 0, .slice none 0 0] 78)) b v l w1 p1 e1 := ⟨hR1, S0.kept.trans hk1⟩
  clear S0 hR1 hk1
  go_wp2_with fail
  refine (gnum_any _ b v l _ _ S1.at_ H2.out).mono ?_
  rintro en w2 ⟨rfl, hR2, hk2⟩
  have S2 : RSt (w.alloc (.cells #[.int .i64 0, .int .i64 0, .int .i64 0, .string ⟨#[]⟩, .string ⟨#[]⟩, .int .i64 0, .int .i64 0, .int .i64 0, .int .i64 0, .int .i64 0, .int .i64 0, .int .i64 0, .int .i64 0, .int .i64 0, .slice none 0 0, .slice none 0 0, .slice none 0 0] 78)) b v l w2 p2 e2 := ⟨hR2, S1.kept.trans hk2⟩
  clear S1 hR2 hk2
  go_wp2_with fail
  refine (getErr_any _ b v l _ _ S2.at_ H3.out).mono ?_
  rintro en w3 ⟨rfl, hR3, hk3⟩
  have S3 : RSt (w.alloc (.cells #[.int .i64 0, .int .i64 0, .int .i64 0, .string ⟨#[]⟩, .string ⟨#[]⟩, .int .i64 0, .int .i64 0, .int .i64 0, .int .i64 0, .int .i64 0, .int .i64 0, .int .i64 0, .int .i64 0, .int .i64 0, .slice none 0 0, .slice none 0 0, .slice none 0 0] 78)) b v l w3 p3 e3 := ⟨hR3, S2.kept.trans hk3⟩
  clear S2 hR3 hk3
  go_wp2_with fail
  refine (getText_any _ b v l _ _ S3.at_ H4.out).mono ?_
  rintro en w4 ⟨rfl, hR4, hk4⟩
  have S4 : RSt (w.alloc (.cells #[.int .i64 0, .int .i64 0, .int .i64 0, .string ⟨#[]⟩, .string ⟨#[]⟩, .int .i64 0, .int .i64 0, .int .i64 0, .int .i64 0, .int .i64 0, .int .i64 0, .int .i64 0, .int .i64 0, .int .i64 0, .slice none 0 0, .slice none 0 0, .slice none 0 0] 78)) b v l w4 p4 e4 := ⟨hR4, S3.kept.trans hk4⟩
  clear S3 hR4 hk4
  go_wp2_with fail
  refine (getText_any _ b v l _ _ S4.at_ H5.out).mono ?_
  rintro en w5 ⟨rfl, hR5, hk5⟩
  have S5 : RSt (w.alloc (.cells #[.int .i64 0, .int .i64 0, .int .i64 0, .string ⟨#[]⟩, .string ⟨#[]⟩, .int .i64 0, .int .i64 0, .int .i64 0, .int .i64 0, .int .i64 0, .int .i64 0, .int .i64 0, .int .i64 0, .int .i64 0, .slice none 0 0, .slice none 0 0, .slice none 0 0] 78)) b v l w5 p5 e5 := ⟨hR5, S4.kept.trans hk5⟩
  clear S4 hR5 hk5
  go_wp2_with fail
  refine (get_stat _ b v l _ _ S5.at_ H6.out).mono ?_
  rintro en w6 ⟨cs6, rfl, hL6, hR6, hk6⟩
  obtain ⟨rfl, hst6⟩ := id hL6
  have hd6 := new_rs S5.at_
  have hz6 : w.heap.size + 1 ≤ w5.heap.size := Nat.le_trans hz0 S5.kept.size
  have S6 : RSt (w.alloc (.cells #[.int .i64 0, .int .i64 0, .int .i64 0, .string ⟨#[]⟩, .string ⟨#[]⟩, .int .i64 0, .int .i64 0, .int .i64 0, .int .i64 0, .int .i64 0, .int .i64 0, .int .i64 0, .int .i64 0, .int .i64 0, .slice none 0 0, .slice none 0 0, .slice none 0 0] 78)) b v l w6 p6 e6 := ⟨hR6, S5.kept.trans hk6⟩
  clear S5 hR6 hk6
  go_wp2_with fail
  refine (getList_acl _ b v l _ _ S6.at_ H7.out).mono ?_
  rintro en w7 ⟨sv7, rfl, hL7, hR7, hk7⟩
  obtain ⟨A7, n7, c7, rfl⟩ := hL7.shape
  replace hL6 := statE_ok.keep hL6 hk7 hd6
  have hd7 := new_rs S6.at_
  have hz7 : w.heap.size + 1 ≤ w6.heap.size := Nat.le_trans hz0 S6.kept.size
  have S7 : RSt (w.alloc (.cells #[.int .i64 0, .int .i64 0, .int .i64 0, .string ⟨#[]⟩, .string ⟨#[]⟩, .int .i64 0, .int .i64 0, .int .i64 0, .int .i64 0, .int .i64 0, .int .i64 0, .int .i64 0, .int .i64 0, .int .i64 0, .slice none 0 0, .slice none 0 0, .slice none 0 0] 78)) b v l w7 p7 e7 := ⟨hR7, S6.kept.trans hk7⟩
  clear S6 hR7 hk7
  go_wp2_with fail
  refine (getList_text _ b v l _ _ S7.at_ H8.out).mono ?_
  rintro en w8 ⟨sv8, rfl, hL8, hR8, hk8⟩
  obtain ⟨A8, n8, c8, rfl⟩ := hL8.shape
  replace hL6 := statE_ok.keep hL6 hk8 hd6
  replace hL7 := hL7.keep aclE_ok hk8 hd7
  have hd8 := new_rs S7.at_
  have hz8 : w.heap.size + 1 ≤ w7.heap.size := Nat.le_trans hz0 S7.kept.size
  have S8 : RSt (w.alloc (.cells #[.int .i64 0, .int .i64 0, .int .i64 0, .string ⟨#[]⟩, .string ⟨#[]⟩, .int .i64 0, .int .i64 0, .int .i64 0, .int .i64 0, .int .i64 0, .int .i64 0, .int .i64 0, .int .i64 0, .int .i64 0, .slice none 0 0, .slice none 0 0, .slice none 0 0] 78)) b v l w8 p8 e8 := ⟨hR8, S7.kept.trans hk8⟩
  clear S7 hR8 hk8
  have hb := S8.blk hbk hnb
  have hsz : (Tryz.prog.info? 78).map (·.size) = some 17 := by kernel_rfl
  have HSZ := Lib.hid hsz; clear hsz
  have HB := Lib.hid hb; clear hb
  go_wp2_with (refine wpList_store_row _ rfl 78 _ _ rfl w.heap.size _ [.int .i64 x1, .int .i64 x2, .int .i64 x3, .string x4, .string x5, .int .i64 x6.czxid, .int .i64 x6.mzxid, .int .i64 x6.pzxid, .int .i64 x6.version, .int .i64 x6.cversion, .int .i64 x6.aversion, .int .i64 x6.owner, .int .i64 x6.length, .int .i64 x6.kids, .slice A7 n7 c7, .slice A8 n8 c8, .slice none 0 0] rfl rfl HB.out HSZ.out rfl (by simp [Value.oneCell']) ?_)
  have hrow := setRow_heap w8 w.heap.size _ ([.int .i64 x1, .int .i64 x2, .int .i64 x3, .string x4, .string x5, .int .i64 x6.czxid, .int .i64 x6.mzxid, .int .i64 x6.pzxid, .int .i64 x6.version, .int .i64 x6.cversion, .int .i64 x6.aversion, .int .i64 x6.owner, .int .i64 x6.length, .int .i64 x6.kids, .slice A7 n7 c7, .slice A8 n8 c8, .slice none 0 0] : List Value).toArray _ _ HB.out
  have hload := run_loadVar_row (P := Tryz.prog) _ w.heap.size 78 78 _ (0, 0) _ hrow Tryz.underlying78 rfl HSZ.out
  exact ret_cell 2 78 w.heap.size _ Tryz.results119 rfl hload rfl ⟨_, rfl, ⟨_, _, _, rfl, fin_list aclE_ok hL7 hz7 _, fin_list textE_ok hL8 hz8 _, hi1, hi2, hi3, hi4, hi5, hst6.1, hst6.2.1, hst6.2.2.1, hst6.2.2.2.1, hst6.2.2.2.2.1, hst6.2.2.2.2.2.1, hst6.2.2.2.2.2.2.1, hst6.2.2.2.2.2.2.2.1, hst6.2.2.2.2.2.2.2.2, ⟨_, _, _, rfl⟩⟩, fin_R hR S8.at_ _, fin_K hR S8.kept _⟩

theorem info_ans : (Tryz.prog.info? 78).map (fun i => (i.zero, i.size, i.bytes)) = some (some (.agg #[.int .i64 0, .int .i64 0, .int .i64 0, .string ⟨#[]⟩, .string ⟨#[]⟩, .int .i64 0, .int .i64 0, .int .i64 0, .int .i64 0, .int .i64 0, .int .i64 0, .int .i64 0, .int .i64 0, .int .i64 0, .slice none 0 0, .slice none 0 0, .slice none 0 0]), 17, 200) := by kernel_rfl

set_option maxRecDepth 100000 in
set_option maxHeartbeats 600000 in
theorem getList_ans (w : World) (b : Nat) (v : Value) (l : List UInt8) (p e : Nat) (hR : RAt w b v l p e) {xs : List Ans} {q e' : Nat} (h : (listF ansF).get l p e = (xs, q, e')) :
    Calls Tryz.prog 120 #[.pointer (some ⟨b, 0, none⟩), .func (.func 119) #[] #[]] w (LPost ansE 17 w b v l xs q e') := by
  obtain ⟨i0, hi, hz0, hz1, hz2⟩ := info_parts info_ans
  have hcl := rCount_le l 256 p e
  have hcc := rcount_any 256 w b v l p e hR (by omega) (by omega)
  rcases h1 : rCount l 256 p e with ⟨n, p1, e1⟩
  rw [h1] at hcl hcc
  simp only [listF, h1] at h hcl hcc
  have HH := Lib.hid h; clear h
  have HZ1 := Lib.hid hz1; clear hz1
  have HZ2 := Lib.hid hz2; clear hz2
  have HZ0 := Lib.hid hz0; clear hz0
  have HI := Lib.hid hi; clear hi
  clear h1
  have hn : n ≤ 256 := by omega
  clear hcl
  have HCC := Lib.hid hcc; clear hcc
  go_enter Tryz.func120, Tryz.ntmps120
  go_wp2_with fail
  refine HCC.out.mono ?_
  rintro en w0 ⟨rfl, hR0, hk0⟩
  go_wp2_with fail
  go_loopw [5, 8] (fun acc iv wr => GetRel ansE ansF w b v l 78 17 n p1 e1 acc iv wr) (fun _ iv _ => n - (intOf iv).toNat)
  case atStart => exact ⟨0, rfl, Nat.zero_le _, AccR.nil _ _ _ _ _, hR0, hk0⟩
  case round =>
    obtain ⟨k, rfl, hkn, hacc, hRk, hK⟩ := hrel.ex
    clear hrel HCC hR0 hk0
    by_cases hlt : k < n
    · have hkl : (k : Int) < (n : Int) := by omega
      go_wp2_with fail
      refine (get_ans wr b v l _ _ hRk (eta3 _)).mono ?_
      rintro en w1 ⟨cs, rfl, hE1, hR1, hk1⟩
      have hfl := ansE_flat hE1
      have hacc1 := hacc.keep ansE_ok hk1 (new_rs hR)
      have hown := hacc.own
      have hE2 : ansE w1 (fun g => w.heap.size ≤ g ∧ some g ≠ u5.ownBlock) _ _ := ansE_ok.mono hE1 (fun g _ hg => ⟨Nat.le_trans hK.size hg, fun e => by have := (hown g e.symm).2; have hg' : wr.heap.size ≤ g := hg; omega⟩)
      have hsn := getN_snoc (ansF).get k l p1 e1
      have hlen := getN_len (ansF).get k l p1 e1
      have hwl : w.heap.size ≤ w1.heap.size := Nat.le_trans hK.size hk1.size
      have HSN := Lib.hid hsn; clear hsn
      have HLEN := Lib.hid hlen; clear hlen
      have hK1 := hK.trans hk1
      clear hacc hown hE1 hRk hK hk1
      go_wp2_with (first | (refine wpList_one rfl 76 78 (.tmp 13) rfl (.agg cs.toArray) cs rfl rfl i0 _ Tryz.underlying76 HI.out HZ0.out (by rw [HZ1.out, hfl.1]) (by rw [hfl.1]; omega) (by rw [hfl.1]; omega) ?_) | (at_builtin; go_loud (refine wpList_push ansE_ok w w1 rfl (.tmp 10) (.tmp 14) 76 rfl 78 i0 _ 17 200 Tryz.underlying76 HI.out HZ0.out HZ1.out HZ2.out rfl (by decide) u5 _ hacc1 cs _ hE2 hfl rfl rfl (by rw [HLEN.out]; omega) (by decide) hwl ?_); intro v' w' hacc' hk'))
      go_roundw
      case rel => exact ⟨k + 1, by go_num, hlt, by rw [HSN.out]; dsimp only; exact hacc', by rw [HSN.out]; dsimp only; exact hR1.keep hk' (fun g hg hs => by have := hR.inn g hg; have hs' : w.heap.size ≤ g := hs; omega), Kept.trans' hK1 hk' (fun g hg hs => by have hs' : w.heap.size ≤ g := hs; omega)⟩
      case measure => simp [intOf]; omega
    · have hkl : ¬ (k : Int) < (n : Int) := by omega
      obtain rfl : k = n := by omega
      have hlist := hacc.list ansE_ok
      rw [HH.out] at hlist hRk
      have HL := Lib.hid hlist
      have HR := Lib.hid hRk
      clear hacc hlist hRk
      go_wp2_with fail
      go_ret
      exact ⟨_, rfl, HL.out, HR.out, hK⟩

end Go.Proofs.YtpmemcpfoapjmaaGreat

namespace Go.Proofs.YtpmemcpfoapjmaaGreat
open Go.ChangeShapes Go.WideShapes Go.ChangeAt Go.RowKit
set_option linter.unusedVariables false

end Go.Proofs.YtpmemcpfoapjmaaGreat

namespace Go.Proofs.YtpmemcpfoapjmaaGreat
open Go.ChangeShapes Go.WideShapes Go.ChangeAt Go.RowKit
set_option linter.unusedVariables false

end Go.Proofs.YtpmemcpfoapjmaaGreat

namespace Go.Proofs.YtpmemcpfoapjmaaGreat
open Go.ChangeShapes Go.WideShapes Go.ChangeAt Go.RowKit
set_option linter.unusedVariables false

end Go.Proofs.YtpmemcpfoapjmaaGreat

namespace Go.Proofs.YtpmemcpfoapjmaaGreat
open Go.ChangeShapes Go.WideShapes Go.ChangeAt Go.RowKit
set_option linter.unusedVariables false

set_option maxRecDepth 100000 in
set_option maxHeartbeats 600000 in
theorem get_reply (w : World) (b : Nat) (v : Value) (l : List UInt8) (p e : Nat) (hR : RAt w b v l p e) {x : Reply} {q e' : Nat} (h : replyF.get l p e = (x, q, e')) :
    Calls Tryz.prog 80 #[.pointer (some ⟨b, 0, none⟩)] w (GPost replyE w b v l x q e') := by
  rcases h1 : ansF.get l p e with ⟨x1, p1, e1⟩
  rcases h2 : (listF ansF).get l p1 e1 with ⟨x2, p2, e2⟩
  have hf : replyF.get l p e = (⟨x1, x2⟩, p2, e2) := by simp only [replyF, isoF, seqF, h1, h2]
  rw [hf] at h
  simp only [Prod.mk.injEq] at h
  obtain ⟨rfl, rfl, rfl⟩ := h
  have H1 := Lib.hid h1; clear h1
  have H2 := Lib.hid h2; clear h2
  clear hf
  have hR0 := hR.alloc (.cells #[.int .i64 0, .int .i64 0, .int .i64 0, .string ⟨#[]⟩, .string ⟨#[]⟩, .int .i64 0, .int .i64 0, .int .i64 0, .int .i64 0, .int .i64 0, .int .i64 0, .int .i64 0, .int .i64 0, .int .i64 0, .slice none 0 0, .slice none 0 0, .slice none 0 0] 78)
  have hsz : (Tryz.prog.info? 78).map (·.size) = some 17 := by kernel_rfl
  have HSZ := Lib.hid hsz; clear hsz
  go_enter Tryz.func80, Tryz.ntmps80
  go_wp2_with fail
  refine (get_ans _ b v l _ _ hR0 H1.out).mono ?_
  rintro en w1 ⟨cs, rfl, hE1, hR1, hk1⟩
  have hfl := ansE_flat hE1
  have HFL := Lib.hid hfl.1
  have HF1 := Lib.hid hfl.2
  have B0 := TBox.start (cs := cs) hR hR1 hk1
  replace hE1 := rel_start ansE_ok (o := .cells cs.toArray 78) hE1
  clear hR1 hk1 hfl
  go_wp2_with (refine wpList_store_new w1 rfl 78 _ (.tmp 5) rfl _ cs rfl rfl (by rw [HFL.out]; exact HSZ.out) HFL.out.symm HF1.out ?_)
  refine (getList_ans _ b v l _ _ B0.rd H2.out).mono ?_
  rintro en w2 ⟨sv2, rfl, hL2, hR2, hk2⟩
  obtain ⟨A2, n2, c2, rfl⟩ := hL2.shape
  replace hE1 := ansE_ok.keep hE1 hk2 B0.ok_rs
  replace hL2 := B0.rel_list ansE_ok hL2
  have B1a := B0.list hR2 hk2
  obtain ⟨hc2, hfz2⟩ := B1a.cell 16 (by rw [HFL.out]; omega)
  have B1 := B1a.set 16 (.slice A2 n2 c2)
  generalize cs[16]'(by rw [HFL.out]; omega) = u2 at hc2
  replace hE1 := ansE_ok.keep hE1 (set_kept _ w1.heap.size 16 (.slice A2 n2 c2)) (ok_g w w1.heap.size)
  replace hL2 := hL2.keep ansE_ok (set_kept _ w1.heap.size 16 (.slice A2 n2 c2)) (ok_g w w1.heap.size)
  clear B0 B1a hR2 hk2
  have hfl2 : Flat 17 (cs.set 16 (.slice A2 n2 c2)) := flat_set ⟨HFL.out, HF1.out⟩ 16 rfl
  have HL2 := Lib.hid hfl2.1
  have HF2 := Lib.hid hfl2.2
  have HB := Lib.hid B1.res
  have HX := Lib.hid (range_row B1.box)
  clear hfl2
  go_wp2_with (first | (refine wpList_load_mid rfl 78 (.tmp 3) rfl w1.heap.size 0 rfl (cs.set 16 (.slice A2 n2 c2)) _ HX.out Tryz.underlying78 rfl (by rw [HL2.out]; exact HSZ.out) ?_) | (refine wpList_store_row _ rfl 78 _ _ rfl w.heap.size _ (cs.set 16 (.slice A2 n2 c2)) rfl rfl HB.out (by rw [HL2.out]; exact HSZ.out) (by rw [HL2.out]; rfl) HF2.out ?_))
  have hrow := setRow_heap (w2.setCell ⟨w1.heap.size, 16, none⟩ (.slice A2 n2 c2)) w.heap.size _ ((cs.set 16 (.slice A2 n2 c2))).toArray _ _ HB.out
  have hload := run_loadVar_row (P := Tryz.prog) _ w.heap.size 78 78 _ (0, 0) _ hrow Tryz.underlying78 rfl (by rw [List.size_toArray, HL2.out]; exact HSZ.out)
  exact ret_cell 2 78 w.heap.size _ Tryz.results80 rfl hload rfl ⟨_, rfl, ⟨_, ansQ_set (rel_fin ansE_ok hE1 _) ⟨_, _, _, rfl⟩, rel_finL ansE_ok hL2 _⟩, B1.finR _, B1.finK _⟩

end Go.Proofs.YtpmemcpfoapjmaaGreat

namespace Go.Proofs.YtpmemcpfoapjmaaGreat
open Go.ChangeShapes Go.WideShapes Go.ChangeAt Go.RowKit
set_option linter.unusedVariables false

def zReply : Reply := ⟨⟨0, 0, 0, ⟨#[]⟩, ⟨#[]⟩, ⟨0, 0, 0, 0, 0, 0, 0, 0, 0⟩, [], []⟩, []⟩
theorem zReply_at (w : World) (ok : Nat → Prop) : replyE w ok [.int .i64 0, .int .i64 0, .int .i64 0, .string ⟨#[]⟩, .string ⟨#[]⟩, .int .i64 0, .int .i64 0, .int .i64 0, .int .i64 0, .int .i64 0, .int .i64 0, .int .i64 0, .int .i64 0, .int .i64 0, .slice none 0 0, .slice none 0 0, .slice none 0 0] zReply := ⟨_, ⟨_, _, rfl, ListR.nil _ _ _ _, ListR.nil _ _ _ _, i64_zero, i64_zero, i64_zero, str_empty, str_empty, i64_zero, i64_zero, i64_zero, i64_zero, i64_zero, i64_zero, i64_zero, i64_zero, i64_zero, ⟨_, _, _, rfl⟩⟩, ListR.nil _ _ _ _⟩

set_option maxRecDepth 100000 in
set_option maxHeartbeats 600000 in
theorem taken_reply (s : ByteArray) (w : World) (hs : s.size ≤ maxLen) :
    Calls Tryz.prog 79 #[.string s, .func (.func 80) #[] #[]] w (TakenPost replyE zReply w (replyF.read s)) := by
  have hsz : (Tryz.prog.info? 78).map (·.size) = some 17 := by kernel_rfl
  have HSZ := Lib.hid hsz; clear hsz
  obtain ⟨x, q, e', hget⟩ : ∃ x q e', replyF.get s.data.toList 0 0 = (x, q, e') := ⟨_, _, _, eta3 _⟩
  have hread : replyF.read s = if rEndE s.data.toList.length q e' = 0 then some x else none := by unfold Fmt.read; rw [hget]
  generalize replyF.read s = ro at hread ⊢
  have HGET := Lib.hid hget; clear hget
  have HREAD := Lib.hid hread; clear hread
  go_enter Tryz.func79, Tryz.ntmps79
  go_wp2_with fail
  refine (read_any s _ hs).mono ?_
  rintro en w1 ⟨b, v, rfl, hR, hb, hv, hk1⟩
  have hge : w.heap.size + 1 ≤ b := by simpa using hb
  go_wp2_with fail
  refine (get_reply _ b v _ _ _ hR HGET.out).mono ?_
  rintro en w2 ⟨cs, rfl, hE2, hR2, hk2⟩
  have hfl := replyE_flat hE2
  have HFL := Lib.hid hfl.1
  have HF1 := Lib.hid hfl.2
  have hR3 := hR2.alloc (.cells cs.toArray 78)
  have HHR := Lib.hid (⟨hR, hk1, hge, hk2⟩ : RAt w1 b v s.data.toList 0 0 ∧ Kept (fun _ => False) (w.alloc (.cells #[.int .i64 0, .int .i64 0, .int .i64 0, .string ⟨#[]⟩, .string ⟨#[]⟩, .int .i64 0, .int .i64 0, .int .i64 0, .int .i64 0, .int .i64 0, .int .i64 0, .int .i64 0, .int .i64 0, .int .i64 0, .slice none 0 0, .slice none 0 0, .slice none 0 0] 78)) w1 ∧ w.heap.size + 1 ≤ b ∧ Kept (RS b) w1 w2)
  clear hR hk1 hge hk2 hb hv hR2 hfl
  go_wp2_with (refine wpList_store_new w2 rfl 78 _ (.tmp 13) rfl _ cs rfl rfl (by rw [HFL.out]; exact HSZ.out) HFL.out.symm HF1.out ?_)
  refine (rend_e _ b v _ _ _ hR3).mono ?_
  rintro en w4 ⟨rfl, hR4, hk4⟩
  have st : TakenSt w w1 w2 w4 b v s.data.toList 78 #[.int .i64 0, .int .i64 0, .int .i64 0, .string ⟨#[]⟩, .string ⟨#[]⟩, .int .i64 0, .int .i64 0, .int .i64 0, .int .i64 0, .int .i64 0, .int .i64 0, .int .i64 0, .int .i64 0, .int .i64 0, .slice none 0 0, .slice none 0 0, .slice none 0 0] cs := ⟨HHR.out.1, HHR.out.2.1, HHR.out.2.2.1, HHR.out.2.2.2, hk4⟩
  have HRES := Lib.hid st.res
  have HBOX := Lib.hid (range_row st.box)
  have HO := Lib.hid st.old
  have HREL := Lib.hid (st.rel replyE_ok hE2)
  clear st HHR hR3 hR4 hk4 hE2
  by_cases h0 : rEndE s.data.toList.length q e' = 0
  · have hrd : ro = some x := by rw [HREAD.out, if_pos h0]
    have HRD := Lib.hid hrd; clear hrd
    have h0' : ((rEndE s.data.toList.length q e' : Nat) : Int) = 0 := by omega
    generalize ((rEndE s.data.toList.length q e' : Nat) : Int) = r at h0'
    subst h0'
    clear h0
    go_wp2_with (first | (refine wpList_load_mid rfl 78 (.tmp 7) rfl w2.heap.size 0 rfl cs _ HBOX.out Tryz.underlying78 rfl (by rw [HFL.out]; exact HSZ.out) ?_) | (refine wpList_store_row _ rfl 78 _ _ rfl w.heap.size _ cs rfl rfl HRES.out (by rw [HFL.out]; exact HSZ.out) HFL.out.symm HF1.out ?_))
    have hrow := setRow_heap w4 w.heap.size _ cs.toArray _ _ HRES.out
    have hload := run_loadVar_row (P := Tryz.prog) _ w.heap.size 78 78 _ (0, 0) _ hrow Tryz.underlying78 rfl (by rw [List.size_toArray, HFL.out]; exact HSZ.out)
    exact ret_cell_tmp 4 78 5 w.heap.size _ _ Tryz.results79 rfl rfl hload rfl ⟨cs, by rw [HRD.out]; rfl, old_setRow HO.out _, by rw [HRD.out]; exact HREL.out _⟩
  · have hrd : ro = none := by rw [HREAD.out, if_neg h0]
    have HRD := Lib.hid hrd; clear hrd
    have h0' : ¬ ((rEndE s.data.toList.length q e' : Nat) : Int) = 0 := by omega
    generalize ((rEndE s.data.toList.length q e' : Nat) : Int) = r at h0'
    clear h0
    have hA : Old w4 (w4.alloc (.cells #[.int .i64 0, .int .i64 0, .int .i64 0, .string ⟨#[]⟩, .string ⟨#[]⟩, .int .i64 0, .int .i64 0, .int .i64 0, .int .i64 0, .int .i64 0, .int .i64 0, .int .i64 0, .int .i64 0, .int .i64 0, .slice none 0 0, .slice none 0 0, .slice none 0 0] 78)) := (Kept.refl _ w4).alloc _
    have HR5 : Hid ((w4.alloc (.cells #[.int .i64 0, .int .i64 0, .int .i64 0, .string ⟨#[]⟩, .string ⟨#[]⟩, .int .i64 0, .int .i64 0, .int .i64 0, .int .i64 0, .int .i64 0, .int .i64 0, .int .i64 0, .int .i64 0, .int .i64 0, .slice none 0 0, .slice none 0 0, .slice none 0 0] 78)).heap[w.heap.size]? = some (.cells #[.int .i64 0, .int .i64 0, .int .i64 0, .string ⟨#[]⟩, .string ⟨#[]⟩, .int .i64 0, .int .i64 0, .int .i64 0, .int .i64 0, .int .i64 0, .int .i64 0, .int .i64 0, .int .i64 0, .int .i64 0, .slice none 0 0, .slice none 0 0, .slice none 0 0] 78 (0, 0))) := by rw [hA.block _ (lt_of_block HRES.out) id]; exact HRES.out
    obtain ⟨zl, hzl⟩ : ∃ zl : List Value, zl = [.int .i64 0, .int .i64 0, .int .i64 0, .string ⟨#[]⟩, .string ⟨#[]⟩, .int .i64 0, .int .i64 0, .int .i64 0, .int .i64 0, .int .i64 0, .int .i64 0, .int .i64 0, .int .i64 0, .int .i64 0, .slice none 0 0, .slice none 0 0, .slice none 0 0] := ⟨_, rfl⟩
    have HRN : Hid ((w4.alloc (.cells #[.int .i64 0, .int .i64 0, .int .i64 0, .string ⟨#[]⟩, .string ⟨#[]⟩, .int .i64 0, .int .i64 0, .int .i64 0, .int .i64 0, .int .i64 0, .int .i64 0, .int .i64 0, .int .i64 0, .int .i64 0, .slice none 0 0, .slice none 0 0, .slice none 0 0] 78)).rangeAt w4.heap.size 0 zl) := by rw [hzl]; exact range_new w4 [.int .i64 0, .int .i64 0, .int .i64 0, .string ⟨#[]⟩, .string ⟨#[]⟩, .int .i64 0, .int .i64 0, .int .i64 0, .int .i64 0, .int .i64 0, .int .i64 0, .int .i64 0, .int .i64 0, .int .i64 0, .slice none 0 0, .slice none 0 0, .slice none 0 0] 78
    have HZE : Hid (∀ (W : World) (ok : Nat → Prop), replyE W ok zl zReply) := by rw [hzl]; exact zReply_at
    have hzf : Flat 17 zl := replyE_flat (HZE.out w (fun _ => False))
    have HZL := Lib.hid hzf.1
    have HZ1 := Lib.hid hzf.2
    clear hzl hzf
    have HO5 := Lib.hid (HO.out.none hA)
    clear hA HREL
    go_wp2_with (first | (refine wpList_load_mid rfl 78 (.tmp 8) rfl w4.heap.size 0 rfl zl _ HRN.out Tryz.underlying78 rfl (by rw [HZL.out]; exact HSZ.out) ?_) | (refine wpList_store_row _ rfl 78 _ _ rfl w.heap.size _ zl rfl rfl HR5.out (by rw [HZL.out]; exact HSZ.out) HZL.out.symm HZ1.out ?_))
    have hrow := setRow_heap (w4.alloc (.cells #[.int .i64 0, .int .i64 0, .int .i64 0, .string ⟨#[]⟩, .string ⟨#[]⟩, .int .i64 0, .int .i64 0, .int .i64 0, .int .i64 0, .int .i64 0, .int .i64 0, .int .i64 0, .int .i64 0, .int .i64 0, .slice none 0 0, .slice none 0 0, .slice none 0 0] 78)) w.heap.size _ zl.toArray _ _ HR5.out
    have hload := run_loadVar_row (P := Tryz.prog) _ w.heap.size 78 78 _ (0, 0) _ hrow Tryz.underlying78 rfl (by rw [List.size_toArray, HZL.out]; exact HSZ.out)
    exact ret_cell_tmp 4 78 5 w.heap.size _ _ Tryz.results79 rfl rfl hload rfl ⟨_, by rw [HRD.out]; rfl, old_setRow HO5.out _, by rw [HRD.out]; exact HZE.out _ _⟩

set_option maxRecDepth 100000 in
theorem GetReply_any (s : ByteArray) (w : World) (hs : s.size ≤ maxLen) :
    Calls Tryz.prog 35 #[.string s] w (TakenPost replyE zReply w (replyF.read s)) := by
  have hsz : (Tryz.prog.info? 78).map (·.size) = some 17 := by kernel_rfl
  have HSZ := Lib.hid hsz; clear hsz
  have hbk := heap_alloc_new w (.cells #[.int .i64 0, .int .i64 0, .int .i64 0, .string ⟨#[]⟩, .string ⟨#[]⟩, .int .i64 0, .int .i64 0, .int .i64 0, .int .i64 0, .int .i64 0, .int .i64 0, .int .i64 0, .int .i64 0, .int .i64 0, .slice none 0 0, .slice none 0 0, .slice none 0 0] 78)
  have hA : Old w (w.alloc (.cells #[.int .i64 0, .int .i64 0, .int .i64 0, .string ⟨#[]⟩, .string ⟨#[]⟩, .int .i64 0, .int .i64 0, .int .i64 0, .int .i64 0, .int .i64 0, .int .i64 0, .int .i64 0, .int .i64 0, .int .i64 0, .slice none 0 0, .slice none 0 0, .slice none 0 0] 78)) := (Kept.refl _ w).alloc _
  go_enter Tryz.func35, Tryz.ntmps35
  go_wp2_with fail
  refine (taken_reply s _ hs).mono ?_
  rintro en w1 ⟨cs, rfl, hO1, hE1⟩
  have hfl := replyE_flat hE1
  have HFL := Lib.hid hfl.1
  have HF1 := Lib.hid hfl.2
  have HRES : Hid (w1.heap[w.heap.size]? = some (.cells #[.int .i64 0, .int .i64 0, .int .i64 0, .string ⟨#[]⟩, .string ⟨#[]⟩, .int .i64 0, .int .i64 0, .int .i64 0, .int .i64 0, .int .i64 0, .int .i64 0, .int .i64 0, .int .i64 0, .int .i64 0, .slice none 0 0, .slice none 0 0, .slice none 0 0] 78 (0, 0))) := by rw [hO1.block _ (lt_of_block hbk) id]; exact hbk
  have HO := Lib.hid (hA.none hO1)
  have HE := Lib.hid (fun c => fin_E replyE_ok (w := w) hE1 (by simp) c)
  clear hbk hA hfl hO1 hE1
  go_wp2_with (refine wpList_store_row _ rfl 78 _ _ rfl w.heap.size _ cs rfl rfl HRES.out (by rw [HFL.out]; exact HSZ.out) HFL.out.symm HF1.out ?_)
  have hrow := setRow_heap w1 w.heap.size _ cs.toArray _ _ HRES.out
  have hload := run_loadVar_row (P := Tryz.prog) _ w.heap.size 78 78 _ (0, 0) _ hrow Tryz.underlying78 rfl (by rw [List.size_toArray, HFL.out]; exact HSZ.out)
  exact ret_cell_tmp 2 78 3 w.heap.size _ _ Tryz.results35 rfl rfl hload rfl ⟨cs, rfl, old_setRow HO.out _, HE.out _⟩

end Go.Proofs.YtpmemcpfoapjmaaGreat
