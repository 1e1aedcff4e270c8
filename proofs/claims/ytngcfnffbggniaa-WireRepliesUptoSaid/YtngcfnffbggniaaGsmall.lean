/- An event, a hello, a note, taken up. -/
import Derived.Test.YtngcfnffbggniaaGacl
namespace Go.Proofs.Ytngcfnffbggniaa
open Go.ChangeShapes Go.WideShapes Go.ChangeAt Go.RowKit
set_option linter.unusedVariables false

set_option maxRecDepth 100000 in
set_option maxHeartbeats 600000 in
theorem get_event (w : World) (b : Nat) (v : Value) (l : List UInt8) (p e : Nat) (hR : RAt w b v l p e) {x : Event} {q e' : Nat} (h : eventF.get l p e = (x, q, e')) :
    Calls Try.prog 69 #[.pointer (some ⟨b, 0, none⟩)] w (GPost eventE w b v l x q e') := by
  rcases h1 : numF.get l p e with ⟨x1, p1, e1⟩
  have hi1 : I64 x1 := by have := numF_i64 (l := l) (p := p) (e := e); rw [h1] at this; exact this
  rcases h2 : (textF 4096).get l p1 e1 with ⟨x2, p2, e2⟩
  have hi2 : Str x2 := by have := textF_str (most := 4096) (by omega) (l := l) (p := p1) (e := e1); rw [h2] at this; exact this
  rcases h3 : numF.get l p2 e2 with ⟨x3, p3, e3⟩
  have hi3 : I64 x3 := by have := numF_i64 (l := l) (p := p2) (e := e2); rw [h3] at this; exact this
  have hf : eventF.get l p e = (⟨x1, x2, x3⟩, p3, e3) := by simp only [eventF, isoF, seqF, h1, h2, h3]
  rw [hf] at h
  simp only [Prod.mk.injEq] at h
  obtain ⟨rfl, rfl, rfl⟩ := h
  have H1 := Lib.hid h1; clear h1
  have H2 := Lib.hid h2; clear h2
  have H3 := Lib.hid h3; clear h3
  clear hf
  have S0 := RSt.start (hR.alloc (.cells #[.int .i64 0, .string ⟨#[]⟩, .int .i64 0] 50))
  have hbk := heap_alloc_new w (.cells #[.int .i64 0, .string ⟨#[]⟩, .int .i64 0] 50)
  have hnb := rbox_new hR
  have hz0 : w.heap.size + 1 ≤ (w.alloc (.cells #[.int .i64 0, .string ⟨#[]⟩, .int .i64 0] 50)).heap.size := by simp
  go_enter Try.func69, Try.ntmps69
  go_wp2_with fail
  refine (gnum_any _ b v l _ _ S0.at_ H1.out).mono ?_
  rintro en w1 ⟨rfl, hR1, hk1⟩
  have S1 : RSt (w.alloc (.cells #[.int .i64 0, .string ⟨#[]⟩, .int .i64 0] 50)) b v l w1 p1 e1 := ⟨hR1, S0.kept.trans hk1⟩
  clear S0 hR1 hk1
  go_wp2_with fail
  refine (getText_any _ b v l _ _ S1.at_ H2.out).mono ?_
  rintro en w2 ⟨rfl, hR2, hk2⟩
  have S2 : RSt (w.alloc (.cells #[.int .i64 0, .string ⟨#[]⟩, .int .i64 0] 50)) b v l w2 p2 e2 := ⟨hR2, S1.kept.trans hk2⟩
  clear S1 hR2 hk2
  go_wp2_with fail
  refine (gnum_any _ b v l _ _ S2.at_ H3.out).mono ?_
  rintro en w3 ⟨rfl, hR3, hk3⟩
  have S3 : RSt (w.alloc (.cells #[.int .i64 0, .string ⟨#[]⟩, .int .i64 0] 50)) b v l w3 p3 e3 := ⟨hR3, S2.kept.trans hk3⟩
  clear S2 hR3 hk3
  have hb := S3.blk hbk hnb
  have hsz : (Try.prog.info? 50).map (·.size) = some 3 := by kernel_rfl
  have HSZ := Lib.hid hsz; clear hsz
  have HB := Lib.hid hb; clear hb
  go_wp2_with (refine wpList_store_row _ rfl 50 _ _ rfl w.heap.size _ [.int .i64 x1, .string x2, .int .i64 x3] rfl rfl HB.out HSZ.out rfl (by simp [Value.oneCell']) ?_)
  have hrow := setRow_heap w3 w.heap.size _ ([.int .i64 x1, .string x2, .int .i64 x3] : List Value).toArray _ _ HB.out
  have hload := run_loadVar_row (P := Try.prog) _ w.heap.size 50 50 _ (0, 0) _ hrow Try.underlying50 rfl HSZ.out
  exact ret_cell 2 50 w.heap.size _ Try.results69 rfl hload rfl ⟨_, rfl, ⟨rfl, hi1, hi2, hi3⟩, fin_R hR S3.at_ _, fin_K hR S3.kept _⟩

set_option maxRecDepth 100000 in
set_option maxHeartbeats 600000 in
theorem get_hello (w : World) (b : Nat) (v : Value) (l : List UInt8) (p e : Nat) (hR : RAt w b v l p e) {x : Hello} {q e' : Nat} (h : helloF.get l p e = (x, q, e')) :
    Calls Try.prog 98 #[.pointer (some ⟨b, 0, none⟩)] w (GPost helloE w b v l x q e') := by
  rcases h1 : numF.get l p e with ⟨x1, p1, e1⟩
  have hi1 : I64 x1 := by have := numF_i64 (l := l) (p := p) (e := e); rw [h1] at this; exact this
  rcases h2 : numF.get l p1 e1 with ⟨x2, p2, e2⟩
  have hi2 : I64 x2 := by have := numF_i64 (l := l) (p := p1) (e := e1); rw [h2] at this; exact this
  rcases h3 : numF.get l p2 e2 with ⟨x3, p3, e3⟩
  have hi3 : I64 x3 := by have := numF_i64 (l := l) (p := p2) (e := e2); rw [h3] at this; exact this
  rcases h4 : (textF 4096).get l p3 e3 with ⟨x4, p4, e4⟩
  have hi4 : Str x4 := by have := textF_str (most := 4096) (by omega) (l := l) (p := p3) (e := e3); rw [h4] at this; exact this
  have hf : helloF.get l p e = (⟨x1, x2, x3, x4⟩, p4, e4) := by simp only [helloF, isoF, seqF, h1, h2, h3, h4]
  rw [hf] at h
  simp only [Prod.mk.injEq] at h
  obtain ⟨rfl, rfl, rfl⟩ := h
  have H1 := Lib.hid h1; clear h1
  have H2 := Lib.hid h2; clear h2
  have H3 := Lib.hid h3; clear h3
  have H4 := Lib.hid h4; clear h4
  clear hf
  have S0 := RSt.start (hR.alloc (.cells #[.int .i64 0, .int .i64 0, .int .i64 0, .string ⟨#[]⟩] 52))
  have hbk := heap_alloc_new w (.cells #[.int .i64 0, .int .i64 0, .int .i64 0, .string ⟨#[]⟩] 52)
  have hnb := rbox_new hR
  have hz0 : w.heap.size + 1 ≤ (w.alloc (.cells #[.int .i64 0, .int .i64 0, .int .i64 0, .string ⟨#[]⟩] 52)).heap.size := by simp
  go_enter Try.func98, Try.ntmps98
  go_wp2_with fail
  refine (gnum_any _ b v l _ _ S0.at_ H1.out).mono ?_
  rintro en w1 ⟨rfl, hR1, hk1⟩
  have S1 : RSt (w.alloc (.cells #[.int .i64 0, .int .i64 0, .int .i64 0, .string ⟨#[]⟩] 52)) b v l w1 p1 e1 := ⟨hR1, S0.kept.trans hk1⟩
  clear S0 hR1 hk1
  go_wp2_with fail
  refine (gnum_any _ b v l _ _ S1.at_ H2.out).mono ?_
  rintro en w2 ⟨rfl, hR2, hk2⟩
  have S2 : RSt (w.alloc (.cells #[.int .i64 0, .int .i64 0, .int .i64 0, .string ⟨#[]⟩] 52)) b v l w2 p2 e2 := ⟨hR2, S1.kept.trans hk2⟩
  clear S1 hR2 hk2
  go_wp2_with fail
  refine (gnum_any _ b v l _ _ S2.at_ H3.out).mono ?_
  rintro en w3 ⟨rfl, hR3, hk3⟩
  have S3 : RSt (w.alloc (.cells #[.int .i64 0, .int .i64 0, .int .i64 0, .string ⟨#[]⟩] 52)) b v l w3 p3 e3 := ⟨hR3, S2.kept.trans hk3⟩
  clear S2 hR3 hk3
  go_wp2_with fail
  refine (getText_any _ b v l _ _ S3.at_ H4.out).mono ?_
  rintro en w4 ⟨rfl, hR4, hk4⟩
  have S4 : RSt (w.alloc (.cells #[.int .i64 0, .int .i64 0, .int .i64 0, .string ⟨#[]⟩] 52)) b v l w4 p4 e4 := ⟨hR4, S3.kept.trans hk4⟩
  clear S3 hR4 hk4
  have hb := S4.blk hbk hnb
  have hsz : (Try.prog.info? 52).map (·.size) = some 4 := by kernel_rfl
  have HSZ := Lib.hid hsz; clear hsz
  have HB := Lib.hid hb; clear hb
  go_wp2_with (refine wpList_store_row _ rfl 52 _ _ rfl w.heap.size _ [.int .i64 x1, .int .i64 x2, .int .i64 x3, .string x4] rfl rfl HB.out HSZ.out rfl (by simp [Value.oneCell']) ?_)
  have hrow := setRow_heap w4 w.heap.size _ ([.int .i64 x1, .int .i64 x2, .int .i64 x3, .string x4] : List Value).toArray _ _ HB.out
  have hload := run_loadVar_row (P := Try.prog) _ w.heap.size 52 52 _ (0, 0) _ hrow Try.underlying52 rfl HSZ.out
  exact ret_cell 2 52 w.heap.size _ Try.results98 rfl hload rfl ⟨_, rfl, ⟨rfl, hi1, hi2, hi3, hi4⟩, fin_R hR S4.at_ _, fin_K hR S4.kept _⟩

set_option maxRecDepth 100000 in
set_option maxHeartbeats 600000 in
theorem get_note (w : World) (b : Nat) (v : Value) (l : List UInt8) (p e : Nat) (hR : RAt w b v l p e) {x : Note} {q e' : Nat} (h : noteF.get l p e = (x, q, e')) :
    Calls Try.prog 100 #[.pointer (some ⟨b, 0, none⟩)] w (GPost noteE w b v l x q e') := by
  rcases h1 : numF.get l p e with ⟨x1, p1, e1⟩
  have hi1 : I64 x1 := by have := numF_i64 (l := l) (p := p) (e := e); rw [h1] at this; exact this
  rcases h2 : numF.get l p1 e1 with ⟨x2, p2, e2⟩
  have hi2 : I64 x2 := by have := numF_i64 (l := l) (p := p1) (e := e1); rw [h2] at this; exact this
  rcases h3 : numF.get l p2 e2 with ⟨x3, p3, e3⟩
  have hi3 : I64 x3 := by have := numF_i64 (l := l) (p := p2) (e := e2); rw [h3] at this; exact this
  rcases h4 : numF.get l p3 e3 with ⟨x4, p4, e4⟩
  have hi4 : I64 x4 := by have := numF_i64 (l := l) (p := p3) (e := e3); rw [h4] at this; exact this
  rcases h5 : numF.get l p4 e4 with ⟨x5, p5, e5⟩
  have hi5 : I64 x5 := by have := numF_i64 (l := l) (p := p4) (e := e4); rw [h5] at this; exact this
  rcases h6 : numF.get l p5 e5 with ⟨x6, p6, e6⟩
  have hi6 : I64 x6 := by have := numF_i64 (l := l) (p := p5) (e := e5); rw [h6] at this; exact this
  have hf : noteF.get l p e = (⟨x1, x2, x3, x4, x5, x6⟩, p6, e6) := by simp only [noteF, isoF, seqF, h1, h2, h3, h4, h5, h6]
  rw [hf] at h
  simp only [Prod.mk.injEq] at h
  obtain ⟨rfl, rfl, rfl⟩ := h
  have H1 := Lib.hid h1; clear h1
  have H2 := Lib.hid h2; clear h2
  have H3 := Lib.hid h3; clear h3
  have H4 := Lib.hid h4; clear h4
  have H5 := Lib.hid h5; clear h5
  have H6 := Lib.hid h6; clear h6
  clear hf
  have S0 := RSt.start (hR.alloc (.cells #[.int .i64 0, .int .i64 0, .int .i64 0, .int .i64 0, .int .i64 0, .int .i64 0] 54))
  have hbk := heap_alloc_new w (.cells #[.int .i64 0, .int .i64 0, .int .i64 0, .int .i64 0, .int .i64 0, .int .i64 0] 54)
  have hnb := rbox_new hR
  have hz0 : w.heap.size + 1 ≤ (w.alloc (.cells #[.int .i64 0, .int .i64 0, .int .i64 0, .int .i64 0, .int .i64 0, .int .i64 0] 54)).heap.size := by simp
  go_enter Try.func100, Try.ntmps100
  go_wp2_with fail
  refine (gnum_any _ b v l _ _ S0.at_ H1.out).mono ?_
  rintro en w1 ⟨rfl, hR1, hk1⟩
  have S1 : RSt (w.alloc (.cells #[.int .i64 0, .int .i64 0, .int .i64 0, .int .i64 0, .int .i64 0, .int .i64 0] 54)) b v l w1 p1 e1 := ⟨hR1, S0.kept.trans hk1⟩
  clear S0 hR1 hk1
  go_wp2_with fail
  refine (gnum_any _ b v l _ _ S1.at_ H2.out).mono ?_
  rintro en w2 ⟨rfl, hR2, hk2⟩
  have S2 : RSt (w.alloc (.cells #[.int .i64 0, .int .i64 0, .int .i64 0, .int .i64 0, .int .i64 0, .int .i64 0] 54)) b v l w2 p2 e2 := ⟨hR2, S1.kept.trans hk2⟩
  clear S1 hR2 hk2
  go_wp2_with fail
  refine (gnum_any _ b v l _ _ S2.at_ H3.out).mono ?_
  rintro en w3 ⟨rfl, hR3, hk3⟩
  have S3 : RSt (w.alloc (.cells #[.int .i64 0, .int .i64 0, .int .i64 0, .int .i64 0, .int .i64 0, .int .i64 0] 54)) b v l w3 p3 e3 := ⟨hR3, S2.kept.trans hk3⟩
  clear S2 hR3 hk3
  go_wp2_with fail
  refine (gnum_any _ b v l _ _ S3.at_ H4.out).mono ?_
  rintro en w4 ⟨rfl, hR4, hk4⟩
  have S4 : RSt (w.alloc (.cells #[.int .i64 0, .int .i64 0, .int .i64 0, .int .i64 0, .int .i64 0, .int .i64 0] 54)) b v l w4 p4 e4 := ⟨hR4, S3.kept.trans hk4⟩
  clear S3 hR4 hk4
  go_wp2_with fail
  refine (gnum_any _ b v l _ _ S4.at_ H5.out).mono ?_
  rintro en w5 ⟨rfl, hR5, hk5⟩
  have S5 : RSt (w.alloc (.cells #[.int .i64 0, .int .i64 0, .int .i64 0, .int .i64 0, .int .i64 0, .int .i64 0] 54)) b v l w5 p5 e5 := ⟨hR5, S4.kept.trans hk5⟩
  clear S4 hR5 hk5
  go_wp2_with fail
  refine (gnum_any _ b v l _ _ S5.at_ H6.out).mono ?_
  rintro en w6 ⟨rfl, hR6, hk6⟩
  have S6 : RSt (w.alloc (.cells #[.int .i64 0, .int .i64 0, .int .i64 0, .int .i64 0, .int .i64 0, .int .i64 0] 54)) b v l w6 p6 e6 := ⟨hR6, S5.kept.trans hk6⟩
  clear S5 hR6 hk6
  have hb := S6.blk hbk hnb
  have hsz : (Try.prog.info? 54).map (·.size) = some 6 := by kernel_rfl
  have HSZ := Lib.hid hsz; clear hsz
  have HB := Lib.hid hb; clear hb
  go_wp2_with (refine wpList_store_row _ rfl 54 _ _ rfl w.heap.size _ [.int .i64 x1, .int .i64 x2, .int .i64 x3, .int .i64 x4, .int .i64 x5, .int .i64 x6] rfl rfl HB.out HSZ.out rfl (by simp [Value.oneCell']) ?_)
  have hrow := setRow_heap w6 w.heap.size _ ([.int .i64 x1, .int .i64 x2, .int .i64 x3, .int .i64 x4, .int .i64 x5, .int .i64 x6] : List Value).toArray _ _ HB.out
  have hload := run_loadVar_row (P := Try.prog) _ w.heap.size 54 54 _ (0, 0) _ hrow Try.underlying54 rfl HSZ.out
  exact ret_cell 2 54 w.heap.size _ Try.results100 rfl hload rfl ⟨_, rfl, ⟨rfl, hi1, hi2, hi3, hi4, hi5, hi6⟩, fin_R hR S6.at_ _, fin_K hR S6.kept _⟩

end Go.Proofs.Ytngcfnffbggniaa
