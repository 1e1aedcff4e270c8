/- A message, taken up. -/
import Derived.Test.YtngcfnffbggniaaGentry
import Derived.Test.YtngcfnffbggniaaGreq
namespace Go.Proofs.Ytngcfnffbggniaa
open Go.ChangeShapes Go.WideShapes Go.ChangeAt Go.RowKit
set_option linter.unusedVariables false

set_option maxRecDepth 100000 in
set_option maxHeartbeats 600000 in
theorem get_message (w : World) (b : Nat) (v : Value) (l : List UInt8) (p e : Nat) (hR : RAt w b v l p e) {x : Message} {q e' : Nat} (h : messageF.get l p e = (x, q, e')) :
    Calls Try.prog 67 #[.pointer (some ⟨b, 0, none⟩)] w (GPost messageE w b v l x q e') := by
  rcases h1 : numF.get l p e with ⟨x1, p1, e1⟩
  have hi1 : I64 x1 := by have := numF_i64 (l := l) (p := p) (e := e); rw [h1] at this; exact this
  rcases h2 : numF.get l p1 e1 with ⟨x2, p2, e2⟩
  have hi2 : I64 x2 := by have := numF_i64 (l := l) (p := p1) (e := e1); rw [h2] at this; exact this
  rcases h3 : numF.get l p2 e2 with ⟨x3, p3, e3⟩
  have hi3 : I64 x3 := by have := numF_i64 (l := l) (p := p2) (e := e2); rw [h3] at this; exact this
  rcases h4 : numF.get l p3 e3 with ⟨x4, p4, e4⟩
  have hi4 : I64 x4 := by have := numF_i64 (l := l) (p := p3) (e := e3); rw [h4] at this; exact this
  rcases h5 : numF.get l p4 e4 with ⟨x5, p5, e5⟩
  have hi5 : I64 x5 := by have := numF_i64 (l := l) (p := p4) (e := e4); rw [h5] at this; exact this
  rcases h6 : (listF numF).get l p5 e5 with ⟨x6, p6, e6⟩
  rcases h7 : (textF 65536).get l p6 e6 with ⟨x7, p7, e7⟩
  have hi7 : Str x7 := by have := textF_str (most := 65536) (by omega) (l := l) (p := p6) (e := e6); rw [h7] at this; exact this
  rcases h8 : (listF entryF).get l p7 e7 with ⟨x8, p8, e8⟩
  rcases h9 : reqF.get l p8 e8 with ⟨x9, p9, e9⟩
  rcases h10 : (listF (textF 4096)).get l p9 e9 with ⟨x10, p10, e10⟩
  have hf : messageF.get l p e = (⟨x1, x2, x3, x4, x5, x6, x7, x8, x9, x10⟩, p10, e10) := by simp only [messageF, isoF, seqF, h1, h2, h3, h4, h5, h6, h7, h8, h9, h10]
  rw [hf] at h
  simp only [Prod.mk.injEq] at h
  obtain ⟨rfl, rfl, rfl⟩ := h
  have H1 := Lib.hid h1; clear h1
  have H2 := Lib.hid h2; clear h2
  have H3 := Lib.hid h3; clear h3
  have H4 := Lib.hid h4; clear h4
  have H5 := Lib.hid h5; clear h5
  have H6 := Lib.hid h6; clear h6
  have H7 := Lib.hid h7; clear h7
  have H8 := Lib.hid h8; clear h8
  have H9 := Lib.hid h9; clear h9
  have H10 := Lib.hid h10; clear h10
  clear hf
  have S0 := RSt.start (hR.alloc (.cells #[.int .i64 0, .int .i64 0, .int .i64 0, .int .i64 0, .int .i64 0, .slice none 0 0, .string ⟨#[]⟩, .slice none 0 0, .int .i64 0, .int .i64 0, .string ⟨#[]⟩, .string ⟨#[]⟩, .slice none 0 0, .int .i64 0, .int .i64 0, .bool false, .slice none 0 0, .slice none 0 0, .slice none 0 0] 62))
  have hbk := heap_alloc_new w (.cells #[.int .i64 0, .int .i64 0, .int .i64 0, .int .i64 0, .int .i64 0, .slice none 0 0, .string ⟨#[]⟩, .slice none 0 0, .int .i64 0, .int .i64 0, .string ⟨#[]⟩, .string ⟨#[]⟩, .slice none 0 0, .int .i64 0, .int .i64 0, .bool false, .slice none 0 0, .slice none 0 0, .slice none 0 0] 62)
  have hnb := rbox_new hR
  have hz0 : w.heap.size + 1 ≤ (w.alloc (.cells #[.int .i64 0, .int .i64 0, .int .i64 0, .int .i64 0, .int .i64 0, .slice none 0 0, .string ⟨#[]⟩, .slice none 0 0, .int .i64 0, .int .i64 0, .string ⟨#[]⟩, .string ⟨#[]⟩, .slice none 0 0, .int .i64 0, .int .i64 0, .bool false, .slice none 0 0, .slice none 0 0, .slice none 0 0] 62)).heap.size := by simp
  go_enter Try.func67, Try.ntmps67
  go_wp2_with fail
  refine (gnum_any _ b v l _ _ S0.at_ H1.out).mono ?_
  rintro en w1 ⟨rfl, hR1, hk1⟩
  have S1 : RSt (w.alloc (.cells #[.int .i64 0, .int .i64 0, .int .i64 0, .int .i64 0, .int .i64 0, .slice none 0 0, .string ⟨#[]⟩, .slice none 0 0, .int .i64 0, .int .i64 0, .string ⟨#[]⟩, .string ⟨#[]⟩, .slice none 0 0, .int .i64 0, .int .i64 0, .bool false, .slice none 0 0, .slice none 0 0, .slice none 0 0] 62)) b v l w1 p1 e1 := ⟨hR1, S0.kept.trans hk1⟩
  clear S0 hR1 hk1
  go_wp2_with fail
  refine (gnum_any _ b v l _ _ S1.at_ H2.out).mono ?_
  rintro en w2 ⟨rfl, hR2, hk2⟩
  have S2 : RSt (w.alloc (.cells #[.int .i64 0, .int .i64 0, .int .i64 0, .int .i64 0, .int .i64 0, .slice none 0 0, .string ⟨#[]⟩, .slice none 0 0, .int .i64 0, .int .i64 0, .string ⟨#[]⟩, .string ⟨#[]⟩, .slice none 0 0, .int .i64 0, .int .i64 0, .bool false, .slice none 0 0, .slice none 0 0, .slice none 0 0] 62)) b v l w2 p2 e2 := ⟨hR2, S1.kept.trans hk2⟩
  clear S1 hR2 hk2
  go_wp2_with fail
  refine (gnum_any _ b v l _ _ S2.at_ H3.out).mono ?_
  rintro en w3 ⟨rfl, hR3, hk3⟩
  have S3 : RSt (w.alloc (.cells #[.int .i64 0, .int .i64 0, .int .i64 0, .int .i64 0, .int .i64 0, .slice none 0 0, .string ⟨#[]⟩, .slice none 0 0, .int .i64 0, .int .i64 0, .string ⟨#[]⟩, .string ⟨#[]⟩, .slice none 0 0, .int .i64 0, .int .i64 0, .bool false, .slice none 0 0, .slice none 0 0, .slice none 0 0] 62)) b v l w3 p3 e3 := ⟨hR3, S2.kept.trans hk3⟩
  clear S2 hR3 hk3
  go_wp2_with fail
  refine (gnum_any _ b v l _ _ S3.at_ H4.out).mono ?_
  rintro en w4 ⟨rfl, hR4, hk4⟩
  have S4 : RSt (w.alloc (.cells #[.int .i64 0, .int .i64 0, .int .i64 0, .int .i64 0, .int .i64 0, .slice none 0 0, .string ⟨#[]⟩, .slice none 0 0, .int .i64 0, .int .i64 0, .string ⟨#[]⟩, .string ⟨#[]⟩, .slice none 0 0, .int .i64 0, .int .i64 0, .bool false, .slice none 0 0, .slice none 0 0, .slice none 0 0] 62)) b v l w4 p4 e4 := ⟨hR4, S3.kept.trans hk4⟩
  clear S3 hR4 hk4
  go_wp2_with fail
  refine (gnum_any _ b v l _ _ S4.at_ H5.out).mono ?_
  rintro en w5 ⟨rfl, hR5, hk5⟩
  have S5 : RSt (w.alloc (.cells #[.int .i64 0, .int .i64 0, .int .i64 0, .int .i64 0, .int .i64 0, .slice none 0 0, .string ⟨#[]⟩, .slice none 0 0, .int .i64 0, .int .i64 0, .string ⟨#[]⟩, .string ⟨#[]⟩, .slice none 0 0, .int .i64 0, .int .i64 0, .bool false, .slice none 0 0, .slice none 0 0, .slice none 0 0] 62)) b v l w5 p5 e5 := ⟨hR5, S4.kept.trans hk5⟩
  clear S4 hR5 hk5
  go_wp2_with fail
  refine (getList_num _ b v l _ _ S5.at_ H6.out).mono ?_
  rintro en w6 ⟨sv6, rfl, hL6, hR6, hk6⟩
  obtain ⟨A6, n6, c6, rfl⟩ := hL6.shape
  have hd6 := new_rs S5.at_
  have hz6 : w.heap.size + 1 ≤ w5.heap.size := Nat.le_trans hz0 S5.kept.size
  have S6 : RSt (w.alloc (.cells #[.int .i64 0, .int .i64 0, .int .i64 0, .int .i64 0, .int .i64 0, .slice none 0 0, .string ⟨#[]⟩, .slice none 0 0, .int .i64 0, .int .i64 0, .string ⟨#[]⟩, .string ⟨#[]⟩, .slice none 0 0, .int .i64 0, .int .i64 0, .bool false, .slice none 0 0, .slice none 0 0, .slice none 0 0] 62)) b v l w6 p6 e6 := ⟨hR6, S5.kept.trans hk6⟩
  clear S5 hR6 hk6
  go_wp2_with fail
  refine (gtext_any 65536 _ b v l _ _ S6.at_ (by omega) H7.out).mono ?_
  rintro en w7 ⟨rfl, hR7, hk7⟩
  replace hL6 := hL6.keep intE_ok hk7 hd6
  have S7 : RSt (w.alloc (.cells #[.int .i64 0, .int .i64 0, .int .i64 0, .int .i64 0, .int .i64 0, .slice none 0 0, .string ⟨#[]⟩, .slice none 0 0, .int .i64 0, .int .i64 0, .string ⟨#[]⟩, .string ⟨#[]⟩, .slice none 0 0, .int .i64 0, .int .i64 0, .bool false, .slice none 0 0, .slice none 0 0, .slice none 0 0] 62)) b v l w7 p7 e7 := ⟨hR7, S6.kept.trans hk7⟩
  clear S6 hR7 hk7
  go_wp2_with fail
  refine (getList_entry _ b v l _ _ S7.at_ H8.out).mono ?_
  rintro en w8 ⟨sv8, rfl, hL8, hR8, hk8⟩
  obtain ⟨A8, n8, c8, rfl⟩ := hL8.shape
  replace hL6 := hL6.keep intE_ok hk8 hd6
  have hd8 := new_rs S7.at_
  have hz8 : w.heap.size + 1 ≤ w7.heap.size := Nat.le_trans hz0 S7.kept.size
  have S8 : RSt (w.alloc (.cells #[.int .i64 0, .int .i64 0, .int .i64 0, .int .i64 0, .int .i64 0, .slice none 0 0, .string ⟨#[]⟩, .slice none 0 0, .int .i64 0, .int .i64 0, .string ⟨#[]⟩, .string ⟨#[]⟩, .slice none 0 0, .int .i64 0, .int .i64 0, .bool false, .slice none 0 0, .slice none 0 0, .slice none 0 0] 62)) b v l w8 p8 e8 := ⟨hR8, S7.kept.trans hk8⟩
  clear S7 hR8 hk8
  go_wp2_with fail
  refine (get_req _ b v l _ _ S8.at_ H9.out).mono ?_
  rintro en w9 ⟨cs9, rfl, hL9, hR9, hk9⟩
  obtain ⟨A9_acl, n9_acl, c9_acl, A9_subs, n9_subs, c9_subs, A9_armed, n9_armed, c9_armed, rfl⟩ := reqE_cells hL9
  replace hL6 := hL6.keep intE_ok hk9 hd6
  replace hL8 := hL8.keep entryE_ok hk9 hd8
  have hd9 := new_rs S8.at_
  have hz9 : w.heap.size + 1 ≤ w8.heap.size := Nat.le_trans hz0 S8.kept.size
  have S9 : RSt (w.alloc (.cells #[.int .i64 0, .int .i64 0, .int .i64 0, .int .i64 0, .int .i64 0, .slice none 0 0, .string ⟨#[]⟩, .slice none 0 0, .int .i64 0, .int .i64 0, .string ⟨#[]⟩, .string ⟨#[]⟩, .slice none 0 0, .int .i64 0, .int .i64 0, .bool false, .slice none 0 0, .slice none 0 0, .slice none 0 0] 62)) b v l w9 p9 e9 := ⟨hR9, S8.kept.trans hk9⟩
  clear S8 hR9 hk9
  go_wp2_with fail
  refine (getList_text _ b v l _ _ S9.at_ H10.out).mono ?_
  rintro en w10 ⟨sv10, rfl, hL10, hR10, hk10⟩
  obtain ⟨A10, n10, c10, rfl⟩ := hL10.shape
  replace hL6 := hL6.keep intE_ok hk10 hd6
  replace hL8 := hL8.keep entryE_ok hk10 hd8
  replace hL9 := reqE_ok.keep hL9 hk10 hd9
  have hd10 := new_rs S9.at_
  have hz10 : w.heap.size + 1 ≤ w9.heap.size := Nat.le_trans hz0 S9.kept.size
  have S10 : RSt (w.alloc (.cells #[.int .i64 0, .int .i64 0, .int .i64 0, .int .i64 0, .int .i64 0, .slice none 0 0, .string ⟨#[]⟩, .slice none 0 0, .int .i64 0, .int .i64 0, .string ⟨#[]⟩, .string ⟨#[]⟩, .slice none 0 0, .int .i64 0, .int .i64 0, .bool false, .slice none 0 0, .slice none 0 0, .slice none 0 0] 62)) b v l w10 p10 e10 := ⟨hR10, S9.kept.trans hk10⟩
  clear S9 hR10 hk10
  have hb := S10.blk hbk hnb
  have hsz : (Try.prog.info? 62).map (·.size) = some 19 := by kernel_rfl
  have HSZ := Lib.hid hsz; clear hsz
  have HB := Lib.hid hb; clear hb
  go_wp2_with (refine wpList_store_row _ rfl 62 _ _ rfl w.heap.size _ [.int .i64 x1, .int .i64 x2, .int .i64 x3, .int .i64 x4, .int .i64 x5, .slice A6 n6 c6, .string x7, .slice A8 n8 c8, .int .i64 x9.op.kind, .int .i64 x9.op.xid, .string x9.op.path, .string x9.op.data, .slice A9_acl n9_acl c9_acl, .int .i64 x9.op.flags, .int .i64 x9.op.version, .bool x9.op.watch, .slice A9_subs n9_subs c9_subs, .slice A9_armed n9_armed c9_armed, .slice A10 n10 c10] rfl rfl HB.out HSZ.out rfl (by simp [Value.oneCell']) ?_)
  have hrow := setRow_heap w10 w.heap.size _ ([.int .i64 x1, .int .i64 x2, .int .i64 x3, .int .i64 x4, .int .i64 x5, .slice A6 n6 c6, .string x7, .slice A8 n8 c8, .int .i64 x9.op.kind, .int .i64 x9.op.xid, .string x9.op.path, .string x9.op.data, .slice A9_acl n9_acl c9_acl, .int .i64 x9.op.flags, .int .i64 x9.op.version, .bool x9.op.watch, .slice A9_subs n9_subs c9_subs, .slice A9_armed n9_armed c9_armed, .slice A10 n10 c10] : List Value).toArray _ _ HB.out
  have hload := run_loadVar_row (P := Try.prog) _ w.heap.size 62 62 _ (0, 0) _ hrow Try.underlying62 rfl HSZ.out
  exact ret_cell 2 62 w.heap.size _ Try.results67 rfl hload rfl ⟨_, rfl, ⟨_, _, _, _, rfl, fin_list intE_ok hL6 hz6 _, fin_list entryE_ok hL8 hz8 _, fin_E reqE_ok hL9 hz9 _, fin_list textE_ok hL10 hz10 _, hi1, hi2, hi3, hi4, hi5, hi7⟩, fin_R hR S10.at_ _, fin_K hR S10.kept _⟩

end Go.Proofs.Ytngcfnffbggniaa
