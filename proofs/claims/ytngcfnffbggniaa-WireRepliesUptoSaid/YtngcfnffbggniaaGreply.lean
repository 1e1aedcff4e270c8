/- A reply, taken up. -/
import Derived.Test.YtngcfnffbggniaaGans
import Derived.Test.YtngcfnffbggniaaGtwo
namespace Go.Proofs.Ytngcfnffbggniaa
open Go.ChangeShapes Go.WideShapes Go.ChangeAt Go.RowKit
set_option linter.unusedVariables false

set_option maxRecDepth 100000 in
set_option maxHeartbeats 600000 in
theorem get_reply (w : World) (b : Nat) (v : Value) (l : List UInt8) (p e : Nat) (hR : RAt w b v l p e) {x : Reply} {q e' : Nat} (h : replyF.get l p e = (x, q, e')) :
    Calls Try.prog 94 #[.pointer (some ⟨b, 0, none⟩)] w (GPost replyE w b v l x q e') := by
  rcases h1 : ansF.get l p e with ⟨x1, p1, e1⟩
  rcases h2 : (listF ansF).get l p1 e1 with ⟨x2, p2, e2⟩
  have hf : replyF.get l p e = (⟨x1, x2⟩, p2, e2) := by simp only [replyF, isoF, seqF, h1, h2]
  rw [hf] at h
  simp only [Prod.mk.injEq] at h
  obtain ⟨rfl, rfl, rfl⟩ := h
  have H1 := Lib.hid h1; clear h1
  have H2 := Lib.hid h2; clear h2
  clear hf
  have hR0 := hR.alloc (.cells #[.int .i64 0, .int .i64 0, .int .i64 0, .string ⟨#[]⟩, .string ⟨#[]⟩, .int .i64 0, .int .i64 0, .int .i64 0, .int .i64 0, .int .i64 0, .int .i64 0, .int .i64 0, .int .i64 0, .int .i64 0, .slice none 0 0, .slice none 0 0, .slice none 0 0] 46)
  have hsz : (Try.prog.info? 46).map (·.size) = some 17 := by kernel_rfl
  have HSZ := Lib.hid hsz; clear hsz
  go_enter Try.func94, Try.ntmps94
  go_wp2_with fail
  refine (get_ans _ b v l _ _ hR0 H1.out).mono ?_
  rintro en w1 ⟨cs, rfl, hE1, hR1, hk1⟩
  have hfl := ansE_flat hE1
  have HFL := Lib.hid hfl.1
  have HF1 := Lib.hid hfl.2
  have B0 := TBox.start (cs := cs) hR hR1 hk1
  replace hE1 := rel_start ansE_ok (o := .cells cs.toArray 46) hE1
  clear hR1 hk1 hfl
  go_wp2_with (refine wpList_store_new w1 rfl 46 _ (.tmp 5) rfl _ cs rfl rfl (by rw [HFL.out]; exact HSZ.out) HFL.out.symm HF1.out ?_)
  refine (getList_ans _ b v l _ _ B0.rd H2.out).mono ?_
  rintro en w2 ⟨sv2, rfl, hL2, hR2, hk2⟩
  obtain ⟨A2, n2, c2, rfl⟩ := hL2.shape
  replace hE1 := ansE_ok.keep hE1 hk2 B0.ok_rs
  replace hL2 := B0.rel_list ansE_ok hL2
  have B1a := B0.list hR2 hk2
  obtain ⟨hc2, hfz2⟩ := B1a.cell 16 (by rw [HFL.out]; omega)
  have B1 := B1a.set 16 (.slice A2 n2 c2)
  generalize cs[16]'(by rw [HFL.out]; omega) = u2 at hc2
  replace hE1 := ansE_ok.keep hE1 (set_kept _ w1.heap.size 16 (.slice A2 n2 c2)) (ok_g w w1.heap.size)
  replace hL2 := hL2.keep ansE_ok (set_kept _ w1.heap.size 16 (.slice A2 n2 c2)) (ok_g w w1.heap.size)
  clear B0 B1a hR2 hk2
  have hfl2 : Flat 17 (cs.set 16 (.slice A2 n2 c2)) := flat_set ⟨HFL.out, HF1.out⟩ 16 rfl
  have HL2 := Lib.hid hfl2.1
  have HF2 := Lib.hid hfl2.2
  have HB := Lib.hid B1.res
  have HX := Lib.hid (range_row B1.box)
  clear hfl2
  go_wp2_with (first | (refine wpList_load_mid rfl 46 (.tmp 3) rfl w1.heap.size 0 rfl (cs.set 16 (.slice A2 n2 c2)) _ HX.out Try.underlying46 rfl (by rw [HL2.out]; exact HSZ.out) ?_) | (refine wpList_store_row _ rfl 46 _ _ rfl w.heap.size _ (cs.set 16 (.slice A2 n2 c2)) rfl rfl HB.out (by rw [HL2.out]; exact HSZ.out) (by rw [HL2.out]; rfl) HF2.out ?_))
  have hrow := setRow_heap (w2.setCell ⟨w1.heap.size, 16, none⟩ (.slice A2 n2 c2)) w.heap.size _ ((cs.set 16 (.slice A2 n2 c2))).toArray _ _ HB.out
  have hload := run_loadVar_row (P := Try.prog) _ w.heap.size 46 46 _ (0, 0) _ hrow Try.underlying46 rfl (by rw [List.size_toArray, HL2.out]; exact HSZ.out)
  exact ret_cell 2 46 w.heap.size _ Try.results94 rfl hload rfl ⟨_, rfl, ⟨_, ansQ_set (rel_fin ansE_ok hE1 _) ⟨_, _, _, rfl⟩, rel_finL ansE_ok hL2 _⟩, B1.finR _, B1.finK _⟩

end Go.Proofs.Ytngcfnffbggniaa
