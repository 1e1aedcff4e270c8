/- A request, taken up. -/
import Derived.Test.YtngcfnffbggniaaGop
import Derived.Test.YtngcfnffbggniaaGtwo
namespace Go.Proofs.Ytngcfnffbggniaa
open Go.ChangeShapes Go.WideShapes Go.ChangeAt Go.RowKit
set_option linter.unusedVariables false

set_option maxRecDepth 100000 in
set_option maxHeartbeats 600000 in
theorem get_req (w : World) (b : Nat) (v : Value) (l : List UInt8) (p e : Nat) (hR : RAt w b v l p e) {x : Req} {q e' : Nat} (h : reqF.get l p e = (x, q, e')) :
    Calls Try.prog 87 #[.pointer (some ⟨b, 0, none⟩)] w (GPost reqE w b v l x q e') := by
  rcases h1 : oper1F.get l p e with ⟨x1, p1, e1⟩
  rcases h2 : (listF oper1F).get l p1 e1 with ⟨x2, p2, e2⟩
  rcases h3 : (listF armedF).get l p2 e2 with ⟨x3, p3, e3⟩
  have hf : reqF.get l p e = (⟨x1, x2, x3⟩, p3, e3) := by simp only [reqF, isoF, seqF, h1, h2, h3]
  rw [hf] at h
  simp only [Prod.mk.injEq] at h
  obtain ⟨rfl, rfl, rfl⟩ := h
  have H1 := Lib.hid h1; clear h1
  have H2 := Lib.hid h2; clear h2
  have H3 := Lib.hid h3; clear h3
  clear hf
  have hR0 := hR.alloc (.cells #[.int .i64 0, .int .i64 0, .string ⟨#[]⟩, .string ⟨#[]⟩, .slice none 0 0, .int .i64 0, .int .i64 0, .bool false, .slice none 0 0, .slice none 0 0] 38)
  have hsz : (Try.prog.info? 38).map (·.size) = some 10 := by kernel_rfl
  have HSZ := Lib.hid hsz; clear hsz
  go_enter Try.func87, Try.ntmps87
  go_wp2_with fail
  refine (get_oper1 _ b v l _ _ hR0 H1.out).mono ?_
  rintro en w1 ⟨cs, rfl, hE1, hR1, hk1⟩
  have hfl := oper1E_flat hE1
  have HFL := Lib.hid hfl.1
  have HF1 := Lib.hid hfl.2
  have B0 := TBox.start (cs := cs) hR hR1 hk1
  replace hE1 := rel_start oper1E_ok (o := .cells cs.toArray 38) hE1
  clear hR1 hk1 hfl
  go_wp2_with (refine wpList_store_new w1 rfl 38 _ (.tmp 5) rfl _ cs rfl rfl (by rw [HFL.out]; exact HSZ.out) HFL.out.symm HF1.out ?_)
  refine (getList_oper1 _ b v l _ _ B0.rd H2.out).mono ?_
  rintro en w2 ⟨sv2, rfl, hL2, hR2, hk2⟩
  obtain ⟨A2, n2, c2, rfl⟩ := hL2.shape
  replace hE1 := oper1E_ok.keep hE1 hk2 B0.ok_rs
  replace hL2 := B0.rel_list oper1E_ok hL2
  have B1a := B0.list hR2 hk2
  obtain ⟨hc2, hfz2⟩ := B1a.cell 8 (by rw [HFL.out]; omega)
  have B1 := B1a.set 8 (.slice A2 n2 c2)
  generalize cs[8]'(by rw [HFL.out]; omega) = u2 at hc2
  replace hE1 := oper1E_ok.keep hE1 (set_kept _ w1.heap.size 8 (.slice A2 n2 c2)) (ok_g w w1.heap.size)
  replace hL2 := hL2.keep oper1E_ok (set_kept _ w1.heap.size 8 (.slice A2 n2 c2)) (ok_g w w1.heap.size)
  clear B0 B1a hR2 hk2
  go_wp2_with fail
  refine (getList_armed _ b v l _ _ B1.rd H3.out).mono ?_
  rintro en w3 ⟨sv3, rfl, hL3, hR3, hk3⟩
  obtain ⟨A3, n3, c3, rfl⟩ := hL3.shape
  replace hE1 := oper1E_ok.keep hE1 hk3 B1.ok_rs
  replace hL2 := hL2.keep oper1E_ok hk3 B1.ok_rs
  replace hL3 := B1.rel_list armedE_ok hL3
  have B2a := B1.list hR3 hk3
  obtain ⟨hc3, hfz3⟩ := B2a.cell 9 (by rw [List.length_set]; rw [HFL.out]; omega)
  have B2 := B2a.set 9 (.slice A3 n3 c3)
  generalize (cs.set 8 (.slice A2 n2 c2))[9]'(by rw [List.length_set]; rw [HFL.out]; omega) = u3 at hc3
  replace hE1 := oper1E_ok.keep hE1 (set_kept _ w1.heap.size 9 (.slice A3 n3 c3)) (ok_g w w1.heap.size)
  replace hL2 := hL2.keep oper1E_ok (set_kept _ w1.heap.size 9 (.slice A3 n3 c3)) (ok_g w w1.heap.size)
  replace hL3 := hL3.keep armedE_ok (set_kept _ w1.heap.size 9 (.slice A3 n3 c3)) (ok_g w w1.heap.size)
  clear B1 B2a hR3 hk3
  have hfl2 : Flat 10 ((cs.set 8 (.slice A2 n2 c2)).set 9 (.slice A3 n3 c3)) := flat_set (flat_set ⟨HFL.out, HF1.out⟩ 8 rfl) 9 rfl
  have HL2 := Lib.hid hfl2.1
  have HF2 := Lib.hid hfl2.2
  have HB := Lib.hid B2.res
  have HX := Lib.hid (range_row B2.box)
  clear hfl2
  go_wp2_with (first | (refine wpList_load_mid rfl 38 (.tmp 3) rfl w1.heap.size 0 rfl ((cs.set 8 (.slice A2 n2 c2)).set 9 (.slice A3 n3 c3)) _ HX.out Try.underlying38 rfl (by rw [HL2.out]; exact HSZ.out) ?_) | (refine wpList_store_row _ rfl 38 _ _ rfl w.heap.size _ ((cs.set 8 (.slice A2 n2 c2)).set 9 (.slice A3 n3 c3)) rfl rfl HB.out (by rw [HL2.out]; exact HSZ.out) (by rw [HL2.out]; rfl) HF2.out ?_))
  have hrow := setRow_heap (w3.setCell ⟨w1.heap.size, 9, none⟩ (.slice A3 n3 c3)) w.heap.size _ (((cs.set 8 (.slice A2 n2 c2)).set 9 (.slice A3 n3 c3))).toArray _ _ HB.out
  have hload := run_loadVar_row (P := Try.prog) _ w.heap.size 38 38 _ (0, 0) _ hrow Try.underlying38 rfl (by rw [List.size_toArray, HL2.out]; exact HSZ.out)
  exact ret_cell 2 38 w.heap.size _ Try.results87 rfl hload rfl ⟨_, rfl, ⟨_, _, oper1Q_set (rel_fin oper1E_ok hE1 _) ⟨_, _, _, rfl⟩ ⟨_, _, _, rfl⟩, rel_finL oper1E_ok hL2 _, rel_finL armedE_ok hL3 _⟩, B2.finR _, B2.finK _⟩

end Go.Proofs.Ytngcfnffbggniaa
