/- What a log refuses. -/
import Derived.Test.YtmfngbgdmlnlcaaJah
namespace Go.Proofs.Ytmfngbgdmlnlcaa
open Go.ChangeShapes Go.WideShapes Go.ChangeAt Go.RowKit
set_option linter.unusedVariables false
set_option linter.unusedSimpArgs false
section
variable {Z Z' : Nat → Prop} {w w' : World} {lb db sb mb nn : Nat} {rv : Value} {g g' : LSt} {d d' : DSt}
set_option maxRecDepth 100000 in
set_option maxHeartbeats 2000000 in
theorem wappend_long (h : Wl Z w lb db g d) (hd : g.doubt = false) (s : ByteArray) (hs : 4000 < s.size) :
    Calls Try.prog 13 #[.pointer (some ⟨lb, 0, none⟩), .string s] w fun e w' => e = .returned (.int .i64 33) ∧ Wl Z w' lb db g d ∧ Kept Z w w' := by
  have h1 := h.box (.cells #[.int .i64 0] 25)
  have HZ : Hid (∀ k, w.heap.size ≤ k → Z k) := Lib.hid (by obtain ⟨_, _, _, _, _, _, _, _, h5⟩ := h.ex; exact h5)
  obtain ⟨sb, mb, nn, rv, hp⟩ := h1.open_
  have hb := heap_alloc_new w (.cells #[.int .i64 0] 25)
  have HB := Lib.hid hb
  obtain ⟨ra, rcap, rfl, hcap⟩ := hp.l.slice
  have HH1 := Lib.hid h1
  have HH0 := Lib.hid h
  obtain ⟨t0, t1, t2, t3, t4, t5, t6⟩ := hp.seven
  have t7 : (w.alloc (.cells #[.int .i64 0] 25)).cell? ⟨lb, 7, none⟩ = some (.slice ra g.recs.length rcap) := hp.l.cell 7
  have t8 : (w.alloc (.cells #[.int .i64 0] 25)).cell? ⟨lb, 8, none⟩ = some (.int .i64 g.used) := hp.l.cell 8
  have t9 : (w.alloc (.cells #[.int .i64 0] 25)).cell? ⟨lb, 9, none⟩ = some (.bool false) := by rw [← hd]; exact hp.l.cell 9
  have hsd : decide (4000 < s.size) = true := by simpa using hs
  clear h h1 hp hb
  go_enter_defers Try.func13, Try.ntmps13
  go_wp2_with fail
  refine (toolong_any s _).mono ?_
  rintro e w1 ⟨rfl, rfl⟩
  rw [hsd]
  go_wp2_with fail
  have hb3 : (w.alloc (.cells #[.int .i64 33] 25)).heap[w.heap.size]? = some (.cells #[.int .i64 33] 25 (0, 0)) := heap_alloc_new w _
  have HW3 := Lib.hid (HH0.out.box (.cells #[.int .i64 33] 25))
  have HK3 : Hid (Kept Z w (w.alloc (.cells #[.int .i64 33] 25))) := Lib.hid ((Kept.refl Z w).alloc _)
  clear t0 t1 t2 t3 t4 t5 t6 t7 t8 t9
  generalize w.alloc (.cells #[.int .i64 33] 25) = w3 at hb3 HW3 HK3 ⊢
  refine leaves_cons (f := 34) (args := #[.pointer (some ⟨lb, 0, none⟩), .agg #[.pointer (some ⟨db, 0, none⟩), .int .i64 g.m.c, .int .i64 g.m.ar, .int .i64 g.m.le, .int .i64 g.m.nu, .int .i64 g.m.a, .int .i64 g.m.b, .slice ra g.recs.length rcap, .int .i64 g.used, .bool false], .pointer (some ⟨w.heap.size, 0, none⟩)]) (by simp) (by simp [go_sem]) ?_
  refine (right_not (v := 33) _ _ _ _ _ _ _ _ _ _ (cell_of_row _ w.heap.size 0 _ _ (0, 0) hb3) (by decide) .returning).mono ?_
  rintro e u' w4 ⟨rfl, rfl, hk⟩
  have hc2 : w4.cell? ⟨w.heap.size, 0, none⟩ = some (.int .i64 33) := by
    rw [World.cell?_of_block (w := w3) (hk.block _ (lt_of_block hb3) id)]
    exact cell_of_row _ w.heap.size 0 _ _ (0, 0) hb3
  have HK : Hid (Kept Z w w4) := Lib.hid (HK3.out.trans (hk.mono (fun _ _ f => f.elim)))
  have HW := Lib.hid ((HW3.out.kept0 hk).mono (Z' := Z) (fun k hz => hz.1))
  clear hk hb3 HW3 HK3
  simp [Leaves, settle, results, Try.results13, go_sem, hc2]
  exact ⟨HW.out, HK.out⟩
set_option maxRecDepth 100000 in
set_option maxHeartbeats 2000000 in
theorem wappend_full (h : Wl Z w lb db g d) (hd : g.doubt = false) (s : ByteArray) (hs : s.size ≤ 4000) (hro : roomZ g.used d < (s.size : Int)) (hu : g.used ≤ 1048576) :
    Calls Try.prog 13 #[.pointer (some ⟨lb, 0, none⟩), .string s] w fun e w' => e = .returned (.int .i64 30) ∧ Wl Z w' lb db g d ∧ Kept Z w w' := by
  have h1 := h.box (.cells #[.int .i64 0] 25)
  have HZ : Hid (∀ k, w.heap.size ≤ k → Z k) := Lib.hid (by obtain ⟨_, _, _, _, _, _, _, _, h5⟩ := h.ex; exact h5)
  obtain ⟨sb, mb, nn, rv, hp⟩ := h1.open_
  have hb := heap_alloc_new w (.cells #[.int .i64 0] 25)
  have HB := Lib.hid hb
  obtain ⟨ra, rcap, rfl, hcap⟩ := hp.l.slice
  have HH1 := Lib.hid h1
  have HH0 := Lib.hid h
  obtain ⟨t0, t1, t2, t3, t4, t5, t6⟩ := hp.seven
  have t7 : (w.alloc (.cells #[.int .i64 0] 25)).cell? ⟨lb, 7, none⟩ = some (.slice ra g.recs.length rcap) := hp.l.cell 7
  have t8 : (w.alloc (.cells #[.int .i64 0] 25)).cell? ⟨lb, 8, none⟩ = some (.int .i64 g.used) := hp.l.cell 8
  have t9 : (w.alloc (.cells #[.int .i64 0] 25)).cell? ⟨lb, 9, none⟩ = some (.bool false) := by rw [← hd]; exact hp.l.cell 9
  have HRO := Lib.hid (room_any h1 (by omega))
  obtain ⟨rz, hrz⟩ : ∃ rz, roomZ g.used d = rz := ⟨_, rfl⟩
  rw [hrz] at hro HRO
  have hsd : decide (4000 < s.size) = false := by simpa using hs
  clear h h1 hp hb hrz
  go_enter_defers Try.func13, Try.ntmps13
  go_wp2_with fail
  refine (toolong_any s _).mono ?_
  rintro e w1 ⟨rfl, rfl⟩
  rw [hsd]
  go_wp2_with fail
  refine HRO.out.mono ?_
  rintro e w1 ⟨rfl, n1, rfl⟩
  clear t0 t1 t2 t3 t4 t5 t6 t7 t8 t9 HRO
  have HKW : Hid (Kept Z w ((w.alloc (.cells #[.int .i64 0] 25)).drewN n1)) := Lib.hid (((Kept.refl Z w).alloc _).drewN n1)
  have hw2 : Wl (fun k => Z k ∧ k ≠ w.heap.size) ((w.alloc (.cells #[.int .i64 0] 25)).drewN n1) lb db g d := HH1.out.drewN n1
  have hb2 : ((w.alloc (.cells #[.int .i64 0] 25)).drewN n1).heap[w.heap.size]? = some (.cells #[.int .i64 0] 25 (0, 0)) := HB.out
  have e0 : ((w.alloc (.cells #[.int .i64 0] 25)).drewN n1).cell? ⟨w.heap.size, 0, none⟩ = some (.int .i64 0) := cell_of_row _ w.heap.size 0 _ _ (0, 0) hb2
  have ef : ((w.alloc (.cells #[.int .i64 0] 25)).drewN n1).frozen? ⟨w.heap.size, 0, none⟩ = false := by unfold World.frozen?; rw [hb2]; rfl
  have HB2 := Lib.hid hb2
  have HW2 := Lib.hid hw2
  clear hb2 hw2
  generalize ((w.alloc (.cells #[.int .i64 0] 25)).drewN n1) = W1 at HKW HW2 HB2 e0 ef ⊢
  go_wp2_with fail
  have hb3 : (W1.setCell ⟨w.heap.size, 0, none⟩ (.int .i64 30)).heap[w.heap.size]? = some (.cells [.int .i64 30].toArray 25 (0, 0)) := heap_set (c := [.int .i64 0]) _ HB2.out
  have HW3 := Lib.hid (HW2.out.kept (kept_set W1 w.heap.size 0 (.int .i64 30)) (fun k hz e => hz.2 e))
  have HK3 : Hid (Kept Z w (W1.setCell ⟨w.heap.size, 0, none⟩ (.int .i64 30))) := Lib.hid ((HKW.out).setCell (a := ⟨w.heap.size, 0, none⟩) (.inr (Nat.le_refl _)) _)
  generalize W1.setCell ⟨w.heap.size, 0, none⟩ (.int .i64 30) = w3 at hb3 HW3 HK3 ⊢
  refine leaves_cons (f := 34) (args := #[.pointer (some ⟨lb, 0, none⟩), .agg #[.pointer (some ⟨db, 0, none⟩), .int .i64 g.m.c, .int .i64 g.m.ar, .int .i64 g.m.le, .int .i64 g.m.nu, .int .i64 g.m.a, .int .i64 g.m.b, .slice ra g.recs.length rcap, .int .i64 g.used, .bool false], .pointer (some ⟨w.heap.size, 0, none⟩)]) (by simp) (by simp [go_sem]) ?_
  refine (right_not (v := 30) _ _ _ _ _ _ _ _ _ _ (cell_of_row _ w.heap.size 0 _ _ (0, 0) hb3) (by decide) .returning).mono ?_
  rintro e u' w4 ⟨rfl, rfl, hk⟩
  have hc2 : w4.cell? ⟨w.heap.size, 0, none⟩ = some (.int .i64 30) := by
    rw [World.cell?_of_block (w := w3) (hk.block _ (lt_of_block hb3) id)]
    exact cell_of_row _ w.heap.size 0 _ _ (0, 0) hb3
  have HK : Hid (Kept Z w w4) := Lib.hid (HK3.out.trans (hk.mono (fun _ _ f => f.elim)))
  have HW := Lib.hid ((HW3.out.kept0 hk).mono (Z' := Z) (fun k hz => hz.1))
  clear hk hb3 HW3 HK3
  simp [Leaves, settle, results, Try.results13, go_sem, hc2]
  exact ⟨HW.out, HK.out⟩
end
end Go.Proofs.Ytmfngbgdmlnlcaa
