/- The mark that a sector would have. -/
import Derived.Test.YtmfngbgdmlnlcaaJka
namespace Go.Proofs.Ytmfngbgdmlnlcaa
open Go.ChangeShapes Go.WideShapes Go.ChangeAt Go.RowKit
set_option linter.unusedVariables false
set_option linter.unusedSimpArgs false
theorem value_ext (s : ByteArray) (i j : Nat) (w : World) (hs : s.size ≤ 140000000000000) : Calls Try.prog 73 #[.string (s.extract i j)] w fun e w' => e = .returned (.int .i64 (fld s.data.toList i j)) ∧ Kept (fun _ => False) w w' := by
  have h := value_any (s.extract i j) w (by rw [ByteArray.size_extract]; omega)
  rw [ext_list] at h
  exact h
theorem mid_run (V : World) (s : ByteArray) {i j : Nat} (hij : i ≤ j) (hj : j ≤ s.size) : Sem.run Try.prog (Instr.slice 9 (.string s) (some (.int .i64 (i : Int))) (some (.int .i64 (j : Int))) none) V = .ok (.string (s.extract i j)) V := by
  have := run_slice_string (P := Try.prog) V 9 s .i64 .i64 (i : Int) (j : Int) Try.underlying9 (by omega) (by omega) (by omega)
  simpa using this
theorem six_of {w : World} {g : Nat} {a0 a1 a2 a3 a4 a5 : Value} {T : TypeId} (h : w.heap[g]? = some (.cells #[a0, a1, a2, a3, a4, a5] T (0, 0))) :
    w.cell? ⟨g, 0, none⟩ = some a0 ∧ w.cell? ⟨g, 1, none⟩ = some a1 ∧ w.cell? ⟨g, 2, none⟩ = some a2 ∧ w.cell? ⟨g, 3, none⟩ = some a3 ∧ w.cell? ⟨g, 4, none⟩ = some a4 ∧ w.cell? ⟨g, 5, none⟩ = some a5 ∧ (∀ i, w.frozen? ⟨g, i, none⟩ = false) := by
  refine ⟨?_, ?_, ?_, ?_, ?_, ?_, fun i => by unfold World.frozen?; rw [h]; rfl⟩ <;> rw [cell_of_row w g _ _ _ (0, 0) h] <;> rfl
theorem ret_box {P : Program} {fn : Func} {R : Ending → World → Prop} {a : Act} {w : World} (A t : Nat) (g : Nat) (cells : Array Value) (hres : fn.results = #[.cell A t]) (hA : a.tmps.getD A undef = .pointer (some ⟨g, 0, none⟩))
    (hload : (loadVar t ⟨g, 0, none⟩).run P w = .ok (.agg cells) w) (hd : a.defers = []) (hR : R (.returned (.agg cells)) w) : bodyPost P fn R .ret a w :=
  bodyPost_ret (v := .agg cells) (by have h1 : a.tmps[A]?.getD undef = .pointer (some ⟨g, 0, none⟩) := (by simpa using hA); simp [results, hres, h1, asAddr, hload]) hd hR
theorem mark_info : (Try.prog.info? 73).map (·.size) = some 6 := by kernel_rfl
set_option maxRecDepth 100000 in
set_option maxHeartbeats 4000000 in
theorem markin_any (s : ByteArray) (w : World) (hs : s.size = 64) :
    Calls Try.prog 71 #[.string s] w fun e w' => e = .returned (.agg #[.int .i64 (markIn s.data.toList).c, .int .i64 (markIn s.data.toList).ar, .int .i64 (markIn s.data.toList).le, .int .i64 (markIn s.data.toList).nu, .int .i64 (markIn s.data.toList).a, .int .i64 (markIn s.data.toList).b]) ∧ Kept (fun _ => False) w w' := by
  have m1 := fun V => mid_run V s (i := 2) (j := 6) (by decide) (by omega)
  have m2 := fun V => mid_run V s (i := 6) (j := 7) (by decide) (by omega)
  have m3 := fun V => mid_run V s (i := 7) (j := 11) (by decide) (by omega)
  have m4 := fun V => mid_run V s (i := 11) (j := 15) (by decide) (by omega)
  have m5 := fun V => mid_run V s (i := 15) (j := 23) (by decide) (by omega)
  have m6 := fun V => mid_run V s (i := 23) (j := 31) (by decide) (by omega)
  have hb := heap_alloc_new w (.cells #[.int .i64 0, .int .i64 0, .int .i64 0, .int .i64 0, .int .i64 0, .int .i64 0] 73)
  go_enter Try.func71, Try.ntmps71
  go_wp2_with fail
  have hk : Kept (fun _ => False) w (w.alloc (.cells #[.int .i64 0, .int .i64 0, .int .i64 0, .int .i64 0, .int .i64 0, .int .i64 0] 73)).drew := ((Kept.refl _ w).alloc _).drew
  obtain ⟨c0, c1, c2, c3, c4, c5, ff⟩ := six_of hb
  have f0 := ff 0
  have f1 := ff 1
  have f2 := ff 2
  have f3 := ff 3
  have f4 := ff 4
  have f5 := ff 5
  clear ff
  go_region_held3 (fun _ => True)
    (trivial)
    ((go_at_call 73; refine (value_ext _ _ _ _ (by omega)).mono ?_; rintro e w5 ⟨rfl, hk5⟩; replace hb := (hk5.block w.heap.size (lt_of_block hb) id).trans hb; replace hk := hk.trans hk5; clear hk5 c0 c1 c2 c3 c4 c5 f0 f1 f2 f3 f4 f5; obtain ⟨c0, c1, c2, c3, c4, c5, ff⟩ := six_of hb; have f0 := ff 0; have f1 := ff 1; have f2 := ff 2; have f3 := ff 3; have f4 := ff 4; have f5 := ff 5; clear ff))
  all_goals (
    have h0 : w5.heap[w.heap.size]? = some (.cells [.int .i64 0, .int .i64 0, .int .i64 0, .int .i64 0, .int .i64 0, .int .i64 0].toArray 73 (0, 0)) := hb
    have h6 := heap_set (i := 5) (.int .i64 (fld s.data.toList 23 31)) (heap_set (i := 4) (.int .i64 (fld s.data.toList 15 23)) (heap_set (i := 3) (.int .i64 (fld s.data.toList 11 15)) (heap_set (i := 2) (.int .i64 (fld s.data.toList 7 11)) (heap_set (i := 1) (.int .i64 (fld s.data.toList 6 7)) (heap_set (i := 0) (.int .i64 (fld s.data.toList 2 6)) h0)))))
    have hk6 : Kept (fun _ => False) w _ := (((((hk.setCell (a := ⟨w.heap.size, 0, none⟩) (.inr (Nat.le_refl _)) (.int .i64 (fld s.data.toList 2 6))).setCell (a := ⟨w.heap.size, 1, none⟩) (.inr (Nat.le_refl _)) (.int .i64 (fld s.data.toList 6 7))).setCell (a := ⟨w.heap.size, 2, none⟩) (.inr (Nat.le_refl _)) (.int .i64 (fld s.data.toList 7 11))).setCell (a := ⟨w.heap.size, 3, none⟩) (.inr (Nat.le_refl _)) (.int .i64 (fld s.data.toList 11 15))).setCell (a := ⟨w.heap.size, 4, none⟩) (.inr (Nat.le_refl _)) (.int .i64 (fld s.data.toList 15 23))).setCell (a := ⟨w.heap.size, 5, none⟩) (.inr (Nat.le_refl _)) (.int .i64 (fld s.data.toList 23 31))
    have HK6 := Lib.hid hk6
    have H6 := Lib.hid h6
    clear h0 h6 hk6 hb hk c0 c1 c2 c3 c4 c5 f0 f1 f2 f3 f4 f5
    generalize (((((w5.setCell ⟨w.heap.size, 0, none⟩ (.int .i64 (fld s.data.toList 2 6))).setCell ⟨w.heap.size, 1, none⟩ (.int .i64 (fld s.data.toList 6 7))).setCell ⟨w.heap.size, 2, none⟩ (.int .i64 (fld s.data.toList 7 11))).setCell ⟨w.heap.size, 3, none⟩ (.int .i64 (fld s.data.toList 11 15))).setCell ⟨w.heap.size, 4, none⟩ (.int .i64 (fld s.data.toList 15 23))).setCell ⟨w.heap.size, 5, none⟩ (.int .i64 (fld s.data.toList 23 31)) = w6 at HK6 H6 ⊢
    go_wp2_with fail
    have hload := run_loadVar_row (P := Try.prog) _ w.heap.size 73 73 _ (0, 0) _ H6.out Try.underlying73 rfl mark_info
    exact ret_box 2 73 w.heap.size _ Try.results71 rfl hload rfl ⟨rfl, HK6.out⟩)
end Go.Proofs.Ytmfngbgdmlnlcaa
