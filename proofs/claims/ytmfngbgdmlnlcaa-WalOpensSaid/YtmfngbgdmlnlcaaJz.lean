/- Sync of a log. -/
import Derived.Test.YtmfngbgdmlnlcaaJy
import Derived.Test.YtmfngbgdmlnlcaaJs
namespace Go.Proofs.Ytmfngbgdmlnlcaa
open Go.ChangeShapes Go.WideShapes Go.ChangeAt Go.RowKit
set_option linter.unusedVariables false
set_option linter.unusedSimpArgs false
section
variable {Z : Nat → Prop} {w w' : World} {lb db sb mb nn : Nat} {rv : Value} {g g' : LSt} {d d' : DSt}
set_option maxRecDepth 100000 in
set_option maxHeartbeats 2000000 in
theorem wsync_all (h : Wl Z w lb db g d) (hd : g.doubt = false) (hall : g.m.nu = g.recs.length) : Calls Try.prog 15 #[.pointer (some ⟨lb, 0, none⟩)] w fun e w' =>
    e = .returned (.int .i64 0) ∧ Wl Z w' lb db g d ∧ Kept Z w w' := by
  have h1 := h.kept0 ((Kept.refl _ w).alloc (.cells #[.int .i64 0] 25))
  obtain ⟨sb, mb, nn, rv, hp⟩ := h1.open_
  have HP := Lib.hid hp
  have hb := heap_alloc_new w (.cells #[.int .i64 0] 25)
  have hsy := synced_any h1
  rw [hall] at hsy
  have HSY := Lib.hid hsy
  clear hsy
  have HLE := Lib.hid (len_any h1)
  have HALL := Lib.hid hall
  obtain ⟨t0, t1, t2, t3, t4, t5, t6⟩ := hp.seven
  have t7 : (w.alloc (.cells #[.int .i64 0] 25)).cell? ⟨lb, 7, none⟩ = some rv := hp.l.cell 7
  have t8 : (w.alloc (.cells #[.int .i64 0] 25)).cell? ⟨lb, 8, none⟩ = some (.int .i64 g.used) := hp.l.cell 8
  have t9 : (w.alloc (.cells #[.int .i64 0] 25)).cell? ⟨lb, 9, none⟩ = some (.bool false) := by rw [← hd]; exact hp.l.cell 9
  clear h h1 hp
  go_enter_defers Try.func15, Try.ntmps15
  go_wp2_with fail
  refine HSY.out.mono ?_
  rintro e w1 ⟨rfl, rfl⟩
  go_wp2_with fail
  refine HLE.out.mono ?_
  rintro e w1 ⟨rfl, rfl⟩
  go_wp2_with fail
  refine leaves_cons (f := 34) (args := #[.pointer (some ⟨lb, 0, none⟩), .agg #[.pointer (some ⟨db, 0, none⟩), .int .i64 g.m.c, .int .i64 g.m.ar, .int .i64 g.m.le, .int .i64 g.recs.length, .int .i64 g.m.a, .int .i64 g.m.b, rv, .int .i64 g.used, .bool false], .pointer (some ⟨w.heap.size, 0, none⟩)]) (by simp) (by simp [go_sem]) ?_
  refine (right_not (v := 0) _ _ _ _ _ _ _ _ _ _ (cell_of_row _ w.heap.size 0 _ _ (0, 0) hb) (by decide) .returning).mono ?_
  rintro e u' w2 ⟨rfl, rfl, hk⟩
  have hc2 : w2.cell? ⟨w.heap.size, 0, none⟩ = some (.int .i64 0) := by
    rw [World.cell?_of_block (w := w.alloc (.cells #[.int .i64 0] 25)) (hk.block _ (by simp) id)]
    exact cell_of_row _ w.heap.size 0 _ _ (0, 0) hb
  have HK : Hid (Kept Z w w2) := Lib.hid ((((Kept.refl _ w).alloc _).trans hk).mono (fun _ _ f => f.elim))
  have HW := Lib.hid (HP.out.close.kept0 hk)
  clear hk t0 t1 t2 t3 t4 t5 t6 t7 t8 t9 hb HP HSY HLE
  simp [Leaves, settle, results, Try.results15, go_sem, hc2]
  exact ⟨HW.out, HK.out⟩
end
end Go.Proofs.Ytmfngbgdmlnlcaa
