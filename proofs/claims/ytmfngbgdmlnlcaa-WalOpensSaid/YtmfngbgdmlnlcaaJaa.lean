/- Sync of a log whose disk does not die at it. -/
import Derived.Test.YtmfngbgdmlnlcaaJya
namespace Go.Proofs.Ytmfngbgdmlnlcaa
open Go.ChangeShapes Go.WideShapes Go.ChangeAt Go.RowKit
set_option linter.unusedVariables false
set_option linter.unusedSimpArgs false
section
variable {Z Z' : Nat → Prop} {w w' : World} {lb db sb mb nn : Nat} {rv : Value} {g g' : LSt} {d d' : DSt}
theorem Wl.mono (h : Wl Z w lb db g d) (hz : ∀ k, Z k → Z' k) : Wl Z' w lb db g d := by
  obtain ⟨sb, mb, nn, rv, hD, hL, ⟨h1, h2, h3⟩, h4, h5⟩ := h.ex
  exact ⟨sb, mb, nn, rv, hD, hL, ⟨hz _ h1, fun k hk => hz _ (h2 k hk), fun k hk => hz _ (h3 k hk)⟩, h4, fun k hk => hz _ (h5 k hk)⟩
/-- beside a box that is made now -/
theorem Wl.box (h : Wl Z w lb db g d) (o : Obj) : Wl (fun k => Z k ∧ k ≠ w.heap.size) (w.alloc o) lb db g d := by
  have h1 := h.kept0 ((Kept.refl _ w).alloc o)
  obtain ⟨sb, mb, nn, rv, hD, hL, ⟨h1, h2, h3⟩, h4, h5⟩ := h.ex
  have hk : Kept (fun _ => False) w (w.alloc o) := (Kept.refl _ w).alloc o
  refine ⟨sb, mb, nn, rv, hD.kept hk (fun _ _ f => f), hL.kept hk id (fun _ _ f => f), ⟨⟨h1, ?_⟩, fun k hk => ⟨h2 k hk, ?_⟩, fun k hk => ⟨h3 k hk, ?_⟩⟩, h4, fun k hk' => ⟨h5 k (by simp at hk'; omega), by simp at hk'; omega⟩⟩
  · have := lt_of_block hL.at_; omega
  · have := hD.inn k hk; omega
  · have := (hL.row.lt k hk).2; omega
theorem Kept.monoZ {w w' : World} (h : Kept Z w w') (hz : ∀ k, Z k → Z' k) : Kept Z' w w' := h.mono (fun k _ hy => hz k hy)

set_option maxRecDepth 100000 in
set_option maxHeartbeats 2000000 in
theorem wsync_go (h : Wl Z w lb db g d) (hd : g.doubt = false) (hne : g.m.nu ≠ g.recs.length) (hc : g.m.c < 4294967295) (hm : g.all.bump.m.Fits) (ha : d.acts < 4611686018427387900) :
    Calls Try.prog 15 #[.pointer (some ⟨lb, 0, none⟩)] w fun e w' =>
    e = .returned (.int .i64 (setD g d).2) ∧ Wq Z w' lb db (setL g d) (setD g d).1 (setD g d).2 ∧ Kept Z w w' := by
  have h1 := h.box (.cells #[.int .i64 0] 25)
  have HZ : Hid (∀ k, w.heap.size ≤ k → Z k) := Lib.hid (by obtain ⟨_, _, _, _, _, _, _, _, h5⟩ := h.ex; exact h5)
  obtain ⟨sb, mb, nn, rv, hp⟩ := h1.open_
  obtain ⟨ra, rcap, rfl, hcap⟩ := hp.l.slice
  have hb := heap_alloc_new w (.cells #[.int .i64 0] 25)
  have HB := Lib.hid hb
  have HSY := Lib.hid (synced_any h1)
  have HLE := Lib.hid (len_any h1)
  have HST := Lib.hid (wsettle_any h1 hm ha)
  obtain ⟨v, hv⟩ : ∃ v, (setD g d).2 = v := ⟨_, rfl⟩
  rw [hv]
  have HV := Lib.hid hv
  have hneq : ((g.m.nu : Int) == (g.recs.length : Int)) = false := by simp; omega
  have hcq : ((g.m.c : Int) == 4294967295) = false := by simp; omega
  obtain ⟨t0, t1, t2, t3, t4, t5, t6⟩ := hp.seven
  have t7 : (w.alloc (.cells #[.int .i64 0] 25)).cell? ⟨lb, 7, none⟩ = some (.slice ra g.recs.length rcap) := hp.l.cell 7
  have t8 : (w.alloc (.cells #[.int .i64 0] 25)).cell? ⟨lb, 8, none⟩ = some (.int .i64 g.used) := hp.l.cell 8
  have t9 : (w.alloc (.cells #[.int .i64 0] 25)).cell? ⟨lb, 9, none⟩ = some (.bool false) := by rw [← hd]; exact hp.l.cell 9
  clear h h1 hp hm hv hb
  go_enter_defers Try.func15, Try.ntmps15
  go_wp2_with fail
  refine HSY.out.mono ?_
  rintro e w1 ⟨rfl, rfl⟩
  go_wp2_with fail
  refine HLE.out.mono ?_
  rintro e w1 ⟨rfl, rfl⟩
  go_wp2_with fail
  refine HST.out.mono ?_
  rintro e w2 ⟨he, hw2, hk2⟩
  replace he := he.trans (ret_int HV.out)
  subst he
  have hb2 : w2.heap[w.heap.size]? = some (.cells #[.int .i64 0] 25 (0, 0)) := by
    rw [hk2.block w.heap.size (by simp) (fun hz => hz.2 rfl)]; exact HB.out
  have e0 : w2.cell? ⟨w.heap.size, 0, none⟩ = some (.int .i64 0) := cell_of_row _ w.heap.size 0 _ _ (0, 0) hb2
  have ef : w2.frozen? ⟨w.heap.size, 0, none⟩ = false := by simp [World.frozen?, hb2]
  have HB2 := Lib.hid hb2
  have HW2 := Lib.hid hw2
  have HK2 := Lib.hid hk2
  clear t0 t1 t2 t3 t4 t5 t6 t7 t8 t9 hb2 hw2 hk2 HSY HLE HST HB
  go_wp2_with fail
  have hb3 : (w2.setCell ⟨w.heap.size, 0, none⟩ (.int .i64 v)).heap[w.heap.size]? = some (.cells [.int .i64 v].toArray 25 (0, 0)) := heap_set (c := [.int .i64 0]) _ HB2.out
  have HW3 := Lib.hid (HW2.out.kept (kept_set w2 w.heap.size 0 (.int .i64 v)) (fun k hz e => hz.2 e))
  have HK3 : Hid (Kept Z w (w2.setCell ⟨w.heap.size, 0, none⟩ (.int .i64 v))) := Lib.hid ((((Kept.refl Z w).alloc _).trans (HK2.out.monoZ (fun k hz => hz.1))).setCell (a := ⟨w.heap.size, 0, none⟩) (.inr (Nat.le_refl _)) _)
  generalize w2.setCell ⟨w.heap.size, 0, none⟩ (.int .i64 v) = w3 at hb3 HW3 HK3 ⊢
  obtain ⟨hz3, cur, hcl, hlb3⟩ := HW3.out.atLog
  refine leaves_cons (f := 34) (args := #[.pointer (some ⟨lb, 0, none⟩), .agg #[.pointer (some ⟨db, 0, none⟩), .int .i64 g.m.c, .int .i64 g.m.ar, .int .i64 g.m.le, .int .i64 g.m.nu, .int .i64 g.m.a, .int .i64 g.m.b, .slice ra g.recs.length rcap, .int .i64 g.used, .bool false], .pointer (some ⟨w.heap.size, 0, none⟩)]) (by simp) (by simp [go_sem]) ?_
  refine (right_all (v := v) (cur := cur) _ _ _ _ _ _ _ _ _ _ (cell_of_row _ w.heap.size 0 _ _ (0, 0) hb3) hlb3 hcl (by simp [Value.oneCell']) .returning).mono ?_
  rintro e u' w4 ⟨rfl, rfl, hk0, hk⟩
  have hc2 : w4.cell? ⟨w.heap.size, 0, none⟩ = some (.int .i64 v) := by
    rw [World.cell?_of_block (w := w3) (hk.block _ (lt_of_block hb3) (fun e => hz3.2 e.symm))]
    exact cell_of_row _ w.heap.size 0 _ _ (0, 0) hb3
  have HK : Hid (Kept Z w w4) := Lib.hid (HK3.out.trans (hk.mono (fun k _ e => by have e : k = lb := e; subst e; exact hz3.1)))
  have HW := Lib.hid (HW3.out.righted (Z' := Z) hk0 hk (fun k hz => hz.1))
  clear hk hk0 hz3 hcl hlb3 hb3 HW3 HK3 HW2 HK2 HB2 e0 ef hneq hcq
  simp [Leaves, settle, results, Try.results15, go_sem, hc2]
  exact ⟨HW.out, HK.out⟩
end
end Go.Proofs.Ytmfngbgdmlnlcaa
