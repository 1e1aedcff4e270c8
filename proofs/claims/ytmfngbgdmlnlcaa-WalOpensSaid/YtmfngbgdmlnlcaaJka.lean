/- A mark as a sector, whatever its numbers; the mark that a sector would have. -/
import Derived.Test.YtmfngbgdmlnlcaaJp
import Derived.Deep.RegionHeld3
namespace Go.Proofs.Ytmfngbgdmlnlcaa
open Go.ChangeShapes Go.WideShapes Go.ChangeAt Go.RowKit
set_option linter.unusedVariables false
set_option linter.unusedSimpArgs false
def markBI (c ar le nu a b : Int) : ByteArray := ⟨#[87, 77]⟩ ++ hb c 4 ++ hb ar 1 ++ hb le 4 ++ hb nu 4 ++ hb a 8 ++ hb b 8 ++ bl 29 ++ hb c 4
theorem markBI_list (z : MZ) : (markBI z.c z.ar z.le z.nu z.a z.b).data.toList = z.laid := by simp [markBI, MZ.laid, hb, bl, ByteArray.data_append]
/-- the box in which it lies -/
structure MBoxI (w : World) (g : Nat) (c ar le nu a b : Int) (w' : World) : Prop where
  at_ : w'.heap[g]? = some (.cells #[.int .i64 c, .int .i64 ar, .int .i64 le, .int .i64 nu, .int .i64 a, .int .i64 b] 73 (0, 0))
  kept : Kept (fun _ => False) w w'
theorem MBoxI.next {w : World} {g : Nat} {c ar le nu a b : Int} {w1 w2 : World} (h : MBoxI w g c ar le nu a b w1) (hk : Kept (fun _ => False) w1 w2) : MBoxI w g c ar le nu a b w2 :=
  ⟨by rw [hk.block g (lt_of_block h.at_) id]; exact h.at_, h.kept.trans hk⟩
theorem MBoxI.drew {w : World} {g : Nat} {c ar le nu a b : Int} {w1 : World} (h : MBoxI w g c ar le nu a b w1) : MBoxI w g c ar le nu a b w1.drew := h.next ((Kept.refl _ w1).drew)
theorem MBoxI.cell {w : World} {g : Nat} {c ar le nu a b : Int} {w1 : World} (h : MBoxI w g c ar le nu a b w1) (i : Nat) : w1.cell? ⟨g, i, none⟩ = ([.int .i64 c, .int .i64 ar, .int .i64 le, .int .i64 nu, .int .i64 a, .int .i64 b] : List Value)[i]? := by
  rw [cell_of_row w1 g i _ _ (0, 0) h.at_, List.getElem?_toArray]

theorem MBoxI.five {w : World} {g : Nat} {c ar le nu a b : Int} {w1 : World} (h : MBoxI w g c ar le nu a b w1) : w1.cell? ⟨g, 1, none⟩ = some (.int .i64 ar) ∧ w1.cell? ⟨g, 2, none⟩ = some (.int .i64 le) ∧ w1.cell? ⟨g, 3, none⟩ = some (.int .i64 nu) ∧ w1.cell? ⟨g, 4, none⟩ = some (.int .i64 a) ∧ w1.cell? ⟨g, 5, none⟩ = some (.int .i64 b) :=
  ⟨h.cell 1, h.cell 2, h.cell 3, h.cell 4, h.cell 5⟩
set_option maxRecDepth 100000 in
set_option maxHeartbeats 4000000 in
theorem mlaid_int (c ar le nu a b : Int) (w : World) (y1 : -9223372036854775808 ≤ c) (z1 : c ≤ 9223372036854775807) (y2 : -9223372036854775808 ≤ ar) (z2 : ar ≤ 9223372036854775807) (y3 : -9223372036854775808 ≤ le) (z3 : le ≤ 9223372036854775807) (y4 : -9223372036854775808 ≤ nu) (z4 : nu ≤ 9223372036854775807) (y5 : -9223372036854775808 ≤ a) (z5 : a ≤ 9223372036854775807) (y6 : -9223372036854775808 ≤ b) (z6 : b ≤ 9223372036854775807) :
    Calls Try.prog 51 #[.agg #[.int .i64 c, .int .i64 ar, .int .i64 le, .int .i64 nu, .int .i64 a, .int .i64 b]] w fun e w' => e = .returned (.string (markBI c ar le nu a b)) ∧ Kept (fun _ => False) w w' := by
  have hb0 : MBoxI w w.heap.size c ar le nu a b (w.alloc (.cells #[.int .i64 c, .int .i64 ar, .int .i64 le, .int .i64 nu, .int .i64 a, .int .i64 b] 73)) := ⟨heap_alloc_new w _, (Kept.refl _ w).alloc _⟩
  have HB := Lib.hid hb0
  have c0 : (w.alloc (.cells #[.int .i64 c, .int .i64 ar, .int .i64 le, .int .i64 nu, .int .i64 a, .int .i64 b] 73)).cell? ⟨w.heap.size, 0, none⟩ = some (.int .i64 c) := hb0.cell 0
  clear hb0
  have sc : (hbz c 4).size = 4 := hb_size _ _
  have ec : hbz c 4 = hb c 4 := rfl
  have sar : (hbz ar 1).size = 1 := hb_size _ _
  have ear : hbz ar 1 = hb ar 1 := rfl
  have sle : (hbz le 4).size = 4 := hb_size _ _
  have ele : hbz le 4 = hb le 4 := rfl
  have snu : (hbz nu 4).size = 4 := hb_size _ _
  have enu : hbz nu 4 = hb nu 4 := rfl
  have sa : (hbz a 8).size = 8 := hb_size _ _
  have ea : hbz a 8 = hb a 8 := rfl
  have sb : (hbz b 8).size = 8 := hb_size _ _
  have eb : hbz b 8 = hb b 8 := rfl
  have sl : (blz 29).size = 29 := bl_size _
  have el : blz 29 = bl 29 := rfl
  obtain ⟨p0, ep0⟩ : ∃ x, (⟨#[87, 77]⟩ : ByteArray) ++ hbz c 4 = x := ⟨_, rfl⟩
  obtain ⟨q0, sp0⟩ := cat_run (rfl : (⟨#[87, 77]⟩ : ByteArray).size = 2) sc ep0 (by decide)
  obtain ⟨p1, ep1⟩ : ∃ x, p0 ++ hbz ar 1 = x := ⟨_, rfl⟩
  obtain ⟨q1, sp1⟩ := cat_run sp0 sar ep1 (by decide)
  obtain ⟨p2, ep2⟩ : ∃ x, p1 ++ hbz le 4 = x := ⟨_, rfl⟩
  obtain ⟨q2, sp2⟩ := cat_run sp1 sle ep2 (by decide)
  obtain ⟨p3, ep3⟩ : ∃ x, p2 ++ hbz nu 4 = x := ⟨_, rfl⟩
  obtain ⟨q3, sp3⟩ := cat_run sp2 snu ep3 (by decide)
  obtain ⟨p4, ep4⟩ : ∃ x, p3 ++ hbz a 8 = x := ⟨_, rfl⟩
  obtain ⟨q4, sp4⟩ := cat_run sp3 sa ep4 (by decide)
  obtain ⟨p5, ep5⟩ : ∃ x, p4 ++ hbz b 8 = x := ⟨_, rfl⟩
  obtain ⟨q5, sp5⟩ := cat_run sp4 sb ep5 (by decide)
  obtain ⟨p6, ep6⟩ : ∃ x, p5 ++ blz 29 = x := ⟨_, rfl⟩
  obtain ⟨q6, sp6⟩ := cat_run sp5 sl ep6 (by decide)
  obtain ⟨p7, ep7⟩ : ∃ x, p6 ++ hbz c 4 = x := ⟨_, rfl⟩
  obtain ⟨q7, sp7⟩ := cat_run sp6 sc ep7 (by decide)
  have HE : Hid (p7 = markBI c ar le nu a b) := Lib.hid (by rw [← ep7, ← ep6, ← ep5, ← ep4, ← ep3, ← ep2, ← ep1, ← ep0, ec, ear, ele, enu, ea, eb, el]; rfl)
  clear ep0 ep1 ep2 ep3 ep4 ep5 ep6 ep7 ec ear ele enu ea eb el sp0 sp1 sp2 sp3 sp4 sp5 sp6 sp7 sc sar sle snu sa sb sl
  go_enter Try.func51, Try.ntmps51
  go_wp2_with fail
  refine (highZ _ _ _ (by omega) (by omega) (by decide)).mono ?_
  rintro e w2 ⟨rfl, hk2⟩
  have hp := (HB.out.next hk2).drew
  clear HB hk2 c0
  go_wp2_with fail
  obtain ⟨t1, t2, t3, t4, t5⟩ := hp.five
  go_region_held3 (fun w' => w'.cell? ⟨w.heap.size, 1, none⟩ = some (.int .i64 ar) ∧ w'.cell? ⟨w.heap.size, 2, none⟩ = some (.int .i64 le) ∧ w'.cell? ⟨w.heap.size, 3, none⟩ = some (.int .i64 nu) ∧ w'.cell? ⟨w.heap.size, 4, none⟩ = some (.int .i64 a) ∧ w'.cell? ⟨w.heap.size, 5, none⟩ = some (.int .i64 b))
    (first | assumption | go_keep)
    (first
      | (go_at_call 54; refine (highZ _ _ _ (by omega) (by omega) (by decide)).mono ?_; rintro e w5 ⟨rfl, hk5⟩; replace hp := MBoxI.next hp hk5; clear hk5 t1 t2 t3 t4 t5; obtain ⟨t1, t2, t3, t4, t5⟩ := hp.five)
      | (go_at_call 32; refine (blankZ _ _ (by decide)).mono ?_; rintro e w5 ⟨rfl, hk5⟩; replace hp := MBoxI.next hp hk5; clear hk5 t1 t2 t3 t4 t5; obtain ⟨t1, t2, t3, t4, t5⟩ := hp.five))
  all_goals go_wp2_with fail
  all_goals go_ret
  all_goals (rw [← HE.out]; exact ⟨rfl, MBoxI.kept hp⟩)
end Go.Proofs.Ytmfngbgdmlnlcaa
