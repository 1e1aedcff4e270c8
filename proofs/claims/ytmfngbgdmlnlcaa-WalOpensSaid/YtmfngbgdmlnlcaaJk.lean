/- A mark as a sector. -/
import Derived.Test.YtmfngbgdmlnlcaaJl
import Derived.Deep.RegionHeld3
namespace Go.Proofs.Ytmfngbgdmlnlcaa
open Go.ChangeShapes Go.WideShapes Go.ChangeAt Go.RowKit
set_option linter.unusedVariables false
set_option linter.unusedSimpArgs false

def hb (n : Int) (k : Nat) : ByteArray := ⟨(highL n k).toArray⟩
theorem high_1 (n : Int) (w : World) (h1 : -9223372036854775808 ≤ n) (h2 : n ≤ 9223372036854775807) : Calls Try.prog 54 #[.int .i64 n, .int .i64 1] w fun e w' => e = .returned (.string (hb n 1)) ∧ Kept (fun _ => False) w w' := high_any n 1 w h1 h2 (by decide)
theorem high_2 (n : Int) (w : World) (h1 : -9223372036854775808 ≤ n) (h2 : n ≤ 9223372036854775807) : Calls Try.prog 54 #[.int .i64 n, .int .i64 2] w fun e w' => e = .returned (.string (hb n 2)) ∧ Kept (fun _ => False) w w' := high_any n 2 w h1 h2 (by decide)
theorem high_4 (n : Int) (w : World) (h1 : -9223372036854775808 ≤ n) (h2 : n ≤ 9223372036854775807) : Calls Try.prog 54 #[.int .i64 n, .int .i64 4] w fun e w' => e = .returned (.string (hb n 4)) ∧ Kept (fun _ => False) w w' := high_any n 4 w h1 h2 (by decide)
theorem high_8 (n : Int) (w : World) (h1 : -9223372036854775808 ≤ n) (h2 : n ≤ 9223372036854775807) : Calls Try.prog 54 #[.int .i64 n, .int .i64 8] w fun e w' => e = .returned (.string (hb n 8)) ∧ Kept (fun _ => False) w w' := high_any n 8 w h1 h2 (by decide)
def bl (k : Nat) : ByteArray := ⟨(List.replicate k 0).toArray⟩
theorem blank_29 (w : World) : Calls Try.prog 32 #[.int .i64 29] w fun e w' => e = .returned (.string (bl 29)) ∧ Kept (fun _ => False) w w' := blank_any 29 w (by decide)
theorem blank_64 (w : World) : Calls Try.prog 32 #[.int .i64 64] w fun e w' => e = .returned (.string (bl 64)) ∧ Kept (fun _ => False) w w' := blank_any 64 w (by decide)

def markB (m : MSt) : ByteArray := ⟨#[87, 77]⟩ ++ hb m.c 4 ++ hb m.ar 1 ++ hb m.le 4 ++ hb m.nu 4 ++ hb m.a 8 ++ hb m.b 8 ++ bl 29 ++ hb m.c 4
def markL (m : MSt) : List UInt8 := [87, 77] ++ highL m.c 4 ++ highL m.ar 1 ++ highL m.le 4 ++ highL m.nu 4 ++ highL m.a 8 ++ highL m.b 8 ++ List.replicate 29 0 ++ highL m.c 4
theorem markB_list (m : MSt) : (markB m).data.toList = markL m := by simp [markB, markL, hb, bl, ByteArray.data_append]
theorem markL_len (m : MSt) : (markL m).length = 64 := by simp [markL, highL_len]
structure MSt.Fits (m : MSt) : Prop where
  c : m.c ≤ 9223372036854775807
  ar : m.ar ≤ 9223372036854775807
  le : m.le ≤ 9223372036854775807
  nu : m.nu ≤ 9223372036854775807
  a : m.a ≤ 9223372036854775807
  b : m.b ≤ 9223372036854775807

/-- the box in which it lies -/
structure MBox (w : World) (g : Nat) (c ar le nu a b : Nat) (w' : World) : Prop where
  at_ : w'.heap[g]? = some (.cells #[.int .i64 c, .int .i64 ar, .int .i64 le, .int .i64 nu, .int .i64 a, .int .i64 b] 73 (0, 0))
  kept : Kept (fun _ => False) w w'
theorem MBox.next {w : World} {g c ar le nu a b : Nat} {w1 w2 : World} (h : MBox w g c ar le nu a b w1) (hk : Kept (fun _ => False) w1 w2) : MBox w g c ar le nu a b w2 :=
  ⟨by rw [hk.block g (lt_of_block h.at_) id]; exact h.at_, h.kept.trans hk⟩
theorem MBox.drew {w : World} {g c ar le nu a b : Nat} {w1 : World} (h : MBox w g c ar le nu a b w1) : MBox w g c ar le nu a b w1.drew := h.next ((Kept.refl _ w1).drew)
theorem MBox.cell {w : World} {g c ar le nu a b : Nat} {w1 : World} (h : MBox w g c ar le nu a b w1) (i : Nat) : w1.cell? ⟨g, i, none⟩ = ([.int .i64 c, .int .i64 ar, .int .i64 le, .int .i64 nu, .int .i64 a, .int .i64 b] : List Value)[i]? := by
  rw [cell_of_row w1 g i _ _ (0, 0) h.at_, List.getElem?_toArray]

theorem MBox.five {w : World} {g c ar le nu a b : Nat} {w1 : World} (h : MBox w g c ar le nu a b w1) : w1.cell? ⟨g, 1, none⟩ = some (.int .i64 ar) ∧ w1.cell? ⟨g, 2, none⟩ = some (.int .i64 le) ∧ w1.cell? ⟨g, 3, none⟩ = some (.int .i64 nu) ∧ w1.cell? ⟨g, 4, none⟩ = some (.int .i64 a) ∧ w1.cell? ⟨g, 5, none⟩ = some (.int .i64 b) :=
  ⟨h.cell 1, h.cell 2, h.cell 3, h.cell 4, h.cell 5⟩
theorem hb_size (n : Int) (k : Nat) : (hb n k).size = k := by simp [hb, ByteArray.size, highL_len]
theorem bl_size (k : Nat) : (bl k).size = k := by simp [bl, ByteArray.size]
theorem cat_run {x y z : ByteArray} {i j : Nat} (hx : x.size = i) (hy : y.size = j) (hz : x ++ y = z) (h : i + j ≤ 100000) : (∀ W, Sem.run Try.prog (Op.stringOp .add x y) W = .ok (.string z) W) ∧ z.size = i + j := by
  refine ⟨fun W => by rw [run_string_add_sum W x y (by omega), hz], by rw [← hz, ByteArray.size_append]; omega⟩
def hbz (n k : Int) : ByteArray := hb n k.toNat
theorem highZ (n k : Int) (w : World) (h1 : -9223372036854775808 ≤ n) (h2 : n ≤ 9223372036854775807) (hk : 0 ≤ k ∧ k ≤ 8) :
    Calls Try.prog 54 #[.int .i64 n, .int .i64 k] w fun e w' => e = .returned (.string (hbz n k)) ∧ Kept (fun _ => False) w w' := by
  obtain ⟨m, rfl⟩ := Int.eq_ofNat_of_zero_le hk.1
  exact high_any n m w h1 h2 (by omega)
def blz (k : Int) : ByteArray := bl k.toNat
theorem blankZ (k : Int) (w : World) (hk : 0 ≤ k ∧ k ≤ 4096) : Calls Try.prog 32 #[.int .i64 k] w fun e w' => e = .returned (.string (blz k)) ∧ Kept (fun _ => False) w w' := by
  obtain ⟨m, rfl⟩ := Int.eq_ofNat_of_zero_le hk.1
  exact blank_any m w (by omega)
set_option maxRecDepth 100000 in
set_option maxHeartbeats 4000000 in
theorem mlaid_at (c ar le nu a b : Nat) (w : World) (z1 : c ≤ 9223372036854775807) (z2 : ar ≤ 9223372036854775807) (z3 : le ≤ 9223372036854775807) (z4 : nu ≤ 9223372036854775807) (z5 : a ≤ 9223372036854775807) (z6 : b ≤ 9223372036854775807) :
    Calls Try.prog 51 #[.agg #[.int .i64 c, .int .i64 ar, .int .i64 le, .int .i64 nu, .int .i64 a, .int .i64 b]] w fun e w' => e = .returned (.string (markB ⟨c, ar, le, nu, a, b⟩)) ∧ Kept (fun _ => False) w w' := by
  have hb0 : MBox w w.heap.size c ar le nu a b (w.alloc (.cells #[.int .i64 c, .int .i64 ar, .int .i64 le, .int .i64 nu, .int .i64 a, .int .i64 b] 73)) := ⟨heap_alloc_new w _, (Kept.refl _ w).alloc _⟩
  have HB := Lib.hid hb0
  have c0 : (w.alloc (.cells #[.int .i64 c, .int .i64 ar, .int .i64 le, .int .i64 nu, .int .i64 a, .int .i64 b] 73)).cell? ⟨w.heap.size, 0, none⟩ = some (.int .i64 c) := hb0.cell 0
  clear hb0
  have sc : (hbz (c : Int) 4).size = 4 := hb_size _ _
  have ec : hbz (c : Int) 4 = hb (c : Int) 4 := rfl
  have sar : (hbz (ar : Int) 1).size = 1 := hb_size _ _
  have ear : hbz (ar : Int) 1 = hb (ar : Int) 1 := rfl
  have sle : (hbz (le : Int) 4).size = 4 := hb_size _ _
  have ele : hbz (le : Int) 4 = hb (le : Int) 4 := rfl
  have snu : (hbz (nu : Int) 4).size = 4 := hb_size _ _
  have enu : hbz (nu : Int) 4 = hb (nu : Int) 4 := rfl
  have sa : (hbz (a : Int) 8).size = 8 := hb_size _ _
  have ea : hbz (a : Int) 8 = hb (a : Int) 8 := rfl
  have sb : (hbz (b : Int) 8).size = 8 := hb_size _ _
  have eb : hbz (b : Int) 8 = hb (b : Int) 8 := rfl
  have sl : (blz 29).size = 29 := bl_size _
  have el : blz 29 = bl 29 := rfl
  obtain ⟨p0, ep0⟩ : ∃ x, (⟨#[87, 77]⟩ : ByteArray) ++ hbz (c : Int) 4 = x := ⟨_, rfl⟩
  obtain ⟨q0, sp0⟩ := cat_run (rfl : (⟨#[87, 77]⟩ : ByteArray).size = 2) sc ep0 (by decide)
  obtain ⟨p1, ep1⟩ : ∃ x, p0 ++ hbz (ar : Int) 1 = x := ⟨_, rfl⟩
  obtain ⟨q1, sp1⟩ := cat_run sp0 sar ep1 (by decide)
  obtain ⟨p2, ep2⟩ : ∃ x, p1 ++ hbz (le : Int) 4 = x := ⟨_, rfl⟩
  obtain ⟨q2, sp2⟩ := cat_run sp1 sle ep2 (by decide)
  obtain ⟨p3, ep3⟩ : ∃ x, p2 ++ hbz (nu : Int) 4 = x := ⟨_, rfl⟩
  obtain ⟨q3, sp3⟩ := cat_run sp2 snu ep3 (by decide)
  obtain ⟨p4, ep4⟩ : ∃ x, p3 ++ hbz (a : Int) 8 = x := ⟨_, rfl⟩
  obtain ⟨q4, sp4⟩ := cat_run sp3 sa ep4 (by decide)
  obtain ⟨p5, ep5⟩ : ∃ x, p4 ++ hbz (b : Int) 8 = x := ⟨_, rfl⟩
  obtain ⟨q5, sp5⟩ := cat_run sp4 sb ep5 (by decide)
  obtain ⟨p6, ep6⟩ : ∃ x, p5 ++ blz 29 = x := ⟨_, rfl⟩
  obtain ⟨q6, sp6⟩ := cat_run sp5 sl ep6 (by decide)
  obtain ⟨p7, ep7⟩ : ∃ x, p6 ++ hbz (c : Int) 4 = x := ⟨_, rfl⟩
  obtain ⟨q7, sp7⟩ := cat_run sp6 sc ep7 (by decide)
  have HE : Hid (p7 = markB ⟨c, ar, le, nu, a, b⟩) := Lib.hid (by rw [← ep7, ← ep6, ← ep5, ← ep4, ← ep3, ← ep2, ← ep1, ← ep0, ec, ear, ele, enu, ea, eb, el]; rfl)
  clear ep0 ep1 ep2 ep3 ep4 ep5 ep6 ep7 ec ear ele enu ea eb el sp0 sp1 sp2 sp3 sp4 sp5 sp6 sp7 sc sar sle snu sa sb sl
  go_enter Try.func51, Try.ntmps51
  go_wp2_with fail
  refine (highZ _ _ _ (by omega) (by omega) (by decide)).mono ?_
  rintro e w2 ⟨rfl, hk2⟩
  have hp := (HB.out.next hk2).drew
  clear HB hk2 c0
  go_wp2_with fail
  obtain ⟨t1, t2, t3, t4, t5⟩ := hp.five
  go_region_held3 (fun w' => w'.cell? ⟨w.heap.size, 1, none⟩ = some (.int .i64 ar) ∧ w'.cell? ⟨w.heap.size, 2, none⟩ = some (.int .i64 le) ∧ w'.cell? ⟨w.heap.size, 3, none⟩ = some (.int .i64 nu) ∧ w'.cell? ⟨w.heap.size, 4, none⟩ = some (.int .i64 a) ∧ w'.cell? ⟨w.heap.size, 5, none⟩ = some (.int .i64 b))
    (first | assumption | go_keep)
    (first
      | (go_at_call 54; refine (highZ _ _ _ (by omega) (by omega) (by decide)).mono ?_; rintro e w5 ⟨rfl, hk5⟩; replace hp := MBox.next hp hk5; clear hk5 t1 t2 t3 t4 t5; obtain ⟨t1, t2, t3, t4, t5⟩ := hp.five)
      | (go_at_call 32; refine (blankZ _ _ (by decide)).mono ?_; rintro e w5 ⟨rfl, hk5⟩; replace hp := MBox.next hp hk5; clear hk5 t1 t2 t3 t4 t5; obtain ⟨t1, t2, t3, t4, t5⟩ := hp.five))
  all_goals go_wp2_with fail
  all_goals go_ret
  all_goals (rw [← HE.out]; exact ⟨rfl, MBox.kept hp⟩)
theorem mlaid_any (m : MSt) (w : World) (hm : m.Fits) : Calls Try.prog 51 #[.agg m.cells.toArray] w fun e w' => e = .returned (.string (markB m)) ∧ Kept (fun _ => False) w w' :=
  mlaid_at m.c m.ar m.le m.nu m.a m.b w hm.c hm.ar hm.le hm.nu hm.a hm.b
end Go.Proofs.Ytmfngbgdmlnlcaa
