/- awake of layer 6. -/
import Derived.Test.YtpjanfclobpkjaaDoorUd
namespace Go.Proofs.YtpjanfclobpkjaaDoor
open Go.ChangeShapes Go.WideShapes Go.ChangeAt Go.RowKit
set_option linter.unusedVariables false
set_option linter.unusedSimpArgs false

def annS : ByteArray := ⟨#[97, 110, 110]⟩
def bobS : ByteArray := ⟨#[98, 111, 98]⟩
def xS : ByteArray := ⟨#[120]⟩
def worldS : ByteArray := ⟨#[119, 111, 114, 108, 100]⟩
def annD : ByteArray := ⟨#[97, 110, 110, 58, 55, 99, 52, 56, 101, 54, 99, 100, 50, 56, 48, 97, 51, 99, 55, 97]⟩
theorem dig_ann : digS annS xS = annD := by decide +kernel
theorem one_row_at (w : World) (p : Int) (d : ByteArray) (h1 : -9223372036854775808 ≤ p) (h2 : p ≤ 9223372036854775807) (hd : d.size ≤ maxLen) : RowsAt (w.alloc (.cells #[.int .i64 p, .string d] 27)) (.slice (some ⟨w.heap.size, 0, none⟩) 1 1) [⟨p, d⟩] := by
  refine ⟨⟨_, _, rfl, fun i hi => ⟨w.heap.size, 0, rfl, by simp, ?_⟩⟩, ?_, by simp⟩
  · have hi : i < 1 := hi
    obtain rfl : i = 0 := by omega
    rw [cell_of_row _ w.heap.size (0 + 0 * 2) _ _ (0, 0) (heap_alloc_new w _), cell_of_row _ w.heap.size (0 + 0 * 2 + 1) _ _ (0, 0) (heap_alloc_new w _)]
    exact ⟨rfl, rfl⟩
  · intro r hr
    simp only [List.mem_cons, List.not_mem_nil, or_false] at hr
    subst hr
    exact ⟨h1, h2, hd⟩
theorem two_rows_at (w : World) (d : ByteArray) (hd : d.size ≤ maxLen) : RowsAt (w.alloc (.cells #[.int .i64 1, .string worldS, .int .i64 6, .string d] 27)) (.slice (some ⟨w.heap.size, 0, none⟩) 2 2) [⟨1, worldS⟩, ⟨6, d⟩] := by
  refine ⟨⟨_, _, rfl, fun i hi => ⟨w.heap.size, 0, rfl, by simp, ?_⟩⟩, ?_, by simp⟩
  · have hi : i < 2 := hi
    rw [cell_of_row _ w.heap.size (0 + i * 2) _ _ (0, 0) (heap_alloc_new w _), cell_of_row _ w.heap.size (0 + i * 2 + 1) _ _ (0, 0) (heap_alloc_new w _)]
    rcases (show i = 0 ∨ i = 1 by omega) with rfl | rfl <;> exact ⟨rfl, rfl⟩
  · intro r hr
    simp only [List.mem_cons, List.not_mem_nil, or_false] at hr
    rcases hr with rfl | rfl
    · exact ⟨by decide, by decide, by decide⟩
    · exact ⟨by show (-9223372036854775808 : Int) ≤ 6; decide, by show (6 : Int) ≤ 9223372036854775807; decide, hd⟩
theorem two_ids_at (w : World) (a b : ByteArray) : IdsAt (w.alloc (.cells #[.string a, .string b] 9)) (.slice (some ⟨w.heap.size, 0, none⟩) 2 2) [a, b] := by
  refine ⟨⟨_, _, rfl, fun i hi => ⟨w.heap.size, 0, rfl, by simp, ?_⟩⟩, by simp⟩
  have hi : i < 2 := hi
  rw [cell_of_row _ w.heap.size (0 + i) _ _ (0, 0) (heap_alloc_new w _)]
  rcases (show i = 0 ∨ i = 1 by omega) with rfl | rfl <;> rfl
theorem aw_right : rightL [⟨1, worldS⟩, ⟨6, annD⟩] = true := by decide +kernel
theorem aw_m1 : mayB [⟨1, worldS⟩, ⟨6, annD⟩] 1 [] = true := by decide +kernel
theorem aw_m3 : mayB [⟨1, worldS⟩, ⟨6, annD⟩] 3 [] = false := by decide +kernel
theorem aw_m3b : mayB [⟨1, worldS⟩, ⟨6, annD⟩] 3 [bobS, annD] = true := by decide +kernel
theorem aw_name : nameL annS.data.toList = true := by decide +kernel
theorem aw_name2 : nameL (⟨#[65, 110, 110]⟩ : ByteArray).data.toList = false := by decide +kernel

set_option maxHeartbeats 1000000 in
theorem awake_any (w : World) (ht : TabOk w) :
    Calls Tryd.prog 8 #[] w fun e w' => e = .returned (.bool true) ∧ Below w.heap.size w w' := by
  have HT := Lib.hid ht; clear ht
  obtain ⟨d, hd⟩ : ∃ d, annD = d := ⟨_, rfl⟩
  have HD := Lib.hid (dig_ann.trans hd)
  have h20 : d.size = 20 := by rw [← hd]; decide
  have HR := Lib.hid aw_right
  have H1 := Lib.hid aw_m1
  have H3 := Lib.hid aw_m3
  have HB := Lib.hid aw_m3b
  rw [hd] at HR H1 H3 HB
  have HZ : Hid (d.size ≤ maxLen) := Lib.hid (by rw [h20]; decide)
  clear hd
  have H20 := Lib.hid h20
  clear h20
  go_enter Tryd.func8, Tryd.ntmps8
  go_wp2_with fail
  refine (digest_yes annS xS _ aw_name (by decide) HT.out).mono ?_
  rw [HD.out]
  rintro e w1 ⟨rfl, hb1⟩
  have HB1 := Lib.hid hb1; clear hb1
  go_wp2_with fail
  refine (digest_no ⟨#[65, 110, 110]⟩ xS _ aw_name2).mono ?_
  rintro e w2 ⟨rfl, hb2⟩
  have HB2 : Hid (Below w.heap.size w w2) := Lib.hid (HB1.out.trans (hb2.mono HB1.out.size))
  clear hb2
  have HRW := Lib.hid (two_rows_at w2 d HZ.out)
  have HB3 : Hid (Below w.heap.size w (w2.alloc (.cells #[.int .i64 1, .string worldS, .int .i64 6, .string d] 27))) := Lib.hid (HB2.out.alloc HB2.out.size _)
  go_wp2_with fail
  refine (right_any HRW.out HR.out).mono ?_
  rintro e w4 ⟨rfl, hb4⟩
  have HB4 : Hid (Below w.heap.size w w4) := Lib.hid (HB3.out.trans (hb4.mono HB3.out.size))
  have HRW4 := Lib.hid (HRW.out.below hb4)
  clear hb4
  go_wp2_with fail
  refine (may_any HRW4.out (IdsAt.nil _) 1 (by decide) (by decide) H1.out).mono ?_
  rintro e w5 ⟨rfl, hb5⟩
  have HB5 : Hid (Below w.heap.size w w5) := Lib.hid (HB4.out.trans (hb5.mono HB4.out.size))
  have HRW5 := Lib.hid (HRW4.out.below hb5)
  clear hb5
  go_wp2_with fail
  refine (may_any HRW5.out (IdsAt.nil _) 3 (by decide) (by decide) H3.out).mono ?_
  rintro e w6 ⟨rfl, hb6⟩
  have HB6 : Hid (Below w.heap.size w w6) := Lib.hid (HB5.out.trans (hb6.mono HB5.out.size))
  have HRW6 := Lib.hid (HRW5.out.below hb6)
  clear hb6
  have HI := Lib.hid (two_ids_at w6 bobS d)
  have HA : Hid (Below w6.heap.size w6 (w6.alloc (.cells #[.string bobS, .string d] 9))) := Lib.hid ((Below.refl _ _).alloc (Nat.le_refl _) _)
  go_wp2_with fail
  refine (may_any (HRW6.out.below HA.out) HI.out 3 (by decide) (by decide) HB.out).mono ?_
  rintro e w7 ⟨rfl, hb7⟩
  have HB7 : Hid (Below w.heap.size w w7) := Lib.hid ((HB6.out.trans (HA.out.mono HB6.out.size)).trans (hb7.mono (by have := HB6.out.size; simp; omega)))
  clear hb7
  have h20 := H20.out
  go_wp2_with fail
  go_ret
  exact ⟨rfl, HB7.out⟩
end Go.Proofs.YtpjanfclobpkjaaDoor
