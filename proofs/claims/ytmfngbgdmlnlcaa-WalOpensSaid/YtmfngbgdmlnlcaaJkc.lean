/- Is a mark right? -/
import Derived.Test.YtmfngbgdmlnlcaaJkb
namespace Go.Proofs.Ytmfngbgdmlnlcaa
open Go.ChangeShapes Go.WideShapes Go.ChangeAt Go.RowKit
set_option linter.unusedVariables false
set_option linter.unusedSimpArgs false
structure MZ.In (z : MZ) : Prop where
  c : -9223372036854775808 ≤ z.c ∧ z.c ≤ 9223372036854775807
  ar : -9223372036854775808 ≤ z.ar ∧ z.ar ≤ 9223372036854775807
  le : -9223372036854775808 ≤ z.le ∧ z.le ≤ 9223372036854775807
  nu : -9223372036854775808 ≤ z.nu ∧ z.nu ≤ 9223372036854775807
  a : -9223372036854775808 ≤ z.a ∧ z.a ≤ 9223372036854775807
  b : -9223372036854775808 ≤ z.b ∧ z.b ≤ 9223372036854775807
def rightZ (z : MZ) (l : List UInt8) (sector space : Int) : Bool := decide (z.laid = l) && decide (1 ≤ z.c) && decide (z.c % 2 = sector) && decide (z.ar < 2) && decide (z.le ≤ space) && decide (0 ≤ z.a) && decide (0 ≤ z.b)
set_option maxRecDepth 100000 in
set_option maxHeartbeats 4000000 in
theorem right_any (z : MZ) (hz : z.In) (s : ByteArray) (sector space : Int) (w : World) :
    Calls Try.prog 72 #[.agg #[.int .i64 z.c, .int .i64 z.ar, .int .i64 z.le, .int .i64 z.nu, .int .i64 z.a, .int .i64 z.b], .string s, .int .i64 sector, .int .i64 space] w fun e w' => e = .returned (.bool (rightZ z s.data.toList sector space)) ∧ Kept (fun _ => False) w w' := by
  obtain ⟨⟨y1, z1⟩, ⟨y2, z2⟩, ⟨y3, z3⟩, ⟨y4, z4⟩, ⟨y5, z5⟩, ⟨y6, z6⟩⟩ := hz
  have hb := heap_alloc_new w (.cells #[.int .i64 z.c, .int .i64 z.ar, .int .i64 z.le, .int .i64 z.nu, .int .i64 z.a, .int .i64 z.b] 73)
  have HML := Lib.hid (fun V => mlaid_int z.c z.ar z.le z.nu z.a z.b V y1 z1 y2 z2 y3 z3 y4 z4 y5 z5 y6 z6)
  have hmb := markBI_list z
  obtain ⟨mb, hmbe⟩ : ∃ mb, markBI z.c z.ar z.le z.nu z.a z.b = mb := ⟨_, rfl⟩
  rw [hmbe] at hmb HML
  clear hmbe
  have hbl : (mb.data.toList = s.data.toList) ↔ mb.toList = s.toList := by rw [ByteArray.toList_eq, ByteArray.toList_eq]
  by_cases q1 : mb.toList = s.toList
  · have b1 : (mb.toList == s.toList) = true := by simpa using q1
    by_cases q2 : 1 ≤ z.c
    · have b2 : True := trivial
      by_cases q3 : z.c % 2 = sector
      · have b3 : (z.c % 2 == sector) = true := by simpa using q3
        by_cases q4 : z.ar < 2
        · have b4 : True := trivial
          by_cases q5 : z.le ≤ space
          · have b5 : True := trivial
            by_cases q6 : 0 ≤ z.a
            · have b6 : True := trivial
              by_cases q7 : 0 ≤ z.b
              · have b7 : True := trivial
                have HE : Hid (rightZ z s.data.toList sector space = true) := Lib.hid (by unfold rightZ; simp only [← hmb, hbl]; simp [*])
                clear hmb hbl
                go_enter Try.func72, Try.ntmps72
                go_wp2_with fail
                refine (HML.out _).mono ?_
                rintro e w2 ⟨rfl, hk2⟩
                have HK : Hid (Kept (fun _ => False) w w2) := Lib.hid (((Kept.refl _ w).alloc _).trans hk2)
                have hb2 := (hk2.block w.heap.size (by simp) id).trans hb
                obtain ⟨c0, c1, c2, c3, c4, c5, ff⟩ := six_of hb2
                clear hk2 hb hb2 ff
                go_wp2_with fail
                go_ret
                exact ⟨ret_bool (by have h9 := HE.out; first | exact h9.symm | (rw [h9]; simp; omega)), HK.out⟩
              · have b7 : True := trivial
                have HE : Hid (rightZ z s.data.toList sector space = false) := Lib.hid (by unfold rightZ; simp only [← hmb, hbl]; simp [*])
                clear hmb hbl
                go_enter Try.func72, Try.ntmps72
                go_wp2_with fail
                refine (HML.out _).mono ?_
                rintro e w2 ⟨rfl, hk2⟩
                have HK : Hid (Kept (fun _ => False) w w2) := Lib.hid (((Kept.refl _ w).alloc _).trans hk2)
                have hb2 := (hk2.block w.heap.size (by simp) id).trans hb
                obtain ⟨c0, c1, c2, c3, c4, c5, ff⟩ := six_of hb2
                clear hk2 hb hb2 ff
                go_wp2_with fail
                go_ret
                exact ⟨ret_bool (by have h9 := HE.out; first | exact h9.symm | (rw [h9]; simp; omega)), HK.out⟩
            · have b6 : True := trivial
              have HE : Hid (rightZ z s.data.toList sector space = false) := Lib.hid (by unfold rightZ; simp only [← hmb, hbl]; simp [*])
              clear hmb hbl
              go_enter Try.func72, Try.ntmps72
              go_wp2_with fail
              refine (HML.out _).mono ?_
              rintro e w2 ⟨rfl, hk2⟩
              have HK : Hid (Kept (fun _ => False) w w2) := Lib.hid (((Kept.refl _ w).alloc _).trans hk2)
              have hb2 := (hk2.block w.heap.size (by simp) id).trans hb
              obtain ⟨c0, c1, c2, c3, c4, c5, ff⟩ := six_of hb2
              clear hk2 hb hb2 ff
              go_wp2_with fail
              go_ret
              exact ⟨ret_bool (by have h9 := HE.out; first | exact h9.symm | (rw [h9]; simp; omega)), HK.out⟩
          · have b5 : True := trivial
            have HE : Hid (rightZ z s.data.toList sector space = false) := Lib.hid (by unfold rightZ; simp only [← hmb, hbl]; simp [*])
            clear hmb hbl
            go_enter Try.func72, Try.ntmps72
            go_wp2_with fail
            refine (HML.out _).mono ?_
            rintro e w2 ⟨rfl, hk2⟩
            have HK : Hid (Kept (fun _ => False) w w2) := Lib.hid (((Kept.refl _ w).alloc _).trans hk2)
            have hb2 := (hk2.block w.heap.size (by simp) id).trans hb
            obtain ⟨c0, c1, c2, c3, c4, c5, ff⟩ := six_of hb2
            clear hk2 hb hb2 ff
            go_wp2_with fail
            go_ret
            exact ⟨ret_bool (by have h9 := HE.out; first | exact h9.symm | (rw [h9]; simp; omega)), HK.out⟩
        · have b4 : True := trivial
          have HE : Hid (rightZ z s.data.toList sector space = false) := Lib.hid (by unfold rightZ; simp only [← hmb, hbl]; simp [*])
          clear hmb hbl
          go_enter Try.func72, Try.ntmps72
          go_wp2_with fail
          refine (HML.out _).mono ?_
          rintro e w2 ⟨rfl, hk2⟩
          have HK : Hid (Kept (fun _ => False) w w2) := Lib.hid (((Kept.refl _ w).alloc _).trans hk2)
          have hb2 := (hk2.block w.heap.size (by simp) id).trans hb
          obtain ⟨c0, c1, c2, c3, c4, c5, ff⟩ := six_of hb2
          clear hk2 hb hb2 ff
          go_wp2_with fail
          go_ret
          exact ⟨ret_bool (by have h9 := HE.out; first | exact h9.symm | (rw [h9]; simp; omega)), HK.out⟩
      · have b3 : (z.c % 2 == sector) = false := by simpa using q3
        have HE : Hid (rightZ z s.data.toList sector space = false) := Lib.hid (by unfold rightZ; simp only [← hmb, hbl]; simp [*])
        clear hmb hbl
        go_enter Try.func72, Try.ntmps72
        go_wp2_with fail
        refine (HML.out _).mono ?_
        rintro e w2 ⟨rfl, hk2⟩
        have HK : Hid (Kept (fun _ => False) w w2) := Lib.hid (((Kept.refl _ w).alloc _).trans hk2)
        have hb2 := (hk2.block w.heap.size (by simp) id).trans hb
        obtain ⟨c0, c1, c2, c3, c4, c5, ff⟩ := six_of hb2
        clear hk2 hb hb2 ff
        go_wp2_with fail
        go_ret
        exact ⟨ret_bool (by have h9 := HE.out; first | exact h9.symm | (rw [h9]; simp; omega)), HK.out⟩
    · have b2 : True := trivial
      have HE : Hid (rightZ z s.data.toList sector space = false) := Lib.hid (by unfold rightZ; simp only [← hmb, hbl]; simp [*])
      clear hmb hbl
      go_enter Try.func72, Try.ntmps72
      go_wp2_with fail
      refine (HML.out _).mono ?_
      rintro e w2 ⟨rfl, hk2⟩
      have HK : Hid (Kept (fun _ => False) w w2) := Lib.hid (((Kept.refl _ w).alloc _).trans hk2)
      have hb2 := (hk2.block w.heap.size (by simp) id).trans hb
      obtain ⟨c0, c1, c2, c3, c4, c5, ff⟩ := six_of hb2
      clear hk2 hb hb2 ff
      go_wp2_with fail
      go_ret
      exact ⟨ret_bool (by have h9 := HE.out; first | exact h9.symm | (rw [h9]; simp; omega)), HK.out⟩
  · have b1 : (mb.toList == s.toList) = false := by simpa using q1
    have HE : Hid (rightZ z s.data.toList sector space = false) := Lib.hid (by unfold rightZ; simp only [← hmb, hbl]; simp [*])
    clear hmb hbl
    go_enter Try.func72, Try.ntmps72
    go_wp2_with fail
    refine (HML.out _).mono ?_
    rintro e w2 ⟨rfl, hk2⟩
    have HK : Hid (Kept (fun _ => False) w w2) := Lib.hid (((Kept.refl _ w).alloc _).trans hk2)
    have hb2 := (hk2.block w.heap.size (by simp) id).trans hb
    obtain ⟨c0, c1, c2, c3, c4, c5, ff⟩ := six_of hb2
    clear hk2 hb hb2 ff
    go_wp2_with fail
    go_ret
    exact ⟨ret_bool (by have h9 := HE.out; first | exact h9.symm | (rw [h9]; simp; omega)), HK.out⟩
end Go.Proofs.Ytmfngbgdmlnlcaa
