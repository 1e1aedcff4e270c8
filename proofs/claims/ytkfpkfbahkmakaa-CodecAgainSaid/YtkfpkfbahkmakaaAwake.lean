/- awake: the chapter's first example. -/
import Derived.Test.YtkfpkfbahkmakaaFoot
import Derived.Test.YtkfpkfbahkmakaaSum
namespace Go.Proofs.Ytkfpkfbahkmakaa
open Go.ChangeShapes Go.WideShapes Go.ChangeAt Go.RowKit
set_option linter.unusedVariables false

def exl : List UInt8 := [5, 1, 2, 97, 98, 172, 2]

theorem ex_r1 : rSev exl 0 0 = (5, 1, 0) := by decide
theorem ex_r2 : rFlag exl 1 0 = (true, 2, 0) := by decide
theorem ex_r3 : rText exl 2 2 0 = ([97, 98], 5, 0) := by decide
theorem ex_r4 : rCount exl 300 5 0 = (300, 7, 0) := by decide
theorem ex_sum : sumI [97] = 3826002220 := by decide

set_option maxRecDepth 100000 in
theorem awake_any (w : World) : Calls Try.prog 11 #[] w fun e w' => e = .returned (.bool true) ∧ Old w w' := by
  go_enter Try.func11, Try.ntmps11
  go_wp2_with fail
  refine (new_any _).mono ?_
  rintro e w1 ⟨rfl, rfl⟩
  have hW0 := new_at w
  have ho0 := new_off' w
  have hO1 : Old w (w.alloc (.cells #[.slice none 0 0] 59)) := (Old.refl w).alloc _
  go_wp2_with fail
  refine (read_any _ _ (by decide)).mono ?_
  rintro e w2 ⟨b2, v2, rfl, hR2, hb2, hv2, hk2⟩
  have ho2 := off_of hO1 hb2 hv2
  have hO2 := hO1.none hk2
  have hd2 : Disj (WS w.heap.size (.slice none 0 0)) (WS b2 v2) := (Off.disj (fun k hk => by rcases hk with rfl | hk; exact hb2; exact hv2 k hk.symm) hW0.inn).symm
  have hW2 := hW0.keep hk2 (disj_none _)
  clear hW0 hO1
  go_wp2_with fail
  refine (wnum_any (-3) _ _ _ _ hW2 (by decide) (by decide) (by decide)).mono ?_
  rintro e w3 ⟨v3, rfl, hW3, hk3, hs3⟩
  have hR3 := hR2.keep hk3 hd2.symm
  have ho3 := ho0.sep hO2.size hs3
  have hd3 := hd2.sep hR2.inn hs3
  have hO3 := hO2.step hk3 ho0
  clear hR2 ho0 hd2 hO2 hW2 hk2 hk3 hs3
  go_wp2_with fail
  refine (wflag_any true _ _ _ _ hW3 (by decide)).mono ?_
  rintro e w4 ⟨v4, rfl, hW4, hk4, hs4⟩
  have hR4 := hR3.keep hk4 hd3.symm
  have ho4 := ho3.sep hO3.size hs4
  have hd4 := hd3.sep hR3.inn hs4
  have hO4 := hO3.step hk4 ho3
  clear hR3 ho3 hd3 hO3 hW3 hk4 hs4
  go_wp2_with fail
  refine (wtext_any ⟨#[97, 98]⟩ _ _ _ _ hW4 (by decide) (by decide)).mono ?_
  rintro e w5 ⟨v5, rfl, hW5, hk5, hs5⟩
  have hR5 := hR4.keep hk5 hd4.symm
  have ho5 := ho4.sep hO4.size hs5
  have hd5 := hd4.sep hR4.inn hs5
  have hO5 := hO4.step hk5 ho4
  clear hR4 ho4 hd4 hO4 hW4 hk5 hs5
  go_wp2_with fail
  refine (wcount_nat 300 _ _ _ _ hW5 (by decide) (by decide)).mono ?_
  rintro e w6 ⟨v6, rfl, hW6, hk6, hs6⟩
  have hR6 := hR5.keep hk6 hd5.symm
  have ho6 := ho5.sep hO5.size hs6
  have hd6 := hd5.sep hR5.inn hs6
  have hO6 := hO5.step hk6 ho5
  clear hR5 ho5 hd5 hO5 hW5 hk6 hs6
  replace hW6 := (congrArg (WAt w6 w.heap.size v6) (show _ = exl from by decide)).mp hW6
  have hR6' : RAt w6 b2 v2 exl 0 0 := hR6
  clear hR6
  go_wp2_with fail
  refine (rnum_any _ _ _ _ _ _ hR6').mono ?_
  rw [ex_r1]
  rintro e w7 ⟨rfl, hR7, hk7⟩
  have hW7 := hW6.keep hk7 hd6.rs
  have hO7 := hO6.rs hk7 ho2
  clear hR6' hW6 hO6 hk7
  simp only at hR7
  go_wp2_with fail
  refine (rflag_any _ _ _ _ _ _ hR7).mono ?_
  rw [ex_r2]
  rintro e w8 ⟨rfl, hR8, hk8⟩
  have hW8 := hW7.keep hk8 hd6.rs
  have hO8 := hO7.rs hk8 ho2
  clear hR7 hW7 hO7 hk8
  simp only at hR8
  go_wp2_with fail
  refine (rtext_any 2 _ _ _ _ _ _ hR8 (by decide) (by decide)).mono ?_
  rw [ex_r3]
  rintro e w9 ⟨rfl, hR9, hk9⟩
  have hW9 := hW8.keep hk9 hd6.rs
  have hO9 := hO8.rs hk9 ho2
  clear hR8 hW8 hO8 hk9
  simp only at hR9
  go_wp2_with fail
  refine (rcount_any 300 _ _ _ _ _ _ hR9 (by decide) (by decide)).mono ?_
  rw [ex_r4]
  rintro e w10 ⟨rfl, hR10, hk10⟩
  have hW10 := hW9.keep hk10 hd6.rs
  have hO10 := hO9.rs hk10 ho2
  clear hR9 hW9 hO9 hk10
  simp only at hR10
  go_wp2_with fail
  refine (wbytes_any _ _ _ _ hW10).mono ?_
  rintro e w11 ⟨rfl, n11, rfl⟩
  have hR11 := hR10.drewN n11
  have hO11 := hO10.drewN n11
  clear hR10 hO10 hW10
  go_wp2_with fail
  refine (rend_any _ _ _ _ _ _ hR11).mono ?_
  rw [if_pos (show 7 = exl.length from rfl)]
  rintro e w12 ⟨rfl, hR12, hk12⟩
  have hO12 := hO11.rs hk12 ho2
  clear hR11 hO11 hk12
  go_wp2_with fail
  refine (sum_any _ _ (by decide)).mono ?_
  rintro e w13 ⟨rfl, rfl⟩
  rw [show (⟨#[97]⟩ : ByteArray).data.toList = [97] from rfl, ex_sum]
  go_wp2_with fail
  go_ret
  exact ⟨rfl, hO12⟩
end Go.Proofs.Ytkfpkfbahkmakaa
