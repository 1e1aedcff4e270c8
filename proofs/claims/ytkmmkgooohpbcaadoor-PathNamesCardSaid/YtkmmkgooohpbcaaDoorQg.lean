/- The document's own Check; awake. -/
import Derived.Test.YtkmmkgooohpbcaaDoorQf
namespace Go.Proofs.YtkmmkgooohpbcaaDoor
open Go.ChangeShapes Go.WideShapes Go.ChangeAt Go.RowKit
set_option linter.unusedVariables false
set_option linter.unusedSimpArgs false

theorem checkO_names (s : ByteArray) : checkO s.size (lens (parse s.data.toList)) = match lens (rnames s.data.toList) with
    | none => 40
    | some n => if 0 < n then (if 60 < s.size ∨ 6 < n then 41 else 0) else 40 := by
  by_cases h : s.data.toList = []
  · rw [h, rnames]; rfl
  · rw [rnames_parse _ h]
    cases e : parse s.data.toList with
    | none => rfl
    | some ns =>
      have := (parse_iff _ _).1 e
      have hpos : 0 < ns.length := List.length_pos_iff.2 this.1
      simp [lens, checkO, hpos]

set_option maxHeartbeats 400000 in
theorem refCheck_any (s : ByteArray) (w : World) (hs : s.size ≤ 1099511627776) :
    Calls Tryd.prog 10 #[.string s] w fun e w' => e = .returned (.int .i64 (checkS s)) ∧ Below w.heap.size w w' := by
  by_cases h : s.data.toList = [47]
  · have HF : Hid (checkS s = 0) := Lib.hid (by rw [checkS, if_pos h])
    obtain rfl := size_one h
    clear h
    go_enter Tryd.func10, Tryd.ntmps10
    go_wp2
    go_ret
    exact ⟨ret_int HF.out.symm, Below.refl _ _⟩
  · have HF := Lib.hid (show checkS s = _ by rw [checkS, if_neg h, checkO_names])
    have h1 : (s.toList == [47]) = false := by rw [eqSlash]; simpa using h
    clear h
    go_enter Tryd.func10, Tryd.ntmps10
    go_wp2_with fail
    refine (refNames_any s _ hs).mono ?_
    generalize lens (rnames s.data.toList) = o at HF
    rintro e w1 ⟨⟨v, h⟩, hb⟩
    rcases h with ⟨rfl, rfl⟩ | ⟨n, rfl, rfl, h⟩
    · go_wp2_with fail
      go_ret
      exact ⟨ret_int HF.out.symm, hb⟩
    · rcases h with ⟨rfl, rfl⟩ | ⟨a, c, rfl⟩
      · go_wp2_with fail
        go_ret
        exact ⟨ret_int HF.out.symm, hb⟩
      · have HF' : Hid (checkS s = if 0 < n then (if 60 < s.size ∨ 6 < n then 41 else 0) else 40) := HF
        clear HF
        by_cases h0 : 0 < n
        · by_cases h60 : 60 < s.size
          · have HG : Hid (checkS s = 41) := Lib.hid (by rw [HF'.out, if_pos h0, if_pos (.inl h60)])
            go_wp2_with fail
            go_ret
            exact ⟨ret_int HG.out.symm, hb⟩
          · by_cases h6 : 6 < n
            · have HG : Hid (checkS s = 41) := Lib.hid (by rw [HF'.out, if_pos h0, if_pos (.inr h6)])
              go_wp2_with fail
              go_ret
              exact ⟨ret_int HG.out.symm, hb⟩
            · have HG : Hid (checkS s = 0) := Lib.hid (by rw [HF'.out, if_pos h0, if_neg (by omega)])
              go_wp2_with fail
              go_ret
              exact ⟨ret_int HG.out.symm, hb⟩
        · have HG : Hid (checkS s = 40) := Lib.hid (by rw [HF'.out, if_neg h0])
          go_wp2_with fail
          go_ret
          exact ⟨ret_int HG.out.symm, hb⟩

theorem ex1 : checkS ⟨#[47, 97, 46, 98, 47, 67, 95, 45, 48]⟩ = 0 := by decide +kernel
theorem ex2 : checkS ⟨#[47, 97, 47]⟩ = 40 := by decide +kernel
theorem ex3 : checkS ⟨#[47, 97, 47, 98, 47, 99, 47, 100, 47, 101, 47, 102, 47, 103]⟩ = 41 := by decide +kernel
theorem ex4 : parS ⟨#[47, 97, 47, 98]⟩ = ⟨#[47, 97]⟩ := by decide +kernel
theorem ex5 : baseS ⟨#[47, 97, 47, 98]⟩ = ⟨#[98]⟩ := by decide +kernel
theorem ex6 : numS ⟨#[47, 113, 45]⟩ (7 : Int).toNat = ⟨#[47, 113, 45, 48, 48, 48, 48, 48, 48, 48, 48, 48, 55]⟩ := by decide +kernel

set_option maxHeartbeats 1000000 in
theorem awake_any (w : World) (ht : TabOk w) :
    Calls Tryd.prog 8 #[] w fun e w' => e = .returned (.bool true) ∧ Below w.heap.size w w' := by
  have HT := Lib.hid ht; clear ht
  go_enter Tryd.func8, Tryd.ntmps8
  go_wp2_with fail
  refine (check_any _ _ (by decide)).mono ?_
  rintro e w1 ⟨rfl, hb1⟩
  rw [ex1]
  go_wp2_with fail
  refine (check_any _ _ (by decide)).mono ?_
  rintro e w2 ⟨rfl, hb2⟩
  rw [ex2]
  go_wp2_with fail
  refine (check_any _ _ (by decide)).mono ?_
  rintro e w3 ⟨rfl, hb3⟩
  rw [ex3]
  have hB : Below w.heap.size w w3 := (hb1.trans (hb2.mono hb1.size)).trans (hb3.mono (Nat.le_trans hb1.size hb2.size))
  have HT3 := Lib.hid (tab_below HT.out hB)
  clear hb1 hb2 hb3
  go_wp2_with fail
  refine (parent_any _ _ (by decide)).mono ?_
  rintro e w4 ⟨rfl, rfl⟩
  rw [ex4]
  go_wp2_with fail
  refine (base_any _ _ (by decide)).mono ?_
  rintro e w4 ⟨rfl, rfl⟩
  rw [ex5]
  go_wp2_with fail
  refine (numbered_any _ 7 _ (by decide) (by decide) (by decide) HT3.out).mono ?_
  rintro e w5 ⟨rfl, hb5⟩
  rw [ex6]
  go_wp2_with fail
  go_ret
  exact ⟨rfl, hB.trans (hb5.mono hB.size)⟩
end Go.Proofs.YtkmmkgooohpbcaaDoor
