/- The document's own Parent, Base, Kid, Under. -/
import Derived.Test.YtkmmkgooohpbcaaDoorQd
namespace Go.Proofs.YtkmmkgooohpbcaaDoor
open Go.ChangeShapes Go.WideShapes Go.ChangeAt Go.RowKit
set_option linter.unusedVariables false
set_option linter.unusedSimpArgs false

set_option maxHeartbeats 400000 in
theorem refParent_any (s : ByteArray) (w : World) (hs : s.size ≤ 140737488355328) :
    Calls Tryd.prog 12 #[.string s] w fun e w' => e = .returned (.string (parS s)) ∧ w = w' := by
  have hb := lastS_bd s
  have HP : Hid (parS s = if lastS s = 0 ∧ s ≠ slashS then slashS else s.extract 0 (lastS s).toNat) := Lib.hid rfl
  have HL : Hid (lastS s = lastS s) := Lib.hid rfl
  obtain ⟨k, hk⟩ : ∃ k, lastS s = k := ⟨_, rfl⟩
  have HK := Lib.hid hk
  rw [hk] at HP hb
  clear hk
  by_cases hneg : k < 0
  · have HF : Hid (parS s = ByteArray.empty) := Lib.hid (by
      rw [HP.out, if_neg (by omega), show k.toNat = 0 by omega]; exact ByteArray.ext (by simp))
    go_enter Tryd.func12, Tryd.ntmps12
    go_wp2_with fail
    refine (refSlash_any s _ hs).mono ?_
    rintro e w' ⟨rfl, rfl⟩
    rw [HK.out]
    go_wp2_with fail
    go_ret
    exact ⟨ret_val (congrArg Value.string HF.out.symm), rfl⟩
  · by_cases h : s.data.toList = [47]
    · have HF : Hid (parS s = ByteArray.empty) := Lib.hid (by
        have hk : k = 0 := by
          have : s.size = 1 := by rw [← size_toList, h]; rfl
          omega
        rw [HP.out, if_neg (by simp [slash_iff, h]), hk]; exact ByteArray.ext (by simp))
      have h1 : (s.toList == [47]) = true := by rw [eqSlash]; simpa using h
      clear h
      go_enter Tryd.func12, Tryd.ntmps12
      go_wp2_with fail
      refine (refSlash_any s _ hs).mono ?_
      rintro e w' ⟨rfl, rfl⟩
      rw [HK.out]
      go_wp2_with fail
      go_ret
      exact ⟨ret_val (congrArg Value.string HF.out.symm), rfl⟩
    · have h1 : (s.toList == [47]) = false := by rw [eqSlash]; simpa using h
      by_cases h0 : k = 0
      · have HF : Hid (parS s = slashS) := Lib.hid (by rw [HP.out, if_pos ⟨h0, by simp [slash_iff, h]⟩])
        subst h0
        clear h
        go_enter Tryd.func12, Tryd.ntmps12
        go_wp2_with fail
        refine (refSlash_any s _ hs).mono ?_
        rintro e w' ⟨rfl, rfl⟩
        rw [HK.out]
        go_wp2_with fail
        go_ret
        exact ⟨ret_val (congrArg Value.string HF.out.symm), rfl⟩
      · have HF : Hid (parS s = s.extract 0 k.toNat) := Lib.hid (by rw [HP.out, if_neg (by simp [h0])])
        have h2 : (k == 0) = false := by simpa using h0
        clear h h0
        go_enter Tryd.func12, Tryd.ntmps12
        go_wp2_with fail
        refine (refSlash_any s _ hs).mono ?_
        rintro e w' ⟨rfl, rfl⟩
        rw [HK.out]
        go_wp2_with fail
        go_ret
        exact ⟨ret_val (congrArg Value.string HF.out.symm), rfl⟩

set_option maxHeartbeats 400000 in
theorem refBase_any (s : ByteArray) (w : World) (hs : s.size ≤ 140737488355328) :
    Calls Tryd.prog 14 #[.string s] w fun e w' => e = .returned (.string (baseS s)) ∧ w = w' := by
  have hb := lastS_bd s
  have HP : Hid (baseS s = s.extract (lastS s + 1).toNat s.size) := Lib.hid rfl
  obtain ⟨k, hk⟩ : ∃ k, lastS s = k := ⟨_, rfl⟩
  have HK := Lib.hid hk
  rw [hk] at HP hb
  clear hk
  go_enter Tryd.func14, Tryd.ntmps14
  go_wp2_with fail
  refine (refSlash_any s _ hs).mono ?_
  rintro e w' ⟨rfl, rfl⟩
  rw [HK.out]
  go_wp2_with fail
  go_ret
  exact ⟨ret_val (congrArg Value.string HP.out.symm), rfl⟩

set_option maxHeartbeats 400000 in
theorem refKid_any (p n : ByteArray) (w : World) (hp : p.size ≤ 140737488355328) (hn : n.size ≤ 140737488355328) :
    Calls Tryd.prog 16 #[.string p, .string n] w fun e w' => e = .returned (.string (kidS p n)) ∧ w = w' := by
  have H1 : Hid (∀ (h : (p.toList == [47]) = true), kidS p n = p ++ n) := Lib.hid fun h => by rw [kidS, if_pos (isSlash h)]
  have H2 : Hid (∀ (h : (p.toList == [47]) = false), kidS p n = p ++ slashS ++ n) := Lib.hid fun h => by rw [kidS, if_neg (neSlash h)]
  go_enter Tryd.func16, Tryd.ntmps16
  go_wp2
  · go_ret
    exact ⟨ret_val (congrArg Value.string (H1.out ‹_›).symm), rfl⟩
  · go_ret
    exact ⟨ret_val (congrArg Value.string (H2.out ‹_›).symm), rfl⟩

theorem prefix_take (p t : ByteArray) : ((p.extract 0 t.size).toList == t.toList) = Lib.hasPrefix p.data.toList t.data.toList := by
  have e : (p.extract 0 t.size).data.toList = p.data.toList.take t.data.toList.length := by
    rw [Lib.extract_data]; simp
  rw [Lib.toList_data, Lib.toList_data, e, Bool.eq_iff_iff, Lib.hasPrefix, List.isPrefixOf_iff_prefix, beq_iff_eq]
  constructor
  · intro h
    rw [← h]
    exact List.take_prefix _ _
  · intro h
    exact (List.prefix_iff_eq_take.1 h).symm

set_option maxHeartbeats 400000 in
theorem refUnder_any (p q : ByteArray) (w : World) (hp : p.size ≤ 140737488355328) (hq : q.size ≤ 140737488355328) :
    Calls Tryd.prog 18 #[.string p, .string q] w fun e w' => e = .returned (.bool (underS p q)) ∧ w = w' := by
  have hk := kidS_size q ⟨#[]⟩
  have HU : Hid (underS p q = (decide ((kidS q ⟨#[]⟩).size < p.size) && Lib.hasPrefix p.data.toList (kidS q ⟨#[]⟩).data.toList)) := Lib.hid rfl
  have hz : (ByteArray.mk #[]).size = 0 := rfl
  obtain ⟨t, ht⟩ : ∃ t, kidS q ⟨#[]⟩ = t := ⟨_, rfl⟩
  have HK := Lib.hid ht
  rw [ht] at hk HU
  have hk2 : t.size ≤ 140737488355330 := by omega
  clear ht hz
  by_cases hlt : t.size < p.size
  · have HT := Lib.hid (prefix_take p t)
    go_enter Tryd.func18, Tryd.ntmps18
    go_wp2_with fail
    refine (refKid_any q ⟨#[]⟩ _ hq (by decide)).mono ?_
    rintro e w' ⟨rfl, rfl⟩
    rw [HK.out]
    go_wp2_with fail
    go_ret
    exact ⟨ret_bool (by rw [HU.out, HT.out]; simp [hlt]), rfl⟩
  · go_enter Tryd.func18, Tryd.ntmps18
    go_wp2_with fail
    refine (refKid_any q ⟨#[]⟩ _ hq (by decide)).mono ?_
    rintro e w' ⟨rfl, rfl⟩
    rw [HK.out]
    go_wp2_with fail
    go_ret
    exact ⟨ret_bool (by rw [HU.out]; simp [hlt]), rfl⟩
end Go.Proofs.YtkmmkgooohpbcaaDoor
