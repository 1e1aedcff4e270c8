/- path.Check, Parent, Base, Kid, Under; the document's own. -/
import Derived.Test.YtjpoebajljbocaaQb
namespace Go.Proofs.Ytjpoebajljbocaa
open Go.ChangeShapes Go.WideShapes Go.ChangeAt Go.RowKit
set_option linter.unusedVariables false
set_option linter.unusedSimpArgs false

/-- Check's answer out of how many names there are -/
def checkO (len : Nat) : Option Nat → Int
  | none => 40
  | some n => if 60 < len ∨ 6 < n then 41 else 0
def checkS (s : ByteArray) : Int := if s.data.toList = [47] then 0 else checkO s.size (lens (parse s.data.toList))

theorem size_one {s : ByteArray} {b : UInt8} (h : s.data.toList = [b]) : s = ⟨#[b]⟩ := by
  cases s with
  | mk d => cases d with
    | mk l => simp at h; subst h; rfl
theorem eqSlash (s : ByteArray) : (s.toList == [47]) = decide (s.data.toList = [47]) := by
  rw [Lib.toList_data, Bool.eq_iff_iff]; simp

set_option maxHeartbeats 400000 in
theorem check_any (s : ByteArray) (w : World) (hs : s.size ≤ 140737488355328) :
    Calls Try.prog 66 #[.string s] w fun e w' => e = .returned (.int .i64 (checkS s)) ∧ Below w.heap.size w w' := by
  by_cases h : s.data.toList = [47]
  · have HF : Hid (checkS s = 0) := Lib.hid (by rw [checkS, if_pos h])
    obtain rfl := size_one h
    clear h
    go_enter Try.func66, Try.ntmps66
    go_wp2
    go_ret
    exact ⟨ret_int HF.out.symm, Below.refl _ _⟩
  · have HF := Lib.hid (show checkS s = checkO s.size (lens (parse s.data.toList)) by rw [checkS, if_neg h])
    have h1 : (s.toList == [47]) = false := by rw [eqSlash]; simpa using h
    clear h
    go_enter Try.func66, Try.ntmps66
    go_wp2_with fail
    refine (countNames_any s _ hs).mono ?_
    generalize lens (parse s.data.toList) = o at HF
    rintro e w1 ⟨rfl, hb⟩
    cases o with
    | none =>
      simp only [cntOf]
      go_wp2_with fail
      go_ret
      exact ⟨ret_int HF.out.symm, hb⟩
    | some n =>
      simp only [cntOf]
      by_cases h60 : 60 < s.size
      · have HG : Hid (checkS s = 41) := Lib.hid (by rw [HF.out, checkO, if_pos (.inl h60)])
        go_wp2_with fail
        go_ret
        exact ⟨ret_int HG.out.symm, hb⟩
      · by_cases h6 : 6 < n
        · have HG : Hid (checkS s = 41) := Lib.hid (by rw [HF.out, checkO, if_pos (.inr h6)])
          go_wp2_with fail
          go_ret
          exact ⟨ret_int HG.out.symm, hb⟩
        · have HG : Hid (checkS s = 0) := Lib.hid (by rw [HF.out, checkO, if_neg (by omega)])
          go_wp2_with fail
          go_ret
          exact ⟨ret_int HG.out.symm, hb⟩

/-- the last slash's place, -1: none -/
abbrev lastS (s : ByteArray) : Int := Lib.lastIndexByte s 47
def slashS : ByteArray := ⟨#[47]⟩
def parS (s : ByteArray) : ByteArray := if lastS s = 0 ∧ s ≠ slashS then slashS else s.extract 0 (lastS s).toNat
def baseS (s : ByteArray) : ByteArray := s.extract (lastS s + 1).toNat s.size
def kidS (p n : ByteArray) : ByteArray := if p.data.toList = [47] then p ++ n else p ++ slashS ++ n
def underS (p q : ByteArray) : Bool := decide ((kidS q ⟨#[]⟩).size < p.size) && Lib.hasPrefix p.data.toList (kidS q ⟨#[]⟩).data.toList

theorem lastS_bd (s : ByteArray) : -1 ≤ lastS s ∧ lastS s < s.size := by
  have := Lib.lastIdx_spec s 47 s.size
  rcases this with ⟨h, _⟩ | ⟨i, hi, h, _⟩
  · have : lastS s = -1 := h
    omega
  · have : lastS s = i := h
    omega

theorem neSlash {s : ByteArray} (h : (s.toList == [47]) = false) : s.data.toList ≠ [47] := by
  intro e; rw [eqSlash, e] at h; simp at h
theorem isSlash {s : ByteArray} (h : (s.toList == [47]) = true) : s.data.toList = [47] := by
  rw [eqSlash] at h; simpa using h
theorem slash_iff (s : ByteArray) : s = slashS ↔ s.data.toList = [47] :=
  ⟨fun h => by rw [h]; rfl, fun h => size_one h⟩

set_option maxHeartbeats 400000 in
theorem parent_any (s : ByteArray) (w : World) (hs : s.size ≤ 140737488355328) :
    Calls Try.prog 78 #[.string s] w fun e w' => e = .returned (.string (parS s)) ∧ w = w' := by
  have hb := lastS_bd s
  have HL : Hid (Lib.lastIndexByte s ((47 : Nat) : Int) = lastS s) := Lib.hid rfl
  have HP : Hid (parS s = if lastS s = 0 ∧ s ≠ slashS then slashS else s.extract 0 (lastS s).toNat) := Lib.hid rfl
  obtain ⟨k, hk⟩ : ∃ k, lastS s = k := ⟨_, rfl⟩
  rw [hk] at HL HP hb
  clear hk
  by_cases h0 : k = 0
  · subst h0
    by_cases h : s.data.toList = [47]
    · have HF : Hid (parS s = ByteArray.empty) := Lib.hid (by rw [HP.out, if_neg (by simp [slash_iff, h])]; exact ByteArray.ext (by simp))
      have h1 : (s.toList == [47]) = true := by rw [eqSlash]; simpa using h
      have h2 : (!s.toList == [47]) = false := by rw [h1]; rfl
      clear h
      go_enter Try.func78, Try.ntmps78
      go_wp2_with fail
      refine (Try.strings_LastIndex_one s ⟨#[47]⟩ rfl (by omega) w).mono ?_
      rintro e w' ⟨rfl, rfl⟩
      rw [show ((ByteArray.mk #[47])[0]'(by decide)).toNat = 47 from rfl, HL.out]
      go_wp2_with fail
      go_ret
      exact ⟨ret_val (congrArg Value.string HF.out.symm), rfl⟩
    · have HF : Hid (parS s = slashS) := Lib.hid (by rw [HP.out, if_pos ⟨rfl, by simp [slash_iff, h]⟩])
      have h1 : (s.toList == [47]) = false := by rw [eqSlash]; simpa using h
      have h2 : (!s.toList == [47]) = true := by rw [h1]; rfl
      clear h
      go_enter Try.func78, Try.ntmps78
      go_wp2_with fail
      refine (Try.strings_LastIndex_one s ⟨#[47]⟩ rfl (by omega) w).mono ?_
      rintro e w' ⟨rfl, rfl⟩
      rw [show ((ByteArray.mk #[47])[0]'(by decide)).toNat = 47 from rfl, HL.out]
      go_wp2_with fail
      go_ret
      exact ⟨ret_val (congrArg Value.string HF.out.symm), rfl⟩
  · have HF : Hid (parS s = s.extract 0 (max k 0).toNat) := Lib.hid (by
      rw [HP.out, if_neg (by simp [h0])]
      congr 1; omega)
    have h1 : (k == 0) = false := by simpa using h0
    clear h0
    go_enter Try.func78, Try.ntmps78
    go_wp2_with fail
    refine (Try.strings_LastIndex_one s ⟨#[47]⟩ rfl (by omega) w).mono ?_
    rintro e w' ⟨rfl, rfl⟩
    rw [show ((ByteArray.mk #[47])[0]'(by decide)).toNat = 47 from rfl, HL.out]
    go_wp2_with fail
    go_ret
    exact ⟨ret_val (congrArg Value.string HF.out.symm), rfl⟩

set_option maxHeartbeats 400000 in
theorem base_any (s : ByteArray) (w : World) (hs : s.size ≤ 140737488355328) :
    Calls Try.prog 79 #[.string s] w fun e w' => e = .returned (.string (baseS s)) ∧ w = w' := by
  have hb := lastS_bd s
  have HL : Hid (Lib.lastIndexByte s ((47 : Nat) : Int) = lastS s) := Lib.hid rfl
  have HP : Hid (baseS s = s.extract (lastS s + 1).toNat s.size) := Lib.hid rfl
  obtain ⟨k, hk⟩ : ∃ k, lastS s = k := ⟨_, rfl⟩
  rw [hk] at HL HP hb
  clear hk
  go_enter Try.func79, Try.ntmps79
  go_wp2_with fail
  refine (Try.strings_LastIndex_one s ⟨#[47]⟩ rfl (by omega) w).mono ?_
  rintro e w' ⟨rfl, rfl⟩
  rw [show ((ByteArray.mk #[47])[0]'(by decide)).toNat = 47 from rfl, HL.out]
  go_wp2_with fail
  go_ret
  exact ⟨ret_val (congrArg Value.string HP.out.symm), rfl⟩

set_option maxHeartbeats 400000 in
theorem kid_any (p n : ByteArray) (w : World) (hp : p.size ≤ 140737488355328) (hn : n.size ≤ 140737488355328) :
    Calls Try.prog 138 #[.string p, .string n] w fun e w' => e = .returned (.string (kidS p n)) ∧ w = w' := by
  have H1 : Hid (∀ (h : (p.toList == [47]) = true), kidS p n = p ++ n) := Lib.hid fun h => by rw [kidS, if_pos (isSlash h)]
  have H2 : Hid (∀ (h : (p.toList == [47]) = false), kidS p n = p ++ slashS ++ n) := Lib.hid fun h => by rw [kidS, if_neg (neSlash h)]
  go_enter Try.func138, Try.ntmps138
  go_wp2
  · go_ret
    exact ⟨ret_val (congrArg Value.string (H1.out ‹_›).symm), rfl⟩
  · go_ret
    exact ⟨ret_val (congrArg Value.string (H2.out ‹_›).symm), rfl⟩

theorem kidS_size (p n : ByteArray) : p.size ≤ (kidS p n).size ∧ (kidS p n).size ≤ p.size + n.size + 1 := by
  unfold kidS
  split
  · rw [ByteArray.size_append]; omega
  · rw [ByteArray.size_append, ByteArray.size_append]; have : slashS.size = 1 := rfl; omega

set_option maxHeartbeats 400000 in
theorem under_any (p q : ByteArray) (w : World) (hp : p.size ≤ 140737488355328) (hq : q.size ≤ 140737488355328) :
    Calls Try.prog 118 #[.string p, .string q] w fun e w' => e = .returned (.bool (underS p q)) ∧ w = w' := by
  have hk := kidS_size q ⟨#[]⟩
  have HU : Hid (underS p q = (decide ((kidS q ⟨#[]⟩).size < p.size) && Lib.hasPrefix p.data.toList (kidS q ⟨#[]⟩).data.toList)) := Lib.hid rfl
  have hz : (ByteArray.mk #[]).size = 0 := rfl
  obtain ⟨t, ht⟩ : ∃ t, kidS q ⟨#[]⟩ = t := ⟨_, rfl⟩
  have HK := Lib.hid ht
  rw [ht] at hk HU
  have hk2 : t.size ≤ 140737488355330 := by omega
  clear ht hz
  by_cases hlt : t.size < p.size
  · go_enter Try.func118, Try.ntmps118
    go_wp2_with fail
    refine (kid_any q ⟨#[]⟩ _ hq (by decide)).mono ?_
    rintro e w' ⟨rfl, rfl⟩
    rw [HK.out]
    go_wp2_with fail
    refine (Try.strings_HasPrefix p t _).mono ?_
    rintro e w' ⟨rfl, rfl⟩
    go_wp2_with fail
    go_ret
    exact ⟨ret_bool (by rw [HU.out]; simp [hlt]), rfl⟩
  · go_enter Try.func118, Try.ntmps118
    go_wp2_with fail
    refine (kid_any q ⟨#[]⟩ _ hq (by decide)).mono ?_
    rintro e w' ⟨rfl, rfl⟩
    rw [HK.out]
    go_wp2_with fail
    go_ret
    exact ⟨ret_bool (by rw [HU.out]; simp [hlt]), rfl⟩
end Go.Proofs.Ytjpoebajljbocaa
