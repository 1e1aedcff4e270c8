/- path.countNames, path.Check. path.Check, Parent, Base, Kid, Under; the document's own. -/
import Derived.Test.YtenbdoceaabecaaGreatP01
import Derived.Laws.RangeAny
import Derived.Laws.Concat
import Derived.Lib.Strings
namespace Go.Proofs.YtenbdoceaabecaaGreat
open Go.ChangeShapes Go.WideShapes Go.ChangeAt Go.RowKit
set_option linter.unusedVariables false
set_option linter.unusedSimpArgs false

/-- what countNames gives back -/
def cntOf : Option Nat → Value
  | none => .tuple #[.int .i64 0, .bool false]
  | some n => .tuple #[.int .i64 n, .bool true]
def lens (o : Option (List (List UInt8))) : Option Nat := o.map List.length

theorem inName_yes (r : Nat) (w : World) (hr : r ≤ 2147483647) (h : lettN r = true) :
    Calls Tryz.prog 130 #[.int .i32 r] w fun e w' => e = .returned (.bool true) ∧ w = w' := by
  rw [← h]; exact inName_any r w hr
theorem inName_no (r : Nat) (w : World) (hr : r ≤ 2147483647) (h : lettN r = false) :
    Calls Tryz.prog 130 #[.int .i32 r] w fun e w' => e = .returned (.bool false) ∧ w = w' := by
  rw [← h]; exact inName_any r w hr
theorem inName_slash (w : World) : Calls Tryz.prog 130 #[.int .i32 47] w fun e w' => e = .returned (.bool false) ∧ w = w' :=
  inName_no 47 w (by decide) (by decide)
theorem lettN_high {r : Nat} (h : 128 ≤ r) : lettN r = false := by
  rw [Bool.eq_false_iff]; intro e; simp [lettN] at e; omega

/-- how far the loop is: names found, where the one under way began, the place -/
structure CntRel (t S : ByteArray) (w0 : World) (names from_ : Value) (w : World) : Prop where
  ex : ∃ (k f pos : Nat), names = .int .i64 k ∧ from_ = .int .i64 f ∧ w = w0.iter S pos ∧ f ≤ pos ∧ pos ≤ S.size ∧ k ≤ pos ∧
    ((t.data.toList.drop f).take (pos - f)).all lett = true ∧ (lens (scan (S.data.toList.drop pos) ((t.data.toList.drop f).take (pos - f)))).map (k + ·) = lens (scan S.data.toList [])

theorem lens_map_nil (k : Nat) (o : Option Nat) (l c : List UInt8) (h : l = []) (e : (lens (scan l c)).map (k + ·) = o) : o = some k := by
  subst h; rw [← e]; rfl

theorem lens_cons (o : Option (List (List UInt8))) (c : List UInt8) (k : Nat) : (lens (o.map (c :: ·))).map (k + ·) = (lens o).map (k + 1 + ·) := by
  cases o with
  | none => rfl
  | some ns => simp [lens]; omega

theorem drop_at (S : ByteArray) (pos : Nat) (h : pos < S.size) : S.data.toList.drop pos = S[pos] :: S.data.toList.drop (pos + 1) := by
  rw [List.drop_eq_getElem_cons (by simpa using h)]; rfl

theorem cut_next (t S : ByteArray) (f pos : Nat) (hS : S.data.toList = t.data.toList ++ [47]) (hf : f ≤ pos) (hp : pos < S.size) (h47 : S[pos] ≠ 47) :
    (t.data.toList.drop f).take (pos + 1 - f) = (t.data.toList.drop f).take (pos - f) ++ [S[pos]] := by
  have hz : S.size = t.size + 1 := by
    have := congrArg List.length hS
    simpa using this
  have hlt : pos < t.size := by
    rcases Nat.lt_or_ge pos t.size with h | h
    · exact h
    · exfalso; apply h47
      have hq : pos = t.data.toList.length := by rw [size_toList]; omega
      have e : S.data.toList[pos]'(by rw [size_toList]; exact hp) = 47 := by
        simp only [hS]
        rw [List.getElem_append_right (by omega)]
        simp [hq]
      exact e
  have e : S[pos] = t.data.toList[pos]'(by rw [size_toList]; exact hlt) := by
    have : S[pos] = S.data.toList[pos]'(by rw [size_toList]; exact hp) := rfl
    rw [this]
    simp only [hS]
    rw [List.getElem_append_left]
  rw [e, show pos + 1 - f = (pos - f) + 1 by omega, List.take_succ_eq_append_getElem (by simp; omega)]
  simp [show f + (pos - f) = pos by omega]

set_option maxHeartbeats 1000000 in
set_option maxRecDepth 100000 in
theorem countNames_any (s : ByteArray) (w : World) (hs : s.size ≤ 140737488355328) :
    Calls Tryz.prog 106 #[.string s] w fun e w' => e = .returned (cntOf (lens (parse s.data.toList))) ∧ Below w.heap.size w w' := by
  by_cases hp : Lib.hasPrefix s.data.toList [47] = true
  · obtain ⟨l, hl⟩ : ∃ l, s.data.toList = 47 :: l := by
      cases e : s.data.toList with
      | nil => rw [e] at hp; simp [Lib.hasPrefix] at hp
      | cons b l => rw [e] at hp; simp [Lib.hasPrefix] at hp; exact ⟨l, by rw [hp]⟩
    have hl' : l.length + 1 = s.size := by rw [← size_toList, hl]; rfl
    have HT : Hid (Lib.trimPrefix s.data.toList [47] = l) := Lib.hid (by rw [Lib.trimPrefix, if_pos hp, hl]; rfl)
    obtain ⟨t, ht⟩ : ∃ t : ByteArray, t = ⟨l.toArray⟩ := ⟨_, rfl⟩
    have htl : t.data.toList = l := by rw [ht]
    obtain ⟨S, hSS⟩ : ∃ S : ByteArray, S = t ++ ⟨#[47]⟩ := ⟨_, rfl⟩
    have hS : S.data.toList = t.data.toList ++ [47] := by rw [hSS]; simp
    have HP : Hid (lens (parse s.data.toList) = lens (scan S.data.toList [])) := Lib.hid (by rw [hl, hS, htl]; rfl)
    have htz : t.size = l.length := by rw [← size_toList, htl]
    have hz : S.size = t.size + 1 := by
      have := congrArg List.length hS
      simpa using this
    have HC := Lib.hid (cut_next t S (hS := hS))
    have HS := Lib.hid hS
    have HD := Lib.hid (drop_at S)
    have HSS := Lib.hid hSS
    have Hht := Lib.hid ht
    have HHP := Lib.hid hp
    have qadd : ∀ W, Sem.run Tryz.prog (Op.stringOp .add t ⟨#[47]⟩) W = .ok (.string S) W := fun W => by rw [hSS]; exact run_string_add_sum W _ _ (by have : (ByteArray.mk #[47]).size = 1 := rfl; omega)
    have hz1 : S.size ≤ t.size + 1 := by omega
    have hz2 : t.size + 1 ≤ S.size := by omega
    have hz3 : t.size ≤ 140737488355328 := by omega
    clear hp ht hS hSS htl hl hl' htz hz
    go_enter Tryz.func106, Tryz.ntmps106
    go_wp2_with fail
    refine (Tryz.strings_CutPrefix s ⟨#[47]⟩ w).mono ?_
    rintro e w' ⟨rfl, rfl⟩
    rw [show (ByteArray.mk #[47]).data.toList = [47] from rfl, HHP.out, HT.out, ← Hht.out]
    go_wp2_with fail
    try rw [← HSS.out]
    go_loopw [6, 7] (fun names from_ wr => CntRel t S w' names from_ wr) (fun _ _ wr => S.size - wr.iterPos w'.heap.size)
    case atStart => exact ⟨0, 0, 0, rfl, rfl, rfl, by omega, by omega, by omega, rfl, by simp [lens, Function.comp_def]⟩
    case round =>
      obtain ⟨k, f, pos, rfl, rfl, rfl, hf, hpS, hk, hall, hsc⟩ := hrel.ex
      clear hrel
      have HA := Lib.hid hall; clear hall
      have HX := Lib.hid hsc; clear hsc
      by_cases hp : pos < S.size
      · have hd := HD.out pos hp
        by_cases hb : 128 ≤ S[pos].toNat
        · have hnx : ∀ ty, (Instr.next (.pointer (some ⟨w'.heap.size, 0, none⟩)) true ty).run Tryz.prog (w'.iter S pos) = _ := fun ty => run_next_any w' S pos ty hp
          have hr1 := (decode_high S pos hp hb).1
          have hr2 := decode_le S pos
          have HF : Hid (lens (parse s.data.toList) = none) := by
            have hl := lettN_high hb
            have h47 : S[pos] ≠ 47 := by intro e; rw [e] at hb; revert hb; decide
            refine Lib.hid ?_
            rw [HP.out, ← HX.out, hd, scan, if_neg (by rw [lett, hl]; simp), if_neg (by intro h; exact h47 h.1)]
            rfl
          clear hd
          generalize (Utf8.decode S pos).1 = r at hnx hr1 hr2
          generalize pos + (Utf8.decode S pos).2 = pos' at hnx
          have hne : (((r : Int) == 47)) = false := by simp; omega
          have hne' : (((r : Int) != 47)) = true := by simp; omega
          have hl := lettN_high hr1
          go_wp2_with (go_at_call 130; refine (inName_no r _ hr2 hl).mono ?_; rintro e w' ⟨rfl, rfl⟩)
          go_ret2
          exact ⟨by rw [HF.out]; rfl, (Below.refl _ _).alloc (Nat.le_refl _) _⟩
        · have hb' : S[pos].toNat < 128 := by omega
          have hnx : ∀ ty, (Instr.next (.pointer (some ⟨w'.heap.size, 0, none⟩)) true ty).run Tryz.prog (w'.iter S pos) = _ := fun ty => run_next_ascii w' S pos ty hp hb'
          by_cases hlt : lett S[pos] = true
          · have h47 := lett_ne hlt
            have hct := HC.out f pos hf hp h47
            have HA' : Hid (((t.data.toList.drop f).take (pos + 1 - f)).all lett = true) := Lib.hid (by rw [hct, List.all_append, HA.out]; simp [hlt])
            have HX' : Hid ((lens (scan (S.data.toList.drop (pos + 1)) ((t.data.toList.drop f).take (pos + 1 - f)))).map (k + ·) = lens (scan S.data.toList [])) := Lib.hid (by
              rw [hct, ← HX.out, hd, scan, if_pos hlt])
            have hlN : lettN S[pos].toNat = true := hlt
            clear hct hd hlt h47 HA HX
            generalize S[pos].toNat = r at hnx hb' hlN hb
            go_wp2_with (go_at_call 130; refine (inName_yes r _ (by omega) hlN).mono ?_; rintro e w' ⟨rfl, rfl⟩)
            go_roundw
            case rel => exact ⟨k, f, pos + 1, rfl, rfl, rfl, by omega, by omega, by omega, HA'.out, HX'.out⟩
            case measure => simp; omega
          · have hlt' : lett S[pos] = false := by simpa using hlt
            by_cases h47 : S[pos] = 47
            · have hr : S[pos].toNat = 47 := by rw [h47]; rfl
              rw [hr] at hnx
              have hpt : pos ≤ t.size := by omega
              have hsz : (t.extract f pos).size = pos - f := by rw [ByteArray.size_extract]; omega
              have hex : (t.extract f pos).data.toList = (t.data.toList.drop f).take (pos - f) := Lib.extract_data t f pos
              obtain ⟨nm, hnm⟩ : ∃ nm, nm = t.extract f pos := ⟨_, rfl⟩
              have HNM := Lib.hid hnm
              by_cases hn : nameB (t.extract f pos).data.toList = true
              · have HX' : Hid ((lens (scan (S.data.toList.drop (pos + 1)) [])).map (k + 1 + ·) = lens (scan S.data.toList [])) := Lib.hid (by
                  rw [← HX.out, hd, scan, if_neg (by simp [hlt']), if_pos ⟨h47, by rw [← hex]; exact hn⟩, lens_cons])
                clear hd hlt hlt' h47 hr hsz hex hnm
                go_wp2_with (first
                  | (go_at_call 130; refine (inName_slash _).mono ?_; rintro e w' ⟨rfl, rfl⟩)
                  | (go_at_call 131; refine (isName_any _ _).mono ?_; rintro e w' ⟨rfl, rfl⟩; simp only [hn]))
                go_roundw
                case rel => exact ⟨k + 1, pos + 1, pos + 1, by go_num, by go_num, rfl, by omega, by omega, by omega, by simp, by simpa using HX'.out⟩
                case measure => simp; omega
              · have hn' : nameB (t.extract f pos).data.toList = false := by simpa using hn
                have HF : Hid (lens (parse s.data.toList) = none) := by
                  refine Lib.hid ?_
                  rw [HP.out, ← HX.out, hd, scan, if_neg (by simp [hlt']), if_neg (by rw [← hex, hn']; simp)]
                  rfl
                clear hd hlt hlt' h47 hr hsz hex hnm hn
                go_wp2_with (first
                  | (go_at_call 130; refine (inName_slash _).mono ?_; rintro e w' ⟨rfl, rfl⟩)
                  | (go_at_call 131; refine (isName_any _ _).mono ?_; rintro e w' ⟨rfl, rfl⟩; simp only [hn']))
                go_ret2
                exact ⟨by rw [HF.out]; rfl, (Below.refl _ _).alloc (Nat.le_refl _) _⟩
            · have HF : Hid (lens (parse s.data.toList) = none) := by
                refine Lib.hid ?_
                rw [HP.out, ← HX.out, hd, scan, if_neg (by simp [hlt']), if_neg (by intro h; exact h47 h.1)]
                rfl
              have hlN : lettN S[pos].toNat = false := hlt'
              have hr47 : S[pos].toNat ≠ 47 := fun e => h47 (UInt8.toNat_inj.1 (by rw [e]; rfl))
              clear hd hlt hlt' h47
              generalize S[pos].toNat = r at hnx hb' hlN hb hr47
              have hne : (((r : Int) == 47)) = false := by simp; omega
              have hne' : (((r : Int) != 47)) = true := by simp; omega
              go_wp2_with (go_at_call 130; refine (inName_no r _ (by omega) hlN).mono ?_; rintro e w' ⟨rfl, rfl⟩)
              go_ret2
              exact ⟨by rw [HF.out]; rfl, (Below.refl _ _).alloc (Nat.le_refl _) _⟩
      · have hnx : ∀ ty, (Instr.next (.pointer (some ⟨w'.heap.size, 0, none⟩)) true ty).run Tryz.prog (w'.iter S pos) = _ := fun ty => run_next_end w' S pos ty hp
        have HF : Hid (lens (parse s.data.toList) = some k) := Lib.hid (by
          rw [HP.out]
          exact lens_map_nil k _ _ _ (List.drop_of_length_le (by rw [size_toList]; omega)) HX.out)
        clear HA HX
        go_wp2
        go_ret2
        exact ⟨by rw [HF.out]; rfl, (Below.refl _ _).alloc (Nat.le_refl _) _⟩
  · have hp' : Lib.hasPrefix s.data.toList [47] = false := by simpa using hp
    have HF : Hid (lens (parse s.data.toList) = none) := Lib.hid (by
      cases e : s.data.toList with
      | nil => rfl
      | cons b l =>
        rw [e] at hp'
        have : b ≠ 47 := by intro e; subst e; simp [Lib.hasPrefix] at hp'
        rw [parse, if_neg this]; rfl)
    have HT := Lib.hid hp'
    clear hp hp'
    go_enter Tryz.func106, Tryz.ntmps106
    go_wp2_with fail
    refine (Tryz.strings_CutPrefix s ⟨#[47]⟩ w).mono ?_
    rintro e w' ⟨rfl, rfl⟩
    rw [show (ByteArray.mk #[47]).data.toList = [47] from rfl, HT.out]
    go_wp2_with fail
    go_ret2
    exact ⟨by rw [HF.out]; rfl, Below.refl _ _⟩
end Go.Proofs.YtenbdoceaabecaaGreat

namespace Go.Proofs.YtenbdoceaabecaaGreat
open Go.ChangeShapes Go.WideShapes Go.ChangeAt Go.RowKit
set_option linter.unusedVariables false
set_option linter.unusedSimpArgs false

/-- Check's answer out of how many names there are -/
def checkO (len : Nat) : Option Nat → Int
  | none => 40
  | some n => if 60 < len ∨ 6 < n then 41 else 0
def checkS (s : ByteArray) : Int := if s.data.toList = [47] then 0 else checkO s.size (lens (parse s.data.toList))

theorem size_one {s : ByteArray} {b : UInt8} (h : s.data.toList = [b]) : s = ⟨#[b]⟩ := by
  cases s with
  | mk d => cases d with
    | mk l => simp at h; subst h; rfl
theorem eqSlash (s : ByteArray) : (s.toList == [47]) = decide (s.data.toList = [47]) := by
  rw [Lib.toList_data, Bool.eq_iff_iff]; simp

set_option maxHeartbeats 400000 in
theorem check_any (s : ByteArray) (w : World) (hs : s.size ≤ 140737488355328) :
    Calls Tryz.prog 78 #[.string s] w fun e w' => e = .returned (.int .i64 (checkS s)) ∧ Below w.heap.size w w' := by
  by_cases h : s.data.toList = [47]
  · have HF : Hid (checkS s = 0) := Lib.hid (by rw [checkS, if_pos h])
    obtain rfl := size_one h
    clear h
    go_enter Tryz.func78, Tryz.ntmps78
    go_wp2
    go_ret
    exact ⟨ret_int HF.out.symm, Below.refl _ _⟩
  · have HF := Lib.hid (show checkS s = checkO s.size (lens (parse s.data.toList)) by rw [checkS, if_neg h])
    have h1 : (s.toList == [47]) = false := by rw [eqSlash]; simpa using h
    clear h
    go_enter Tryz.func78, Tryz.ntmps78
    go_wp2_with fail
    refine (countNames_any s _ hs).mono ?_
    generalize lens (parse s.data.toList) = o at HF
    rintro e w1 ⟨rfl, hb⟩
    cases o with
    | none =>
      simp only [cntOf]
      go_wp2_with fail
      go_ret
      exact ⟨ret_int HF.out.symm, hb⟩
    | some n =>
      simp only [cntOf]
      by_cases h60 : 60 < s.size
      · have HG : Hid (checkS s = 41) := Lib.hid (by rw [HF.out, checkO, if_pos (.inl h60)])
        go_wp2_with fail
        go_ret
        exact ⟨ret_int HG.out.symm, hb⟩
      · by_cases h6 : 6 < n
        · have HG : Hid (checkS s = 41) := Lib.hid (by rw [HF.out, checkO, if_pos (.inr h6)])
          go_wp2_with fail
          go_ret
          exact ⟨ret_int HG.out.symm, hb⟩
        · have HG : Hid (checkS s = 0) := Lib.hid (by rw [HF.out, checkO, if_neg (by omega)])
          go_wp2_with fail
          go_ret
          exact ⟨ret_int HG.out.symm, hb⟩

/-- the last slash's place, -1: none -/
abbrev lastS (s : ByteArray) : Int := Lib.lastIndexByte s 47
def slashS : ByteArray := ⟨#[47]⟩
def parS (s : ByteArray) : ByteArray := if lastS s = 0 ∧ s ≠ slashS then slashS else s.extract 0 (lastS s).toNat
def baseS (s : ByteArray) : ByteArray := s.extract (lastS s + 1).toNat s.size
def kidS (p n : ByteArray) : ByteArray := if p.data.toList = [47] then p ++ n else p ++ slashS ++ n
def underS (p q : ByteArray) : Bool := decide ((kidS q ⟨#[]⟩).size < p.size) && Lib.hasPrefix p.data.toList (kidS q ⟨#[]⟩).data.toList

theorem lastS_bd (s : ByteArray) : -1 ≤ lastS s ∧ lastS s < s.size := by
  have := Lib.lastIdx_spec s 47 s.size
  rcases this with ⟨h, _⟩ | ⟨i, hi, h, _⟩
  · have : lastS s = -1 := h
    omega
  · have : lastS s = i := h
    omega

theorem neSlash {s : ByteArray} (h : (s.toList == [47]) = false) : s.data.toList ≠ [47] := by
  intro e; rw [eqSlash, e] at h; simp at h
theorem isSlash {s : ByteArray} (h : (s.toList == [47]) = true) : s.data.toList = [47] := by
  rw [eqSlash] at h; simpa using h
theorem slash_iff (s : ByteArray) : s = slashS ↔ s.data.toList = [47] :=
  ⟨fun h => by rw [h]; rfl, fun h => size_one h⟩

set_option maxHeartbeats 400000 in
theorem parent_any (s : ByteArray) (w : World) (hs : s.size ≤ 140737488355328) :
    Calls Tryz.prog 101 #[.string s] w fun e w' => e = .returned (.string (parS s)) ∧ w = w' := by
  have hb := lastS_bd s
  have HL : Hid (Lib.lastIndexByte s ((47 : Nat) : Int) = lastS s) := Lib.hid rfl
  have HP : Hid (parS s = if lastS s = 0 ∧ s ≠ slashS then slashS else s.extract 0 (lastS s).toNat) := Lib.hid rfl
  obtain ⟨k, hk⟩ : ∃ k, lastS s = k := ⟨_, rfl⟩
  rw [hk] at HL HP hb
  clear hk
  by_cases h0 : k = 0
  · subst h0
    by_cases h : s.data.toList = [47]
    · have HF : Hid (parS s = ByteArray.empty) := Lib.hid (by rw [HP.out, if_neg (by simp [slash_iff, h])]; exact ByteArray.ext (by simp))
      have h1 : (s.toList == [47]) = true := by rw [eqSlash]; simpa using h
      have h2 : (!s.toList == [47]) = false := by rw [h1]; rfl
      clear h
      go_enter Tryz.func101, Tryz.ntmps101
      go_wp2_with fail
      refine (Tryz.strings_LastIndex_one s ⟨#[47]⟩ rfl (by omega) w).mono ?_
      rintro e w' ⟨rfl, rfl⟩
      rw [show ((ByteArray.mk #[47])[0]'(by decide)).toNat = 47 from rfl, HL.out]
      go_wp2_with fail
      go_ret
      exact ⟨ret_val (congrArg Value.string HF.out.symm), rfl⟩
    · have HF : Hid (parS s = slashS) := Lib.hid (by rw [HP.out, if_pos ⟨rfl, by simp [slash_iff, h]⟩])
      have h1 : (s.toList == [47]) = false := by rw [eqSlash]; simpa using h
      have h2 : (!s.toList == [47]) = true := by rw [h1]; rfl
      clear h
      go_enter Tryz.func101, Tryz.ntmps101
      go_wp2_with fail
      refine (Tryz.strings_LastIndex_one s ⟨#[47]⟩ rfl (by omega) w).mono ?_
      rintro e w' ⟨rfl, rfl⟩
      rw [show ((ByteArray.mk #[47])[0]'(by decide)).toNat = 47 from rfl, HL.out]
      go_wp2_with fail
      go_ret
      exact ⟨ret_val (congrArg Value.string HF.out.symm), rfl⟩
  · have HF : Hid (parS s = s.extract 0 (max k 0).toNat) := Lib.hid (by
      rw [HP.out, if_neg (by simp [h0])]
      congr 1; omega)
    have h1 : (k == 0) = false := by simpa using h0
    clear h0
    go_enter Tryz.func101, Tryz.ntmps101
    go_wp2_with fail
    refine (Tryz.strings_LastIndex_one s ⟨#[47]⟩ rfl (by omega) w).mono ?_
    rintro e w' ⟨rfl, rfl⟩
    rw [show ((ByteArray.mk #[47])[0]'(by decide)).toNat = 47 from rfl, HL.out]
    go_wp2_with fail
    go_ret
    exact ⟨ret_val (congrArg Value.string HF.out.symm), rfl⟩

set_option maxHeartbeats 400000 in
theorem base_any (s : ByteArray) (w : World) (hs : s.size ≤ 140737488355328) :
    Calls Tryz.prog 102 #[.string s] w fun e w' => e = .returned (.string (baseS s)) ∧ w = w' := by
  have hb := lastS_bd s
  have HL : Hid (Lib.lastIndexByte s ((47 : Nat) : Int) = lastS s) := Lib.hid rfl
  have HP : Hid (baseS s = s.extract (lastS s + 1).toNat s.size) := Lib.hid rfl
  obtain ⟨k, hk⟩ : ∃ k, lastS s = k := ⟨_, rfl⟩
  rw [hk] at HL HP hb
  clear hk
  go_enter Tryz.func102, Tryz.ntmps102
  go_wp2_with fail
  refine (Tryz.strings_LastIndex_one s ⟨#[47]⟩ rfl (by omega) w).mono ?_
  rintro e w' ⟨rfl, rfl⟩
  rw [show ((ByteArray.mk #[47])[0]'(by decide)).toNat = 47 from rfl, HL.out]
  go_wp2_with fail
  go_ret
  exact ⟨ret_val (congrArg Value.string HP.out.symm), rfl⟩

set_option maxHeartbeats 400000 in
theorem kid_any (p n : ByteArray) (w : World) (hp : p.size ≤ 140737488355328) (hn : n.size ≤ 140737488355328) :
    Calls Tryz.prog 167 #[.string p, .string n] w fun e w' => e = .returned (.string (kidS p n)) ∧ w = w' := by
  have H1 : Hid (∀ (h : (p.toList == [47]) = true), kidS p n = p ++ n) := Lib.hid fun h => by rw [kidS, if_pos (isSlash h)]
  have H2 : Hid (∀ (h : (p.toList == [47]) = false), kidS p n = p ++ slashS ++ n) := Lib.hid fun h => by rw [kidS, if_neg (neSlash h)]
  go_enter Tryz.func167, Tryz.ntmps167
  go_wp2
  · go_ret
    exact ⟨ret_val (congrArg Value.string (H1.out ‹_›).symm), rfl⟩
  · go_ret
    exact ⟨ret_val (congrArg Value.string (H2.out ‹_›).symm), rfl⟩

theorem kidS_size (p n : ByteArray) : p.size ≤ (kidS p n).size ∧ (kidS p n).size ≤ p.size + n.size + 1 := by
  unfold kidS
  split
  · rw [ByteArray.size_append]; omega
  · rw [ByteArray.size_append, ByteArray.size_append]; have : slashS.size = 1 := rfl; omega

set_option maxHeartbeats 400000 in
theorem under_any (p q : ByteArray) (w : World) (hp : p.size ≤ 140737488355328) (hq : q.size ≤ 140737488355328) :
    Calls Tryz.prog 146 #[.string p, .string q] w fun e w' => e = .returned (.bool (underS p q)) ∧ w = w' := by
  have hk := kidS_size q ⟨#[]⟩
  have HU : Hid (underS p q = (decide ((kidS q ⟨#[]⟩).size < p.size) && Lib.hasPrefix p.data.toList (kidS q ⟨#[]⟩).data.toList)) := Lib.hid rfl
  have hz : (ByteArray.mk #[]).size = 0 := rfl
  obtain ⟨t, ht⟩ : ∃ t, kidS q ⟨#[]⟩ = t := ⟨_, rfl⟩
  have HK := Lib.hid ht
  rw [ht] at hk HU
  have hk2 : t.size ≤ 140737488355330 := by omega
  clear ht hz
  by_cases hlt : t.size < p.size
  · go_enter Tryz.func146, Tryz.ntmps146
    go_wp2_with fail
    refine (kid_any q ⟨#[]⟩ _ hq (by decide)).mono ?_
    rintro e w' ⟨rfl, rfl⟩
    rw [HK.out]
    go_wp2_with fail
    refine (Tryz.strings_HasPrefix p t _).mono ?_
    rintro e w' ⟨rfl, rfl⟩
    go_wp2_with fail
    go_ret
    exact ⟨ret_bool (by rw [HU.out]; simp [hlt]), rfl⟩
  · go_enter Tryz.func146, Tryz.ntmps146
    go_wp2_with fail
    refine (kid_any q ⟨#[]⟩ _ hq (by decide)).mono ?_
    rintro e w' ⟨rfl, rfl⟩
    rw [HK.out]
    go_wp2_with fail
    go_ret
    exact ⟨ret_bool (by rw [HU.out]; simp [hlt]), rfl⟩
end Go.Proofs.YtenbdoceaabecaaGreat
