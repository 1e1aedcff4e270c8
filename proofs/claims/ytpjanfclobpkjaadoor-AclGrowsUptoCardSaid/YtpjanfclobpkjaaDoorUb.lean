/- strings.Cut at one byte, acl.isID; the document's own user, IsID. -/
import Derived.Test.YtpjanfclobpkjaaDoorUa
import Derived.Deep.QuietTactic
import Derived.BigQuiet
import Derived.RegionTactic
namespace Go.Proofs.YtpjanfclobpkjaaDoor
open Go.ChangeShapes Go.WideShapes Go.ChangeAt Go.RowKit
set_option linter.unusedVariables false
set_option linter.unusedSimpArgs false

theorem below_drewN (w : World) (n : Nat) : Below w.heap.size w (w.drewN n) := by
  induction n with
  | zero => exact Below.refl _ _
  | succ k ih => exact ih.drew
theorem extract_take (s : ByteArray) (o : Nat) : (s.extract 0 o).data.toList = s.data.toList.take o := by
  simp [ByteArray.data_extract]
theorem extract_drop (s : ByteArray) (o : Nat) : (s.extract o s.size).data.toList = s.data.toList.drop o := by
  rw [ByteArray.data_extract, show s.size = s.data.size from rfl]
  simp only [Array.toList_extract, List.extract]
  exact List.take_of_length_le (by simp)

set_option maxHeartbeats 1000000 in
theorem cut_none (s : ByteArray) (w : World) (h : Lib.indexByte s.data.toList 58 = -1) :
    Calls Tryd.prog 36 #[.string s, .string ⟨#[58]⟩] w fun e w' => e = .returned (.tuple #[.string s, .string ByteArray.empty, .bool false]) ∧ Below w.heap.size w w' := by
  have H := Lib.hid h; clear h
  go_enter Tryd.func36, Tryd.ntmps36
  go_wp2_with (go_at_call 46; refine (Tryd.stringslite_Index_one _ _ _).mono ?_; rw [H.out]; rintro e w' ⟨rfl, rfl⟩)
  go_ret3
  exact ⟨rfl, Below.refl _ _⟩

set_option maxHeartbeats 1000000 in
theorem cut_some (s : ByteArray) (w : World) (o : Nat) (h : Lib.indexByte s.data.toList 58 = (o : Int)) (ho : o < s.size) (hs : s.size ≤ maxLen) :
    Calls Tryd.prog 36 #[.string s, .string ⟨#[58]⟩] w fun e w' => e = .returned (.tuple #[.string (s.extract 0 o), .string (s.extract (o + 1) s.size), .bool true]) ∧ Below w.heap.size w w' := by
  have H := Lib.hid h; clear h
  unfold maxLen at hs
  have c1 : IntKind.i64.wrap ((o : Int) + 1) = (o : Int) + 1 := IntWalk.i64_in _ (by omega)
  have H1 := Lib.hid c1; clear c1
  go_enter Tryd.func36, Tryd.ntmps36
  go_wp2_with (go_at_call 46; refine (Tryd.stringslite_Index_one _ _ _).mono ?_; rw [H.out]; rintro e w' ⟨rfl, rfl⟩)
  have z1 : (⟨#[58]⟩ : ByteArray).size = 1 := rfl
  have c1 := H1.out
  have c2 : (0 : Int) ≤ (o : Int) + 1 := by omega
  have c3 : ((o : Int) + 1).toNat = o + 1 := by omega
  have c4 : (o : Int) ≤ s.size := by omega
  have c5 : (o : Int) + 1 ≤ s.size := by omega
  go_quiet (fail)
  go_wp2
  go_ret3
  exact ⟨rfl, below_drewN _ _⟩

set_option maxHeartbeats 1000000 in
theorem scut_none (s : ByteArray) (w : World) (h : Lib.indexByte s.data.toList 58 = -1) :
    Calls Tryd.prog 24 #[.string s, .string ⟨#[58]⟩] w fun e w' => e = .returned (.tuple #[.string s, .string ByteArray.empty, .bool false]) ∧ Below w.heap.size w w' := by
  have H := Lib.hid h; clear h
  go_enter Tryd.func24, Tryd.ntmps24
  go_wp2_with fail
  refine (cut_none s _ H.out).mono ?_
  rintro e w1 ⟨rfl, hb1⟩
  go_wp2
  go_ret3
  exact ⟨rfl, hb1⟩
set_option maxHeartbeats 1000000 in
theorem scut_some (s : ByteArray) (w : World) (o : Nat) (h : Lib.indexByte s.data.toList 58 = (o : Int)) (ho : o < s.size) (hs : s.size ≤ maxLen) :
    Calls Tryd.prog 24 #[.string s, .string ⟨#[58]⟩] w fun e w' => e = .returned (.tuple #[.string (s.extract 0 o), .string (s.extract (o + 1) s.size), .bool true]) ∧ Below w.heap.size w w' := by
  have H := Lib.hid h; clear h
  go_enter Tryd.func24, Tryd.ntmps24
  go_wp2_with fail
  refine (cut_some s _ o H.out ho hs).mono ?_
  rintro e w1 ⟨rfl, hb1⟩
  go_wp2
  go_ret3
  exact ⟨rfl, hb1⟩

theorem idP_none {l : List UInt8} (h : Lib.indexByte l 58 = -1) : idP l = (l == worldL) := by unfold idP; rw [h]; rfl
theorem idP_some {l : List UInt8} {o : Nat} (h : Lib.indexByte l 58 = (o : Int)) : idP l = (nameL (l.take o) && hexL (l.drop (o + 1))) := by unfold idP; rw [h]

set_option maxHeartbeats 1000000 in
theorem isID_any (s : ByteArray) (w : World) (hs : s.size ≤ maxLen) {x : Bool} (hx : idD s.data.toList = x) :
    Calls Tryd.prog 15 #[.string s] w fun e w' => e = .returned (.bool x) ∧ Below w.heap.size w w' := by
  have HX := Lib.hid (idP_eq s.data.toList); rw [hx] at HX; clear hx
  have hge := Lib.indexByte_ge s.data.toList 58
  by_cases hn : Lib.indexByte s.data.toList 58 = -1
  · have HF : Hid (x = (s.toList == worldL)) := Lib.hid (by rw [← HX.out, idP_none hn, Lib.toList_data])
    have HN := Lib.hid hn
    have HX' := HX
    clear hn hge HX
    by_cases hw : s.toList = [119, 111, 114, 108, 100]
    · have HG : Hid (x = true) := Lib.hid (by rw [HF.out, hw]; rfl)
      go_enter Tryd.func15, Tryd.ntmps15
      have HW := Lib.hid hw; clear hw
      go_wp2_with fail
      refine (scut_none s _ HN.out).mono ?_
      rintro e w1 ⟨rfl, hb1⟩
      have g1 : (s.toList == [119, 111, 114, 108, 100]) = true := by simpa using HW.out
      go_wp2
      go_ret
      exact ⟨ret_bool HG.out.symm, hb1⟩
    · have HG : Hid (x = false) := Lib.hid (by rw [HF.out]; simpa [worldL] using hw)
      go_enter Tryd.func15, Tryd.ntmps15
      have HW := Lib.hid hw; clear hw
      go_wp2_with fail
      refine (scut_none s _ HN.out).mono ?_
      rintro e w1 ⟨rfl, hb1⟩
      have g1 : (s.toList == [119, 111, 114, 108, 100]) = false := by simpa using HW.out
      go_wp2
      go_ret
      exact ⟨ret_bool HG.out.symm, hb1⟩
  · obtain ⟨o, ho⟩ : ∃ o : Nat, Lib.indexByte s.data.toList 58 = (o : Int) := ⟨(Lib.indexByte s.data.toList 58).toNat, by omega⟩
    have hlt : o < s.size := by
      have := (List.getElem?_eq_some_iff.1 (Lib.indexByte_some ho).1).1
      rwa [size_toList] at this
    have HO := Lib.hid ho
    have HF : Hid (x = (nameL (s.extract 0 o).data.toList && hexL (s.extract (o + 1) s.size).data.toList)) := Lib.hid (by rw [← HX.out, idP_some ho, extract_take, extract_drop])
    clear hn hge HX ho
    cases h1 : nameL (s.extract 0 o).data.toList
    · have HG : Hid (x = false) := Lib.hid (by rw [HF.out, h1]; rfl)
      have H1 := Lib.hid h1
      clear h1
      go_enter Tryd.func15, Tryd.ntmps15
      go_wp2_with fail
      refine (scut_some s _ o HO.out hlt hs).mono ?_
      rintro e w1 ⟨rfl, hb1⟩
      go_wp2_with (go_at_call 19; refine (isName_any _ _ H1.out).mono ?_; rintro e w' ⟨rfl, rfl⟩)
      go_ret
      exact ⟨ret_bool HG.out.symm, hb1⟩
    · cases h2 : hexL (s.extract (o + 1) s.size).data.toList
      · have HG : Hid (x = false) := Lib.hid (by rw [HF.out, h1, h2]; rfl)
        have H1 := Lib.hid h1
        have H2 := Lib.hid h2
        clear h1 h2
        go_enter Tryd.func15, Tryd.ntmps15
        go_wp2_with fail
        refine (scut_some s _ o HO.out hlt hs).mono ?_
        rintro e w1 ⟨rfl, hb1⟩
        go_wp2_with (first | (go_at_call 19; refine (isName_any _ _ H1.out).mono ?_; rintro e w' ⟨rfl, rfl⟩) | (go_at_call 25; refine (areDigits_any _ _ H2.out).mono ?_; rintro e w' ⟨rfl, rfl⟩))
        go_ret
        exact ⟨ret_bool HG.out.symm, hb1⟩
      · have HG : Hid (x = true) := Lib.hid (by rw [HF.out, h1, h2]; rfl)
        have H1 := Lib.hid h1
        have H2 := Lib.hid h2
        clear h1 h2
        go_enter Tryd.func15, Tryd.ntmps15
        go_wp2_with fail
        refine (scut_some s _ o HO.out hlt hs).mono ?_
        rintro e w1 ⟨rfl, hb1⟩
        go_wp2_with (first | (go_at_call 19; refine (isName_any _ _ H1.out).mono ?_; rintro e w' ⟨rfl, rfl⟩) | (go_at_call 25; refine (areDigits_any _ _ H2.out).mono ?_; rintro e w' ⟨rfl, rfl⟩))
        go_ret
        exact ⟨ret_bool HG.out.symm, hb1⟩

theorem nmB_cases {b : Nat} : (nmB b = true ∧ ((48 ≤ b ∧ b ≤ 57) ∨ (97 ≤ b ∧ b ≤ 122))) ∨ (nmB b = false ∧ (b < 48 ∨ (57 < b ∧ b < 97) ∨ 122 < b)) := by
  cases h : nmB b
  · right; refine ⟨rfl, ?_⟩; simp [nmB, decB] at h; omega
  · left; refine ⟨rfl, ?_⟩; simp [nmB, decB] at h; omega
theorem hxB_cases {b : Nat} : (hxB b = true ∧ ((48 ≤ b ∧ b ≤ 57) ∨ (97 ≤ b ∧ b ≤ 102))) ∨ (hxB b = false ∧ (b < 48 ∨ (57 < b ∧ b < 97) ∨ 102 < b)) := by
  cases h : hxB b
  · right; refine ⟨rfl, ?_⟩; simp [hxB, decB] at h; omega
  · left; refine ⟨rfl, ?_⟩; simp [hxB, decB] at h; omega

set_option maxHeartbeats 1000000 in
theorem user_any (s : ByteArray) (w : World) {x : Bool} (hx : nameL s.data.toList = x) :
    Calls Tryd.prog 23 #[.string s] w fun e w' => e = .returned (.bool x) ∧ w = w' := by
  have HX := Lib.hid hx; clear hx
  by_cases h1 : s.size < 1
  · have HF : Hid (x = false) := Lib.hid (by rw [← HX.out]; simp [nameL]; omega)
    go_enter Tryd.func23, Tryd.ntmps23
    go_wp2
    go_ret
    exact ⟨ret_bool (by rw [HF.out]), rfl⟩
  · by_cases h12 : 12 < s.size
    · have HF : Hid (x = false) := Lib.hid (by rw [← HX.out]; simp [nameL]; omega)
      go_enter Tryd.func23, Tryd.ntmps23
      go_wp2
      go_ret
      exact ⟨ret_bool (by rw [HF.out]), rfl⟩
    · have HN : Hid (x = s.data.toList.all fun b => nmB b.toNat) := Lib.hid (by
        rw [← HX.out, nameL, decide_eq_true (show 1 ≤ s.data.toList.length by rw [size_toList]; omega), decide_eq_true (show s.data.toList.length ≤ 12 by rw [size_toList]; omega)]; rfl)
      go_enter Tryd.func23, Tryd.ntmps23
      go_wp2
      go_loop [3] (fun i => ∃ k : Nat, k ≤ s.size ∧ i = .int .i64 k ∧ (s.data.toList.take k).all (fun b => nmB b.toNat) = true) (fun i => s.size - (intOf i).toNat)
      case atStart => exact ⟨0, Nat.zero_le _, rfl, rfl⟩
      case round =>
        obtain ⟨k, hk, rfl, hall⟩ := hrel
        have HA := Lib.hid hall; clear hall
        by_cases hlt : k < s.size
        · have h256 := s[k].toNat_lt
          rcases nmB_cases (b := s[k].toNat) with ⟨hn, hc⟩ | ⟨hn, hc⟩
          · have HT : Hid ((s.data.toList.take (k + 1)).all (fun b => nmB b.toNat) = true) := Lib.hid (all_snoc s k hlt hn HA.out)
            clear hn
            rcases hc with hc | hc
            all_goals
              go_wp2
              go_round
              case rel => exact ⟨k + 1, by omega, by go_num, HT.out⟩
              case measure => simp [intOf]; omega
          · have HF : Hid (x = false) := Lib.hid (by rw [HN.out]; exact all_not s k hlt hn)
            clear hn
            rcases hc with hc | hc | hc
            all_goals
              go_wp2
              go_ret
              exact ⟨ret_bool (by rw [HF.out]), rfl⟩
        · have HF : Hid (x = true) := Lib.hid (by rw [HN.out]; exact all_whole s k hlt HA.out)
          go_wp2
          go_ret
          exact ⟨ret_bool (by rw [HF.out]), rfl⟩

theorem drop_snoc (s : ByteArray) (n k : Nat) (h : k < s.size) (hn : n ≤ k) : (s.data.toList.take (k + 1)).drop n = (s.data.toList.take k).drop n ++ [s[k]] := by
  rw [take_snoc s k h, List.drop_append_of_le_length (by rw [List.length_take, size_toList]; omega)]

set_option maxHeartbeats 2000000 in
theorem refID_any (s : ByteArray) (w : World) (hs : s.size ≤ maxLen) {x : Bool} (hx : idD s.data.toList = x) :
    Calls Tryd.prog 16 #[.string s] w fun e w' => e = .returned (.bool x) ∧ w = w' := by
  have HX := Lib.hid hx; clear hx
  unfold maxLen at hs
  by_cases hw : s.toList = [119, 111, 114, 108, 100]
  · have HG : Hid (x = true) := Lib.hid (by rw [← HX.out, idD, ← Lib.toList_data, hw]; rfl)
    have g1 : (s.toList == [119, 111, 114, 108, 100]) = true := by simpa using hw
    clear hw
    go_enter Tryd.func16, Tryd.ntmps16
    go_wp2
    go_ret
    exact ⟨ret_bool HG.out.symm, rfl⟩
  · have g1 : (s.toList == [119, 111, 114, 108, 100]) = false := by simpa using hw
    have HW : Hid ((s.data.toList == worldL) = false) := Lib.hid (by rw [← Lib.toList_data]; exact g1)
    clear hw
    by_cases h18 : s.size < 18
    · have HG : Hid (x = false) := Lib.hid (by rw [← HX.out, idD, HW.out, decide_eq_false (by rw [size_toList]; omega)]; rfl)
      go_enter Tryd.func16, Tryd.ntmps16
      go_wp2
      go_ret
      exact ⟨ret_bool HG.out.symm, rfl⟩
    · obtain ⟨n, hn⟩ : ∃ n : Nat, s.size = n + 17 := ⟨s.size - 17, by omega⟩
      have hnlt : n < s.size := by omega
      have HM : Hid ((s.size : Int) - 17 = (n : Int)) := Lib.hid (by omega)
      have HV : Hid (x = ((s.data.toList[n]? == some 58) && nameL (s.extract 0 n).data.toList && (s.data.toList.drop (n + 1)).all fun b => hxB b.toNat)) := Lib.hid (by
        rw [← HX.out, idD, HW.out, decide_eq_true (show 18 ≤ s.data.toList.length by rw [size_toList]; omega), extract_take, size_toList, show s.size - 17 = n by omega, show s.size - 16 = n + 1 by omega]; simp)
      have hget : s.data.toList[n]? = some s[n] := List.getElem?_eq_getElem (l := s.data.toList) (i := n) (by simpa using hnlt)
      have h256 := s[n].toNat_lt
      have hb1 : n + 17 ≤ 9223372036854775807 := by omega
      have hb2 : 1 ≤ n := by omega
      have HN := Lib.hid hn
      clear hn
      by_cases hc : s[n].toNat = 58
      · have hc1 : ((s[n].toNat : Int) != 58) = false := by rw [hc]; rfl
        have hc2 : (s.data.toList[n]? == some 58) = true := by
          rw [hget, beq_iff_eq]; congr 1; apply UInt8.toNat_inj.1; rw [hc]; rfl
        have HV2 : Hid (x = (nameL (s.extract 0 n).data.toList && (s.data.toList.drop (n + 1)).all fun b => hxB b.toNat)) := Lib.hid (by rw [HV.out, hc2]; simp)
        clear hc hc2 HV hget
        cases hu : nameL (s.extract 0 n).data.toList
        · have HG : Hid (x = false) := Lib.hid (by rw [HV2.out, hu]; rfl)
          have HU := Lib.hid hu
          clear hu HV2
          have hm := HM.out
          go_enter Tryd.func16, Tryd.ntmps16
          go_wp2_with (go_at_call 23; refine (user_any _ _ HU.out).mono ?_; rintro e w' ⟨rfl, rfl⟩)
          go_ret
          exact ⟨ret_bool HG.out.symm, rfl⟩
        · have HV3 : Hid (x = (s.data.toList.drop (n + 1)).all fun b => hxB b.toNat) := Lib.hid (by rw [HV2.out, hu]; rfl)
          have HU := Lib.hid hu
          clear hu HV2
          have hm := HM.out
          go_enter Tryd.func16, Tryd.ntmps16
          go_wp2_with (go_at_call 23; refine (user_any _ _ HU.out).mono ?_; rintro e w' ⟨rfl, rfl⟩)
          clear hm
          go_loop [4] (fun i => ∃ k : Nat, n + 1 ≤ k ∧ k ≤ s.size ∧ i = .int .i64 k ∧ ((s.data.toList.take k).drop (n + 1)).all (fun b => hxB b.toNat) = true) (fun i => s.size - (intOf i).toNat)
          case atStart => exact ⟨n + 1, Nat.le_refl _, by omega, by go_num, by rw [List.drop_of_length_le (by rw [List.length_take]; omega)]; rfl⟩
          case round =>
            obtain ⟨k, hk1, hk, rfl, hall⟩ := hrel
            have HA := Lib.hid hall; clear hall
            by_cases hlt : k < s.size
            · have h256 := s[k].toNat_lt
              have HS := Lib.hid (drop_snoc s (n + 1) k hlt hk1)
              rcases hxB_cases (b := s[k].toNat) with ⟨hn, hc⟩ | ⟨hn, hc⟩
              · have HT : Hid (((s.data.toList.take (k + 1)).drop (n + 1)).all (fun b => hxB b.toNat) = true) := Lib.hid (by rw [HS.out, List.all_append, HA.out]; simp [hn])
                clear hn
                rcases hc with hc | hc
                all_goals
                  go_wp2
                  go_round
                  case rel => exact ⟨k + 1, by omega, by omega, by go_num, HT.out⟩
                  case measure => simp [intOf]; omega
              · have HF : Hid (x = false) := Lib.hid (by
                  rw [HV3.out, List.all_eq_false]
                  refine ⟨s[k], ?_, by simp [hn]⟩
                  rw [List.mem_iff_getElem?]
                  exact ⟨k - (n + 1), by rw [List.getElem?_drop, show n + 1 + (k - (n + 1)) = k by omega]; exact List.getElem?_eq_getElem (l := s.data.toList) (i := k) (by simpa using hlt)⟩)
                clear hn
                rcases hc with hc | hc | hc
                all_goals
                  go_wp2
                  go_ret
                  exact ⟨ret_bool (by rw [HF.out]), rfl⟩
            · have HF : Hid (x = true) := Lib.hid (by
                have h := HA.out
                rw [List.take_of_length_le (by rw [size_toList]; omega)] at h
                rw [HV3.out, h])
              go_wp2
              go_ret
              exact ⟨ret_bool (by rw [HF.out]), rfl⟩
      · have hc1 : ((s[n].toNat : Int) != 58) = true := by simp; omega
        have HG : Hid (x = false) := Lib.hid (by
          rw [HV.out, hget]
          have : (some s[n] == some (58 : UInt8)) = false := by
            rw [beq_eq_false_iff_ne]; intro e; injection e with e; rw [e] at hc; exact hc rfl
          rw [this]; rfl)
        clear hc HV hget
        have hm := HM.out
        go_enter Tryd.func16, Tryd.ntmps16
        go_wp2
        go_ret
        exact ⟨ret_bool HG.out.symm, rfl⟩
end Go.Proofs.YtpjanfclobpkjaaDoor
