/- acl.isName, areDigits, isID, and the document's own user, IsID. -/
import Derived.Test.YtpjanfclobpkjaaDoorProg
import Derived.Test.YtpjanfclobpkjaaDoorUp
import Derived.Test.YtpjanfclobpkjaaDoorShelf
import Derived.WalkKit
import Derived.ProofKit
import Derived.Lib.Hide
import Derived.Outline
import Derived.Deep.Light
namespace Go.Proofs.YtpjanfclobpkjaaDoor
open Go.ChangeShapes Go.WideShapes Go.ChangeAt Go.RowKit
set_option linter.unusedVariables false
set_option linter.unusedSimpArgs false

theorem ret_val {a b : Value} (h : a = b) : Ending.returned a = .returned b := by rw [h]
theorem ret_bool {a b : Bool} (h : a = b) : Ending.returned (.bool a) = .returned (.bool b) := by rw [h]
theorem ret_int {k : IntKind} {a b : Int} (h : a = b) : Ending.returned (.int k a) = .returned (.int k b) := by rw [h]
theorem size_toList (s : ByteArray) : s.data.toList.length = s.size := rfl
theorem take_snoc (s : ByteArray) (k : Nat) (h : k < s.size) : s.data.toList.take (k + 1) = s.data.toList.take k ++ [s[k]] := by
  rw [List.take_succ_eq_append_getElem (by simpa using h)]; rfl

set_option maxHeartbeats 400000 in
theorem within_any (b f l : Nat) (w : World) {x : Bool} (hx : (decide (f ≤ b) && decide (b ≤ l)) = x) :
    Calls Tryd.prog 28 #[.int .u8 b, .int .u8 f, .int .u8 l] w fun e w' => e = .returned (.bool x) ∧ w = w' := by
  have HX := Lib.hid hx; clear hx
  by_cases h1 : f ≤ b
  · by_cases h2 : b ≤ l
    · have HF : Hid (x = true) := Lib.hid (by rw [← HX.out]; simp [h1, h2])
      go_enter Tryd.func28, Tryd.ntmps28
      go_wp2
      go_ret
      exact ⟨ret_bool (by rw [HF.out]), rfl⟩
    · have HF : Hid (x = false) := Lib.hid (by rw [← HX.out]; simp [h2])
      go_enter Tryd.func28, Tryd.ntmps28
      go_wp2
      go_ret
      exact ⟨ret_bool (by rw [HF.out]), rfl⟩
  · have HF : Hid (x = false) := Lib.hid (by rw [← HX.out]; simp [h1])
    go_enter Tryd.func28, Tryd.ntmps28
    go_wp2
    go_ret
    exact ⟨ret_bool (by rw [HF.out]), rfl⟩

set_option maxHeartbeats 400000 in
theorem isDecimal_any (b : Nat) (w : World) {x : Bool} (hx : decB b = x) :
    Calls Tryd.prog 27 #[.int .u8 b] w fun e w' => e = .returned (.bool x) ∧ w = w' := by
  have HX := Lib.hid hx; clear hx
  go_enter Tryd.func27, Tryd.ntmps27
  go_wp2_with (go_at_call 28; refine (within_any b 48 57 _ HX.out).mono ?_; rintro e w' ⟨rfl, rfl⟩)
  go_ret
  exact ⟨rfl, rfl⟩

/-- one byte more -/
theorem all_snoc {P : Nat → Bool} (s : ByteArray) (k : Nat) (h : k < s.size) {x : Bool} (hx : P s[k].toNat = x) (ha : (s.data.toList.take k).all (fun b => P b.toNat) = true) :
    (s.data.toList.take (k + 1)).all (fun b => P b.toNat) = x := by
  rw [take_snoc s k h, List.all_append, ha, ← hx]; simp
theorem all_not {P : Nat → Bool} (s : ByteArray) (k : Nat) (h : k < s.size) (hx : P s[k].toNat = false) : s.data.toList.all (fun b => P b.toNat) = false := by
  rw [List.all_eq_false]
  exact ⟨s[k], List.getElem_mem (l := s.data.toList) (n := k) (by simpa using h), by simp [hx]⟩
theorem all_whole {P : Nat → Bool} (s : ByteArray) (k : Nat) (h : ¬ k < s.size) (ha : (s.data.toList.take k).all (fun b => P b.toNat) = true) : s.data.toList.all (fun b => P b.toNat) = true := by
  rwa [List.take_of_length_le (by rw [size_toList]; omega)] at ha

set_option maxHeartbeats 1000000 in
theorem isName_any (s : ByteArray) (w : World) {x : Bool} (hx : nameL s.data.toList = x) :
    Calls Tryd.prog 19 #[.string s] w fun e w' => e = .returned (.bool x) ∧ w = w' := by
  have HX := Lib.hid hx; clear hx
  by_cases h0 : s.toList = []
  · have HF : Hid (x = false) := Lib.hid (by rw [← HX.out]; simp [nameL, ← Lib.toList_data, h0])
    go_enter Tryd.func19, Tryd.ntmps19
    go_wp2
    go_ret
    exact ⟨ret_bool (by rw [HF.out]), rfl⟩
  · have g0 : (!s.toList.isEmpty) = true := by simpa using h0
    have g1 : s.toList.isEmpty = false := by simpa using h0
    have hpos : 0 < s.size := by
      rw [← size_toList, ← Lib.toList_data]; exact List.length_pos_iff.2 h0
    by_cases h12 : 12 < s.size
    · have HF : Hid (x = false) := Lib.hid (by rw [← HX.out]; simp [nameL]; omega)
      go_enter Tryd.func19, Tryd.ntmps19
      go_wp2
      go_ret
      exact ⟨ret_bool (by rw [HF.out]), rfl⟩
    · have HN : Hid (x = s.data.toList.all fun b => nmB b.toNat) := Lib.hid (by
        rw [← HX.out, nameL, decide_eq_true (show 1 ≤ s.data.toList.length by rw [size_toList]; omega), decide_eq_true (show s.data.toList.length ≤ 12 by rw [size_toList]; omega)]; rfl)
      go_enter Tryd.func19, Tryd.ntmps19
      go_wp2
      clear h0 g0 g1
      go_loop [13] (fun i => ∃ k : Nat, k ≤ s.size ∧ i = .int .i64 k ∧ (s.data.toList.take k).all (fun b => nmB b.toNat) = true) (fun i => s.size - (intOf i).toNat)
      case atStart => exact ⟨0, Nat.zero_le _, rfl, rfl⟩
      case round =>
        obtain ⟨k, hk, rfl, hall⟩ := hrel
        have HA := Lib.hid hall; clear hall
        by_cases hlt : k < s.size
        · have h256 := s[k].toNat_lt
          have HD : Hid (decB s[k].toNat = decB s[k].toNat) := Lib.hid rfl
          cases hd : decB s[k].toNat
          · cases hn : (decide (97 ≤ s[k].toNat) && decide (s[k].toNat ≤ 122))
            · have HF : Hid (x = false) := Lib.hid (by rw [HN.out]; exact all_not s k hlt (by rw [nmB, hd, hn]; rfl))
              have H1 := Lib.hid hd
              have H2 := Lib.hid hn
              clear hd hn HD
              go_wp2_with (first | (go_at_call 27; refine (isDecimal_any _ _ H1.out).mono ?_; rintro e w' ⟨rfl, rfl⟩) | (go_at_call 28; refine (within_any _ 97 122 _ H2.out).mono ?_; rintro e w' ⟨rfl, rfl⟩))
              go_ret
              exact ⟨ret_bool (by rw [HF.out]), rfl⟩
            · have HT : Hid ((s.data.toList.take (k + 1)).all (fun b => nmB b.toNat) = true) := Lib.hid (all_snoc s k hlt (by rw [nmB, hd, hn]; rfl) HA.out)
              have H1 := Lib.hid hd
              have H2 := Lib.hid hn
              clear hd hn HD
              go_wp2_with (first | (go_at_call 27; refine (isDecimal_any _ _ H1.out).mono ?_; rintro e w' ⟨rfl, rfl⟩) | (go_at_call 28; refine (within_any _ 97 122 _ H2.out).mono ?_; rintro e w' ⟨rfl, rfl⟩))
              go_round
              case rel => exact ⟨k + 1, by omega, by go_num, HT.out⟩
              case measure => simp [intOf]; omega
          · have HT : Hid ((s.data.toList.take (k + 1)).all (fun b => nmB b.toNat) = true) := Lib.hid (all_snoc s k hlt (by rw [nmB, hd]; rfl) HA.out)
            have H1 := Lib.hid hd
            clear hd HD
            go_wp2_with (first | (go_at_call 27; refine (isDecimal_any _ _ H1.out).mono ?_; rintro e w' ⟨rfl, rfl⟩))
            go_round
            case rel => exact ⟨k + 1, by omega, by go_num, HT.out⟩
            case measure => simp [intOf]; omega
        · have HF : Hid (x = true) := Lib.hid (by rw [HN.out]; exact all_whole s k hlt HA.out)
          go_wp2
          go_ret
          exact ⟨ret_bool (by rw [HF.out]), rfl⟩

set_option maxHeartbeats 1000000 in
theorem areDigits_any (s : ByteArray) (w : World) {x : Bool} (hx : hexL s.data.toList = x) :
    Calls Tryd.prog 25 #[.string s] w fun e w' => e = .returned (.bool x) ∧ w = w' := by
  have HX := Lib.hid hx; clear hx
  by_cases h16 : s.size = 16
  · have HN : Hid (x = s.data.toList.all fun b => hxB b.toNat) := Lib.hid (by
      rw [← HX.out, hexL, decide_eq_true (show s.data.toList.length = 16 by rw [size_toList]; omega)]; rfl)
    have hle : s.size ≤ 16 := by omega
    have g16 : ((s.size : Int) != 16) = false := by rw [h16]; rfl
    go_enter Tryd.func25, Tryd.ntmps25
    clear h16
    go_wp2
    clear g16
    go_loop [9] (fun i => ∃ k : Nat, k ≤ s.size ∧ i = .int .i64 k ∧ (s.data.toList.take k).all (fun b => hxB b.toNat) = true) (fun i => s.size - (intOf i).toNat)
    case atStart => exact ⟨0, Nat.zero_le _, rfl, rfl⟩
    case round =>
      obtain ⟨k, hk, rfl, hall⟩ := hrel
      have HA := Lib.hid hall; clear hall
      by_cases hlt : k < s.size
      · have h256 := s[k].toNat_lt
        cases hd : decB s[k].toNat
        · cases hn : (decide (97 ≤ s[k].toNat) && decide (s[k].toNat ≤ 102))
          · have HF : Hid (x = false) := Lib.hid (by rw [HN.out]; exact all_not s k hlt (by rw [hxB, hd, hn]; rfl))
            have H1 := Lib.hid hd
            have H2 := Lib.hid hn
            clear hd hn
            go_wp2_with (first | (go_at_call 27; refine (isDecimal_any _ _ H1.out).mono ?_; rintro e w' ⟨rfl, rfl⟩) | (go_at_call 28; refine (within_any _ 97 102 _ H2.out).mono ?_; rintro e w' ⟨rfl, rfl⟩))
            go_ret
            exact ⟨ret_bool (by rw [HF.out]), rfl⟩
          · have HT : Hid ((s.data.toList.take (k + 1)).all (fun b => hxB b.toNat) = true) := Lib.hid (all_snoc s k hlt (by rw [hxB, hd, hn]; rfl) HA.out)
            have H1 := Lib.hid hd
            have H2 := Lib.hid hn
            clear hd hn
            go_wp2_with (first | (go_at_call 27; refine (isDecimal_any _ _ H1.out).mono ?_; rintro e w' ⟨rfl, rfl⟩) | (go_at_call 28; refine (within_any _ 97 102 _ H2.out).mono ?_; rintro e w' ⟨rfl, rfl⟩))
            go_round
            case rel => exact ⟨k + 1, by omega, by go_num, HT.out⟩
            case measure => simp [intOf]; omega
        · have HT : Hid ((s.data.toList.take (k + 1)).all (fun b => hxB b.toNat) = true) := Lib.hid (all_snoc s k hlt (by rw [hxB, hd]; rfl) HA.out)
          have H1 := Lib.hid hd
          clear hd
          go_wp2_with (first | (go_at_call 27; refine (isDecimal_any _ _ H1.out).mono ?_; rintro e w' ⟨rfl, rfl⟩))
          go_round
          case rel => exact ⟨k + 1, by omega, by go_num, HT.out⟩
          case measure => simp [intOf]; omega
      · have HF : Hid (x = true) := Lib.hid (by rw [HN.out]; exact all_whole s k hlt HA.out)
        go_wp2
        go_ret
        exact ⟨ret_bool (by rw [HF.out]), rfl⟩
  · have HF : Hid (x = false) := Lib.hid (by rw [← HX.out]; simp [hexL]; omega)
    have g16 : ((s.size : Int) != 16) = true := by simp; omega
    go_enter Tryd.func25, Tryd.ntmps25
    clear h16
    go_wp2
    go_ret
    exact ⟨ret_bool (by rw [HF.out]), rfl⟩
end Go.Proofs.YtpjanfclobpkjaaDoor
