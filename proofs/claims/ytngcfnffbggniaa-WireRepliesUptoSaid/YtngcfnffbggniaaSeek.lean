/- getSevens. -/
import Derived.Test.YtngcfnffbggniaaWcalls
namespace Go.Proofs.Ytngcfnffbggniaa
open Go.ChangeShapes Go.WideShapes Go.ChangeAt Go.RowKit
set_option linter.unusedVariables false

/-- what getSevens gives back -/
def sevRes (r : Nat × Nat × Nat) : Value := .tuple #[.int .u64 r.1, .int .i64 r.2.1, .int .i64 r.2.2]

structure SeekRel (l : List UInt8) (acc i : Value) : Prop where
  ex : ∃ (k n : Nat), i = .int .i64 k ∧ acc = .int .u64 n ∧ k ≤ l.length ∧ k ≤ 9 ∧ n < 128 ^ k ∧ seek k n (l.drop k) = seek 0 0 l

theorem pow7 (k : Nat) : (2 : Nat) ^ (7 * k) = 128 ^ k := by rw [Nat.pow_mul]

theorem or_step (n x k : Nat) (hx : x < 256) (hk : k ≤ 9) (hn : n < 128 ^ k) (h9 : k = 9 → x ≤ 1) :
    bits BinOp.or IntKind.u64 (n : Int) (IntKind.u64.wrap (IntKind.u64.wrap (bits BinOp.and IntKind.u8 (x : Int) 127) * 2 ^ (7 * k))) = ((n + x % 128 * 128 ^ k : Nat) : Int) := by
  have e1 : bits BinOp.and IntKind.u8 (x : Int) 127 = ((x % 128 : Nat) : Int) := by
    have := bits_mask .u8 8 (by decide) wraps_u8 7 (by decide) (x : Int) (by omega) (by omega)
    have e : ((2 : Int) ^ 7 - 1) = 127 := by decide
    have e2 : ((2 : Int) ^ 7) = 128 := by decide
    rw [e, e2] at this
    rw [this]; omega
  have e2 : IntKind.u64.wrap ((x % 128 : Nat) : Int) = ((x % 128 : Nat) : Int) := by rw [IntKind.wrap_u64]; omega
  have hpk : (128 : Nat) ^ k ≤ 128 ^ 9 := Nat.pow_le_pow_right (by omega) hk
  have hb : x % 128 * 128 ^ k < 18446744073709551616 := by
    by_cases h : k = 9
    · subst h
      rw [pow9]
      have := h9 rfl
      have : x % 128 * 9223372036854775808 ≤ 1 * 9223372036854775808 := Nat.mul_le_mul_right _ (by omega)
      omega
    · have h8 : (128 : Nat) ^ k ≤ 128 ^ 8 := Nat.pow_le_pow_right (by omega) (by omega)
      have e8 : (128 : Nat) ^ 8 = 72057594037927936 := by decide
      rw [e8] at h8
      have := Nat.mul_le_mul (show x % 128 ≤ 127 by omega) h8
      omega
  have e3 : IntKind.u64.wrap (((x % 128 : Nat) : Int) * 2 ^ (7 * k)) = ((x % 128 * 128 ^ k : Nat) : Int) := by
    have : (((x % 128 : Nat) : Int) * 2 ^ (7 * k)) = ((x % 128 * 128 ^ k : Nat) : Int) := by
      rw [← pow7]; push_cast; rfl
    rw [this, IntKind.wrap_u64]
    omega
  rw [e1, e2, e3, u64_or_nat _ _ (by rw [pow9] at hpk; omega) hb, Nat.or_comm]
  have hj := nat_join (7 * k) (x % 128 * 128 ^ k) n (by rw [pow7]; exact Nat.mul_mod_left _ _) (by rw [pow7]; exact hn)
  rw [hj, Nat.add_comm]

theorem seek_drop {l : List UInt8} {k : Nat} (h : k < l.length) (n : Nat) : seek k n (l.drop k) =
    if k = 9 ∧ 1 < l[k].toNat then (0, 0, 11)
    else if 128 ≤ l[k].toNat then seek (k + 1) (n + l[k].toNat % 128 * 128 ^ k) (l.drop (k + 1))
    else if l[k].toNat = 0 ∧ 0 < k then (0, 0, 11)
    else (n + l[k].toNat * 128 ^ k, k + 1, 0) := by
  rw [List.drop_eq_getElem_cons h]; rfl

theorem acc_lt {n x k : Nat} (hn : n < 128 ^ k) : n + x % 128 * 128 ^ k < 128 ^ (k + 1) := by
  rw [Nat.pow_succ, Nat.mul_comm (128 ^ k) 128]
  have : (x % 128 + 1) * 128 ^ k ≤ 128 * 128 ^ k := Nat.mul_le_mul_right _ (by omega)
  rw [Nat.add_mul] at this
  omega

theorem ret3 {a b : Nat × Nat × Nat} (h : a = b) : Ending.returned (sevRes a) = .returned (sevRes b) := by rw [h]

set_option maxRecDepth 100000 in
theorem get_any (w : World) (g off c : Nat) (l : List UInt8) (hl : l.length ≤ 9223372036854775807) (hcell : ∀ i (h : i < l.length), w.cell? ⟨g, off + i, none⟩ = some (.int .u8 (l[i].toNat : Int))) :
    Calls Try.prog 158 #[.slice (some ⟨g, off, none⟩) l.length c] w fun e w' => e = .returned (sevRes (seek 0 0 l)) ∧ w = w' := by
  have HC := Lib.hid hcell; clear hcell
  go_enter Try.func158, Try.ntmps158
  go_wp2
  go_loop [5, 10] (fun acc i => SeekRel l acc i) (fun _ i => l.length - (intOf i).toNat)
  case atStart => exact ⟨0, 0, rfl, rfl, Nat.zero_le _, by omega, by decide, rfl⟩
  case round =>
    obtain ⟨k, n, rfl, rfl, hk, hk9, hn, hs⟩ := hrel.ex
    clear hrel
    by_cases hlt : k < l.length
    · have hcell := HC.out k hlt
      have HD := Lib.hid (seek_drop hlt n)
      have HS := Lib.hid hs; clear hs
      generalize hx : l[k].toNat = x at hcell
      have HX := Lib.hid hx; clear hx
      have hx256 : x < 256 := by rw [← HX.out]; exact l[k].toNat_lt
      by_cases h9 : k = 9 ∧ 1 < x
      · obtain ⟨h9, h1⟩ := h9
        subst h9
        have HF : Hid (seek 0 0 l = (0, 0, 11)) := by rw [← HS.out, HD.out, HX.out, if_pos ⟨rfl, h1⟩]; exact rfl
        go_wp2
        go_ret3
        exact ⟨ret3 HF.out.symm, rfl⟩
      · have HO := Lib.hid (or_step n x k hx256 hk9 hn (fun e => by omega))
        have HA := Lib.hid (acc_lt (x := x) hn)
        have HNF := Lib.hid h9
        by_cases h128 : 128 ≤ x
        · have h9' : k ≠ 9 := by omega
          clear h9
          go_wp2
          have hfin : seek (k + 1) (n + x % 128 * 128 ^ k) (l.drop (k + 1)) = seek 0 0 l := by
            rw [← HS.out, HD.out, HX.out, if_neg HNF.out, if_pos h128]
          exact ⟨⟨k + 1, _, rfl, congrArg (Value.int .u64) HO.out, by omega, by omega, HA.out, hfin⟩, by simp [intOf]; omega⟩
        · have hmod : x % 128 = x := by omega
          rw [hmod] at HO
          by_cases h0 : x = 0 ∧ 0 < k
          · obtain ⟨h0, hk0⟩ := h0
            have HF : Hid (seek 0 0 l = (0, 0, 11)) := by rw [← HS.out, HD.out, HX.out, if_neg HNF.out, if_neg h128, if_pos ⟨h0, hk0⟩]; exact rfl
            subst h0
            by_cases h9' : k = 9
            · subst h9'
              clear h9
              go_wp2
              go_ret3
              exact ⟨ret3 HF.out.symm, rfl⟩
            · clear h9
              go_wp2
              go_ret3
              exact ⟨ret3 HF.out.symm, rfl⟩
          · have HF : Hid (seek 0 0 l = (n + x * 128 ^ k, k + 1, 0)) := by rw [← HS.out, HD.out, HX.out, if_neg HNF.out, if_neg h128, if_neg h0]; exact rfl
            have hres : Hid (∀ y : Int, y = ((n + x * 128 ^ k : Nat) : Int) → Ending.returned (.tuple #[.int .u64 y, .int .i64 (k + 1), .int .i64 0]) = .returned (sevRes (seek 0 0 l))) := by
              intro y hy; rw [HF.out, hy]; rfl
            by_cases h9' : k = 9
            · subst h9'
              obtain rfl : x = 1 := by omega
              clear h9 h0
              go_wp2
              go_ret3
              exact ⟨hres.out _ HO.out, rfl⟩
            · clear h9
              by_cases hx0 : x = 0
              · obtain rfl : k = 0 := by omega
                subst hx0
                clear h0
                rw [Nat.add_zero] at hcell
                go_wp2
                go_ret3
                exact ⟨hres.out _ HO.out, rfl⟩
              · clear h0
                have hx1 : ((x : Int) == 0) = false := by simp; omega
                go_wp2
                go_ret3
                exact ⟨hres.out _ HO.out, rfl⟩
    · have HF : Hid (seek 0 0 l = (0, 0, 10)) := by rw [← hs, List.drop_of_length_le (by omega)]; exact rfl
      clear hs
      go_wp2
      go_ret3
      exact ⟨ret3 HF.out.symm, rfl⟩

theorem get_nil (w : World) (a : Option Addr) (c : Nat) :
    Calls Try.prog 158 #[.slice a 0 c] w fun e w' => e = .returned (sevRes (seek 0 0 [])) ∧ w = w' := by
  have HF : Hid (seek 0 0 [] = (0, 0, 10)) := rfl
  go_enter Try.func158, Try.ntmps158
  go_wp2
  go_loop [5, 10] (fun acc i => i = .int .i64 0 ∧ acc = .int .u64 0) (fun _ i => 0 - (intOf i).toNat)
  case atStart => exact ⟨rfl, rfl⟩
  case round =>
    obtain ⟨rfl, rfl⟩ := hrel
    go_wp2
    go_ret3
    exact ⟨ret3 HF.out.symm, rfl⟩
end Go.Proofs.Ytngcfnffbggniaa
