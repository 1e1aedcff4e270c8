/- The codec's numbers, in plain mathematics: sevens, zigzag, what a reader finds. No program. -/
import Derived.Laws.BitsAllLaws
import Derived.Laws.DeepNot64
namespace Go.Proofs.Ytngcfnffbggniaa

/-! ## sevens -/
def sevF : Nat → Nat → List UInt8
  | 0, _ => []
  | f + 1, n => if n < 128 then [UInt8.ofNat n] else UInt8.ofNat (n % 128 + 128) :: sevF f (n / 128)
def sev (n : Nat) : List UInt8 := sevF (n + 1) n

theorem sevF_eq : ∀ f g n : Nat, n < f → n < g → sevF f n = sevF g n := by
  intro f
  induction f with
  | zero => intro g n h; omega
  | succ f ih =>
    intro g n hf hg
    cases g with
    | zero => omega
    | succ g =>
      simp only [sevF]
      by_cases h : n < 128
      · rw [if_pos h, if_pos h]
      · rw [if_neg h, if_neg h, ih g (n / 128) (by omega) (by omega)]

theorem sev_lt {n : Nat} (h : n < 128) : sev n = [UInt8.ofNat n] := by simp [sev, sevF, h]
theorem sev_ge {n : Nat} (h : 128 ≤ n) : sev n = UInt8.ofNat (n % 128 + 128) :: sev (n / 128) := by
  unfold sev
  rw [show sevF (n + 1) n = UInt8.ofNat (n % 128 + 128) :: sevF n (n / 128) from by simp only [sevF]; rw [if_neg (by omega)], sevF_eq n (n / 128 + 1) (n / 128) (by omega) (by omega)]

theorem sev_length_pos (n : Nat) : 0 < (sev n).length := by
  by_cases h : n < 128
  · simp [sev_lt h]
  · simp [sev_ge (by omega : 128 ≤ n)]

theorem sev_length_le (k : Nat) : ∀ n : Nat, n < 128 ^ (k + 1) → (sev n).length ≤ k + 1 := by
  induction k with
  | zero => intro n h; rw [sev_lt (by simpa using h)]; simp
  | succ k ih =>
    intro n h
    by_cases hn : n < 128
    · rw [sev_lt hn]; simp
    · rw [sev_ge (by omega)]
      have : n / 128 < 128 ^ (k + 1) := by
        rw [Nat.pow_succ] at h
        omega
      have := ih (n / 128) this
      simp only [List.length_cons]
      omega

theorem sev_length_u64 {n : Nat} (h : n ≤ 18446744073709551615) : (sev n).length ≤ 10 :=
  sev_length_le 9 n (by have : (128 : Nat) ^ (9 + 1) = 1180591620717411303424 := by decide
                        omega)

/-! ## what a reader finds -/
def seek : Nat → Nat → List UInt8 → Nat × Nat × Nat
  | _, _, [] => (0, 0, 10)
  | i, acc, b :: r =>
    if i = 9 ∧ 1 < b.toNat then (0, 0, 11)
    else if 128 ≤ b.toNat then seek (i + 1) (acc + b.toNat % 128 * 128 ^ i) r
    else if b.toNat = 0 ∧ 0 < i then (0, 0, 11)
    else (acc + b.toNat * 128 ^ i, i + 1, 0)

theorem toNat_ofNat_lt {n : Nat} (h : n < 256) : (UInt8.ofNat n).toNat = n := by simp [UInt8.toNat_ofNat', Nat.mod_eq_of_lt h]

theorem pow9 : (128 : Nat) ^ 9 = 9223372036854775808 := by decide

/-- what was laid is found -/
theorem seek_sev : ∀ (f n i acc : Nat) (r : List UInt8), n < f → i ≤ 9 → n * 128 ^ i ≤ 18446744073709551615 → (i = 0 ∨ 0 < n) →
    seek i acc (sev n ++ r) = (acc + n * 128 ^ i, i + (sev n).length, 0) := by
  intro f
  induction f with
  | zero => intro n i acc r h; omega
  | succ f ih =>
    intro n i acc r hf hi hn hp
    have h9 : i = 9 → n ≤ 1 := by
      intro e; subst e; rw [pow9] at hn; omega
    by_cases h : n < 128
    · rw [sev_lt h]
      simp only [List.cons_append, List.nil_append, seek, toNat_ofNat_lt (show n < 256 by omega), List.length_cons, List.length_nil]
      rw [if_neg (by omega), if_neg (by omega), if_neg (by omega)]
    · rw [sev_ge (by omega)]
      have hlt : n % 128 + 128 < 256 := by omega
      simp only [List.cons_append, seek, toNat_ofNat_lt hlt, List.length_cons]
      have hi9 : i ≠ 9 := fun e => by have := h9 e; omega
      rw [if_neg (by omega), if_pos (by omega)]
      have e1 : (n % 128 + 128) % 128 = n % 128 := by omega
      have hdm : n / 128 * 128 ≤ n := by omega
      have e2 : n / 128 * 128 ^ (i + 1) ≤ 18446744073709551615 := by
        rw [Nat.pow_succ, Nat.mul_comm (128 ^ i) 128, ← Nat.mul_assoc]
        exact Nat.le_trans (Nat.mul_le_mul_right _ hdm) hn
      rw [ih (n / 128) (i + 1) _ r (by omega) (by omega) e2 (by omega), e1]
      have e3 : n * 128 ^ i = n % 128 * 128 ^ i + n / 128 * 128 ^ (i + 1) := by
        rw [Nat.pow_succ, Nat.mul_comm (128 ^ i) 128, ← Nat.mul_assoc, ← Nat.add_mul]
        congr 1
        omega
      rw [e3]
      simp only [Prod.mk.injEq, and_true]
      constructor <;> omega

theorem seek_lay {n : Nat} (h : n ≤ 18446744073709551615) (r : List UInt8) : seek 0 0 (sev n ++ r) = (n, (sev n).length, 0) := by
  have := seek_sev (n + 1) n 0 0 r (by omega) (by omega) (by simpa using h) (Or.inl rfl)
  simpa using this

/-- what is found was laid -/
theorem seek_found : ∀ (l : List UInt8) (i acc n k : Nat), seek i acc l = (n, k, 0) →
    ∃ m, n = acc + m * 128 ^ i ∧ k = i + (sev m).length ∧ l.take (sev m).length = sev m ∧ (sev m).length ≤ l.length ∧ (i = 0 ∨ 0 < m) := by
  intro l
  induction l with
  | nil => intro i acc n k h; simp [seek] at h
  | cons b r ih =>
    intro i acc n k h
    have hb := b.toNat_lt
    simp only [seek] at h
    by_cases h1 : i = 9 ∧ 1 < b.toNat
    · rw [if_pos h1] at h; simp at h
    · rw [if_neg h1] at h
      by_cases h2 : 128 ≤ b.toNat
      · rw [if_pos h2] at h
        obtain ⟨m, e1, e2, e3, e4, e5⟩ := ih _ _ _ _ h
        have hm : 0 < m := by omega
        refine ⟨m * 128 + b.toNat % 128, ?_, ?_, ?_, ?_, by omega⟩
        · rw [e1, Nat.pow_succ, Nat.add_mul, Nat.mul_assoc m 128, Nat.mul_comm 128 (128 ^ i)]
          omega
        · rw [sev_ge (by omega), show (m * 128 + b.toNat % 128) / 128 = m from by omega, List.length_cons]; omega
        · rw [sev_ge (by omega), show (m * 128 + b.toNat % 128) / 128 = m from by omega, show (m * 128 + b.toNat % 128) % 128 + 128 = b.toNat from by omega]
          simp [e3]
        · rw [sev_ge (by omega), show (m * 128 + b.toNat % 128) / 128 = m from by omega]
          simpa using e4
      · rw [if_neg h2] at h
        by_cases h3 : b.toNat = 0 ∧ 0 < i
        · rw [if_pos h3] at h; simp at h
        · rw [if_neg h3] at h
          simp only [Prod.mk.injEq, and_true] at h
          refine ⟨b.toNat, h.1.symm, ?_, ?_, ?_, by omega⟩
          · rw [sev_lt (by omega)]; simpa using h.2.symm
          · rw [sev_lt (by omega)]; simp
          · rw [sev_lt (by omega)]; simp

/-- whatever is found fits 64 bits, and its errors are 10 and 11 -/
theorem seek_fits : ∀ (l : List UInt8) (i acc : Nat), i ≤ 9 → acc < 128 ^ i → (seek i acc l).1 ≤ 18446744073709551615 := by
  intro l
  induction l with
  | nil => intro i acc _ _; simp [seek]
  | cons b r ih =>
    intro i acc hi ha
    have hb := b.toNat_lt
    simp only [seek]
    have key : ∀ d, d < 128 → acc + d * 128 ^ i < 128 ^ (i + 1) := by
      intro d hd
      rw [Nat.pow_succ, Nat.mul_comm (128 ^ i) 128]
      have : (d + 1) * 128 ^ i ≤ 128 * 128 ^ i := Nat.mul_le_mul_right _ (by omega)
      rw [Nat.add_mul] at this
      omega
    by_cases h1 : i = 9 ∧ 1 < b.toNat
    · rw [if_pos h1]; simp
    · rw [if_neg h1]
      by_cases h2 : 128 ≤ b.toNat
      · rw [if_pos h2]
        exact ih _ _ (by omega) (key _ (by omega))
      · rw [if_neg h2]
        by_cases h3 : b.toNat = 0 ∧ 0 < i
        · rw [if_pos h3]; simp
        · rw [if_neg h3]
          show acc + b.toNat * 128 ^ i ≤ _
          by_cases hi9 : i = 9
          · subst hi9
            rw [pow9] at *
            have : b.toNat ≤ 1 := by omega
            have : b.toNat * 9223372036854775808 ≤ 1 * 9223372036854775808 := Nat.mul_le_mul_right _ this
            omega
          · have h8 := key b.toNat (by omega)
            have : (128 : Nat) ^ (i + 1) ≤ 128 ^ 9 := Nat.pow_le_pow_right (by omega) (by omega)
            rw [pow9] at this
            omega

theorem seek_err : ∀ (l : List UInt8) (i acc : Nat), ((seek i acc l).2.2 = 0 ∧ (seek i acc l).2.1 ≤ i + l.length) ∨ (seek i acc l = (0, 0, 10)) ∨ (seek i acc l = (0, 0, 11)) := by
  intro l
  induction l with
  | nil => intro i acc; simp [seek]
  | cons b r ih =>
    intro i acc
    simp only [seek]
    by_cases h1 : i = 9 ∧ 1 < b.toNat
    · rw [if_pos h1]; simp
    · rw [if_neg h1]
      by_cases h2 : 128 ≤ b.toNat
      · rw [if_pos h2]
        rcases ih (i + 1) (acc + b.toNat % 128 * 128 ^ i) with h | h | h
        · left; exact ⟨h.1, by simp only [List.length_cons]; omega⟩
        · right; left; exact h
        · right; right; exact h
      · rw [if_neg h2]
        by_cases h3 : b.toNat = 0 ∧ 0 < i
        · rw [if_pos h3]; simp
        · rw [if_neg h3]; left; simp

/-! ## zigzag -/
def zz (n : Int) : Nat := if 0 ≤ n then 2 * n.toNat else 2 * (-n - 1).toNat + 1
def unzz (z : Nat) : Int := if z % 2 = 0 then (z / 2 : Nat) else -((z / 2 : Nat) : Int) - 1

theorem unzz_zz (n : Int) : unzz (zz n) = n := by unfold unzz zz; split <;> split <;> omega
theorem zz_unzz (z : Nat) : zz (unzz z) = z := by unfold unzz zz; split <;> split <;> omega
theorem zz_le {n : Int} (h1 : -9223372036854775808 ≤ n) (h2 : n ≤ 9223372036854775807) : zz n ≤ 18446744073709551615 := by unfold zz; split <;> omega
theorem unzz_lo {z : Nat} (h : z ≤ 18446744073709551615) : -9223372036854775808 ≤ unzz z := by unfold unzz; split <;> omega
theorem unzz_hi {z : Nat} (h : z ≤ 18446744073709551615) : unzz z ≤ 9223372036854775807 := by unfold unzz; split <;> omega

theorem xor_ones (x : Nat) (h : x < 18446744073709551616) : 18446744073709551615 ^^^ x = 18446744073709551615 - x := by
  have e : (18446744073709551615 : Nat) = 2 ^ 64 - 1 := by decide
  rw [e]
  apply Nat.eq_of_testBit_eq
  intro i
  rw [Nat.testBit_xor, Nat.testBit_two_pow_sub_one, show 2 ^ 64 - 1 - x = 2 ^ 64 - (x + 1) from by omega, Nat.testBit_two_pow_sub_succ (by simpa using h)]
  by_cases hi : i < 64
  · simp [hi]
  · have hx : x.testBit i = false := Nat.testBit_lt_two_pow (Nat.lt_of_lt_of_le (by simpa using h : x < 2 ^ 64) (Nat.pow_le_pow_right (by omega) (by omega)))
    simp [hi, hx]

theorem zig_neg {n : Int} (h1 : -9223372036854775808 ≤ n) (h2 : n < 0) :
    bits BinOp.xor IntKind.u64 IntKind.u64.max (IntKind.u64.wrap (IntKind.u64.wrap n * 2)) = (zz n : Int) := by
  have e1 : IntKind.u64.max = 18446744073709551615 := by decide
  have e2 : IntKind.u64.wrap (IntKind.u64.wrap n * 2) = (2 * n) % 18446744073709551616 := by
    rw [IntKind.wrap_u64, IntKind.wrap_u64]; omega
  rw [e1, e2, u64_xor _ _ (by omega) (by omega) (by omega) (by omega)]
  have hx : (((18446744073709551615 : Int).toNat ^^^ (2 * n % 18446744073709551616).toNat : Nat) : Int) = ((18446744073709551615 - (2 * n % 18446744073709551616).toNat : Nat) : Int) := by
    rw [show (18446744073709551615 : Int).toNat = 18446744073709551615 from by decide, xor_ones _ (by omega)]
  rw [hx]
  unfold zz
  split <;> omega

theorem zig_pos {n : Int} (h : 0 ≤ n) : n * 2 = (zz n : Int) := by unfold zz; split <;> omega

theorem unzig_odd {z : Nat} (h : z ≤ 18446744073709551615) (hb : (bits BinOp.and IntKind.u64 (z : Int) 1 == 1) = true) :
    bits BinOp.xor IntKind.i64 (-1) ((z : Int) / 2) = unzz z := by
  have e : bits BinOp.and IntKind.u64 (z : Int) 1 = ((z % 2 : Nat) : Int) := by
    have := u64_and_nat z 1 (by omega) (by omega)
    rw [nat_mask1] at this
    simpa using this
  rw [e] at hb
  have hz : z % 2 = 1 := by simp at hb; omega
  have := i64_not (z / 2) (by omega)
  rw [show ((z : Int) / 2) = ((z / 2 : Nat) : Int) from by omega, this]
  unfold unzz
  split <;> omega

theorem unzig_even {z : Nat} (h : z ≤ 18446744073709551615) (hb : (bits BinOp.and IntKind.u64 (z : Int) 1 == 1) = false) :
    (z : Int) / 2 = unzz z := by
  have e : bits BinOp.and IntKind.u64 (z : Int) 1 = ((z % 2 : Nat) : Int) := by
    have := u64_and_nat z 1 (by omega) (by omega)
    rw [nat_mask1] at this
    simpa using this
  rw [e] at hb
  have hz : z % 2 = 0 := by simp at hb; omega
  unfold unzz
  split <;> omega
end Go.Proofs.Ytngcfnffbggniaa
