/- The document's own reading of marks and records, plainly: it is the program's. -/
import Derived.Test.YtmfngbgdmlnlcaaJkh
import Derived.Laws.BitsAllLaws
namespace Go.Proofs.Ytmfngbgdmlnlcaa
open Go.ChangeShapes Go.WideShapes Go.ChangeAt Go.RowKit
set_option linter.unusedVariables false
set_option linter.unusedSimpArgs false
theorem valS_wrap (z : Int) (c : UInt8) : valS z c = wrap64 (z * 256 + c.toNat) := by
  have hc : c.toNat < 256 := c.toNat_lt
  unfold valS
  rw [show wrap64 (c.toNat : Int) = (c.toNat : Int) by unfold wrap64; omega]
  obtain ⟨X, hX⟩ : ∃ X : Nat, (wrap64 (z * 256)) % 18446744073709551616 = (X : Int) := ⟨((wrap64 (z * 256)) % 18446744073709551616).toNat, by omega⟩
  have h1 : (BitVec.ofInt 64 (wrap64 (z * 256))).toNat = X := by
    rw [BitVec.toNat_ofInt]
    show (wrap64 (z * 256) % 18446744073709551616).toNat = X
    omega
  have h2 : (BitVec.ofInt 64 (c.toNat : Int)).toNat = c.toNat := by
    rw [BitVec.toNat_ofInt]
    show ((c.toNat : Int) % 18446744073709551616).toNat = _
    omega
  have h8 : X % 2 ^ 8 = 0 := by
    unfold wrap64 at hX
    show X % 256 = 0
    omega
  have hb : bits BinOp.or IntKind.i64 (wrap64 (z * 256)) (c.toNat : Int) = IntKind.i64.wrap (((BitVec.ofInt 64 (wrap64 (z * 256)) ||| BitVec.ofInt 64 (c.toNat : Int)).toNat : Nat) : Int) := rfl
  rw [hb, BitVec.toNat_or, h1, h2, nat_join 8 X c.toNat h8 (by simpa using hc), IntKind.wrap_i64]
  unfold wrap64 at hX ⊢
  omega
theorem valI_wrap : ∀ (k : Nat) (l : List UInt8), l.length = k → valI l = wrap64 (valN l)
  | 0, l, hl => by rw [List.length_eq_zero_iff.1 hl]; simp [valI, valN, wrap64]
  | k + 1, l, hl => by
    rcases l.eq_nil_or_concat with rfl | ⟨t, c, rfl⟩
    · simp at hl
    · rw [List.concat_eq_append] at hl ⊢
      have ht : t.length = k := by simpa using hl
      rw [valI_snoc, valI_wrap k t ht, valS_wrap, valN_snoc]
      unfold wrap64; omega
theorem highL_shift : ∀ (k : Nat) (m q : Int), highL (m + 256 ^ k * q) k = highL m k
  | 0, _, _ => rfl
  | k + 1, m, q => by
    rw [highL_succ, highL_succ]
    have e : m + (256 : Int) ^ (k + 1) * q = m + 256 * (256 ^ k * q) := by rw [Int.pow_succ, Int.mul_comm (256 ^ k) 256, Int.mul_assoc]
    rw [e, Int.add_mul_ediv_left _ _ (by decide), Int.add_mul_emod_self_left, highL_shift k]
theorem highL_wrap (k : Nat) (hk : k ≤ 8) (n : Int) : highL (wrap64 n) k = highL n k := by
  obtain ⟨q, hq⟩ : ∃ q, wrap64 n = n + 18446744073709551616 * q := ⟨-((n + 9223372036854775808) / 18446744073709551616), by unfold wrap64; omega⟩
  have e : (18446744073709551616 : Int) = 256 ^ k * 256 ^ (8 - k) := by
    rw [← Int.pow_add, show k + (8 - k) = 8 by omega]; rfl
  rw [hq, e, Int.mul_assoc, highL_shift]
theorem highL_valN : ∀ (k : Nat) (l : List UInt8), l.length = k → highL (valN l) k = l
  | 0, l, hl => by rw [List.length_eq_zero_iff.1 hl]; rfl
  | k + 1, l, hl => by
    rcases l.eq_nil_or_concat with rfl | ⟨t, c, rfl⟩
    · simp at hl
    · rw [List.concat_eq_append] at hl ⊢
      have ht : t.length = k := by simpa using hl
      have hc : c.toNat < 256 := c.toNat_lt
      rw [highL_succ, valN_snoc, show (((valN t * 256 + c.toNat : Nat) : Int)) / 256 = (valN t : Int) by omega, highL_valN k t ht, show (((valN t * 256 + c.toNat : Nat) : Int)) % 256 = (c.toNat : Int) by omega]
      simp
theorem highL_valI (l : List UInt8) (h : l.length ≤ 8) : highL (valI l) l.length = l := by
  rw [valI_wrap _ l rfl, highL_wrap _ h, highL_valN _ l rfl]
theorem valI_sign (l : List UInt8) (h : l.length = 8) : 0 ≤ valI l ↔ (l.headD 0).toNat ≤ 127 := by
  rw [valI_wrap _ l rfl]
  rcases l with _ | ⟨a0, _ | ⟨a1, _ | ⟨a2, _ | ⟨a3, _ | ⟨a4, _ | ⟨a5, _ | ⟨a6, _ | ⟨a7, _ | ⟨a8, l⟩⟩⟩⟩⟩⟩⟩⟩⟩ <;> simp at h
  have h0 := a0.toNat_lt; have h1 := a1.toNat_lt; have h2 := a2.toNat_lt; have h3 := a3.toNat_lt
  have h4 := a4.toNat_lt; have h5 := a5.toNat_lt; have h6 := a6.toNat_lt; have h7 := a7.toNat_lt
  have e : valN [a0, a1, a2, a3, a4, a5, a6, a7] = (((((((0 * 256 + a0.toNat) * 256 + a1.toNat) * 256 + a2.toNat) * 256 + a3.toNat) * 256 + a4.toNat) * 256 + a5.toNat) * 256 + a6.toNat) * 256 + a7.toNat := rfl
  rw [e]
  show _ ↔ a0.toNat ≤ 127
  unfold wrap64
  omega
def midL (l : List UInt8) (i j : Nat) : List UInt8 := (l.drop i).take (j - i)
theorem midL_len {l : List UInt8} {i j : Nat} (h : j ≤ l.length) (hij : i ≤ j) : (midL l i j).length = j - i := by unfold midL; rw [List.length_take, List.length_drop]; omega
theorem midL_cut (l : List UInt8) {i j k : Nat} (hij : i ≤ j) (hjk : j ≤ k) : midL l i k = midL l i j ++ midL l j k := by
  unfold midL
  rw [show k - i = (j - i) + (k - j) by omega, List.take_add, List.drop_drop, show i + (j - i) = j by omega]
theorem mark_cut {l : List UInt8} (hl : l.length = 64) : l = midL l 0 2 ++ midL l 2 6 ++ midL l 6 7 ++ midL l 7 11 ++ midL l 11 15 ++ midL l 15 23 ++ midL l 23 31 ++ midL l 31 60 ++ midL l 60 64 := by
  rw [← midL_cut l (by omega) (by omega), ← midL_cut l (by omega) (by omega), ← midL_cut l (by omega) (by omega), ← midL_cut l (by omega) (by omega), ← midL_cut l (by omega) (by omega), ← midL_cut l (by omega) (by omega), ← midL_cut l (by omega) (by omega), ← midL_cut l (by omega) (by omega)]
  unfold midL
  rw [List.drop_zero, List.take_of_length_le (by omega)]
theorem high_mid {l : List UInt8} (hl : l.length = 64) (i j k : Nat) (hk : j = i + k) (h8 : k ≤ 8) (hj : j ≤ 64) : highL (fld l i j) k = midL l i j := by
  have h := midL_len (l := l) (i := i) (j := j) (by omega) (by omega)
  have e := highL_valI (midL l i j) (by omega)
  rw [h, show j - i = k by omega] at e
  exact e
theorem laid_iff {l : List UInt8} (hl : l.length = 64) : (markIn l).laid = l ↔ midL l 0 2 = [87, 77] ∧ midL l 31 60 = List.replicate 29 0 ∧ midL l 2 6 = midL l 60 64 := by
  have e : (markIn l).laid = [87, 77] ++ midL l 2 6 ++ midL l 6 7 ++ midL l 7 11 ++ midL l 11 15 ++ midL l 15 23 ++ midL l 23 31 ++ List.replicate 29 0 ++ midL l 2 6 := by
    unfold MZ.laid markIn
    simp only []
    rw [high_mid hl 2 6 4 (by omega) (by omega) (by omega), high_mid hl 6 7 1 (by omega) (by omega) (by omega), high_mid hl 7 11 4 (by omega) (by omega) (by omega), high_mid hl 11 15 4 (by omega) (by omega) (by omega), high_mid hl 15 23 8 (by omega) (by omega) (by omega), high_mid hl 23 31 8 (by omega) (by omega) (by omega)]
  have l1 := midL_len (l := l) (i := 0) (j := 2) (by omega) (by omega)
  have l2 := midL_len (l := l) (i := 31) (j := 60) (by omega) (by omega)
  have l3 := midL_len (l := l) (i := 2) (j := 6) (by omega) (by omega)
  have l4 := midL_len (l := l) (i := 60) (j := 64) (by omega) (by omega)
  rw [e]
  constructor
  · intro h
    have h2 := h.trans (mark_cut hl)
    obtain ⟨h3, e3⟩ := List.append_inj' h2 (by rw [l3, l4])
    obtain ⟨h4, e4⟩ := List.append_inj' h3 (by rw [l2, List.length_replicate])
    have h5 := (List.append_inj' h4 rfl).1
    have h6 := (List.append_inj' h5 rfl).1
    have h7 := (List.append_inj' h6 rfl).1
    have h8 := (List.append_inj' h7 rfl).1
    have h9 := (List.append_inj' h8 rfl).1
    have h10 := (List.append_inj' h9 rfl).1
    exact ⟨h10.symm, e4.symm, e3⟩
  · rintro ⟨h1, h2, h3⟩
    rw [h3]
    conv => rhs; rw [mark_cut hl, h1, h2, h3]
theorem right_iff {l : List UInt8} (hl : l.length = 64) (n sp : Int) : rightZ (markIn l) l n sp = true ↔ (midL l 0 2 = [87, 77] ∧ midL l 31 60 = List.replicate 29 0 ∧ midL l 2 6 = midL l 60 64) ∧ ((l[15]?.getD 0).toNat ≤ 127 ∧ (l[23]?.getD 0).toNat ≤ 127) ∧ 1 ≤ fld l 2 6 ∧ fld l 2 6 % 2 = n ∧ fld l 6 7 < 2 ∧ fld l 7 11 ≤ sp := by
  have s1 : 0 ≤ fld l 15 23 ↔ (l[15]?.getD 0).toNat ≤ 127 := by
    have := valI_sign (midL l 15 23) (midL_len (by omega) (by omega))
    have e : (midL l 15 23).headD 0 = l[15]?.getD 0 := by
      unfold midL; rw [List.headD_eq_head?_getD, List.head?_take, if_neg (by omega), List.head?_drop]
    rw [e] at this; exact this
  have s2 : 0 ≤ fld l 23 31 ↔ (l[23]?.getD 0).toNat ≤ 127 := by
    have := valI_sign (midL l 23 31) (midL_len (by omega) (by omega))
    have e : (midL l 23 31).headD 0 = l[23]?.getD 0 := by
      unfold midL; rw [List.headD_eq_head?_getD, List.head?_take, if_neg (by omega), List.head?_drop]
    rw [e] at this; exact this
  have e := laid_iff hl
  unfold rightZ
  simp only [Bool.and_eq_true, decide_eq_true_eq]
  rw [e, ← s1, ← s2]
  show ((((((_ ∧ 1 ≤ fld l 2 6) ∧ fld l 2 6 % 2 = n) ∧ fld l 6 7 < 2) ∧ fld l 7 11 ≤ sp) ∧ 0 ≤ fld l 15 23) ∧ 0 ≤ fld l 23 31) ↔ _
  constructor
  · rintro ⟨⟨⟨⟨⟨⟨a, b⟩, c⟩, d⟩, f⟩, g⟩, h⟩; exact ⟨a, ⟨g, h⟩, b, c, d, f⟩
  · rintro ⟨a, ⟨g, h⟩, b, c, d, f⟩; exact ⟨⟨⟨⟨⟨⟨a, b⟩, c⟩, d⟩, f⟩, g⟩, h⟩
def recLL (x : List UInt8) : List UInt8 := (highL x.length 2 ++ x) ++ highL (wsum (highL x.length 2 ++ x)) 4
theorem rec_eq {t : List UInt8} {k : Nat} (hk : valN (t.take 2) = k) (h4 : k ≤ 4000) (hl : k + 6 ≤ t.length) :
    (recLL ((t.drop 2).take k) = t.take (k + 6) → recN t = some ((t.drop 2).take k, t.drop (k + 6))) ∧ (recLL ((t.drop 2).take k) ≠ t.take (k + 6) → recN t = none) := by
  have hb : behN t = 2 + k := by unfold behN; rw [hk]
  have e1 : ((t.drop 2).take k).length = k := by rw [List.length_take, List.length_drop]; omega
  have e2 : highL (k : Int) 2 = t.take 2 := by rw [← hk]; exact highL_valN 2 (t.take 2) (by rw [List.length_take]; omega)
  have e3 : t.take 2 ++ (t.drop 2).take k = t.take (2 + k) := by rw [List.take_add]
  obtain ⟨m, hm⟩ : ∃ m, (t.drop (2 + k)).take 4 = m := ⟨_, rfl⟩
  have hml : m.length = 4 := by rw [← hm, List.length_take, List.length_drop]; omega
  have e4 : t.take (k + 6) = t.take (2 + k) ++ m := by rw [← hm, show k + 6 = (2 + k) + 4 by omega, List.take_add]
  have e5 : recLL ((t.drop 2).take k) = t.take (2 + k) ++ highL (wsum (t.take (2 + k))) 4 := by unfold recLL; rw [e1, e2, e3]
  have e6 : recN t = if valI m = wsum (t.take (2 + k)) then some ((t.drop 2).take k, t.drop (k + 6)) else none := by
    unfold recN
    rw [if_neg (by omega), hb, if_neg (by omega), if_neg (by omega), show 2 + k + 4 - (2 + k) = 4 by omega, hm, show 2 + k - 2 = k by omega, show 2 + k + 4 = k + 6 by omega]
  obtain ⟨h0, h1⟩ := wsum_lt (t.take (2 + k))
  rw [e5, e4, e6]
  generalize wsum (t.take (2 + k)) = z at h0 h1 ⊢
  have hv : valI m = z ↔ highL z 4 = m := by
    constructor
    · intro h
      have := highL_valI m (by omega)
      rw [hml, h] at this; exact this
    · intro h
      obtain ⟨n, rfl⟩ := Int.eq_ofNat_of_zero_le h0
      rw [← h]; exact valI_high n 4 (by omega) (by omega)
  constructor
  · intro h
    rw [if_pos (hv.2 (List.append_cancel_left h))]
  · intro h
    rw [if_neg (fun e => h (by rw [hv.1 e]))]
end Go.Proofs.Ytmfngbgdmlnlcaa
