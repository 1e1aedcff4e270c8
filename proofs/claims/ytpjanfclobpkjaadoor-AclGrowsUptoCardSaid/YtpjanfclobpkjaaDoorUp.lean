/- Who may do what, plainly: names, IDs, permissions as bits, digits to the base 16. No program in this text. -/
import Derived.WalkKit
import Derived.Laws.BitsAllLaws
import Derived.Lib.Strings
import Derived.Lib.Repeat
import Derived.Lib.Bytealg
import Derived.Lib.IndexLaws
namespace Go.Proofs.YtpjanfclobpkjaaDoor

def decB (n : Nat) : Bool := decide (48 ≤ n) && decide (n ≤ 57)
def nmB (n : Nat) : Bool := decB n || (decide (97 ≤ n) && decide (n ≤ 122))
def hxB (n : Nat) : Bool := decB n || (decide (97 ≤ n) && decide (n ≤ 102))
def nameL (l : List UInt8) : Bool := decide (1 ≤ l.length) && decide (l.length ≤ 12) && l.all fun b => nmB b.toNat
def hexL (l : List UInt8) : Bool := decide (l.length = 16) && l.all fun b => hxB b.toNat
def worldL : List UInt8 := [119, 111, 114, 108, 100]

/-- the program's way: what stands ahead of the first colon, and behind it -/
def idP (l : List UInt8) : Bool :=
  match Lib.indexByte l 58 with
  | .ofNat o => nameL (l.take o) && hexL (l.drop (o + 1))
  | .negSucc _ => l == worldL
/-- the document's way: 17 bytes from behind -/
def idD (l : List UInt8) : Bool :=
  l == worldL || (decide (18 ≤ l.length) && (l[l.length - 17]? == some 58) && nameL (l.take (l.length - 17)) && (l.drop (l.length - 16)).all fun b => hxB b.toNat)

theorem nm_colon : nmB 58 = false := by decide
theorem hx_colon : hxB 58 = false := by decide
theorem world_colon : ∀ k : Nat, worldL[k]? ≠ some 58 := by
  intro k
  match k with
  | 0 | 1 | 2 | 3 | 4 => decide
  | k + 5 => simp [worldL]

theorem idP_eq (l : List UInt8) : idP l = idD l := by
  unfold idP
  have hge := Lib.indexByte_ge l 58
  cases h : Lib.indexByte l 58 with
  | negSucc n =>
    have hn : Lib.indexByte l 58 = -1 := by rw [h] at hge ⊢; omega
    have hno := Lib.indexByte_none hn
    have h1 : (l[l.length - 17]? == some (58 : UInt8)) = false := by simpa using hno (l.length - 17)
    simp [idD, h1]
  | ofNat o =>
    obtain ⟨h1, h2⟩ := Lib.indexByte_some (o := o) h
    have hl : o < l.length := (List.getElem?_eq_some_iff.1 h1).1
    have hw : (l == worldL) = false := by
      simp only [beq_eq_false_iff_ne, ne_eq]
      intro e; rw [e] at h1; exact world_colon o h1
    rw [Bool.eq_iff_iff]
    simp only [idD, hw, Bool.false_or, Bool.and_eq_true, decide_eq_true_eq, beq_iff_eq]
    constructor
    · rintro ⟨hn, hh⟩
      have hlen : l.length - (o + 1) = 16 := by simpa [hexL] using (show (l.drop (o + 1)).length = 16 by simp only [hexL, Bool.and_eq_true, decide_eq_true_eq] at hh; exact hh.1)
      have hname : 1 ≤ o := by
        simp only [nameL, Bool.and_eq_true, decide_eq_true_eq, List.length_take] at hn; omega
      have e1 : l.length - 17 = o := by omega
      have e2 : l.length - 16 = o + 1 := by omega
      rw [e1, e2]
      simp only [hexL, Bool.and_eq_true] at hh
      exact ⟨⟨⟨by omega, h1⟩, hn⟩, hh.2⟩
    · rintro ⟨⟨⟨h18, hc⟩, hn⟩, hh⟩
      have e : o = l.length - 17 := by
        rcases Nat.lt_trichotomy o (l.length - 17) with h | h | h
        · exfalso
          simp only [nameL, Bool.and_eq_true] at hn
          have := List.all_eq_true.1 hn.2 58 (by
            rw [List.mem_iff_getElem?]
            exact ⟨o, by rw [List.getElem?_take, if_pos h]; exact h1⟩)
          rw [show (58 : UInt8).toNat = 58 from rfl, nm_colon] at this
          cases this
        · exact h
        · exact absurd hc (h2 _ h)
      subst e
      have e2 : l.length - 17 + 1 = l.length - 16 := by omega
      refine ⟨hn, ?_⟩
      rw [e2, hexL]
      simp only [Bool.and_eq_true, decide_eq_true_eq, List.length_drop]
      exact ⟨by omega, hh⟩

structure Row where
  perms : Int
  id : ByteArray
structure Row.Fits (r : Row) : Prop where
  lo : -9223372036854775808 ≤ r.perms
  hi : r.perms ≤ 9223372036854775807
  id : r.id.size ≤ maxLen

def rowB (r : Row) : Bool := decide (1 ≤ r.perms) && decide (r.perms ≤ 31) && idD r.id.data.toList
def rightL (l : List Row) : Bool := decide (1 ≤ l.length) && decide (l.length ≤ 4) && l.all rowB

/-! ### bits -/
abbrev P64 (x : Int) : BitVec 64 := BitVec.ofInt 64 x
theorem wrap_i64_nat (x : BitVec 64) : IntKind.i64.wrap (x.toNat : Int) = x.toInt := by
  have h := x.isLt
  rw [show IntKind.i64.wrap (x.toNat : Int) = if (9223372036854775808 : Int) ≤ (x.toNat : Int) % 18446744073709551616 then (x.toNat : Int) % 18446744073709551616 - 18446744073709551616 else (x.toNat : Int) % 18446744073709551616 by simp [IntKind.wrap, IntKind.bits, IntKind.signed], BitVec.toInt]
  split <;> split <;> omega
theorem toInt_P {x : Int} (h1 : -9223372036854775808 ≤ x) (h2 : x ≤ 9223372036854775807) : (P64 x).toInt = x := by
  rw [BitVec.toInt_ofInt]
  exact Int.bmod_eq_of_le (by omega) (by omega)
theorem P_toInt (x : BitVec 64) : P64 x.toInt = x := BitVec.ofInt_toInt
theorem bits_andNot (x y : Int) : bits .andNot .i64 x y = (P64 x &&& ~~~ P64 y).toInt := wrap_i64_nat _
theorem bits_and (x y : Int) : bits .and .i64 x y = (P64 x &&& P64 y).toInt := wrap_i64_nat _
theorem bits_or (x y : Int) : bits .or .i64 x y = (P64 x ||| P64 y).toInt := wrap_i64_nat _
theorem toInt_zero {x : BitVec 64} : x.toInt = 0 ↔ x = 0#64 := by
  constructor
  · intro h
    have := P_toInt x
    rw [h] at this
    exact this.symm
  · rintro rfl; decide
theorem toInt_range (x : BitVec 64) : -9223372036854775808 ≤ x.toInt ∧ x.toInt ≤ 9223372036854775807 := by
  have h1 := BitVec.le_toInt x
  have h2 := BitVec.toInt_lt (x := x)
  simp at h1 h2
  omega

def hits (ids : List ByteArray) (r : Row) : Bool := (r.id.data.toList == worldL) || ids.any fun x => x.data.toList == r.id.data.toList
/-- what the rows give -/
def grantF (ids : List ByteArray) : List Row → BitVec 64 → BitVec 64
  | [], g => g
  | r :: l, g => grantF ids l (if hits ids r then g ||| P64 r.perms else g)
def grant (l : List Row) (ids : List ByteArray) : BitVec 64 := grantF ids l 0#64
def small (x : Int) : Bool := decide (0 ≤ x) && decide (x ≤ 31)
def mayB (l : List Row) (p : Int) (ids : List ByteArray) : Bool := small p && (P64 p &&& ~~~ grant l ids == 0#64)

theorem grantF_bit (ids : List ByteArray) (k : Nat) : ∀ (l : List Row) (g : BitVec 64), (grantF ids l g).getLsbD k = (g.getLsbD k || l.any fun r => hits ids r && (P64 r.perms).getLsbD k)
  | [], g => by simp [grantF]
  | r :: l, g => by
    rw [grantF, grantF_bit ids k l]
    cases h : hits ids r <;> simp [h, Bool.or_assoc]
theorem grant_bit (l : List Row) (ids : List ByteArray) (k : Nat) : (grant l ids).getLsbD k = l.any fun r => hits ids r && (P64 r.perms).getLsbD k := by
  rw [grant, grantF_bit]; simp

theorem nat_small_bit {n : Nat} (h : n < 32) (k : Nat) (hk : 5 ≤ k) : n.testBit k = false := by
  apply Nat.testBit_lt_two_pow
  exact Nat.lt_of_lt_of_le h (Nat.pow_le_pow_right (n := 2) (by decide) hk)
theorem small_bits {x : Int} (h1 : -9223372036854775808 ≤ x) (h2 : x ≤ 9223372036854775807) : small x = true ↔ ∀ k, 5 ≤ k → (P64 x).getLsbD k = false := by
  simp only [small, Bool.and_eq_true, decide_eq_true_eq]
  constructor
  · rintro ⟨h0, h31⟩ k hk
    obtain ⟨n, rfl⟩ := Int.eq_ofNat_of_zero_le h0
    rw [P64, BitVec.ofInt_natCast, BitVec.getLsbD_ofNat, nat_small_bit (by omega) k hk, Bool.and_false]
  · intro h
    have e := toInt_P h1 h2
    have hn : (P64 x).toNat < 32 := by
      apply Nat.lt_of_not_le
      intro hge
      have : ∃ k, 5 ≤ k ∧ (P64 x).toNat.testBit k = true := Nat.exists_ge_and_testBit_of_ge_two_pow (n := 5) hge
      obtain ⟨k, hk, ht⟩ := this
      have := h k hk
      rw [BitVec.getLsbD] at this
      rw [this] at ht; cases ht
    have : (P64 x).toInt = (P64 x).toNat := by
      rw [BitVec.toInt]; rw [if_pos (by omega)]
    omega
/-- may, bit by bit -/
theorem may_iff {l : List Row} {p : Int} {ids : List ByteArray} (h1 : -9223372036854775808 ≤ p) (h2 : p ≤ 9223372036854775807) :
    mayB l p ids = true ↔ ∀ k, (P64 p).getLsbD k = true → k < 5 ∧ ∃ r ∈ l, hits ids r = true ∧ (P64 r.perms).getLsbD k = true := by
  simp only [mayB, Bool.and_eq_true, small_bits h1 h2, beq_iff_eq]
  constructor
  · rintro ⟨hs, hz⟩ k hk
    refine ⟨Nat.lt_of_not_le fun h => ?_, ?_⟩
    · rw [hs k h] at hk; cases hk
    · have hb := congrArg (BitVec.getLsbD · k) hz
      simp only [BitVec.getLsbD_and, BitVec.getLsbD_not, hk, Bool.true_and] at hb
      have hk64 : k < 64 := BitVec.lt_of_getLsbD hk
      simp only [hk64, decide_true, Bool.true_and, BitVec.getLsbD_zero, Bool.not_eq_false'] at hb
      rw [grant_bit, List.any_eq_true] at hb
      obtain ⟨r, hr, hb⟩ := hb
      rw [Bool.and_eq_true] at hb
      exact ⟨r, hr, hb⟩
  · intro h
    refine ⟨fun k hk => ?_, ?_⟩
    · cases e : (P64 p).getLsbD k
      · rfl
      · have := (h k e).1; omega
    · apply BitVec.eq_of_getLsbD_eq
      intro k hk
      simp only [BitVec.getLsbD_and, BitVec.getLsbD_not, BitVec.getLsbD_zero]
      cases e : (P64 p).getLsbD k
      · rfl
      · obtain ⟨_, r, hr, hb⟩ := h k e
        have : (grant l ids).getLsbD k = true := by
          rw [grant_bit, List.any_eq_true]
          exact ⟨r, hr, by rw [Bool.and_eq_true]; exact hb⟩
        simp [this]

/-! ### digits to the base 16 -/
def hexD (n : Nat) : UInt8 := if n < 10 then UInt8.ofNat (48 + n) else UInt8.ofNat (87 + n)
/-- the lowest j digits, the highest first -/
def hexS (n : Nat) : Nat → List UInt8
  | 0 => []
  | j + 1 => hexD (n / 16 ^ j % 16) :: hexS n j
theorem hexS_length (n : Nat) : ∀ j, (hexS n j).length = j
  | 0 => rfl
  | j + 1 => by rw [hexS, List.length_cons, hexS_length n j]
theorem hexS_pad {n j : Nat} (h : n < 16 ^ j) : ∀ m, List.replicate m 48 ++ hexS n j = hexS n (m + j)
  | 0 => by simp
  | m + 1 => by
    rw [List.replicate_succ, List.cons_append, hexS_pad h m, show m + 1 + j = (m + j) + 1 by omega, hexS]
    have : n / 16 ^ (m + j) = 0 := Nat.div_eq_of_lt (Nat.lt_of_lt_of_le h (Nat.pow_le_pow_right (by decide) (by omega)))
    rw [this]; rfl
theorem hexD_hx (n : Nat) (h : n < 16) : hxB (hexD n).toNat = true := by
  have : ∀ n : Fin 16, hxB (hexD n.val).toNat = true := by decide
  exact this ⟨n, h⟩
theorem hexS_all (n : Nat) : ∀ j, (hexS n j).all (fun b => hxB b.toNat) = true
  | 0 => rfl
  | j + 1 => by
    rw [hexS, List.all_cons, hexS_all n j, hexD_hx _ (Nat.mod_lt _ (by decide))]; rfl
theorem repeatL_zero (c : Nat) : Lib.repeatL [48] c = List.replicate c 48 := by
  induction c with
  | zero => rfl
  | succ c ih => rw [Lib.repeatL, ih]; rfl

/-- one step of the hash, in the walk's own words -/
def hStep (h : Int) (b : UInt8) : Int := bits BinOp.xor IntKind.u64 h ((b.toNat : Int) % 18446744073709551616) * 1099511628211 % 18446744073709551616
def hashL (l : List UInt8) (h : Int) : Int := l.foldl hStep h
theorem hashL_snoc (l : List UInt8) (b : UInt8) (h : Int) : hashL (l ++ [b]) h = hStep (hashL l h) b := by simp [hashL]
theorem hashL_app (l m : List UInt8) (h : Int) : hashL (l ++ m) h = hashL m (hashL l h) := by simp [hashL]
theorem hStep_range (h : Int) (b : UInt8) : 0 ≤ hStep h b ∧ hStep h b < 18446744073709551616 := by unfold hStep; omega
theorem hashL_range : ∀ (l : List UInt8) (h : Int), 0 ≤ h → h < 18446744073709551616 → 0 ≤ hashL l h ∧ hashL l h < 18446744073709551616
  | [], h, h0, h1 => ⟨h0, h1⟩
  | b :: l, h, _, _ => by
    rw [hashL, List.foldl_cons]
    exact hashL_range l _ (hStep_range h b).1 (hStep_range h b).2
def hash0 : Int := 14695981039346656037
def digL (name secret : List UInt8) : List UInt8 := name ++ 58 :: hexS (hashL (name ++ 58 :: secret) hash0).toNat 16

/-- what is made of a name and a secret is an ID -/
theorem digL_id {name secret : List UInt8} (h : nameL name = true) : idD (digL name secret) = true := by
  have hl : (digL name secret).length = name.length + 17 := by simp [digL, hexS_length]
  have h1 : 1 ≤ name.length := by simp only [nameL, Bool.and_eq_true, decide_eq_true_eq] at h; exact h.1.1
  simp only [idD, Bool.or_eq_true, Bool.and_eq_true, decide_eq_true_eq, beq_iff_eq]
  right
  rw [hl, show name.length + 17 - 17 = name.length by omega, show name.length + 17 - 16 = name.length + 1 by omega]
  refine ⟨⟨⟨by omega, ?_⟩, ?_⟩, ?_⟩
  · simp [digL]
  · simp [digL, h]
  · rw [digL, List.drop_append, List.drop_of_length_le (by omega)]
    simp only [Nat.add_sub_cancel_left, List.drop_succ_cons, List.drop_zero, List.nil_append]
    exact hexS_all _ _
end Go.Proofs.YtpjanfclobpkjaaDoor
