/- Marks: what a sector is as a mark; a mark that is torn is none. -/
import Derived.Test.YtmfngbgdmlnlcaaJn
namespace Go.Proofs.Ytmfngbgdmlnlcaa
set_option linter.unusedVariables false
set_option linter.unusedSimpArgs false

structure MZ where
  c : Int
  ar : Int
  le : Int
  nu : Int
  a : Int
  b : Int
def MZ.laid (z : MZ) : List UInt8 := [87, 77] ++ highL z.c 4 ++ highL z.ar 1 ++ highL z.le 4 ++ highL z.nu 4 ++ highL z.a 8 ++ highL z.b 8 ++ List.replicate 29 0 ++ highL z.c 4
def fld (l : List UInt8) (i j : Nat) : Int := valI ((l.drop i).take (j - i))
def markIn (l : List UInt8) : MZ := ⟨fld l 2 6, fld l 6 7, fld l 7 11, fld l 11 15, fld l 15 23, fld l 23 31⟩
def MSt.z (m : MSt) : MZ := ⟨m.c, m.ar, m.le, m.nu, m.a, m.b⟩
theorem z_laid (m : MSt) : m.z.laid = markL m := rfl
structure MSt.Small (m : MSt) : Prop where
  c : m.c < 4294967296
  ar : m.ar < 256
  le : m.le < 4294967296
  nu : m.nu < 4294967296
  a : m.a < 9223372036854775808
  b : m.b < 9223372036854775808
theorem MSt.Small.fits {m : MSt} (h : m.Small) : m.Fits := by
  obtain ⟨h1, h2, h3, h4, h5, h6⟩ := h
  exact ⟨by omega, by omega, by omega, by omega, by omega, by omega⟩
theorem fld_mid (pre x post : List UInt8) {i j : Nat} (hi : pre.length = i) (hj : x.length = j - i) : fld (pre ++ (x ++ post)) i j = valI x := by
  unfold fld
  rw [List.drop_left' hi, List.take_left' hj]
theorem valI_high (n k : Nat) (h : (n : Int) < 256 ^ k) (h2 : n < 9223372036854775808) : valI (highL (n : Int) k) = (n : Int) := by
  have hv := val_high k (n : Int) (by omega) h
  rw [Int.toNat_natCast] at hv
  rw [valI_small _ (by rw [hv]; exact h2), hv]
theorem in_mark {m : MSt} (h : m.Small) : markIn (markL m) = m.z := by
  obtain ⟨h1, h2, h3, h4, h5, h6⟩ := h
  have e1 : fld (markL m) 2 6 = (m.c : Int) := by
    rw [show markL m = [87, 77] ++ (highL m.c 4 ++ (highL m.ar 1 ++ highL m.le 4 ++ highL m.nu 4 ++ highL m.a 8 ++ highL m.b 8 ++ List.replicate 29 0 ++ highL m.c 4)) by simp [markL, List.append_assoc],
      fld_mid _ _ _ (by simp) (by rw [highL_len]), valI_high _ _ (by omega) (by omega)]
  have e2 : fld (markL m) 6 7 = (m.ar : Int) := by
    rw [show markL m = ([87, 77] ++ highL m.c 4) ++ (highL m.ar 1 ++ (highL m.le 4 ++ highL m.nu 4 ++ highL m.a 8 ++ highL m.b 8 ++ List.replicate 29 0 ++ highL m.c 4)) by simp [markL, List.append_assoc],
      fld_mid _ _ _ (by simp [highL_len]) (by rw [highL_len]), valI_high _ _ (by omega) (by omega)]
  have e3 : fld (markL m) 7 11 = (m.le : Int) := by
    rw [show markL m = ([87, 77] ++ highL m.c 4 ++ highL m.ar 1) ++ (highL m.le 4 ++ (highL m.nu 4 ++ highL m.a 8 ++ highL m.b 8 ++ List.replicate 29 0 ++ highL m.c 4)) by simp [markL, List.append_assoc],
      fld_mid _ _ _ (by simp [highL_len]) (by rw [highL_len]), valI_high _ _ (by omega) (by omega)]
  have e4 : fld (markL m) 11 15 = (m.nu : Int) := by
    rw [show markL m = ([87, 77] ++ highL m.c 4 ++ highL m.ar 1 ++ highL m.le 4) ++ (highL m.nu 4 ++ (highL m.a 8 ++ highL m.b 8 ++ List.replicate 29 0 ++ highL m.c 4)) by simp [markL, List.append_assoc],
      fld_mid _ _ _ (by simp [highL_len]) (by rw [highL_len]), valI_high _ _ (by omega) (by omega)]
  have e5 : fld (markL m) 15 23 = (m.a : Int) := by
    rw [show markL m = ([87, 77] ++ highL m.c 4 ++ highL m.ar 1 ++ highL m.le 4 ++ highL m.nu 4) ++ (highL m.a 8 ++ (highL m.b 8 ++ List.replicate 29 0 ++ highL m.c 4)) by simp [markL, List.append_assoc],
      fld_mid _ _ _ (by simp [highL_len]) (by rw [highL_len]), valI_high _ _ (by omega) (by omega)]
  have e6 : fld (markL m) 23 31 = (m.b : Int) := by
    rw [show markL m = ([87, 77] ++ highL m.c 4 ++ highL m.ar 1 ++ highL m.le 4 ++ highL m.nu 4 ++ highL m.a 8) ++ (highL m.b 8 ++ (List.replicate 29 0 ++ highL m.c 4)) by simp [markL, List.append_assoc],
      fld_mid _ _ _ (by simp [highL_len]) (by rw [highL_len]), valI_high _ _ (by omega) (by omega)]
  unfold markIn MSt.z
  rw [e1, e2, e3, e4, e5, e6]

/-- right in the mark sector of that number -/
structure RightM (l : List UInt8) (sector space : Int) : Prop where
  laid : (markIn l).laid = l
  c1 : 1 ≤ (markIn l).c
  par : (markIn l).c % 2 = sector
  ar : (markIn l).ar < 2
  le : (markIn l).le ≤ space
  a : 0 ≤ (markIn l).a
  b : 0 ≤ (markIn l).b
theorem laid_first (z : MZ) {i : Nat} (hi : i < 4) : z.laid[2 + i]? = (highL z.c 4)[i]? := by
  rw [show z.laid = [87, 77] ++ (highL z.c 4 ++ (highL z.ar 1 ++ highL z.le 4 ++ highL z.nu 4 ++ highL z.a 8 ++ highL z.b 8 ++ List.replicate 29 0 ++ highL z.c 4)) by simp [MZ.laid, List.append_assoc]]
  rw [List.getElem?_append_right (by simp), show 2 + i - ([87, 77] : List UInt8).length = i by simp, List.getElem?_append_left (by rw [highL_len]; exact hi)]
theorem laid_last (z : MZ) (i : Nat) : z.laid[60 + i]? = (highL z.c 4)[i]? := by
  unfold MZ.laid
  rw [List.getElem?_append_right (by simp [highL_len])]
  congr 1
  simp [highL_len]
theorem laid_len (z : MZ) : z.laid.length = 64 := by simp [MZ.laid, highL_len]
theorem high_four {x y : Int} (h : ∀ i, i < 4 → (highL x 4)[i]? = (highL y 4)[i]?) : highL x 4 = highL y 4 := by
  apply List.ext_getElem?
  intro i
  by_cases hi : i < 4
  · exact h i hi
  · rw [List.getElem?_eq_none (by rw [highL_len]; omega), List.getElem?_eq_none (by rw [highL_len]; omega)]
theorem first_val {l : List UInt8} (h : (markIn l).laid = l) : (markIn l).c = valI (highL (markIn l).c 4) := by
  have : (l.drop 2).take 4 = highL (markIn l).c 4 := by
    conv => lhs; rw [← h]
    rw [show (markIn l).laid = [87, 77] ++ (highL (markIn l).c 4 ++ (highL (markIn l).ar 1 ++ highL (markIn l).le 4 ++ highL (markIn l).nu 4 ++ highL (markIn l).a 8 ++ highL (markIn l).b 8 ++ List.replicate 29 0 ++ highL (markIn l).c 4)) by simp [MZ.laid, List.append_assoc]]
    rw [List.drop_left' (by rfl), List.take_left' (by rw [highL_len])]
  rw [← this]; rfl

/-- what the mark sector may have that is written next, with the count c' -/
structure Tn (l : List UInt8) (c' : Nat) : Prop where
  len : l.length = 64
  ex : ∃ (B : Nat) (o : List UInt8), (o = zeros ∨ ∃ m0 : MSt, o = markL m0 ∧ m0.Small ∧ m0.c < c') ∧
    (∀ i, i < 4 → l[2 + i]? = if 2 + i < B then (highL (c' : Int) 4)[i]? else o[2 + i]?) ∧
    (∀ i, i < 4 → l[60 + i]? = if 60 + i < B then (highL (c' : Int) 4)[i]? else o[60 + i]?)
  no : ¬ ∀ i, i < 4 → l[60 + i]? = (highL (c' : Int) 4)[i]?
theorem Tn.right {l : List UInt8} {c' : Nat} (h : Tn l c') {sector space : Int} (hr : RightM l sector space) : (markIn l).c < (c' : Int) := by
  obtain ⟨B, o, ho, h2, h60⟩ := h.ex
  have f1 : ∀ i, i < 4 → l[2 + i]? = (highL (markIn l).c 4)[i]? := fun i hi => by
    rw [← laid_first _ hi, hr.laid]
  have f2 : ∀ i, i < 4 → l[60 + i]? = (highL (markIn l).c 4)[i]? := fun i hi => by
    rw [← laid_last, hr.laid]
  by_cases hB : 60 < B
  · refine absurd (fun i hi => ?_) h.no
    rw [f2 i hi, ← f1 i hi, h2 i hi, if_pos (by omega)]
  · have f3 : ∀ i, i < 4 → (highL (markIn l).c 4)[i]? = o[60 + i]? := fun i hi => by
      rw [← f2 i hi, h60 i hi, if_neg (by omega)]
    have hv := first_val hr.laid
    rcases ho with rfl | ⟨m0, rfl, hs, hc⟩
    · have : highL (markIn l).c 4 = highL (0 : Int) 4 := high_four fun i hi => by
        rw [f3 i hi]
        match i, hi with
        | 0, _ | 1, _ | 2, _ | 3, _ => rfl
      rw [this] at hv
      have := hr.c1
      rw [hv, show highL (0 : Int) 4 = highL ((0 : Nat) : Int) 4 from rfl, valI_high 0 4 (by omega) (by omega)] at this
      omega
    · have : highL (markIn l).c 4 = highL (m0.c : Int) 4 := high_four fun i hi => by
        rw [f3 i hi, ← z_laid, laid_last]; rfl
      rw [this, valI_high _ _ (by have := hs.c; omega) (by have := hs.c; omega)] at hv
      omega
theorem high_ne {x y : Nat} (hx : x < 4294967296) (hy : y < 4294967296) (h : x ≠ y) : highL (x : Int) 4 ≠ highL (y : Int) 4 := fun e => by
  have := valI_high x 4 (by omega) (by omega)
  rw [e, valI_high y 4 (by omega) (by omega)] at this
  omega
theorem tn_zeros {c' : Nat} (h0 : 0 < c') (h1 : c' < 4294967296) : Tn zeros c' := by
  refine ⟨by simp [zeros], ⟨0, zeros, .inl rfl, fun i hi => by simp, fun i hi => by simp⟩, fun h => ?_⟩
  refine high_ne (x := c') (y := 0) h1 (by omega) (by omega) (high_four fun i hi => ?_)
  rw [← h i hi]
  match i, hi with
  | 0, _ | 1, _ | 2, _ | 3, _ => rfl
theorem tn_mark {m : MSt} (hs : m.Small) {c' : Nat} (h : m.c < c') (h1 : c' < 4294967296) : Tn (markL m) c' := by
  refine ⟨markL_len m, ⟨0, markL m, .inr ⟨m, rfl, hs, h⟩, fun i hi => by simp, fun i hi => by simp⟩, fun h2 => ?_⟩
  refine high_ne (x := c') (y := m.c) h1 hs.c (by omega) (high_four fun i hi => ?_)
  rw [← h2 i hi, ← z_laid, laid_last]; rfl
theorem torn_get {x y : List UInt8} (hx : x.length = 64) (hy : y.length = 64) {b : Nat} (hb : b ≤ 64) (k : Nat) : (x.take b ++ y.drop b)[k]? = if k < b then x[k]? else y[k]? := by
  have hl : (x.take b).length = b := by rw [List.length_take]; omega
  split
  · rw [List.getElem?_append_left (by omega), List.getElem?_take, if_pos (by assumption)]
  · rw [List.getElem?_append_right (by omega), hl, List.getElem?_drop]
    congr 1; omega
/-- torn, it is the new mark, or none of that count -/
theorem Tn.tear {l : List UInt8} {m : MSt} (h : Tn l m.c) {b : Nat} (hb : b ≤ 64) : (markL m).take b ++ l.drop b = markL m ∨ Tn ((markL m).take b ++ l.drop b) m.c := by
  have hg := torn_get (markL_len m) h.len hb
  have C2 : ∀ i, i < 4 → (markL m)[2 + i]? = (highL (m.c : Int) 4)[i]? := fun i hi => by rw [← z_laid, laid_first _ hi]; rfl
  have C60 : ∀ i, (markL m)[60 + i]? = (highL (m.c : Int) 4)[i]? := fun i => by rw [← z_laid, laid_last]; rfl
  by_cases hL : ∀ i, i < 4 → ((markL m).take b ++ l.drop b)[60 + i]? = (highL (m.c : Int) 4)[i]?
  · left
    have hb60 : 60 < b := by
      rcases Nat.lt_or_ge 60 b with h1 | h1
      · exact h1
      · refine absurd (fun i hi => ?_) h.no
        have := hL i hi
        rw [hg, if_neg (by omega)] at this
        exact this
    apply List.ext_getElem?
    intro k
    by_cases hk : k < b
    · rw [hg, if_pos hk]
    · by_cases h64 : k < 64
      · obtain ⟨i, rfl⟩ : ∃ i, k = 60 + i := ⟨k - 60, by omega⟩
        rw [hL i (by omega), C60]
      · rw [hg, if_neg hk, List.getElem?_eq_none (by rw [h.len]; omega), List.getElem?_eq_none (by rw [markL_len]; omega)]
  · right
    obtain ⟨B, o, ho, h2, h60⟩ := h.ex
    refine ⟨by rw [List.length_append, List.length_take, List.length_drop, markL_len, h.len]; omega, ⟨max b B, o, ho, fun i hi => ?_, fun i hi => ?_⟩, hL⟩
    · rw [hg]
      by_cases h1 : 2 + i < b
      · rw [if_pos h1, if_pos (by omega), C2 i hi]
      · rw [if_neg h1, h2 i hi]
        by_cases h3 : 2 + i < B
        · rw [if_pos h3, if_pos (by omega)]
        · rw [if_neg h3, if_neg (by omega)]
    · rw [hg]
      by_cases h1 : 60 + i < b
      · rw [if_pos h1, if_pos (by omega), C60]
      · rw [if_neg h1, h60 i hi]
        by_cases h3 : 60 + i < B
        · rw [if_pos h3, if_pos (by omega)]
        · rw [if_neg h3, if_neg (by omega)]

theorem right_mark {m : MSt} (h : m.Small) (c1 : 1 ≤ m.c) {space : Nat} (har : m.ar ≤ 1) (hle : m.le ≤ space) : RightM (markL m) ((m.c % 2 : Nat) : Int) space := by
  have e := in_mark h
  refine ⟨by rw [e]; rfl, ?_, ?_, ?_, ?_, ?_, ?_⟩ <;> rw [e] <;> simp only [MSt.z] <;> omega

def zeroM : MZ := ⟨0, 0, 0, 0, 0, 0⟩
def rightB (l : List UInt8) (sector space : Int) : Bool := decide ((markIn l).laid = l) && decide (1 ≤ (markIn l).c) && decide ((markIn l).c % 2 = sector) && decide ((markIn l).ar < 2) && decide ((markIn l).le ≤ space) && decide (0 ≤ (markIn l).a) && decide (0 ≤ (markIn l).b)
theorem rightB_iff (l : List UInt8) (sector space : Int) : rightB l sector space = true ↔ RightM l sector space := by
  unfold rightB
  simp only [Bool.and_eq_true, decide_eq_true_eq]
  exact ⟨fun ⟨⟨⟨⟨⟨⟨h1, h2⟩, h3⟩, h4⟩, h5⟩, h6⟩, h7⟩ => ⟨h1, h2, h3, h4, h5, h6, h7⟩, fun ⟨h1, h2, h3, h4, h5, h6, h7⟩ => ⟨⟨⟨⟨⟨⟨h1, h2⟩, h3⟩, h4⟩, h5⟩, h6⟩, h7⟩⟩
def lastOne (m0 : MZ) (l : List UInt8) (sector space : Int) : MZ := if rightB l sector space = true ∧ m0.c < (markIn l).c then markIn l else m0
/-- the right one of the greater count -/
def lastZ (s0 s1 : List UInt8) (space : Int) : MZ := lastOne (lastOne zeroM s0 0 space) s1 1 space
theorem lastOne_cases (m0 : MZ) (l : List UInt8) (sector space : Int) : (lastOne m0 l sector space = markIn l ∧ RightM l sector space ∧ m0.c < (markIn l).c) ∨ (lastOne m0 l sector space = m0 ∧ ¬ (RightM l sector space ∧ m0.c < (markIn l).c)) := by
  unfold lastOne
  by_cases h : rightB l sector space = true ∧ m0.c < (markIn l).c
  · exact .inl ⟨if_pos h, (rightB_iff _ _ _).1 h.1, h.2⟩
  · exact .inr ⟨if_neg h, fun g => h ⟨(rightB_iff _ _ _).2 g.1, g.2⟩⟩
theorem last_mark {S : Nat → List UInt8} {m : MSt} {space : Nat} (h : m.Small) (c1 : 1 ≤ m.c) (har : m.ar ≤ 1) (hle : m.le ≤ space) (hm : S (m.c % 2) = markL m) (ho : Tn (S (1 - m.c % 2)) (m.c + 1)) : lastZ (S 0) (S 1) space = m.z := by
  have hr := right_mark h c1 har hle
  have e := in_mark h
  have ez : m.z.c = m.c := rfl
  unfold lastZ
  rcases Nat.mod_two_eq_zero_or_one m.c with hp | hp
  · rw [hp] at hm ho hr
    replace ho : Tn (S 1) (m.c + 1) := ho
    have e0 : lastOne zeroM (S 0) 0 space = m.z := by
      rcases lastOne_cases zeroM (S 0) 0 space with ⟨h1, _⟩ | ⟨_, h2⟩
      · rw [h1, hm, e]
      · refine absurd ⟨by rw [hm]; exact hr, ?_⟩ h2
        rw [hm, e, ez, show zeroM.c = 0 from rfl]; omega
    rw [e0]
    rcases lastOne_cases m.z (S 1) 1 space with ⟨h1, h2, h3⟩ | ⟨h1, _⟩
    · have h4 := ho.right h2
      have h5 := h2.par
      rw [ez] at h3
      omega
    · exact h1
  · rw [hp] at hm ho hr
    replace ho : Tn (S 0) (m.c + 1) := ho
    rcases lastOne_cases (lastOne zeroM (S 0) 0 space) (S 1) 1 space with ⟨h1, _⟩ | ⟨_, h2⟩
    · rw [h1, hm, e]
    · refine absurd ⟨by rw [hm]; exact hr, ?_⟩ h2
      rw [hm, e, ez]
      rcases lastOne_cases zeroM (S 0) 0 space with ⟨h3, h4, h5⟩ | ⟨h3, _⟩
      · rw [h3]
        have h6 := ho.right h4
        have h7 := h4.par
        omega
      · rw [h3, show zeroM.c = 0 from rfl]; omega
end Go.Proofs.Ytmfngbgdmlnlcaa
