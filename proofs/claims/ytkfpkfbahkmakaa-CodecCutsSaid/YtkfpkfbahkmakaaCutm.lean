/- What is cut off is told: the reader's model. -/
import Derived.Test.YtkfpkfbahkmakaaBackm
namespace Go.Proofs.Ytkfpkfbahkmakaa
open Go.RowKit
set_option linter.unusedVariables false

theorem seek_cut : ∀ (f n i acc j : Nat), n < f → i + (sev n).length ≤ 10 → j < (sev n).length → seek i acc ((sev n).take j) = (0, 0, 10) := by
  intro f
  induction f with
  | zero => intro n i acc j h; omega
  | succ f ih =>
    intro n i acc j hf hi hj
    by_cases h : n < 128
    · rw [sev_lt h] at hj ⊢
      obtain rfl : j = 0 := by simpa using hj
      rfl
    · rw [sev_ge (by omega)] at hi hj ⊢
      have hp := sev_length_pos (n / 128)
      simp only [List.length_cons] at hi hj
      cases j with
      | zero => rfl
      | succ j =>
        rw [List.take_succ_cons]
        simp only [seek, toNat_ofNat_lt (show n % 128 + 128 < 256 by omega)]
        rw [if_neg (by omega), if_pos (by omega)]
        exact ih (n / 128) (i + 1) _ j (by omega) (by omega) (by omega)

theorem rSev_cut {l : List UInt8} {pos n j : Nat} (h : l.drop pos = (sev n).take j) (hn : n ≤ 18446744073709551615) (hj : j < (sev n).length) : rSev l pos 0 = (0, pos, 10) := by
  unfold rSev
  rw [if_pos rfl, h, seek_cut (n + 1) n 0 0 j (by omega) (by have := sev_length_u64 hn; omega) hj]
  rfl
theorem rSev_ten (l : List UInt8) (pos : Nat) : rSev l pos 10 = (0, pos, 10) := by unfold rSev; rw [if_neg (by omega)]
theorem rCount_ten (l : List UInt8) (most : Int) (pos : Nat) : rCount l most pos 10 = (0, pos, 10) := by unfold rCount; rw [rSev_ten, if_neg (by omega)]
theorem rCount_cut {l : List UInt8} {pos n j : Nat} {most : Int} (h : l.drop pos = (sev n).take j) (hn : n ≤ 18446744073709551615) (hj : j < (sev n).length) : rCount l most pos 0 = (0, pos, 10) := by
  unfold rCount; rw [rSev_cut h hn hj, if_neg (by omega)]
theorem rText_of_ten {l : List UInt8} {most : Int} {pos e p : Nat} (h : rCount l most pos e = (0, p, 10)) : rText l most pos e = ([], p, 10) := by
  unfold rText; rw [h]
  simp
theorem rFlag_ten (l : List UInt8) (pos : Nat) : (rFlag l pos 10).2.2 = 10 := by
  unfold rFlag
  split
  · split
    · rfl
    · rw [if_neg (by omega)]
  · rfl

/-- the reader's state is told wrong, or just before what is still to come -/
def Cut (E : List UInt8) (rest : List UInt8) (pos e : Nat) : Prop := e = 10 ∨ (e = 0 ∧ E.drop pos = rest)

theorem drop_take_cases {E B R : List UInt8} {pos c : Nat} (h : E.drop pos = B ++ R) (hp : pos ≤ c) :
    (B.length ≤ c - pos ∧ (E.take c).drop pos = B ++ R.take (c - pos - B.length)) ∨ (c - pos < B.length ∧ (E.take c).drop pos = B.take (c - pos)) := by
  rw [List.drop_take, h, List.take_append]
  rcases Nat.lt_or_ge (c - pos) B.length with hl | hl
  · right; refine ⟨hl, ?_⟩
    rw [show c - pos - B.length = 0 from by omega, List.take_zero, List.append_nil]
  · left; refine ⟨hl, ?_⟩
    rw [List.take_of_length_le hl]

theorem cut_num {E R : List UInt8} {pos c e n : Nat} (hn : n ≤ 18446744073709551615) (hp : pos ≤ c) (h : Cut E (sev n ++ R) pos e) : Cut E R (rSev (E.take c) pos e).2.1 (rSev (E.take c) pos e).2.2 := by
  rcases h with rfl | ⟨rfl, h⟩
  · rw [rSev_ten]; exact Or.inl rfl
  · rcases drop_take_cases h hp with ⟨_, h1⟩ | ⟨hl, h1⟩
    · rw [rSev_lay h1 hn]; exact Or.inr ⟨rfl, drop_more h⟩
    · rw [rSev_cut h1 hn hl]; exact Or.inl rfl

theorem cut_count {E R : List UInt8} {pos c e n : Nat} {most : Int} (hn : n ≤ 18446744073709551615) (hm : n ≤ most.toNat) (hp : pos ≤ c) (h : Cut E (sev n ++ R) pos e) :
    Cut E R (rCount (E.take c) most pos e).2.1 (rCount (E.take c) most pos e).2.2 := by
  rcases h with rfl | ⟨rfl, h⟩
  · rw [rCount_ten]; exact Or.inl rfl
  · rcases drop_take_cases h hp with ⟨_, h1⟩ | ⟨hl, h1⟩
    · rw [rCount_lay h1 hn hm]; exact Or.inr ⟨rfl, drop_more h⟩
    · rw [rCount_cut h1 hn hl]; exact Or.inl rfl

theorem cut_flag {E R : List UInt8} {pos c e : Nat} {f : Bool} (hc : c ≤ E.length) (hp : pos ≤ c) (h : Cut E ([if f then 1 else 0] ++ R) pos e) :
    Cut E R (rFlag (E.take c) pos e).2.1 (rFlag (E.take c) pos e).2.2 := by
  rcases h with rfl | ⟨rfl, h⟩
  · exact Or.inl (rFlag_ten _ _)
  · rcases drop_take_cases h hp with ⟨_, h1⟩ | ⟨hl, h1⟩
    · rw [rFlag_lay h1]; exact Or.inr ⟨rfl, drop_more h⟩
    · left
      have : ¬ pos < (E.take c).length := by rw [List.length_take]; simp at hl; omega
      unfold rFlag; rw [dif_neg this]; rfl

theorem cut_text {E R s : List UInt8} {pos c e : Nat} {most : Int} (hn : s.length ≤ 18446744073709551615) (hm : s.length ≤ most.toNat) (hp : pos ≤ c) (hc : c ≤ E.length) (h : Cut E ((sev s.length ++ s) ++ R) pos e) :
    Cut E R (rText (E.take c) most pos e).2.1 (rText (E.take c) most pos e).2.2 := by
  rcases h with rfl | ⟨rfl, h⟩
  · rw [rText_of_ten (rCount_ten _ _ _)]; exact Or.inl rfl
  · rcases drop_take_cases h hp with ⟨_, h1⟩ | ⟨hl, h1⟩
    · rw [rText_lay h1 hn hm]; exact Or.inr ⟨rfl, drop_more h⟩
    · rw [List.append_assoc] at h
      rcases drop_take_cases h hp with ⟨h2, h3⟩ | ⟨h2, h3⟩
      · left
        unfold rText
        rw [rCount_lay h3 hn hm]
        simp only
        rw [List.length_append] at hl
        rw [if_pos (by rw [List.length_take]; omega)]
        rfl
      · rw [rText_of_ten (rCount_cut h3 hn h2)]; exact Or.inl rfl

theorem cut_end {E : List UInt8} {pos c e : Nat} (hc : c < E.length) (hp : pos ≤ c) (h : Cut E [] pos e) : e = 10 := by
  rcases h with h | ⟨_, h⟩
  · exact h
  · have := congrArg List.length h
    rw [List.length_drop, List.length_nil] at this
    omega
end Go.Proofs.Ytkfpkfbahkmakaa
