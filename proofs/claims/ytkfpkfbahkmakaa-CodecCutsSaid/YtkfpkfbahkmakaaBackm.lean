/- What is laid is taken up: the reader's model, in plain mathematics. -/
import Derived.Test.YtkfpkfbahkmakaaLay
namespace Go.Proofs.Ytkfpkfbahkmakaa
open Go.RowKit
set_option linter.unusedVariables false

theorem rSev_lay {l r : List UInt8} {pos n : Nat} (h : l.drop pos = sev n ++ r) (hn : n ≤ 18446744073709551615) : rSev l pos 0 = (n, pos + (sev n).length, 0) := by
  unfold rSev; rw [if_pos rfl, h, seek_lay hn]

theorem rCount_lay {l r : List UInt8} {pos n : Nat} {most : Int} (h : l.drop pos = sev n ++ r) (hn : n ≤ 18446744073709551615) (hm : n ≤ most.toNat) : rCount l most pos 0 = (n, pos + (sev n).length, 0) := by
  unfold rCount; rw [rSev_lay h hn, if_neg (by omega)]

theorem drop_more {l a r : List UInt8} {pos : Nat} (h : l.drop pos = a ++ r) : l.drop (pos + a.length) = r := by
  rw [← List.drop_drop, h, List.drop_left]

theorem rText_lay {l r s : List UInt8} {pos : Nat} {most : Int} (h : l.drop pos = (sev s.length ++ s) ++ r) (hn : s.length ≤ 18446744073709551615) (hm : s.length ≤ most.toNat) :
    rText l most pos 0 = (s, pos + (sev s.length ++ s).length, 0) := by
  rw [List.append_assoc] at h
  unfold rText
  rw [rCount_lay h hn hm]
  have h2 := drop_more h
  have hlen : l.length - (pos + (sev s.length).length) = s.length + r.length := by
    rw [← List.length_drop, h2, List.length_append]
  simp only
  rw [if_neg (by omega), if_pos trivial, h2, List.take_left, List.length_append, Nat.add_assoc]

theorem rFlag_lay {l r : List UInt8} {pos : Nat} {f : Bool} (h : l.drop pos = [if f then 1 else 0] ++ r) : rFlag l pos 0 = (f, pos + 1, 0) := by
  have hlt : pos < l.length := by
    rcases Nat.lt_or_ge pos l.length with h1 | h1
    · exact h1
    · rw [List.drop_of_length_le h1] at h; simp at h
  have hx : l[pos] = if f then 1 else 0 := by
    rw [List.drop_eq_getElem_cons hlt] at h
    simpa using (List.cons.inj h).1
  unfold rFlag
  rw [dif_pos hlt, hx]
  cases f <;> simp

def enc : List Item → List UInt8
  | [] => []
  | x :: r => x.bytes ++ enc r

theorem enc_drop {its : List Item} {k : Nat} (h : k < its.length) : enc (its.drop k) = its[k].bytes ++ enc (its.drop (k + 1)) := by
  rw [List.drop_eq_getElem_cons h]; rfl

theorem enc_le : ∀ (its : List Item), (∀ x ∈ its, x.Fits) → tot its ≤ 60000000000 → (enc its).length ≤ tot its := by
  intro its
  induction its with
  | nil => intro _ _; simp [enc]
  | cons x r ih =>
    intro hf ht
    simp only [tot] at ht ⊢
    have h1 := Item.bytes_le x (hf x (by simp)) (by omega)
    have h2 := ih (fun y hy => hf y (by simp [hy])) (by omega)
    simp only [enc, List.length_append]
    omega

theorem tot_drop_le : ∀ (its : List Item) (k : Nat) (h : k < its.length), its[k].s.size + 11 + tot (its.drop (k + 1)) ≤ tot its := by
  intro its
  induction its with
  | nil => intro k h; simp at h
  | cons x r ih =>
    intro k h
    cases k with
    | zero => simp [tot]
    | succ k =>
      have := ih k (by simpa using h)
      simp only [List.getElem_cons_succ, List.drop_succ_cons, tot]
      omega
end Go.Proofs.Ytkfpkfbahkmakaa
