/- What is taken up is laid again, call by call: in plain mathematics. -/
import Derived.Test.YtngcfnffbggniaaReader
namespace Go.Proofs.Ytngcfnffbggniaa
open Go.ChangeShapes Go.WideShapes Go.ChangeAt Go.RowKit
set_option linter.unusedVariables false

/-- as long as nothing is wrong, what is laid is what was taken up; each wrong one lays one byte -/
structure Good (l : List UInt8) (pos e : Nat) (la : List UInt8) (k : Nat) : Prop where
  same : e = 0 → la = l.take pos
  len : la.length ≤ l.length + k

theorem sev_zero : sev 0 = [0] := by rw [sev_lt (by omega)]; rfl

theorem Good.wrong {l la : List UInt8} {pos e k q x : Nat} (h : Good l pos e la k) (b : UInt8) (hx : x ≠ 0) : Good l q x (la ++ [b]) (k + 1) :=
  ⟨fun e => absurd e hx, by have := h.len; simp only [List.length_append, List.length_cons, List.length_nil]; omega⟩
theorem Good.right {l la : List UInt8} {pos k n : Nat} (h : Good l pos 0 la k) {B : List UInt8} (hB : B = (l.drop pos).take n) : Good l (pos + n) 0 (la ++ B) (k + 1) := by
  have e : la ++ B = l.take (pos + n) := by rw [h.same rfl, hB, List.take_add]
  exact ⟨fun _ => e, by rw [e, List.length_take]; omega⟩

theorem good_num {l la : List UInt8} {pos e k : Nat} (h : Good l pos e la k) : Good l (rSev l pos e).2.1 (rSev l pos e).2.2 (la ++ sev (rSev l pos e).1) (k + 1) := by
  by_cases he : e = 0
  · subst he
    have hs : rSev l pos 0 = ((seek 0 0 (l.drop pos)).1, pos + (seek 0 0 (l.drop pos)).2.1, (seek 0 0 (l.drop pos)).2.2) := if_pos rfl
    rw [hs]
    rcases hk : seek 0 0 (l.drop pos) with ⟨n, j, x⟩
    rcases seek_err (l.drop pos) 0 0 with h1 | h1 | h1
    · rw [hk] at h1
      obtain rfl : x = 0 := h1.1
      obtain ⟨m, e1, e2, e3, e4, _⟩ := seek_found _ _ _ _ _ hk
      obtain rfl : n = m := by rw [e1]; simp
      obtain rfl : j = (sev n).length := by omega
      exact h.right e3.symm
    · rw [hk] at h1
      simp only [Prod.mk.injEq] at h1
      obtain ⟨rfl, rfl, rfl⟩ := h1
      simp only [sev_zero]
      exact h.wrong 0 (by decide)
    · rw [hk] at h1
      simp only [Prod.mk.injEq] at h1
      obtain ⟨rfl, rfl, rfl⟩ := h1
      simp only [sev_zero]
      exact h.wrong 0 (by decide)
  · have hs : rSev l pos e = (0, pos, e) := if_neg he
    rw [hs]
    simp only [sev_zero]
    exact h.wrong 0 he

theorem wr_ne' {e x : Nat} (hx : x ≠ 0) : wr e x ≠ 0 := by unfold wr; split <;> omega

theorem good_count {l la : List UInt8} {most : Int} {pos e k : Nat} (h : Good l pos e la k) : Good l (rCount l most pos e).2.1 (rCount l most pos e).2.2 (la ++ sev (rCount l most pos e).1) (k + 1) := by
  unfold rCount
  split
  · simp only [sev_zero]
    exact h.wrong 0 (wr_ne' (by decide))
  · exact good_num h

theorem good_flag {l la : List UInt8} {pos e k : Nat} (h : Good l pos e la k) : Good l (rFlag l pos e).2.1 (rFlag l pos e).2.2 (la ++ [if (rFlag l pos e).1 then 1 else 0]) (k + 1) := by
  unfold rFlag
  split
  · rename_i hlt
    split
    · exact h.wrong _ (wr_ne' (by decide))
    · split
      · rename_i hx he
        subst he
        refine h.right (n := 1) ?_
        rw [List.drop_eq_getElem_cons hlt, List.take_succ_cons, List.take_zero]
        congr 1
        apply UInt8.toNat_inj.1
        simp only
        by_cases h1 : l[pos].toNat = 1
        · rw [h1]; rfl
        · rw [show l[pos].toNat = 0 from by omega]; rfl
      · exact h.wrong _ (by assumption)
  · exact h.wrong _ (wr_ne' (by decide))

theorem good_text {l la : List UInt8} {most : Int} {pos e k : Nat} (h : Good l pos e la k) : Good l (rText l most pos e).2.1 (rText l most pos e).2.2 (la ++ (sev (rText l most pos e).1.length ++ (rText l most pos e).1)) (k + 1) := by
  have hc := good_count (most := most) h
  unfold rText
  rcases hr : rCount l most pos e with ⟨n, q, x⟩
  rw [hr] at hc
  simp only at hc ⊢
  by_cases hlt : l.length - q < n
  · rw [if_pos hlt]
    simp only [List.length_nil, List.append_nil, sev_zero]
    exact h.wrong 0 (wr_ne' (by decide))
  · rw [if_neg hlt]
    by_cases hx : x = 0
    · rw [if_pos hx]
      subst hx
      have hl : ((l.drop q).take n).length = n := by rw [List.length_take, List.length_drop]; omega
      have e : la ++ (sev n ++ (l.drop q).take n) = l.take (q + n) := by rw [← List.append_assoc, hc.same rfl, List.take_add]
      refine ⟨fun _ => ?_, ?_⟩
      · simp only; rw [hl]; exact e
      · simp only; rw [hl, e, List.length_take]; omega
    · rw [if_neg hx]
      simp only [List.length_nil, List.append_nil, sev_zero]
      exact h.wrong 0 hx

theorem good_none {l la : List UInt8} {pos e k : Nat} (h : Good l pos e la k) : Good l pos e la (k + 1) := ⟨h.same, by have := h.len; omega⟩

theorem rText_len {l la : List UInt8} {most : Int} {pos e k : Nat} (h : Good l pos e la k) : la.length + (rText l most pos e).1.length ≤ l.length + (k + 1) := by
  have := (good_text (most := most) h).len
  simp only [List.length_append] at this
  omega
theorem rText_le {l : List UInt8} {most : Int} {pos e : Nat} : (rText l most pos e).1.length ≤ l.length := by
  unfold rText
  split
  · simp
  · split
    · simp only [List.length_take, List.length_drop]; omega
    · simp

theorem rSev_lay {l r : List UInt8} {pos n : Nat} (h : l.drop pos = sev n ++ r) (hn : n ≤ 18446744073709551615) : rSev l pos 0 = (n, pos + (sev n).length, 0) := by
  unfold rSev; rw [if_pos rfl, h, seek_lay hn]

theorem rCount_lay {l r : List UInt8} {pos n : Nat} {most : Int} (h : l.drop pos = sev n ++ r) (hn : n ≤ 18446744073709551615) (hm : n ≤ most.toNat) : rCount l most pos 0 = (n, pos + (sev n).length, 0) := by
  unfold rCount; rw [rSev_lay h hn, if_neg (by omega)]

theorem drop_more {l a r : List UInt8} {pos : Nat} (h : l.drop pos = a ++ r) : l.drop (pos + a.length) = r := by
  rw [← List.drop_drop, h, List.drop_left]

theorem rText_lay {l r s : List UInt8} {pos : Nat} {most : Int} (h : l.drop pos = (sev s.length ++ s) ++ r) (hn : s.length ≤ 18446744073709551615) (hm : s.length ≤ most.toNat) :
    rText l most pos 0 = (s, pos + (sev s.length ++ s).length, 0) := by
  rw [List.append_assoc] at h
  unfold rText
  rw [rCount_lay h hn hm]
  have h2 := drop_more h
  have hlen : l.length - (pos + (sev s.length).length) = s.length + r.length := by
    rw [← List.length_drop, h2, List.length_append]
  simp only
  rw [if_neg (by omega), if_pos trivial, h2, List.take_left, List.length_append, Nat.add_assoc]

theorem rFlag_lay {l r : List UInt8} {pos : Nat} {f : Bool} (h : l.drop pos = [if f then 1 else 0] ++ r) : rFlag l pos 0 = (f, pos + 1, 0) := by
  have hlt : pos < l.length := by
    rcases Nat.lt_or_ge pos l.length with h1 | h1
    · exact h1
    · rw [List.drop_of_length_le h1] at h; simp at h
  have hx : l[pos] = if f then 1 else 0 := by
    rw [List.drop_eq_getElem_cons hlt] at h
    simpa using (List.cons.inj h).1
  unfold rFlag
  rw [dif_pos hlt, hx]
  cases f <;> simp
end Go.Proofs.Ytngcfnffbggniaa
