/- Paths, plainly: names, what a text is made of, the two ways of taking it apart. No program in this text. -/
import Derived.Lib.ItoaNum
import Derived.Lib.Repeat
import Derived.Lib.Strings
namespace Go.Proofs.Ytjpoebajljbocaa

/-- may a byte stand in a name? -/
def lettN (b : Nat) : Bool := (97 ≤ b && b ≤ 122) || (65 ≤ b && b ≤ 90) || (48 ≤ b && b ≤ 57) || b == 95 || b == 45 || b == 46
def lett (b : UInt8) : Bool := lettN b.toNat
def nameB (l : List UInt8) : Bool := l != [] && l != [46] && l != [46, 46]
def okName (l : List UInt8) : Bool := nameB l && l.all lett
def joinN : List (List UInt8) → List UInt8
  | [] => []
  | n :: r => 47 :: (n ++ joinN r)
/-- from left to right, byte by byte, the name so far -/
def scan : List UInt8 → List UInt8 → Option (List (List UInt8))
  | [], _ => some []
  | b :: r, cur => if lett b then scan r (cur ++ [b]) else if b = 47 ∧ nameB cur = true then (scan r []).map (cur :: ·) else none
def parse : List UInt8 → Option (List (List UInt8))
  | [] => none
  | b :: l => if b = 47 then scan (l ++ [47]) [] else none

theorem lett_slash : lett 47 = false := by decide
theorem lett_ne {b : UInt8} (h : lett b = true) : b ≠ 47 := by intro e; subst e; revert h; decide

theorem scan_sound : ∀ (l cur : List UInt8) (ns : List (List UInt8)), cur.all lett = true → scan (l ++ [47]) cur = some ns →
    ns ≠ [] ∧ (∀ n ∈ ns, okName n = true) ∧ 47 :: (cur ++ l) = joinN ns
  | [], cur, ns, hc, h => by
    simp only [List.nil_append, scan, lett_slash, Bool.false_eq_true, if_false, true_and] at h
    by_cases hn : nameB cur = true
    · simp only [hn, if_true, Option.map_some, Option.some.injEq] at h
      subst h
      refine ⟨by simp, ?_, by simp [joinN]⟩
      intro n hm
      obtain rfl : n = cur := by simpa using hm
      simp [okName, hn, hc]
    · simp [hn] at h
  | b :: l, cur, ns, hc, h => by
    rw [List.cons_append, scan] at h
    by_cases hb : lett b = true
    · rw [if_pos hb] at h
      obtain ⟨h1, h2, h3⟩ := scan_sound l (cur ++ [b]) ns (by simp [hc, hb]) h
      exact ⟨h1, h2, by rw [← h3]; simp⟩
    · rw [if_neg hb] at h
      by_cases hn : b = 47 ∧ nameB cur = true
      · rw [if_pos hn] at h
        obtain ⟨ns', h', rfl⟩ := Option.map_eq_some_iff.1 h
        obtain ⟨h1, h2, h3⟩ := scan_sound l [] ns' rfl h'
        refine ⟨by simp, ?_, ?_⟩
        · intro n hm
          rcases List.mem_cons.1 hm with rfl | hm
          · simp [okName, hn.2, hc]
          · exact h2 n hm
        · rw [joinN, ← h3, hn.1]; simp
      · rw [if_neg hn] at h; cases h

theorem scan_run : ∀ (n cur rest : List UInt8), n.all lett = true → scan (n ++ rest) cur = scan rest (cur ++ n)
  | [], cur, rest, _ => by simp
  | b :: n, cur, rest, h => by
    simp only [List.all_cons, Bool.and_eq_true] at h
    rw [List.cons_append, scan, if_pos h.1, scan_run n _ _ h.2]
    simp

theorem okName_parts {n : List UInt8} (h : okName n = true) : nameB n = true ∧ n.all lett = true := by
  simpa [okName] using h

theorem scan_whole : ∀ (r : List (List UInt8)) (n : List UInt8), okName n = true → (∀ m ∈ r, okName m = true) → scan (joinN r ++ [47]) n = some (n :: r)
  | [], n, hn, _ => by
    simp [joinN, scan, lett_slash, (okName_parts hn).1]
  | m :: r, n, hn, hr => by
    have hm := hr m (by simp)
    rw [joinN, List.cons_append, scan, if_neg (by simp [lett_slash]), if_pos ⟨rfl, (okName_parts hn).1⟩, List.append_assoc, scan_run m [] _ (okName_parts hm).2,
      List.nil_append, scan_whole r m hm (fun k hk => hr k (by simp [hk]))]
    rfl

theorem parse_iff (p : List UInt8) (ns : List (List UInt8)) : parse p = some ns ↔ ns ≠ [] ∧ (∀ n ∈ ns, okName n = true) ∧ p = joinN ns := by
  constructor
  · intro h
    cases p with
    | nil => cases h
    | cons b l =>
      rw [parse] at h
      by_cases hb : b = 47
      · rw [if_pos hb] at h
        obtain ⟨h1, h2, h3⟩ := scan_sound l [] ns rfl h
        exact ⟨h1, h2, by rw [← h3, hb]; simp⟩
      · rw [if_neg hb] at h; cases h
  · rintro ⟨h1, h2, rfl⟩
    cases ns with
    | nil => exact absurd rfl h1
    | cons n r =>
      have hn := h2 n (by simp)
      rw [joinN, parse, if_pos rfl, List.append_assoc, scan_run n [] _ (okName_parts hn).2, List.nil_append, scan_whole r n hn (fun k hk => h2 k (by simp [hk]))]

/-- Q1, in the document's words -/
def checkL (p : List UInt8) : Int := if p = [47] then 0 else match parse p with
  | none => 40
  | some ns => if 60 < p.length ∨ 6 < ns.length then 41 else 0

/-- the document's own way: the first name, then the rest -/
def rnames (p : List UInt8) : Option (List (List UInt8)) :=
  match p with
  | [] => some []
  | b :: t => if b = 47 ∧ okName (t.takeWhile (· != 47)) = true then (rnames (t.dropWhile (· != 47))).map (t.takeWhile (· != 47) :: ·) else none
termination_by p.length
decreasing_by
  have := (List.dropWhile_sublist (l := t) (fun x => x != 47)).length_le
  simp; omega

theorem rnames_sound (k : Nat) : ∀ (p : List UInt8) (ns : List (List UInt8)), p.length ≤ k → rnames p = some ns → (∀ n ∈ ns, okName n = true) ∧ p = joinN ns := by
  induction k with
  | zero =>
    intro p ns hp h
    obtain rfl : p = [] := List.eq_nil_of_length_eq_zero (by omega)
    rw [rnames] at h
    obtain rfl : [] = ns := Option.some.inj h
    exact ⟨by simp, rfl⟩
  | succ k ih =>
    intro p ns hp h
    cases p with
    | nil =>
      rw [rnames] at h
      obtain rfl : [] = ns := Option.some.inj h
      exact ⟨by simp, rfl⟩
    | cons b t =>
      rw [rnames] at h
      by_cases hb : b = 47 ∧ okName (t.takeWhile (· != 47)) = true
      · rw [if_pos hb] at h
        obtain ⟨ns', h', rfl⟩ := Option.map_eq_some_iff.1 h
        have hl := (List.dropWhile_sublist (l := t) (fun x => x != 47)).length_le
        obtain ⟨h2, h3⟩ := ih _ ns' (by simp at hp; omega) h'
        refine ⟨?_, ?_⟩
        · intro n hm
          rcases List.mem_cons.1 hm with rfl | hm
          · exact hb.2
          · exact h2 n hm
        · rw [joinN, ← h3, List.takeWhile_append_dropWhile, hb.1]
      · rw [if_neg hb] at h; cases h

theorem all_ne {n : List UInt8} (h : n.all lett = true) : ∀ b ∈ n, (b != 47) = true := by
  intro b hb
  have := List.all_eq_true.1 h b hb
  simpa using lett_ne this

theorem joinN_head (r : List (List UInt8)) : (joinN r).takeWhile (· != 47) = [] ∧ (joinN r).dropWhile (· != 47) = joinN r := by
  cases r with
  | nil => exact ⟨rfl, rfl⟩
  | cons m r => constructor <;> simp [joinN]

theorem rnames_whole : ∀ (ns : List (List UInt8)), (∀ n ∈ ns, okName n = true) → rnames (joinN ns) = some ns
  | [], _ => by rw [joinN, rnames]
  | n :: r, h => by
    have hn := h n (by simp)
    have ha := all_ne (okName_parts hn).2
    have e1 : (n ++ joinN r).takeWhile (· != 47) = n := by
      rw [List.takeWhile_append_of_pos ha, (joinN_head r).1, List.append_nil]
    have e2 : (n ++ joinN r).dropWhile (· != 47) = joinN r := by
      rw [List.dropWhile_append_of_pos ha, (joinN_head r).2]
    rw [joinN, rnames, e1, e2, if_pos ⟨rfl, hn⟩, rnames_whole r (fun k hk => h k (by simp [hk]))]
    rfl

/-- the two ways come to one -/
theorem rnames_parse (p : List UInt8) (h : p ≠ []) : rnames p = parse p := by
  cases e : rnames p with
  | some ns =>
    obtain ⟨h1, h2⟩ := rnames_sound _ p ns (Nat.le_refl _) e
    refine ((parse_iff p ns).2 ⟨?_, h1, h2⟩).symm
    intro hn
    subst hn
    exact h h2
  | none =>
    cases e' : parse p with
    | none => rfl
    | some ns =>
      obtain ⟨_, h2, rfl⟩ := (parse_iff p ns).1 e'
      rw [rnames_whole ns h2] at e
      cases e
end Go.Proofs.Ytjpoebajljbocaa
