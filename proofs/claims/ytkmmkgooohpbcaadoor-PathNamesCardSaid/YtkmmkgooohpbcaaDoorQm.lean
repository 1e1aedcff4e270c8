/- What a path is made of: Parent, Base, Kid, Under and Check of names. -/
import Derived.Test.YtkmmkgooohpbcaaDoorQg
namespace Go.Proofs.YtkmmkgooohpbcaaDoor
open Go.ChangeShapes Go.WideShapes Go.ChangeAt Go.RowKit
set_option linter.unusedVariables false
set_option linter.unusedSimpArgs false

theorem eq_of_list {a b : ByteArray} (h : a.data.toList = b.data.toList) : a = b := ByteArray.ext (Array.ext' h)
def pathL (ns : List (List UInt8)) : List UInt8 := if ns = [] then [47] else joinN ns
def pathS (ns : List (List UInt8)) : ByteArray := ⟨(pathL ns).toArray⟩
theorem pathS_list (ns : List (List UInt8)) : (pathS ns).data.toList = pathL ns := rfl
def AllOk (ns : List (List UInt8)) : Prop := ∀ n ∈ ns, okName n = true

theorem okName_ne {n : List UInt8} (h : okName n = true) : n ≠ [] := by
  intro e; subst e; revert h; decide
theorem okName_pos {n : List UInt8} (h : okName n = true) : 0 < n.length := List.length_pos_iff.2 (okName_ne h)

theorem joinN_append (a b : List (List UInt8)) : joinN (a ++ b) = joinN a ++ joinN b := by
  induction a with
  | nil => rfl
  | cons n a ih => simp [joinN, ih]
theorem joinN_snoc (a : List (List UInt8)) (n : List UInt8) : joinN (a ++ [n]) = joinN a ++ 47 :: n := by
  rw [joinN_append]; simp [joinN]
theorem joinN_len {ns : List (List UInt8)} (h : AllOk ns) : 2 * ns.length ≤ (joinN ns).length := by
  induction ns with
  | nil => simp [joinN]
  | cons n r ih =>
    have := ih (fun m hm => h m (by simp [hm]))
    have := okName_pos (h n (by simp))
    simp [joinN]; omega
theorem joinN_ne_slash {ns : List (List UInt8)} (h : AllOk ns) : joinN ns ≠ [47] := by
  intro e
  have := joinN_len h
  rw [e] at this
  cases ns with
  | nil => cases e
  | cons n r => simp at this; omega

theorem pathL_cons (n : List UInt8) (r : List (List UInt8)) : pathL (n :: r) = joinN (n :: r) := by simp [pathL]
theorem pathL_snoc (r : List (List UInt8)) (n : List UInt8) : pathL (r ++ [n]) = joinN r ++ 47 :: n := by
  rw [pathL, if_neg (by simp), joinN_snoc]
theorem pathL_slash {ns : List (List UInt8)} (h : AllOk ns) : pathL ns = [47] ↔ ns = [] := by
  unfold pathL
  by_cases e : ns = []
  · simp [e]
  · simp [e, joinN_ne_slash h]

/-- OK: a path -/
theorem check_ok (s : ByteArray) : checkS s = 0 ↔ ∃ ns, AllOk ns ∧ s = pathS ns ∧ ns.length ≤ 6 ∧ s.size ≤ 60 := by
  constructor
  · intro h
    unfold checkS at h
    by_cases e : s.data.toList = [47]
    · have hz : s.size = 1 := by rw [← size_toList, e]; rfl
      exact ⟨[], fun n hn => absurd hn (by simp), eq_of_list (by rw [e]; rfl), by simp, by omega⟩
    · rw [if_neg e] at h
      cases hp : parse s.data.toList with
      | none => rw [hp] at h; simp [lens, checkO] at h
      | some ns =>
        rw [hp] at h
        obtain ⟨h1, h2, h3⟩ := (parse_iff _ _).1 hp
        simp only [lens, Option.map_some, checkO] at h
        by_cases hl : 60 < s.size ∨ 6 < ns.length
        · rw [if_pos hl] at h; cases h
        · exact ⟨ns, h2, eq_of_list (by rw [h3, pathS_list, pathL, if_neg h1]), by omega, by omega⟩
  · rintro ⟨ns, h1, rfl, h3, h4⟩
    unfold checkS
    rw [pathS_list]
    by_cases e : ns = []
    · subst e; rfl
    · rw [if_neg (by rw [pathL_slash h1]; exact e)]
      have : parse (pathL ns) = some ns := (parse_iff _ _).2 ⟨e, h1, by rw [pathL, if_neg e]⟩
      rw [this]
      simp only [lens, Option.map_some, checkO]
      rw [if_neg (by omega)]

/-- the last slash -/
theorem last_at (s : ByteArray) (a n : List UInt8) (h : s.data.toList = a ++ 47 :: n) (hn : ∀ b ∈ n, (b != 47) = true) : lastS s = a.length := by
  have hz : s.size = a.length + 1 + n.length := by rw [← size_toList, h]; simp; omega
  have hget : ∀ j (hj : j < s.size), s.data[j]! = (a ++ 47 :: n)[j]'(by simp; omega) := by
    intro j hj
    rw [Go.Proofs.LastIndex.byteBang s j hj]
    have : s[j] = s.data.toList[j]'(by rw [size_toList]; exact hj) := rfl
    rw [this]
    simp only [h]
  rcases Lib.lastIdx_spec s 47 s.size with ⟨_, h2⟩ | ⟨i, hi, h1, h2, h3⟩
  · exfalso
    have := h2 a.length (by omega)
    rw [hget _ (by omega)] at this
    simp at this
  · have e : lastS s = i := h1
    rw [e]
    congr 1
    rcases Nat.lt_trichotomy i a.length with hlt | heq | hgt
    · exfalso
      have := h3 a.length hlt (by omega)
      rw [hget _ (by omega)] at this
      simp at this
    · exact heq
    · exfalso
      rw [hget _ hi, List.getElem_append_right (by omega)] at h2
      obtain ⟨k, hk⟩ : ∃ k, i - a.length = k + 1 := ⟨i - a.length - 1, by omega⟩
      simp only [hk, List.getElem_cons_succ] at h2
      have := hn _ (List.getElem_mem (l := n) (n := k) (by omega))
      rw [bne_iff_ne] at this
      apply this
      exact UInt8.toNat_inj.1 (by have : n[k].toNat = 47 := by omega
                                  rw [this]; rfl)

theorem last_path (ns : List (List UInt8)) (n : List UInt8) (hn : okName n = true) : lastS (pathS (ns ++ [n])) = (joinN ns).length :=
  last_at _ _ n (by rw [pathS_list, pathL_snoc]) (all_ne (okName_parts hn).2)

theorem par_path {ns : List (List UInt8)} {n : List UInt8} (h : AllOk (ns ++ [n])) : parS (pathS (ns ++ [n])) = pathS ns := by
  have hn := h n (by simp)
  have hl := last_path ns n hn
  unfold parS
  rw [hl]
  by_cases e : ns = []
  · subst e
    have hne : pathS ([] ++ [n]) ≠ slashS := by
      intro e
      have := (pathL_slash h).1 (by rw [← pathS_list, e]; rfl)
      simp at this
    rw [if_pos ⟨rfl, hne⟩]
    exact eq_of_list rfl
  · have hpos : 0 < (joinN ns).length := by
      cases ns with
      | nil => exact absurd rfl e
      | cons m r => simp [joinN]
    rw [if_neg (by omega)]
    apply eq_of_list
    rw [Lib.extract_data, pathS_list, pathL_snoc, pathS_list, pathL, if_neg e]
    simp

theorem base_path {ns : List (List UInt8)} {n : List UInt8} (h : okName n = true) : baseS (pathS (ns ++ [n])) = ⟨n.toArray⟩ := by
  have hl := last_path ns n h
  unfold baseS
  rw [hl]
  apply eq_of_list
  rw [Lib.extract_data, pathS_list, pathL_snoc]
  have : (((joinN ns).length : Int) + 1).toNat = (joinN ns ++ [47]).length := by simp; try omega
  rw [this, show joinN ns ++ 47 :: n = (joinN ns ++ [47]) ++ n by simp, List.drop_left]
  rw [List.take_of_length_le]
  rw [← size_toList, pathS_list, pathL_snoc]; simp; omega

theorem kid_path {ns : List (List UInt8)} (h : AllOk ns) (s : ByteArray) : kidS (pathS ns) s = ⟨(joinN ns ++ 47 :: s.data.toList).toArray⟩ := by
  apply eq_of_list
  unfold kidS
  rw [pathS_list]
  by_cases e : ns = []
  · subst e
    rw [if_pos (show pathL [] = [47] from rfl)]
    simp [pathS_list, pathL, joinN]
  · rw [if_neg (by rw [pathL_slash h]; exact e)]
    simp [pathS_list, pathL, e, slashS]

theorem kid_snoc {ns : List (List UInt8)} {n : List UInt8} (h : AllOk ns) : kidS (pathS ns) ⟨n.toArray⟩ = pathS (ns ++ [n]) := by
  rw [kid_path h]
  apply eq_of_list
  rw [pathS_list, pathL_snoc]

theorem prefix_names : ∀ (ms ns : List (List UInt8)), AllOk ms → AllOk ns → ((joinN ms ++ [47]) <+: joinN ns ↔ ∃ m r, ns = ms ++ m :: r)
  | [], ns, _, hn => by
    cases ns with
    | nil => simp [joinN]
    | cons n r => simp [joinN]
  | m :: ms, [], _, _ => by simp [joinN]
  | m :: ms, n :: r, hm, hn => by
    have hm1 := all_ne (okName_parts (hm m (by simp))).2
    have hn1 := all_ne (okName_parts (hn n (by simp))).2
    have ih := prefix_names ms r (fun k hk => hm k (by simp [hk])) (fun k hk => hn k (by simp [hk]))
    have e1 : (n ++ joinN r).takeWhile (· != 47) = n := by
      rw [List.takeWhile_append_of_pos hn1, (joinN_head r).1, List.append_nil]
    obtain ⟨t, ht⟩ : ∃ t, joinN ms ++ [47] = 47 :: t := by
      cases ms with
      | nil => exact ⟨[], rfl⟩
      | cons a b => exact ⟨_, by rw [joinN]; rfl⟩
    simp only [joinN, List.cons_append, List.append_assoc, List.cons_prefix_cons, true_and]
    constructor
    · rintro ⟨q, hq⟩
      have e2 : (m ++ (joinN ms ++ [47]) ++ q).takeWhile (· != 47) = m := by
        rw [ht, List.append_assoc, List.takeWhile_append_of_pos hm1]
        simp
      rw [hq, e1] at e2
      subst e2
      rw [List.append_assoc] at hq
      obtain ⟨k, r', rfl⟩ := ih.1 ⟨q, List.append_cancel_left hq⟩
      exact ⟨k, r', rfl⟩
    · rintro ⟨k, r', e⟩
      simp only [List.cons.injEq] at e
      obtain ⟨rfl, rfl⟩ := e
      obtain ⟨q, hq⟩ := ih.2 ⟨k, r', rfl⟩
      exact ⟨q, by rw [List.append_assoc, hq]⟩

theorem under_path {ns ms : List (List UInt8)} (hn : AllOk ns) (hm : AllOk ms) : underS (pathS ns) (pathS ms) = true ↔ ∃ m r, ns = ms ++ m :: r := by
  have hk : (kidS (pathS ms) ⟨#[]⟩).data.toList = joinN ms ++ [47] := by rw [kid_path hm]
  unfold underS
  rw [hk, ← size_toList, ← size_toList, hk, Bool.and_eq_true, decide_eq_true_iff, Lib.hasPrefix, List.isPrefixOf_iff_prefix, pathS_list]
  by_cases e : ns = []
  · subst e
    simp [pathL]
  · rw [pathL, if_neg e, prefix_names ms ns hm hn]
    constructor
    · exact fun h => h.2
    · rintro ⟨m, r, rfl⟩
      refine ⟨?_, m, r, rfl⟩
      have := okName_pos (hn m (by simp))
      rw [joinN_append, joinN]
      simp
      omega

theorem count_names {ns : List (List UInt8)} (h : AllOk ns) : (joinN ns).countP (· == 47) = ns.length := by
  induction ns with
  | nil => rfl
  | cons n r ih =>
    have h0 : n.countP (· == 47) = 0 := by
      rw [List.countP_eq_zero]
      intro b hb
      have := all_ne (okName_parts (h n (by simp))).2 b hb
      simpa using this
    simp [joinN, List.countP_append, h0, ih (fun m hm => h m (by simp [hm]))]
theorem size_path (ns : List (List UInt8)) : (pathS ns).size = (pathL ns).length := rfl
theorem size_le {a r : List (List UInt8)} (h : AllOk (a ++ r)) : (pathS a).size ≤ (pathS (a ++ r)).size := by
  rw [size_path, size_path]
  by_cases e : a = []
  · subst e
    by_cases e2 : r = []
    · subst e2; simp
    · rw [List.nil_append, pathL, if_pos rfl, pathL, if_neg e2]
      have := joinN_len (ns := r) (fun n hn => h n (by simp [hn]))
      have := List.length_pos_iff.2 e2
      simp; omega
  · rw [pathL, if_neg e, pathL, if_neg (by simp [e]), joinN_append]
    simp
end Go.Proofs.YtkmmkgooohpbcaaDoor
