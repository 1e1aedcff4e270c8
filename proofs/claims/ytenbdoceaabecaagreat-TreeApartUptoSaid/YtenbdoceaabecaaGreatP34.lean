/- The document's nodes by rising paths; a parent comes before its kids; the root is nobody's. -/
import Derived.Test.YtenbdoceaabecaaGreatP33
import Derived.Sort.Walk0
namespace Go.Proofs.YtenbdoceaabecaaGreat
set_option linter.unusedVariables false
set_option linter.unusedSimpArgs false
abbrev ltP (p q : ByteArray) : Prop := keyB p < keyB q
theorem ba_toList (p : ByteArray) : p.toList = keyB p := Lib.toList_data p
theorem less_iff (p q : ByteArray) : Op.bytesLess p.toList q.toList = decide (ltP p q) := by
  rw [bytesLess_eq, ba_toList, ba_toList]
theorem ltP_trans {p q r : ByteArray} (h : ltP p q) (k : ltP q r) : ltP p r := List.lt_trans h k
theorem ltP_irrefl (p : ByteArray) : ¬ ltP p p := List.lt_irrefl _
theorem ltP_total {p q : ByteArray} (h : ¬ ltP p q) (hne : p ≠ q) : ltP q p := by
  by_cases h2 : ltP q p
  · exact h2
  · exact absurd (keyB_inj (List.le_antisymm (List.not_lt.1 h2) (List.not_lt.1 h))) hne
def SrtL {α : Type} (key : α → ByteArray) (l : List α) : Prop := (l.map key).Pairwise ltP
theorem srt_snoc {α : Type} {key : α → ByteArray} {l : List α} {a : α} : SrtL key (l ++ [a]) ↔ SrtL key l ∧ ∀ x ∈ l, ltP (key x) (key a) := by
  unfold SrtL
  rw [List.map_append, List.pairwise_append]
  constructor
  · rintro ⟨h1, _, h3⟩; exact ⟨h1, fun x hx => h3 _ (List.mem_map.2 ⟨x, hx, rfl⟩) _ (by simp)⟩
  · rintro ⟨h1, h3⟩
    refine ⟨h1, by simp, fun x hx y hy => ?_⟩
    obtain ⟨z, hz, rfl⟩ := List.mem_map.1 hx
    simp at hy; subst hy; exact h3 z hz
theorem lay_srt {α : Type} (key : α → ByteArray) (n : α) (l : List α) (h : SrtL key l) :
    SrtL key (layFold key n l).1 ∧ ((layFold key n l).2 = false → ∀ x ∈ l, ltP (key x) (key n)) ∧ ((layFold key n l).2 = true → ∃ x ∈ l, ¬ ltP (key x) (key n)) := by
  induction l using snoc_ind with
  | h0 => exact ⟨List.Pairwise.nil, fun _ x hx => (nomatch hx), fun h => by simp [layFold] at h⟩
  | h1 l a ih =>
    obtain ⟨hl, ha⟩ := srt_snoc.1 h
    obtain ⟨i1, i2, i3⟩ := ih hl
    have hm := lay_iff key n l
    rw [layFold_snoc]
    generalize layFold key n l = f at *
    obtain ⟨F, s⟩ := f
    simp only at i1 i2 i3 hm
    unfold layStep
    simp only [less_iff]
    have hFa : key a ≠ key n → ∀ x ∈ F, (s = true → ltP (key n) (key a)) → ltP (key x) (key a) := fun hk x hx hs => by
      rcases (hm x).1 hx with ⟨h1, rfl⟩ | ⟨h1, _⟩
      · exact hs h1
      · exact ha x h1
    cases s with
    | true =>
      obtain ⟨y, hy, hyn⟩ := i3 rfl
      have hna : key a ≠ key n → ltP (key n) (key a) := fun hk => by
        by_cases e : key y = key n
        · rw [← e]; exact ha y hy
        · exact ltP_trans (ltP_total hyn e) (ha y hy)
      simp only [Bool.true_or, Bool.true_eq_false, false_and, if_false, List.append_nil, reduceCtorEq]
      refine ⟨?_, fun h => (nomatch h), fun _ => ⟨y, by simp [hy], hyn⟩⟩
      split
      · simpa using i1
      · rename_i hk
        exact srt_snoc.2 ⟨i1, fun x hx => hFa hk x hx (fun _ => hna hk)⟩
    | false =>
      have hlt := i2 rfl
      have hFn : ∀ x ∈ F, ltP (key x) (key n) := fun x hx => by
        rcases (hm x).1 hx with ⟨h1, _⟩ | ⟨h1, _⟩
        · cases h1
        · exact hlt x h1
      by_cases hc : ltP (key a) (key n)
      · have hk : key a ≠ key n := fun e => ltP_irrefl (key n) (by rw [e] at hc; exact hc)
        simp only [hc, decide_true, Bool.true_eq_false, and_false, if_false, List.append_nil, if_neg hk, Bool.not_true, Bool.or_false, reduceCtorEq]
        refine ⟨srt_snoc.2 ⟨i1, fun x hx => hFa hk x hx (fun h => (nomatch h))⟩, fun _ x hx => ?_, fun h => nomatch h⟩
        rcases List.mem_append.1 hx with hx | hx
        · exact hlt x hx
        · simp at hx; subst hx; exact hc
      · simp only [hc, decide_false, and_self, if_true, Bool.not_false, Bool.or_true, reduceCtorEq]
        refine ⟨?_, fun h => (nomatch h), fun _ => ⟨a, by simp, hc⟩⟩
        have h1 : SrtL key (F ++ [n]) := srt_snoc.2 ⟨i1, hFn⟩
        split
        · simpa using h1
        · rename_i hk
          refine srt_snoc.2 ⟨h1, fun x hx => ?_⟩
          rcases List.mem_append.1 hx with hx | hx
          · exact hFa hk x hx (fun h => (nomatch h))
          · simp at hx; subst hx; exact ltP_total hc hk
theorem layF_srt {α : Type} (key : α → ByteArray) (n : α) (l : List α) (h : SrtL key l) : SrtL key (layF key n l) := by
  obtain ⟨h1, h2, h3⟩ := lay_srt key n l h
  have hm := lay_iff key n l
  unfold layF
  split
  · exact h1
  · rename_i hs
    have hs : (layFold key n l).2 = false := by simpa using hs
    refine srt_snoc.2 ⟨h1, fun x hx => ?_⟩
    rcases (hm x).1 hx with ⟨h1, _⟩ | ⟨h1, _⟩
    · rw [hs] at h1; cases h1
    · exact h2 hs x h1
/-- nodes by rising paths, the root nobody's -/
structure SrtR (R : RT) : Prop where
  srt : SrtL RN.path R.N
  root : ∀ n ∈ R.N, keyB n.path = [47] → n.st.owner = 0
theorem SrtR.mod {R : RT} (h : SrtR R) {i : Nat} {f : RN → RN} (hf : ∀ n, (f n).path = n.path) (ho : ∀ n, (f n).st.owner = n.st.owner) : SrtR (modN R i f) := by
  refine ⟨?_, fun n hn hk => ?_⟩
  · unfold SrtL
    show ((R.N.modify i f).map RN.path).Pairwise ltP
    rw [modify_paths hf]; exact h.srt
  · have hn : n ∈ R.N.modify i f := hn
    obtain ⟨j, hj, rfl⟩ := List.getElem_of_mem hn
    rw [List.length_modify] at hj
    rw [List.getElem_modify] at hk ⊢
    have := h.root _ (List.getElem_mem hj)
    split at hk
    · rename_i e; rw [if_pos e, ho]; rw [hf] at hk; exact this hk
    · rename_i e; rw [if_neg e]; exact this hk
theorem SrtR.kid {R : RT} (h : SrtR R) (p : ByteArray) (cv zx : Int) : SrtR (kidR R p cv zx) := by
  unfold kidR; split
  · exact h.mod (fun _ => rfl) (fun _ => rfl)
  · exact h
theorem SrtR.filter {R : RT} (h : SrtR R) (q : RN → Bool) : SrtR { R with N := R.N.filter q } :=
  ⟨h.srt.sublist (List.filter_sublist.map RN.path), fun n hn hk => h.root n (List.mem_filter.1 hn).1 hk⟩
theorem SrtR.part {R : RT} (h : SrtR R) (x : T1) (zx : Int) : SrtR (partR R x zx).1 := by
  unfold partR
  split
  · unfold createR
    split
    · rename_i hm
      refine SrtR.kid (R := { R with N := layF (·.path) (newRN x zx) R.N }) ⟨layF_srt RN.path _ _ h.srt, fun n hn hk => ?_⟩ _ _ _
      rcases (layF_iff RN.path _ _ n).1 hn with rfl | ⟨hn, _⟩
      · exact absurd hk (may_iff.1 hm.1).1
      · exact h.root n hn hk
    · exact h
  split
  · unfold eraseR
    split
    · exact (h.filter _).kid _ _ _
    · exact h
  split
  · unfold setR
    split
    · exact h.mod (fun _ => rfl) (fun _ => rfl)
    · exact h
  split
  · unfold aclR
    simp only
    split
    · exact h.mod (fun _ => rfl) (fun _ => rfl)
    · exact h
  · exact h
theorem SrtR.parts {zx : Int} : ∀ (l : List T1) {R : RT}, SrtR R → SrtR (partsR zx R l)
  | [], _, h => h
  | x :: l, _, h => SrtR.parts l (h.part x zx)
theorem SrtR.same {R R' : RT} (h : SrtR R) (e : R'.N = R.N) : SrtR R' := ⟨by rw [e]; exact h.srt, by rw [e]; exact h.root⟩
theorem SrtR.apply {R : RT} (h : SrtR R) (x : T1) (l : List T1) (zx : Int) : SrtR (applyR R x l zx) := by
  unfold applyR
  refine SrtR.same (R := doR R x l zx) ?_ rfl
  unfold doR
  split
  · split
    · exact h.same rfl
    · exact h
  split
  · exact (SrtR.parts _ h).same rfl
  split
  · exact SrtR.parts _ h
  split
  · exact h
  · exact h.part x zx
/-! a parent comes before its kids, and what is under a path behind it -/
theorem lt_more (l : List UInt8) {r : List UInt8} (h : r ≠ []) : l < l ++ r := by
  induction l with
  | nil => cases r with
    | nil => exact absurd rfl h
    | cons a r => exact List.nil_lt_cons a r
  | cons a l ih => rw [List.cons_append, List.cons_lt_cons_iff]; exact .inr ⟨rfl, ih⟩
theorem par_before {p : ByteArray} (h : checkS p = 0) (hr : keyB p ≠ [47]) : ltP (parS p) p := by
  obtain ⟨ns, n, ha, rfl⟩ := ok_names h hr
  rw [par_path ha]
  show pathL ns < pathL (ns ++ [n])
  rw [pathL_snoc]
  have hn := okName_pos (ha n (by simp))
  unfold pathL
  split
  · rename_i e; subst e
    show [47] < [47] ++ n
    exact lt_more _ (fun e => by subst e; simp at hn)
  · exact lt_more _ (by simp)
theorem kid_pre (p n : ByteArray) : p.data.toList <+: (kidS p n).data.toList := by
  unfold kidS
  split
  · rw [ByteArray.data_append, Array.toList_append]; exact List.prefix_append _ _
  · rw [ByteArray.data_append, ByteArray.data_append, Array.toList_append, Array.toList_append, List.append_assoc]; exact List.prefix_append _ _
theorem under_behind {p q : ByteArray} (h : underS q p = true) : ltP p q := by
  unfold underS at h
  rw [Bool.and_eq_true, Lib.hasPrefix, List.isPrefixOf_iff_prefix, decide_eq_true_eq] at h
  obtain ⟨t, ht⟩ := (kid_pre p ⟨#[]⟩).trans h.2
  have h1 := (kid_pre p ⟨#[]⟩).length_le
  have h2 : p.data.toList.length < q.data.toList.length := by
    have e1 : (kidS p ⟨#[]⟩).data.toList.length = (kidS p ⟨#[]⟩).size := Array.length_toList
    have e2 : q.data.toList.length = q.size := Array.length_toList
    omega
  show keyB p < keyB q
  unfold keyB
  rw [← ht]
  exact lt_more _ (fun e => by rw [e, List.append_nil] at ht; rw [ht] at h2; omega)
/-! a session's nodes, deleted from the last to the first, each find their parent -/
theorem placed_iff {R : RT} {p : ByteArray} : placed R p = true ↔ p ∈ R.N.map RN.path := by
  unfold placed
  rcases placeI_cases R.N p with ⟨h1, h2⟩ | ⟨i, hi, h1, h2, _⟩
  · rw [h1]
    constructor
    · intro h; simp at h
    · intro h
      obtain ⟨n, hn, e⟩ := List.mem_map.1 h
      exact absurd e (h2 n hn)
  · rw [h1]
    constructor
    · intro _; exact List.mem_map.2 ⟨_, List.getElem_mem hi, h2⟩
    · intro _; simp
theorem kid_paths (R : RT) (p : ByteArray) (cv zx : Int) : (kidR R p cv zx).N.map RN.path = R.N.map RN.path := by
  unfold kidR; split
  · exact modify_paths (fun _ => rfl)
  · rfl
theorem cut_placed {R : RT} {x : T1} {zx : Int} {p : ByteArray} (hp : placed R p = true) (h : ltP p x.path) : placed (cutR R x zx) p = true := by
  rw [placed_iff] at hp ⊢
  unfold cutR
  rw [kid_paths]
  obtain ⟨n, hn, rfl⟩ := List.mem_map.1 hp
  refine List.mem_map.2 ⟨n, List.mem_filter.2 ⟨hn, ?_⟩, rfl⟩
  unfold keepQ
  have h1 : n.path ≠ x.path := fun e => ltP_irrefl _ (e ▸ h)
  have h2 : underS n.path x.path = false := by
    cases hu : underS n.path x.path with
    | false => rfl
    | true => exact absurd (ltP_trans h (under_behind hu)) (ltP_irrefl _)
  simp [h1, h2]
theorem del_placed {R : RT} {x : T1} {zx : Int} {p : ByteArray} (hk : x.kind = 2) (hp : placed R p = true) (h : ltP p x.path) : placed (applyR R x [] zx) p = true := by
  have : placed (applyR R x [] zx) p = placed (eraseR R x zx).1 p := by
    unfold applyR doR partR
    rw [if_neg (by omega), if_neg (by omega), if_neg (by omega), if_neg (by omega), if_neg (by omega), if_pos hk]; rfl
  rw [this]
  unfold eraseR
  split
  · exact cut_placed hp h
  · exact hp
theorem owned_parents {R : RT} (hu : UqR R) (hc : Closed (toM R)) (hs : SrtR R) {s : Int} : ∀ p ∈ ownedR R s, placed R (parS p) = true ∧ ltP (parS p) p ∧ p.data.toList.length ≤ 60 := by
  intro p hp
  unfold ownedR at hp
  obtain ⟨n, hn, rfl⟩ := List.mem_map.1 hp
  obtain ⟨hn, hq⟩ := List.mem_filter.1 hn
  unfold ownQ at hq
  simp only [Bool.and_eq_true, decide_eq_true_eq] at hq
  have hr : keyB n.path ≠ [47] := fun e => hq.1 (by rw [← hq.2]; exact hs.root n hn e)
  have hN : (toM R).N (keyB n.path) ≠ none := by
    have := (node_iff hu.n).2 ⟨n, hn, rfl, rfl⟩
    show nodeOf R.N (keyB n.path) ≠ none
    rw [this]; simp
  have hk := hc.ok _ hN
  refine ⟨?_, par_before hk hr, checkS_len hk⟩
  rw [placed_has]
  exact has_iff_N.2 (hc.up _ hN hr)
theorem owned_sorted {R : RT} (hs : SrtR R) (s : Int) : (ownedR R s).Pairwise ltP := hs.srt.sublist (List.filter_sublist.map RN.path)
theorem owned_len (R : RT) (s : Int) : (ownedR R s).length ≤ R.N.length := by
  unfold ownedR; rw [List.length_map]; exact List.length_filter_le _ _
/-- how far the deletes are: the first i paths are left -/
structure CloseI (l : List ByteArray) (i : Nat) (u : RT) : Prop where
  up : ∀ p ∈ l.take i, placed u (parS p) = true
theorem CloseI.next {l : List ByteArray} {i : Nat} {u : RT} (h : CloseI l (i + 1) u) (hs : l.Pairwise ltP) (hb : ∀ p ∈ l, ltP (parS p) p) {q : ByteArray} (hq : l[i]? = some q) {x : T1} (hk : x.kind = 2) (hx : x.path = q) {zx : Int} : CloseI l i (applyR u x [] zx) := by
  refine ⟨fun p hp => ?_⟩
  obtain ⟨j, hj, hjp⟩ := List.mem_take_iff_getElem.1 hp
  obtain ⟨hi, hq⟩ := List.getElem?_eq_some_iff.1 hq
  have hlt : ltP p q := by
    rw [← hjp, ← hq]
    exact List.pairwise_iff_getElem.1 hs j i (by omega) hi (by omega)
  refine del_placed hk (h.up p ?_) ?_
  · exact List.mem_take_iff_getElem.2 ⟨j, by omega, hjp⟩
  · rw [hx]; exact ltP_trans (hb p (by rw [← hjp]; exact List.getElem_mem _)) hlt
end Go.Proofs.YtenbdoceaabecaaGreat
