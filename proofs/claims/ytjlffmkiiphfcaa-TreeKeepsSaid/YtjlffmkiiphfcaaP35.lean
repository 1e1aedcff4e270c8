/- The document's nodes by rising paths; a parent comes before its kids; the root is nobody's. What History's tree keeps, entry by entry. -/
import Derived.Test.YtjlffmkiiphfcaaP34
import Derived.Sort.Walk0
namespace Go.Proofs.Ytjlffmkiiphfcaa
set_option linter.unusedVariables false
set_option linter.unusedSimpArgs false
abbrev ltP (p q : ByteArray) : Prop := keyB p < keyB q
theorem ba_toList (p : ByteArray) : p.toList = keyB p := Lib.toList_data p
theorem less_iff (p q : ByteArray) : Op.bytesLess p.toList q.toList = decide (ltP p q) := by
  rw [bytesLess_eq, ba_toList, ba_toList]
theorem ltP_trans {p q r : ByteArray} (h : ltP p q) (k : ltP q r) : ltP p r := List.lt_trans h k
theorem ltP_irrefl (p : ByteArray) : ¬ ltP p p := List.lt_irrefl _
theorem ltP_total {p q : ByteArray} (h : ¬ ltP p q) (hne : p ≠ q) : ltP q p := by
  by_cases h2 : ltP q p
  · exact h2
  · exact absurd (keyB_inj (List.le_antisymm (List.not_lt.1 h2) (List.not_lt.1 h))) hne
def SrtL {α : Type} (key : α → ByteArray) (l : List α) : Prop := (l.map key).Pairwise ltP
theorem srt_snoc {α : Type} {key : α → ByteArray} {l : List α} {a : α} : SrtL key (l ++ [a]) ↔ SrtL key l ∧ ∀ x ∈ l, ltP (key x) (key a) := by
  unfold SrtL
  rw [List.map_append, List.pairwise_append]
  constructor
  · rintro ⟨h1, _, h3⟩; exact ⟨h1, fun x hx => h3 _ (List.mem_map.2 ⟨x, hx, rfl⟩) _ (by simp)⟩
  · rintro ⟨h1, h3⟩
    refine ⟨h1, by simp, fun x hx y hy => ?_⟩
    obtain ⟨z, hz, rfl⟩ := List.mem_map.1 hx
    simp at hy; subst hy; exact h3 z hz
theorem lay_srt {α : Type} (key : α → ByteArray) (n : α) (l : List α) (h : SrtL key l) :
    SrtL key (layFold key n l).1 ∧ ((layFold key n l).2 = false → ∀ x ∈ l, ltP (key x) (key n)) ∧ ((layFold key n l).2 = true → ∃ x ∈ l, ¬ ltP (key x) (key n)) := by
  induction l using snoc_ind with
  | h0 => exact ⟨List.Pairwise.nil, fun _ x hx => (nomatch hx), fun h => by simp [layFold] at h⟩
  | h1 l a ih =>
    obtain ⟨hl, ha⟩ := srt_snoc.1 h
    obtain ⟨i1, i2, i3⟩ := ih hl
    have hm := lay_iff key n l
    rw [layFold_snoc]
    generalize layFold key n l = f at *
    obtain ⟨F, s⟩ := f
    simp only at i1 i2 i3 hm
    unfold layStep
    simp only [less_iff]
    have hFa : key a ≠ key n → ∀ x ∈ F, (s = true → ltP (key n) (key a)) → ltP (key x) (key a) := fun hk x hx hs => by
      rcases (hm x).1 hx with ⟨h1, rfl⟩ | ⟨h1, _⟩
      · exact hs h1
      · exact ha x h1
    cases s with
    | true =>
      obtain ⟨y, hy, hyn⟩ := i3 rfl
      have hna : key a ≠ key n → ltP (key n) (key a) := fun hk => by
        by_cases e : key y = key n
        · rw [← e]; exact ha y hy
        · exact ltP_trans (ltP_total hyn e) (ha y hy)
      simp only [Bool.true_or, Bool.true_eq_false, false_and, if_false, List.append_nil, reduceCtorEq]
      refine ⟨?_, fun h => (nomatch h), fun _ => ⟨y, by simp [hy], hyn⟩⟩
      split
      · simpa using i1
      · rename_i hk
        exact srt_snoc.2 ⟨i1, fun x hx => hFa hk x hx (fun _ => hna hk)⟩
    | false =>
      have hlt := i2 rfl
      have hFn : ∀ x ∈ F, ltP (key x) (key n) := fun x hx => by
        rcases (hm x).1 hx with ⟨h1, _⟩ | ⟨h1, _⟩
        · cases h1
        · exact hlt x h1
      by_cases hc : ltP (key a) (key n)
      · have hk : key a ≠ key n := fun e => ltP_irrefl (key n) (by rw [e] at hc; exact hc)
        simp only [hc, decide_true, Bool.true_eq_false, and_false, if_false, List.append_nil, if_neg hk, Bool.not_true, Bool.or_false, reduceCtorEq]
        refine ⟨srt_snoc.2 ⟨i1, fun x hx => hFa hk x hx (fun h => (nomatch h))⟩, fun _ x hx => ?_, fun h => nomatch h⟩
        rcases List.mem_append.1 hx with hx | hx
        · exact hlt x hx
        · simp at hx; subst hx; exact hc
      · simp only [hc, decide_false, and_self, if_true, Bool.not_false, Bool.or_true, reduceCtorEq]
        refine ⟨?_, fun h => (nomatch h), fun _ => ⟨a, by simp, hc⟩⟩
        have h1 : SrtL key (F ++ [n]) := srt_snoc.2 ⟨i1, hFn⟩
        split
        · simpa using h1
        · rename_i hk
          refine srt_snoc.2 ⟨h1, fun x hx => ?_⟩
          rcases List.mem_append.1 hx with hx | hx
          · exact hFa hk x hx (fun h => (nomatch h))
          · simp at hx; subst hx; exact ltP_total hc hk
theorem layF_srt {α : Type} (key : α → ByteArray) (n : α) (l : List α) (h : SrtL key l) : SrtL key (layF key n l) := by
  obtain ⟨h1, h2, h3⟩ := lay_srt key n l h
  have hm := lay_iff key n l
  unfold layF
  split
  · exact h1
  · rename_i hs
    have hs : (layFold key n l).2 = false := by simpa using hs
    refine srt_snoc.2 ⟨h1, fun x hx => ?_⟩
    rcases (hm x).1 hx with ⟨h1, _⟩ | ⟨h1, _⟩
    · rw [hs] at h1; cases h1
    · exact h2 hs x h1
/-- nodes by rising paths, the root nobody's -/
structure SrtR (R : RT) : Prop where
  srt : SrtL RN.path R.N
  root : ∀ n ∈ R.N, keyB n.path = [47] → n.st.owner = 0
theorem SrtR.mod {R : RT} (h : SrtR R) {i : Nat} {f : RN → RN} (hf : ∀ n, (f n).path = n.path) (ho : ∀ n, (f n).st.owner = n.st.owner) : SrtR (modN R i f) := by
  refine ⟨?_, fun n hn hk => ?_⟩
  · unfold SrtL
    show ((R.N.modify i f).map RN.path).Pairwise ltP
    rw [modify_paths hf]; exact h.srt
  · have hn : n ∈ R.N.modify i f := hn
    obtain ⟨j, hj, rfl⟩ := List.getElem_of_mem hn
    rw [List.length_modify] at hj
    rw [List.getElem_modify] at hk ⊢
    have := h.root _ (List.getElem_mem hj)
    split at hk
    · rename_i e; rw [if_pos e, ho]; rw [hf] at hk; exact this hk
    · rename_i e; rw [if_neg e]; exact this hk
theorem SrtR.kid {R : RT} (h : SrtR R) (p : ByteArray) (cv zx : Int) : SrtR (kidR R p cv zx) := by
  unfold kidR; split
  · exact h.mod (fun _ => rfl) (fun _ => rfl)
  · exact h
theorem SrtR.filter {R : RT} (h : SrtR R) (q : RN → Bool) : SrtR { R with N := R.N.filter q } :=
  ⟨h.srt.sublist (List.filter_sublist.map RN.path), fun n hn hk => h.root n (List.mem_filter.1 hn).1 hk⟩
theorem SrtR.part {R : RT} (h : SrtR R) (x : T1) (zx : Int) : SrtR (partR R x zx).1 := by
  unfold partR
  split
  · unfold createR
    split
    · rename_i hm
      refine SrtR.kid (R := { R with N := layF (·.path) (newRN x zx) R.N }) ⟨layF_srt RN.path _ _ h.srt, fun n hn hk => ?_⟩ _ _ _
      rcases (layF_iff RN.path _ _ n).1 hn with rfl | ⟨hn, _⟩
      · exact absurd hk (may_iff.1 hm.1).1
      · exact h.root n hn hk
    · exact h
  split
  · unfold eraseR
    split
    · exact (h.filter _).kid _ _ _
    · exact h
  split
  · unfold setR
    split
    · exact h.mod (fun _ => rfl) (fun _ => rfl)
    · exact h
  split
  · unfold aclR
    simp only
    split
    · exact h.mod (fun _ => rfl) (fun _ => rfl)
    · exact h
  · exact h
theorem SrtR.parts {zx : Int} : ∀ (l : List T1) {R : RT}, SrtR R → SrtR (partsR zx R l)
  | [], _, h => h
  | x :: l, _, h => SrtR.parts l (h.part x zx)
theorem SrtR.same {R R' : RT} (h : SrtR R) (e : R'.N = R.N) : SrtR R' := ⟨by rw [e]; exact h.srt, by rw [e]; exact h.root⟩
theorem SrtR.apply {R : RT} (h : SrtR R) (x : T1) (l : List T1) (zx : Int) : SrtR (applyR R x l zx) := by
  unfold applyR
  refine SrtR.same (R := doR R x l zx) ?_ rfl
  unfold doR
  split
  · split
    · exact h.same rfl
    · exact h
  split
  · exact (SrtR.parts _ h).same rfl
  split
  · exact SrtR.parts _ h
  split
  · exact h
  · exact h.part x zx
/-! a parent comes before its kids, and what is under a path behind it -/
theorem lt_more (l : List UInt8) {r : List UInt8} (h : r ≠ []) : l < l ++ r := by
  induction l with
  | nil => cases r with
    | nil => exact absurd rfl h
    | cons a r => exact List.nil_lt_cons a r
  | cons a l ih => rw [List.cons_append, List.cons_lt_cons_iff]; exact .inr ⟨rfl, ih⟩
theorem par_before {p : ByteArray} (h : checkS p = 0) (hr : keyB p ≠ [47]) : ltP (parS p) p := by
  obtain ⟨ns, n, ha, rfl⟩ := ok_names h hr
  rw [par_path ha]
  show pathL ns < pathL (ns ++ [n])
  rw [pathL_snoc]
  have hn := okName_pos (ha n (by simp))
  unfold pathL
  split
  · rename_i e; subst e
    show [47] < [47] ++ n
    exact lt_more _ (fun e => by subst e; simp at hn)
  · exact lt_more _ (by simp)
theorem kid_pre (p n : ByteArray) : p.data.toList <+: (kidS p n).data.toList := by
  unfold kidS
  split
  · rw [ByteArray.data_append, Array.toList_append]; exact List.prefix_append _ _
  · rw [ByteArray.data_append, ByteArray.data_append, Array.toList_append, Array.toList_append, List.append_assoc]; exact List.prefix_append _ _
theorem under_behind {p q : ByteArray} (h : underS q p = true) : ltP p q := by
  unfold underS at h
  rw [Bool.and_eq_true, Lib.hasPrefix, List.isPrefixOf_iff_prefix, decide_eq_true_eq] at h
  obtain ⟨t, ht⟩ := (kid_pre p ⟨#[]⟩).trans h.2
  have h1 := (kid_pre p ⟨#[]⟩).length_le
  have h2 : p.data.toList.length < q.data.toList.length := by
    have e1 : (kidS p ⟨#[]⟩).data.toList.length = (kidS p ⟨#[]⟩).size := Array.length_toList
    have e2 : q.data.toList.length = q.size := Array.length_toList
    omega
  show keyB p < keyB q
  unfold keyB
  rw [← ht]
  exact lt_more _ (fun e => by rw [e, List.append_nil] at ht; rw [ht] at h2; omega)
/-! a session's nodes, deleted from the last to the first, each find their parent -/
theorem placed_iff {R : RT} {p : ByteArray} : placed R p = true ↔ p ∈ R.N.map RN.path := by
  unfold placed
  rcases placeI_cases R.N p with ⟨h1, h2⟩ | ⟨i, hi, h1, h2, _⟩
  · rw [h1]
    constructor
    · intro h; simp at h
    · intro h
      obtain ⟨n, hn, e⟩ := List.mem_map.1 h
      exact absurd e (h2 n hn)
  · rw [h1]
    constructor
    · intro _; exact List.mem_map.2 ⟨_, List.getElem_mem hi, h2⟩
    · intro _; simp
theorem kid_paths (R : RT) (p : ByteArray) (cv zx : Int) : (kidR R p cv zx).N.map RN.path = R.N.map RN.path := by
  unfold kidR; split
  · exact modify_paths (fun _ => rfl)
  · rfl
theorem cut_placed {R : RT} {x : T1} {zx : Int} {p : ByteArray} (hp : placed R p = true) (h : ltP p x.path) : placed (cutR R x zx) p = true := by
  rw [placed_iff] at hp ⊢
  unfold cutR
  rw [kid_paths]
  obtain ⟨n, hn, rfl⟩ := List.mem_map.1 hp
  refine List.mem_map.2 ⟨n, List.mem_filter.2 ⟨hn, ?_⟩, rfl⟩
  unfold keepQ
  have h1 : n.path ≠ x.path := fun e => ltP_irrefl _ (e ▸ h)
  have h2 : underS n.path x.path = false := by
    cases hu : underS n.path x.path with
    | false => rfl
    | true => exact absurd (ltP_trans h (under_behind hu)) (ltP_irrefl _)
  simp [h1, h2]
theorem del_placed {R : RT} {x : T1} {zx : Int} {p : ByteArray} (hk : x.kind = 2) (hp : placed R p = true) (h : ltP p x.path) : placed (applyR R x [] zx) p = true := by
  have : placed (applyR R x [] zx) p = placed (eraseR R x zx).1 p := by
    unfold applyR doR partR
    rw [if_neg (by omega), if_neg (by omega), if_neg (by omega), if_neg (by omega), if_neg (by omega), if_pos hk]; rfl
  rw [this]
  unfold eraseR
  split
  · exact cut_placed hp h
  · exact hp
theorem owned_parents {R : RT} (hu : UqR R) (hc : Closed (toM R)) (hs : SrtR R) {s : Int} : ∀ p ∈ ownedR R s, placed R (parS p) = true ∧ ltP (parS p) p ∧ p.data.toList.length ≤ 60 := by
  intro p hp
  unfold ownedR at hp
  obtain ⟨n, hn, rfl⟩ := List.mem_map.1 hp
  obtain ⟨hn, hq⟩ := List.mem_filter.1 hn
  unfold ownQ at hq
  simp only [Bool.and_eq_true, decide_eq_true_eq] at hq
  have hr : keyB n.path ≠ [47] := fun e => hq.1 (by rw [← hq.2]; exact hs.root n hn e)
  have hN : (toM R).N (keyB n.path) ≠ none := by
    have := (node_iff hu.n).2 ⟨n, hn, rfl, rfl⟩
    show nodeOf R.N (keyB n.path) ≠ none
    rw [this]; simp
  have hk := hc.ok _ hN
  refine ⟨?_, par_before hk hr, checkS_len hk⟩
  rw [placed_has]
  exact has_iff_N.2 (hc.up _ hN hr)
theorem owned_sorted {R : RT} (hs : SrtR R) (s : Int) : (ownedR R s).Pairwise ltP := hs.srt.sublist (List.filter_sublist.map RN.path)
theorem owned_len (R : RT) (s : Int) : (ownedR R s).length ≤ R.N.length := by
  unfold ownedR; rw [List.length_map]; exact List.length_filter_le _ _
/-- how far the deletes are: the first i paths are left -/
structure CloseI (l : List ByteArray) (i : Nat) (u : RT) : Prop where
  up : ∀ p ∈ l.take i, placed u (parS p) = true
theorem CloseI.next {l : List ByteArray} {i : Nat} {u : RT} (h : CloseI l (i + 1) u) (hs : l.Pairwise ltP) (hb : ∀ p ∈ l, ltP (parS p) p) {q : ByteArray} (hq : l[i]? = some q) {x : T1} (hk : x.kind = 2) (hx : x.path = q) {zx : Int} : CloseI l i (applyR u x [] zx) := by
  refine ⟨fun p hp => ?_⟩
  obtain ⟨j, hj, hjp⟩ := List.mem_take_iff_getElem.1 hp
  obtain ⟨hi, hq⟩ := List.getElem?_eq_some_iff.1 hq
  have hlt : ltP p q := by
    rw [← hjp, ← hq]
    exact List.pairwise_iff_getElem.1 hs j i (by omega) hi (by omega)
  refine del_placed hk (h.up p ?_) ?_
  · exact List.mem_take_iff_getElem.2 ⟨j, by omega, hjp⟩
  · rw [hx]; exact ltP_trans (hb p (by rw [← hjp]; exact List.getElem_mem _)) hlt
end Go.Proofs.Ytjlffmkiiphfcaa

namespace Go.Proofs.Ytjlffmkiiphfcaa
set_option linter.unusedVariables false
set_option linter.unusedSimpArgs false
/-- an entry's transaction as History makes it, over its tree -/
structure TxnOk (R : RT) (x : T1) (l : List T1) : Prop where
  kind : x.kind = 0 ∨ x.kind = 1 ∨ x.kind = 2 ∨ x.kind = 3 ∨ x.kind = 4 ∨ x.kind = 5 ∨ x.kind = 6 ∨ x.kind = 7 ∨ x.kind = 8
  sess : x.kind = 5 ∨ x.kind = 6 → 1 ≤ x.owner ∧ x.owner ≤ 5
  own : x.kind ≠ 5 → x.kind ≠ 6 → x.owner = 0 ∨ ∃ s ∈ R.S, s.id = x.owner
  subs : ∀ y ∈ l, (y.kind = 1 ∨ y.kind = 2 ∨ y.kind = 3 ∨ y.kind = 4) ∧ (y.owner = 0 ∨ ∃ s ∈ R.S, s.id = y.owner)
  few : x.kind = 7 → l.length ≤ 6
  dels : x.kind = 6 → ∀ y ∈ l, y.kind = 2
  cls : x.kind = 6 → ∀ p ∈ ownedR R x.owner, ∃ y ∈ l, y.path = p
structure HInv (k : Nat) (R : RT) : Prop where
  uq : UqR R
  cl : Closed (toM R)
  srt : SrtR R
  ids : ∀ s ∈ R.S, 1 ≤ s.id ∧ s.id ≤ 5
  N : R.N.length ≤ 1 + 7 * k
  S : R.S.length ≤ k
theorem HInv.path {k : Nat} {R : RT} (h : HInv k R) : ∀ n ∈ R.N, n.path.size ≤ 60 := by
  intro n hn
  have : (toM R).N (keyB n.path) ≠ none := by
    show nodeOf R.N (keyB n.path) ≠ none
    rw [(node_iff h.uq.n).2 ⟨n, hn, rfl, rfl⟩]; simp
  have := checkS_len (h.cl.ok _ this)
  have e : n.path.data.toList.length = n.path.size := Array.length_toList
  omega
theorem HInv.rv {k : Nat} {R : RT} (h : HInv k R) (hk : k ≤ 1000) : RV 8000 R :=
  ⟨fun n hn => by have := h.path n hn; omega, by have := h.N; omega, by have := h.S; omega⟩
theorem HInv.ne {k : Nat} {R : RT} (h : HInv k R) : 0 < R.N.length := by
  have h1 : nodeOf R.N [47] ≠ none := h.cl.root
  cases hn : nodeOf R.N [47] with
  | none => exact absurd hn h1
  | some nd =>
    obtain ⟨n, hn, _, _⟩ := (node_iff (k := [47]) h.uq.n).1 hn
    exact List.length_pos_of_mem hn
theorem kid_N (R : RT) (p : ByteArray) (cv zx : Int) : (kidR R p cv zx).N.length = R.N.length := by
  unfold kidR; split
  · unfold modN; simp
  · rfl
theorem part_N (R : RT) (x : T1) (zx : Int) : (partR R x zx).1.N.length ≤ R.N.length + 1 ∧ (x.kind = 2 → (partR R x zx).1.N.length ≤ R.N.length) := by
  unfold partR
  by_cases h1 : x.kind = 1
  · rw [if_pos h1]
    refine ⟨?_, fun h => by omega⟩
    unfold createR; split
    · rw [kid_N]; exact layF_len _ _ _
    · exact Nat.le_succ _
  · rw [if_neg h1]
    by_cases h2 : x.kind = 2
    · rw [if_pos h2]
      have : (eraseR R x zx).1.N.length ≤ R.N.length := by
        unfold eraseR; split
        · unfold cutR; rw [kid_N]; exact List.length_filter_le _ _
        · exact Nat.le_refl _
      exact ⟨by omega, fun _ => this⟩
    · rw [if_neg h2]
      refine ⟨?_, fun h => absurd h h2⟩
      split
      · unfold setR; split
        · unfold modN; simp
        · exact Nat.le_succ _
      split
      · unfold aclR; simp only; split
        · unfold modN; simp
        · exact Nat.le_succ _
      · exact Nat.le_succ _
theorem parts_N (zx : Int) : ∀ (l : List T1) (R : RT), (partsR zx R l).N.length ≤ R.N.length + l.length ∧ ((∀ y ∈ l, y.kind = 2) → (partsR zx R l).N.length ≤ R.N.length)
  | [], R => ⟨Nat.le_refl _, fun _ => Nat.le_refl _⟩
  | x :: l, R => by
    obtain ⟨a, b⟩ := part_N R x zx
    obtain ⟨c, d⟩ := parts_N zx l (partR R x zx).1
    refine ⟨?_, fun h => ?_⟩
    · show (partsR zx (partR R x zx).1 l).N.length ≤ _
      simp; omega
    · show (partsR zx (partR R x zx).1 l).N.length ≤ _
      have := b (h x (by simp)); have := d (fun y hy => h y (by simp [hy])); omega
theorem part_S (R : RT) (x : T1) (zx : Int) : (partR R x zx).1.S = R.S := by
  unfold partR
  split
  · unfold createR; split
    · rw [(kid_S _ _ _ _).1]
    · rfl
  split
  · unfold eraseR; split
    · unfold cutR; rw [(kid_S _ _ _ _).1]
    · rfl
  split
  · unfold setR; split <;> rfl
  split
  · unfold aclR; simp only; split <;> rfl
  · rfl
theorem parts_S (zx : Int) : ∀ (l : List T1) (R : RT), (partsR zx R l).S = R.S
  | [], R => rfl
  | x :: l, R => (parts_S zx l _).trans (part_S R x zx)
theorem open_mem {R : RT} {s t : RS} (h : t ∈ (openR R s).S) : t = s ∨ t ∈ R.S := by
  unfold openR at h
  simp only [List.mem_append, List.mem_singleton] at h
  have hd : ∀ t, t ∈ (dropR R s.id).S → t ∈ R.S := fun t h => (List.mem_filter.1 h).1
  rcases h with (h | h) | h
  · exact .inr (hd _ ((List.takeWhile_sublist _).subset h))
  · exact .inl h
  · exact .inr (hd _ ((List.dropWhile_sublist _).subset h))
theorem open_len (R : RT) (s : RS) : (openR R s).S.length ≤ R.S.length + 1 := by
  unfold openR
  simp only [List.length_append, List.length_singleton]
  have h1 : ((dropR R s.id).S.takeWhile (ltQ s.id)).length + ((dropR R s.id).S.dropWhile (ltQ s.id)).length = (dropR R s.id).S.length := by
    rw [← List.length_append, List.takeWhile_append_dropWhile]
  have h2 : (dropR R s.id).S.length ≤ R.S.length := List.length_filter_le _ _
  omega
theorem HInv.step {k : Nat} {R : RT} (h : HInv k R) {x : T1} {l : List T1} {zx : Int} (ht : TxnOk R x l) (hs : soundB R x l zx = true) : HInv (k + 1) (applyR R x l zx) := by
  obtain ⟨_, hu⟩ := apply_sim h.uq x l 0 zx
  have hS : (∀ s ∈ (applyR R x l zx).S, 1 ≤ s.id ∧ s.id ≤ 5) ∧ (applyR R x l zx).S.length ≤ k + 1 := by
    show (∀ s ∈ (doR R x l zx).S, _) ∧ (doR R x l zx).S.length ≤ k + 1
    have hk := h.S
    unfold doR
    by_cases h5 : x.kind = 5
    · rw [if_pos h5]
      split
      · refine ⟨fun s hs => ?_, by have := open_len R ⟨x.owner, x.number, x.data⟩; omega⟩
        rcases open_mem hs with rfl | hs
        · exact ht.sess (.inl h5)
        · exact h.ids s hs
      · exact ⟨h.ids, by omega⟩
    · rw [if_neg h5]
      by_cases h6 : x.kind = 6
      · rw [if_pos h6]
        unfold dropR
        simp only
        rw [parts_S]
        exact ⟨fun s hs => h.ids s (List.mem_filter.1 hs).1, Nat.le_trans (List.length_filter_le _ _) (by omega)⟩
      · rw [if_neg h6]
        split
        · rw [parts_S]; exact ⟨h.ids, by omega⟩
        split
        · exact ⟨h.ids, by omega⟩
        · rw [part_S]; exact ⟨h.ids, by omega⟩
  have hN : (applyR R x l zx).N.length ≤ 1 + 7 * (k + 1) := by
    show (doR R x l zx).N.length ≤ _
    have hk := h.N
    unfold doR
    by_cases h5 : x.kind = 5
    · rw [if_pos h5]
      split
      · show R.N.length ≤ _; omega
      · omega
    · rw [if_neg h5]
      by_cases h6 : x.kind = 6
      · rw [if_pos h6]
        have := (parts_N zx (l.filter (delQ false)) R).2 (fun y hy => ht.dels h6 y (List.mem_filter.1 hy).1)
        show (partsR zx R (l.filter (delQ false))).N.length ≤ _
        omega
      · rw [if_neg h6]
        by_cases h7 : x.kind = 7
        · rw [if_pos h7]
          have h1 := (parts_N zx (l.filter (delQ true)) R).1
          have h2 := List.length_filter_le (delQ true) l
          have h3 := ht.few h7
          omega
        · rw [if_neg h7]
          split
          · omega
          · have := (part_N R x zx).1; omega
  exact ⟨hu, closed_apply h.uq h.cl hs, h.srt.apply x l zx, hS.1, hN, hS.2⟩
theorem hinv_new : HInv 0 newR := by
  unfold newR
  have hN : ∀ k, nodeOf [(⟨slashS, ⟨#[]⟩, [⟨31, worldB⟩], ⟨0, 0, 0, 0, 0, 0, 0⟩⟩ : RN)] k ≠ none ↔ k = [47] := fun k => by
    unfold nodeOf
    rw [List.find?_cons]
    by_cases e : keyB slashS = k
    · rw [decide_eq_true e]
      simp
      rw [← e]; rfl
    · rw [decide_eq_false e]
      simp
      intro e'; exact e (by rw [e']; rfl)
  refine ⟨⟨by simp, by simp⟩, ⟨(hN _).2 rfl, fun p hp => ?_, fun p hp hr => absurd ((hN _).1 hp) hr⟩, ⟨by unfold SrtL; simp, fun n hn _ => ?_⟩, fun s hs => (nomatch hs), by simp, by simp⟩
  · have := keyB_inj (q := slashS) ((hN _).1 hp)
    subst this; exact (check_ok _).2 ⟨[], fun n hn => (nomatch hn), rfl, by decide⟩
  · simp at hn; subst hn; rfl
end Go.Proofs.Ytjlffmkiiphfcaa
