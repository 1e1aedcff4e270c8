/- Watches, plain: sessions by rising numbers, the watches of each in the order in which they came. -/
import Derived.WalkKit
namespace Go.Proofs.Ytjpoebajljbocaa
set_option linter.unusedVariables false
set_option linter.unusedSimpArgs false
theorem ba_beq (a b : ByteArray) : (a == b) = (a.data == b.data) := rfl
instance lawBA : LawfulBEq ByteArray where
  eq_of_beq := fun {a b} h => by
    rw [ba_beq] at h
    exact ByteArray.ext (eq_of_beq h)
  rfl := fun {a} => by rw [ba_beq]; exact beq_self_eq_true _
abbrev Wt := Int × ByteArray
structure Ws where
  id : Int
  l : List Wt
abbrev WL := List Ws
def RisingW (L : WL) : Prop := L.Pairwise (fun a b => a.id < b.id)
def getW (L : WL) (i : Int) : Option Ws := L.find? (fun s => s.id == i)
def putW : WL → Ws → WL
  | [], s => [s]
  | x :: r, s => if x.id < s.id then x :: putW r s else if x.id = s.id then s :: r else s :: x :: r
def delW (L : WL) (i : Int) : WL := L.filter (fun s => !(s.id == i))
theorem getW_nil (i : Int) : getW [] i = none := rfl
theorem getW_cons (x : Ws) (r : WL) (i : Int) : getW (x :: r) i = if x.id = i then some x else getW r i := by
  unfold getW
  rw [List.find?_cons]
  by_cases h : x.id = i
  · simp [h]
  · have : (x.id == i) = false := by simpa using h
    simp [this, h]
theorem getW_id {L : WL} {i : Int} {s : Ws} (h : getW L i = some s) : s.id = i := by
  have := List.find?_some h
  simpa using this
theorem getW_mem {L : WL} {i : Int} {s : Ws} (h : getW L i = some s) : s ∈ L := List.mem_of_find?_eq_some h
theorem getW_none {L : WL} {i : Int} : getW L i = none ↔ ∀ s ∈ L, s.id ≠ i := by
  unfold getW
  rw [List.find?_eq_none]
  simp
theorem getW_low {L : WL} {i : Int} (h : ∀ s ∈ L, i < s.id) : getW L i = none := getW_none.2 fun s hs => by have := h s hs; omega
theorem risingW_cons {x : Ws} {r : WL} : RisingW (x :: r) ↔ (∀ s ∈ r, x.id < s.id) ∧ RisingW r := List.pairwise_cons
theorem getW_of_mem {L : WL} (hL : RisingW L) {s : Ws} (h : s ∈ L) : getW L s.id = some s := by
  induction L with
  | nil => cases h
  | cons x r ih =>
    obtain ⟨h1, h2⟩ := risingW_cons.1 hL
    rw [getW_cons]
    rcases List.mem_cons.1 h with rfl | h
    · simp
    · have := h1 s h
      rw [if_neg (by omega)]; exact ih h2 h
theorem mem_putW {L : WL} {s t : Ws} (h : t ∈ putW L s) : t = s ∨ t ∈ L := by
  induction L with
  | nil => exact .inl (by simpa [putW] using h)
  | cons x r ih =>
    unfold putW at h
    split at h
    · rcases List.mem_cons.1 h with rfl | h
      · exact .inr (List.mem_cons_self ..)
      · rcases ih h with h | h
        · exact .inl h
        · exact .inr (List.mem_cons_of_mem _ h)
    · split at h
      · rcases List.mem_cons.1 h with h | h
        · exact .inl h
        · exact .inr (List.mem_cons_of_mem _ h)
      · rcases List.mem_cons.1 h with h | h
        · exact .inl h
        · exact .inr h
theorem putW_rising {L : WL} (hL : RisingW L) (s : Ws) : RisingW (putW L s) := by
  induction L with
  | nil => simp [putW, RisingW]
  | cons x r ih =>
    obtain ⟨h1, h2⟩ := risingW_cons.1 hL
    unfold putW
    split
    · rename_i h
      refine risingW_cons.2 ⟨fun t ht => ?_, ih h2⟩
      rcases mem_putW ht with rfl | ht
      · exact h
      · exact h1 t ht
    · split
      · rename_i h
        exact risingW_cons.2 ⟨fun t ht => by have := h1 t ht; omega, h2⟩
      · refine risingW_cons.2 ⟨fun t ht => ?_, hL⟩
        rcases List.mem_cons.1 ht with rfl | ht
        · omega
        · have := h1 t ht; omega
theorem getW_put {L : WL} (hL : RisingW L) (s : Ws) (i : Int) : getW (putW L s) i = if s.id = i then some s else getW L i := by
  induction L with
  | nil => simp [putW, getW_cons, getW_nil]
  | cons x r ih =>
    obtain ⟨h1, h2⟩ := risingW_cons.1 hL
    unfold putW
    split
    · rename_i h
      rw [getW_cons, getW_cons, ih h2]
      by_cases e : x.id = i
      · rw [if_pos e, if_neg (by omega), if_pos e]
      · rw [if_neg e, if_neg e]
    · split
      · rename_i h
        rw [getW_cons, getW_cons]
        by_cases e : s.id = i
        · rw [if_pos e, if_pos e]
        · rw [if_neg e, if_neg e, if_neg (by omega)]
      · rw [getW_cons]
theorem delW_rising {L : WL} (hL : RisingW L) (i : Int) : RisingW (delW L i) := hL.filter _
theorem getW_del {L : WL} (i j : Int) : getW (delW L j) i = if i = j then none else getW L i := by
  induction L with
  | nil => simp [delW, getW_nil]
  | cons x r ih =>
    unfold delW at ih ⊢
    rw [List.filter_cons]
    by_cases h : x.id = j
    · have hb : (x.id == j) = true := by simpa using h
      simp only [hb, Bool.not_true, Bool.false_eq_true, if_false]
      rw [ih, getW_cons]
      by_cases e : i = j
      · rw [if_pos e, if_pos e]
      · rw [if_neg e, if_neg e, if_neg (by omega)]
    · have hb : (x.id == j) = false := by simpa using h
      simp only [hb, Bool.not_false, if_true]
      rw [getW_cons, getW_cons, ih]
      by_cases e : x.id = i
      · rw [if_pos e, if_pos e, if_neg (by omega)]
      · rw [if_neg e, if_neg e]
/-- two rising lists that tell the same are the same -/
theorem wl_ext {L M : WL} (hL : RisingW L) (hM : RisingW M) (h : ∀ i, getW L i = getW M i) : L = M := by
  induction L generalizing M with
  | nil =>
    cases M with
    | nil => rfl
    | cons y t => have := h y.id; rw [getW_cons, if_pos rfl] at this; cases this
  | cons x r ih =>
    cases M with
    | nil => have := h x.id; rw [getW_cons, if_pos rfl] at this; cases this
    | cons y t =>
      obtain ⟨a1, a2⟩ := risingW_cons.1 hL
      obtain ⟨b1, b2⟩ := risingW_cons.1 hM
      have hx := h x.id
      have hy := h y.id
      rw [getW_cons, if_pos rfl, getW_cons] at hx
      rw [getW_cons, getW_cons, if_pos (rfl : y.id = y.id)] at hy
      have e : x.id = y.id := by
        by_cases e : y.id = x.id
        · exact e.symm
        · rw [if_neg e] at hx
          rw [if_neg (fun e' => e e'.symm)] at hy
          have := b1 _ (getW_mem hx.symm)
          have := a1 _ (getW_mem hy)
          omega
      rw [if_pos e.symm] at hx
      injection hx with hx
      subst hx
      refine congrArg _ (ih a2 b2 fun i => ?_)
      have := h i
      rw [getW_cons, getW_cons] at this
      by_cases ei : x.id = i
      · rw [getW_low (fun s hs => by have := a1 s hs; omega), getW_low (fun s hs => by have := b1 s hs; omega)]
      · rw [if_neg ei, if_neg ei] at this; exact this
theorem putW_del {L : WL} (hL : RisingW L) (s : Ws) : putW (delW L s.id) s = putW L s :=
  wl_ext (putW_rising (delW_rising hL _) s) (putW_rising hL s) fun i => by
    rw [getW_put (delW_rising hL _), getW_put hL, getW_del]
    by_cases e : s.id = i
    · rw [if_pos e, if_pos e]
    · rw [if_neg e, if_neg e, if_neg (fun e' => e e'.symm)]
theorem delW_none {L : WL} (hL : RisingW L) {i : Int} (h : getW L i = none) : delW L i = L :=
  wl_ext (delW_rising hL _) hL fun j => by
    rw [getW_del]
    by_cases e : j = i
    · rw [if_pos e, e, h]
    · rw [if_neg e]
theorem length_putW_le (L : WL) (s : Ws) : (putW L s).length ≤ L.length + 1 := by
  induction L with
  | nil => simp [putW]
  | cons x r ih =>
    unfold putW
    split
    · simp; omega
    · split <;> simp
/-! what the calls answer -/
def listW (L : WL) (i : Int) : List Wt := match getW L i with
  | none => []
  | some s => s.l
def countW (L : WL) (i : Int) : Nat := (listW L i).length
def kindsOf (k : Int) : List Int := if k = 1 then [2] else if k = 2 then [1, 2, 3] else if k = 3 then [1, 2] else if k = 4 then [3] else []
def hitB (ks : List Int) (p : ByteArray) (x : Wt) : Bool := ks.contains x.1 && x.2 == p
def strikeW (ks : List Int) (p : ByteArray) (l : List Wt) : List Wt := l.filter (fun x => !hitB ks p x)
/-- a session's watches are now these (none: it has gone) -/
def setW (L : WL) (i : Int) (l : List Wt) : WL := if l = [] then delW L i else putW L ⟨i, l⟩
theorem setW_rising {L : WL} (hL : RisingW L) (i : Int) (l : List Wt) : RisingW (setW L i l) := by
  unfold setW; split
  · exact delW_rising hL i
  · exact putW_rising hL _
theorem getW_set {L : WL} (hL : RisingW L) (i : Int) (l : List Wt) (j : Int) : getW (setW L i l) j = if i = j then (if l = [] then none else some ⟨i, l⟩) else getW L j := by
  unfold setW
  by_cases hl : l = []
  · rw [if_pos hl, getW_del]
    by_cases e : i = j
    · rw [if_pos e.symm, if_pos e, if_pos hl]
    · rw [if_neg (fun e' => e e'.symm), if_neg e]
  · rw [if_neg hl, getW_put hL]
    by_cases e : i = j
    · rw [if_pos e, if_pos e, if_neg hl]
    · rw [if_neg e, if_neg e]
theorem listW_set {L : WL} (hL : RisingW L) (i : Int) (l : List Wt) (j : Int) : listW (setW L i l) j = if i = j then l else listW L j := by
  unfold listW
  rw [getW_set hL]
  by_cases e : i = j
  · rw [if_pos e, if_pos e]
    by_cases hl : l = []
    · rw [if_pos hl, hl]
    · rw [if_neg hl]
  · rw [if_neg e, if_neg e]
def addE (o : ByteArray → Int) (L : WL) (i k : Int) (p : ByteArray) : Int :=
  if i < 1 ∨ k < 1 ∨ 3 < k ∨ o p ≠ 0 then 1 else if (k, p) ∈ listW L i then 0 else if 64 ≤ countW L i then 91 else 0
def addW (o : ByteArray → Int) (L : WL) (i k : Int) (p : ByteArray) : WL :=
  if i < 1 ∨ k < 1 ∨ 3 < k ∨ o p ≠ 0 then L else if (k, p) ∈ listW L i then L else if 64 ≤ countW L i then L else setW L i (listW L i ++ [(k, p)])
/-- some sessions' watches are struck -/
def partF (dn : Int → Bool) (ks : List Int) (p : ByteArray) (L : WL) : WL :=
  (L.map (fun s => if dn s.id then (⟨s.id, strikeW ks p s.l⟩ : Ws) else s)).filter (fun s => !s.l.isEmpty)
def fireL (k : Int) (p : ByteArray) (L : WL) : WL := partF (fun _ => true) (kindsOf k) p L
def toldL (k : Int) (p : ByteArray) (L : WL) : List Int := (L.filter (fun s => s.l.any (hitB (kindsOf k) p))).map Ws.id
/-- what every table is -/
structure WlOk (L : WL) : Prop where
  up : RisingW L
  some_ : ∀ s ∈ L, s.l ≠ []
  once : ∀ s ∈ L, s.l.Nodup
  few : ∀ s ∈ L, s.l.length ≤ 64
  id64 : ∀ s ∈ L, 1 ≤ s.id ∧ s.id ≤ 9223372036854775807
  kind : ∀ s ∈ L, ∀ x ∈ s.l, 1 ≤ x.1 ∧ x.1 ≤ 3 ∧ x.2.size ≤ 140737488355328
theorem wlOk_nil : WlOk [] := ⟨List.Pairwise.nil, fun s h => (List.not_mem_nil h).elim, fun s h => (List.not_mem_nil h).elim, fun s h => (List.not_mem_nil h).elim, fun s h => (List.not_mem_nil h).elim, fun s h => (List.not_mem_nil h).elim⟩
theorem WlOk.list {L : WL} (h : WlOk L) (i : Int) : (listW L i).Nodup ∧ (listW L i).length ≤ 64 ∧ ∀ x ∈ listW L i, 1 ≤ x.1 ∧ x.1 ≤ 3 ∧ x.2.size ≤ 140737488355328 := by
  unfold listW
  cases hg : getW L i with
  | none => exact ⟨List.nodup_nil, by simp, fun x hx => by cases hx⟩
  | some s => exact ⟨h.once s (getW_mem hg), h.few s (getW_mem hg), h.kind s (getW_mem hg)⟩
theorem mem_setW {L : WL} {i : Int} {l : List Wt} {t : Ws} (h : t ∈ setW L i l) : (l ≠ [] ∧ t = ⟨i, l⟩) ∨ t ∈ L := by
  unfold setW at h
  split at h
  · exact .inr (List.mem_filter.1 h).1
  · rcases mem_putW h with h | h
    · exact .inl ⟨‹_›, h⟩
    · exact .inr h
theorem WlOk.set {L : WL} (h : WlOk L) {i : Int} {l : List Wt} (hi : 1 ≤ i ∧ i ≤ 9223372036854775807) (h1 : l.Nodup) (h2 : l.length ≤ 64) (h3 : ∀ x ∈ l, 1 ≤ x.1 ∧ x.1 ≤ 3 ∧ x.2.size ≤ 140737488355328) : WlOk (setW L i l) := by
  refine ⟨setW_rising h.up i l, fun s hs => ?_, fun s hs => ?_, fun s hs => ?_, fun s hs => ?_, fun s hs => ?_⟩
  all_goals rcases mem_setW hs with ⟨h0, rfl⟩ | hs
  · exact h0
  · exact h.some_ s hs
  · exact h1
  · exact h.once s hs
  · exact h2
  · exact h.few s hs
  · exact hi
  · exact h.id64 s hs
  · exact h3
  · exact h.kind s hs
theorem WlOk.del {L : WL} (h : WlOk L) (i : Int) : WlOk (delW L i) := by
  have hm : ∀ s ∈ delW L i, s ∈ L := fun s hs => (List.mem_filter.1 hs).1
  exact ⟨delW_rising h.up i, fun s hs => h.some_ s (hm s hs), fun s hs => h.once s (hm s hs), fun s hs => h.few s (hm s hs), fun s hs => h.id64 s (hm s hs), fun s hs => h.kind s (hm s hs)⟩
theorem WlOk.add {L : WL} (h : WlOk L) {o : ByteArray → Int} {i k : Int} {p : ByteArray} (hi : i ≤ 9223372036854775807) (hp : p.size ≤ 140737488355328) : WlOk (addW o L i k p) := by
  unfold addW
  split
  · exact h
  · rename_i hn
    split
    · exact h
    · rename_i hm
      split
      · exact h
      · rename_i hf
        obtain ⟨g1, g2, g3⟩ := h.list i
        have hl : (listW L i).length < 64 := by unfold countW at hf; omega
        refine h.set ⟨by omega, hi⟩ (List.nodup_append.2 ⟨g1, by simp, fun a ha b hb e => ?_⟩) (by simp; omega) (fun x hx => ?_)
        · simp at hb; subst e; subst hb; exact hm ha
        · rcases List.mem_append.1 hx with hx | hx
          · exact g3 x hx
          · simp at hx; subst hx; exact ⟨by omega, by omega, hp⟩
theorem strikeW_sub (ks : List Int) (p : ByteArray) (l : List Wt) : (strikeW ks p l).Sublist l := List.filter_sublist
theorem mem_partF {dn : Int → Bool} {ks : List Int} {p : ByteArray} {L : WL} {t : Ws} (h : t ∈ partF dn ks p L) : t.l ≠ [] ∧ ∃ s ∈ L, t.id = s.id ∧ t.l.Sublist s.l := by
  unfold partF at h
  obtain ⟨h1, h2⟩ := List.mem_filter.1 h
  obtain ⟨s, hs, rfl⟩ := List.mem_map.1 h1
  refine ⟨fun e => ?_, s, hs, ?_, ?_⟩
  · rw [e] at h2; simp at h2
  · split <;> rfl
  · split
    · exact strikeW_sub ks p s.l
    · exact List.Sublist.refl _
theorem WlOk.part {L : WL} (h : WlOk L) (dn : Int → Bool) (ks : List Int) (p : ByteArray) : WlOk (partF dn ks p L) := by
  refine ⟨?_, fun t ht => (mem_partF ht).1, fun t ht => ?_, fun t ht => ?_, fun t ht => ?_, fun t ht => ?_⟩
  · unfold partF
    refine List.Pairwise.filter _ (List.pairwise_map.2 (h.up.imp fun {a b} hab => ?_))
    have e : ∀ s : Ws, (if dn s.id = true then (⟨s.id, strikeW ks p s.l⟩ : Ws) else s).id = s.id := fun s => by split <;> rfl
    rw [e, e]; exact hab
  all_goals obtain ⟨_, s, hs, e1, e2⟩ := mem_partF ht
  · exact e2.nodup (h.once s hs)
  · exact Nat.le_trans e2.length_le (h.few s hs)
  · rw [e1]; exact h.id64 s hs
  · exact fun x hx => h.kind s hs x (e2.subset hx)
theorem getW_part {L : WL} (h : WlOk L) (dn : Int → Bool) (ks : List Int) (p : ByteArray) (i : Int) :
    listW (partF dn ks p L) i = if dn i then strikeW ks p (listW L i) else listW L i := by
  have hok := h.part dn ks p
  unfold listW
  cases hg : getW L i with
  | none =>
    have : getW (partF dn ks p L) i = none := getW_none.2 fun t ht => by
      obtain ⟨_, s, hs, e1, _⟩ := mem_partF ht
      rw [e1]; exact getW_none.1 hg s hs
    rw [this]; simp [strikeW]
  | some s =>
    have hid := getW_id hg
    subst hid
    obtain ⟨t, ht⟩ : ∃ t : Ws, (if dn s.id = true then (⟨s.id, strikeW ks p s.l⟩ : Ws) else s) = t := ⟨_, rfl⟩
    have htid : t.id = s.id := by rw [← ht]; split <;> rfl
    have htl : t.l = if dn s.id then strikeW ks p s.l else s.l := by rw [← ht]; split <;> rfl
    by_cases he : t.l = []
    · have : getW (partF dn ks p L) s.id = none := getW_none.2 fun u hu e => by
        unfold partF at hu
        obtain ⟨h1, h2⟩ := List.mem_filter.1 hu
        obtain ⟨s', hs', rfl⟩ := List.mem_map.1 h1
        have e' : s'.id = s.id := by rw [← e]; split <;> rfl
        have : s' = s := by
          have h3 := getW_of_mem h.up hs'
          rw [e', hg] at h3; injection h3 with h3; exact h3.symm
        subst this
        rw [ht, he] at h2; simp at h2
      rw [this]
      show [] = _
      rw [← htl, he]
    · have hmem : t ∈ partF dn ks p L := by
        unfold partF
        refine List.mem_filter.2 ⟨List.mem_map.2 ⟨s, getW_mem hg, ht⟩, ?_⟩
        cases hl : t.l with
        | nil => exact absurd hl he
        | cons a r => rfl
      have := getW_of_mem hok.up hmem
      rw [htid] at this
      rw [this]; exact htl
/-- the tables of two rising lists that have the same watches are the same -/
theorem wl_ext2 {L M : WL} (hL : WlOk L) (hM : WlOk M) (h : ∀ i, listW L i = listW M i) : L = M := by
  refine wl_ext hL.up hM.up fun i => ?_
  have hi := h i
  unfold listW at hi
  cases hg : getW L i with
  | none =>
    cases hm : getW M i with
    | none => rfl
    | some t => rw [hg, hm] at hi; exact absurd hi.symm (hM.some_ t (getW_mem hm))
  | some s =>
    cases hm : getW M i with
    | none => rw [hg, hm] at hi; exact absurd hi (hL.some_ s (getW_mem hg))
    | some t =>
      rw [hg, hm] at hi
      have h1 := getW_id hg
      have h2 := getW_id hm
      cases s; cases t
      simp at hi h1 h2
      rw [hi, h1, h2]
theorem strike_any {ks : List Int} {p : ByteArray} {l : List Wt} : (strikeW ks p l).length < l.length ↔ l.any (hitB ks p) = true := by
  induction l with
  | nil => simp [strikeW]
  | cons x r ih =>
    unfold strikeW at ih ⊢
    rw [List.filter_cons, List.any_cons]
    have hle : (r.filter (fun x => !hitB ks p x)).length ≤ r.length := List.length_filter_le _ _
    cases hx : hitB ks p x with
    | true => simp only [Bool.not_true, Bool.false_eq_true, if_false, Bool.true_or, iff_true, List.length_cons]; omega
    | false =>
      simp only [Bool.not_false, if_true, List.length_cons, Bool.false_or, Nat.add_lt_add_iff_right]
      exact ih
theorem mem_told {k : Int} {p : ByteArray} {L : WL} (h : WlOk L) {i : Int} : i ∈ toldL k p L ↔ (listW L i).any (hitB (kindsOf k) p) = true := by
  unfold toldL
  rw [List.mem_map]
  constructor
  · rintro ⟨s, hs, rfl⟩
    obtain ⟨h1, h2⟩ := List.mem_filter.1 hs
    unfold listW
    rw [getW_of_mem h.up h1]; exact h2
  · intro hh
    unfold listW at hh
    cases hg : getW L i with
    | none => rw [hg] at hh; simp at hh
    | some s => rw [hg] at hh; exact ⟨s, List.mem_filter.2 ⟨getW_mem hg, hh⟩, getW_id hg⟩
theorem told_rising {k : Int} {p : ByteArray} {L : WL} (h : WlOk L) : (toldL k p L).Pairwise (fun a b => a < b) := by
  unfold toldL
  exact List.pairwise_map.2 (h.up.filter _)
theorem told_len (k : Int) (p : ByteArray) (L : WL) : (toldL k p L).length ≤ L.length := by
  unfold toldL; rw [List.length_map]; exact List.length_filter_le _ _
theorem WlOk.fire {L : WL} (h : WlOk L) (k : Int) (p : ByteArray) : WlOk (fireL k p L) := h.part _ _ _
theorem listW_fire {L : WL} (h : WlOk L) (k : Int) (p : ByteArray) (i : Int) : listW (fireL k p L) i = strikeW (kindsOf k) p (listW L i) := by
  unfold fireL; rw [getW_part h]; simp
theorem listW_del {L : WL} (i j : Int) : listW (delW L j) i = if i = j then [] else listW L i := by
  unfold listW
  rw [getW_del]
  by_cases e : i = j
  · rw [if_pos e, if_pos e]
  · rw [if_neg e, if_neg e]
/-- what is struck can't be struck again -/
theorem told_twice {L : WL} (h : WlOk L) (k : Int) (p : ByteArray) : toldL k p (fireL k p L) = [] := by
  refine List.eq_nil_iff_forall_not_mem.2 fun i hi => ?_
  rw [mem_told (h.fire k p), listW_fire h] at hi
  obtain ⟨x, hx, hb⟩ := List.any_eq_true.1 hi
  unfold strikeW at hx
  have := (List.mem_filter.1 hx).2
  rw [hb] at this; simp at this
end Go.Proofs.Ytjpoebajljbocaa
