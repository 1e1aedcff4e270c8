/- Sessions, plain: a list of them, by rising numbers. -/
import Derived.WalkKit
namespace Go.Proofs.Ytlfcccckghnffaa
set_option linter.unusedVariables false
set_option linter.unusedSimpArgs false
structure Se where
  id : Int
  to : Int
  dl : Int
abbrev SL := List Se
def Rising (L : SL) : Prop := L.Pairwise (fun a b => a.id < b.id)
def getL (L : SL) (i : Int) : Option Se := L.find? (fun s => s.id == i)
def putL : SL → Se → SL
  | [], s => [s]
  | x :: r, s => if x.id < s.id then x :: putL r s else if x.id = s.id then s :: r else s :: x :: r
def delL (L : SL) (i : Int) : SL := L.filter (fun s => !(s.id == i))
def endsI (now to : Int) : Int := (now + to + 3) / 4 * 4
def okOpen (i to now : Int) : Bool := decide (1 ≤ i ∧ 4 ≤ to ∧ to ≤ 60 ∧ 0 ≤ now ∧ now ≤ 1099511627776)
def okNow (now : Int) : Bool := decide (0 ≤ now ∧ now ≤ 1099511627776)
theorem getL_nil (i : Int) : getL [] i = none := rfl
theorem getL_cons (x : Se) (r : SL) (i : Int) : getL (x :: r) i = if x.id = i then some x else getL r i := by
  unfold getL
  rw [List.find?_cons]
  by_cases h : x.id = i
  · simp [h]
  · have : (x.id == i) = false := by simpa using h
    simp [this, h]
theorem getL_id {L : SL} {i : Int} {s : Se} (h : getL L i = some s) : s.id = i := by
  have := List.find?_some h
  simpa using this
theorem getL_mem {L : SL} {i : Int} {s : Se} (h : getL L i = some s) : s ∈ L := List.mem_of_find?_eq_some h
theorem getL_none {L : SL} {i : Int} : getL L i = none ↔ ∀ s ∈ L, s.id ≠ i := by
  unfold getL
  rw [List.find?_eq_none]
  simp
theorem getL_low {L : SL} {i : Int} (h : ∀ s ∈ L, i < s.id) : getL L i = none := getL_none.2 fun s hs => by have := h s hs; omega
theorem rising_cons {x : Se} {r : SL} : Rising (x :: r) ↔ (∀ s ∈ r, x.id < s.id) ∧ Rising r := List.pairwise_cons
theorem getL_of_mem {L : SL} (hL : Rising L) {s : Se} (h : s ∈ L) : getL L s.id = some s := by
  induction L with
  | nil => cases h
  | cons x r ih =>
    obtain ⟨h1, h2⟩ := rising_cons.1 hL
    rw [getL_cons]
    rcases List.mem_cons.1 h with rfl | h
    · simp
    · have := h1 s h
      rw [if_neg (by omega)]; exact ih h2 h
theorem mem_putL {L : SL} {s t : Se} (h : t ∈ putL L s) : t = s ∨ t ∈ L := by
  induction L with
  | nil => exact .inl (by simpa [putL] using h)
  | cons x r ih =>
    unfold putL at h
    split at h
    · rcases List.mem_cons.1 h with rfl | h
      · exact .inr (List.mem_cons_self ..)
      · rcases ih h with h | h
        · exact .inl h
        · exact .inr (List.mem_cons_of_mem _ h)
    · split at h
      · rcases List.mem_cons.1 h with h | h
        · exact .inl h
        · exact .inr (List.mem_cons_of_mem _ h)
      · rcases List.mem_cons.1 h with h | h
        · exact .inl h
        · exact .inr h
theorem putL_rising {L : SL} (hL : Rising L) (s : Se) : Rising (putL L s) := by
  induction L with
  | nil => simp [putL, Rising]
  | cons x r ih =>
    obtain ⟨h1, h2⟩ := rising_cons.1 hL
    unfold putL
    split
    · rename_i h
      refine rising_cons.2 ⟨fun t ht => ?_, ih h2⟩
      rcases mem_putL ht with rfl | ht
      · exact h
      · exact h1 t ht
    · split
      · rename_i h
        exact rising_cons.2 ⟨fun t ht => by have := h1 t ht; omega, h2⟩
      · refine rising_cons.2 ⟨fun t ht => ?_, hL⟩
        rcases List.mem_cons.1 ht with rfl | ht
        · omega
        · have := h1 t ht; omega
theorem getL_put {L : SL} (hL : Rising L) (s : Se) (i : Int) : getL (putL L s) i = if s.id = i then some s else getL L i := by
  induction L with
  | nil => simp [putL, getL_cons, getL_nil]
  | cons x r ih =>
    obtain ⟨h1, h2⟩ := rising_cons.1 hL
    unfold putL
    split
    · rename_i h
      rw [getL_cons, getL_cons, ih h2]
      by_cases e : x.id = i
      · rw [if_pos e, if_neg (by omega), if_pos e]
      · rw [if_neg e, if_neg e]
    · split
      · rename_i h
        rw [getL_cons, getL_cons]
        by_cases e : s.id = i
        · rw [if_pos e, if_pos e]
        · rw [if_neg e, if_neg e, if_neg (by omega)]
      · rw [getL_cons]
theorem delL_rising {L : SL} (hL : Rising L) (i : Int) : Rising (delL L i) := hL.filter _
theorem getL_del {L : SL} (i j : Int) : getL (delL L j) i = if i = j then none else getL L i := by
  induction L with
  | nil => simp [delL, getL_nil]
  | cons x r ih =>
    unfold delL at ih ⊢
    rw [List.filter_cons]
    by_cases h : x.id = j
    · have hb : (x.id == j) = true := by simpa using h
      simp only [hb, Bool.not_true, Bool.false_eq_true, if_false]
      rw [ih, getL_cons]
      by_cases e : i = j
      · rw [if_pos e, if_pos e]
      · rw [if_neg e, if_neg e, if_neg (by omega)]
    · have hb : (x.id == j) = false := by simpa using h
      simp only [hb, Bool.not_false, if_true]
      rw [getL_cons, getL_cons, ih]
      by_cases e : x.id = i
      · rw [if_pos e, if_pos e, if_neg (by omega)]
      · rw [if_neg e, if_neg e]
/-- two rising lists that tell the same are the same -/
theorem sl_ext {L M : SL} (hL : Rising L) (hM : Rising M) (h : ∀ i, getL L i = getL M i) : L = M := by
  induction L generalizing M with
  | nil =>
    cases M with
    | nil => rfl
    | cons y t => have := h y.id; rw [getL_cons, if_pos rfl] at this; cases this
  | cons x r ih =>
    cases M with
    | nil => have := h x.id; rw [getL_cons, if_pos rfl] at this; cases this
    | cons y t =>
      obtain ⟨a1, a2⟩ := rising_cons.1 hL
      obtain ⟨b1, b2⟩ := rising_cons.1 hM
      have hx := h x.id
      have hy := h y.id
      rw [getL_cons, if_pos rfl, getL_cons] at hx
      rw [getL_cons, getL_cons, if_pos (rfl : y.id = y.id)] at hy
      have e : x.id = y.id := by
        by_cases e : y.id = x.id
        · exact e.symm
        · rw [if_neg e] at hx
          rw [if_neg (fun e' => e e'.symm)] at hy
          have := b1 _ (getL_mem hx.symm)
          have := a1 _ (getL_mem hy)
          omega
      rw [if_pos e.symm] at hx
      injection hx with hx
      subst hx
      refine congrArg _ (ih a2 b2 fun i => ?_)
      have := h i
      rw [getL_cons, getL_cons] at this
      by_cases ei : x.id = i
      · rw [getL_low (fun s hs => by have := a1 s hs; omega), getL_low (fun s hs => by have := b1 s hs; omega)]
      · rw [if_neg ei, if_neg ei] at this; exact this
theorem put_del {L : SL} (hL : Rising L) (s : Se) : putL (delL L s.id) s = putL L s :=
  sl_ext (putL_rising (delL_rising hL _) s) (putL_rising hL s) fun i => by
    rw [getL_put (delL_rising hL _), getL_put hL, getL_del]
    by_cases e : s.id = i
    · rw [if_pos e, if_pos e]
    · rw [if_neg e, if_neg e, if_neg (fun e' => e e'.symm)]
theorem length_put {L : SL} (hL : Rising L) (s : Se) : (putL L s).length = L.length + if (getL L s.id).isSome then 0 else 1 := by
  induction L with
  | nil => rfl
  | cons x r ih =>
    obtain ⟨h1, h2⟩ := rising_cons.1 hL
    have ih' := ih h2
    by_cases ha : x.id < s.id
    · have hg : getL (x :: r) s.id = getL r s.id := by rw [getL_cons, if_neg (by omega)]
      rw [hg]; unfold putL
      rw [if_pos ha, List.length_cons, ih', List.length_cons]; omega
    · by_cases hb : x.id = s.id
      · have hg : getL (x :: r) s.id = some x := by rw [getL_cons, if_pos hb]
        rw [hg]; unfold putL
        rw [if_neg ha, if_pos hb]; rfl
      · have hg : getL (x :: r) s.id = none := by rw [getL_cons, if_neg hb, getL_low (fun t ht => by have := h1 t ht; omega)]
        rw [hg]; unfold putL
        rw [if_neg ha, if_neg hb]; rfl
theorem length_put_le {L : SL} (hL : Rising L) (s : Se) : (putL L s).length ≤ L.length + 1 := by
  rw [length_put hL]; split <;> omega
theorem length_put_some {L : SL} (hL : Rising L) {s t : Se} (h : getL L s.id = some t) : (putL L s).length = L.length := by
  rw [length_put hL, h]; rfl
theorem length_del_le (L : SL) (i : Int) : (delL L i).length ≤ L.length := List.length_filter_le _ _
theorem del_none {L : SL} (hL : Rising L) {i : Int} (h : getL L i = none) : delL L i = L :=
  sl_ext (delL_rising hL _) hL fun j => by
    rw [getL_del]
    by_cases e : j = i
    · rw [if_pos e, e, h]
    · rw [if_neg e]
theorem put_some {L : SL} (hL : Rising L) {s : Se} (h : getL L s.id = some s) : putL L s = L :=
  sl_ext (putL_rising hL s) hL fun j => by
    rw [getL_put hL]
    by_cases e : s.id = j
    · rw [if_pos e, ← e, h]
    · rw [if_neg e]
/-! what the calls answer -/
def expL (L : SL) (now : Int) : List Int := (L.filter (fun s => decide (s.dl ≤ now))).map Se.id
def allL (L : SL) : List Int := L.map Se.id
def openE (L : SL) (i to now : Int) : Int := if okOpen i to now = true then (if (getL L i).isSome = false ∧ 16 ≤ L.length then 91 else 0) else 1
def openL (L : SL) (i to now : Int) : SL := if okOpen i to now = true then (if (getL L i).isSome = false ∧ 16 ≤ L.length then L else putL L ⟨i, to, endsI now to⟩) else L
def touchE (L : SL) (i now : Int) : Int := match getL L i with
  | none => 90
  | some _ => if okNow now = true then 0 else 1
def touchL (L : SL) (i now : Int) : SL := match getL L i with
  | none => L
  | some s => if okNow now = true then (if s.dl < endsI now s.to then putL L ⟨i, s.to, endsI now s.to⟩ else L) else L
def closeE (L : SL) (i : Int) : Int := if (getL L i).isSome = true then 0 else 90
def deadE (L : SL) (i : Int) : Int := if (getL L i).isSome = true then 0 else 90
def deadN (L : SL) (i : Int) : Int := match getL L i with
  | none => 0
  | some s => s.dl
/-- what every tracker is -/
structure SlOk (L : SL) : Prop where
  up : Rising L
  few : L.length ≤ 16
  to : ∀ s ∈ L, 4 ≤ s.to ∧ s.to ≤ 60
  dl : ∀ s ∈ L, 0 ≤ s.dl ∧ s.dl ≤ 1099511627840
theorem slOk_nil : SlOk [] := ⟨List.Pairwise.nil, Nat.zero_le _, fun s h => (List.not_mem_nil h).elim, fun s h => (List.not_mem_nil h).elim⟩
theorem ends_le {now to : Int} (h0 : 0 ≤ now) (h1 : now ≤ 1099511627776) (h2 : 4 ≤ to) (h3 : to ≤ 60) : 0 ≤ endsI now to ∧ endsI now to ≤ 1099511627840 := by
  unfold endsI; omega
theorem SlOk.put {L : SL} (h : SlOk L) {s : Se} (hf : (getL L s.id).isSome = true ∨ L.length < 16) (h4 : 4 ≤ s.to ∧ s.to ≤ 60) (hd : 0 ≤ s.dl ∧ s.dl ≤ 1099511627840) : SlOk (putL L s) := by
  refine ⟨putL_rising h.up s, ?_, fun t ht => ?_, fun t ht => ?_⟩
  · rw [length_put h.up]
    have := h.few
    rcases hf with hf | hf
    · rw [if_pos hf]; omega
    · split <;> omega
  · rcases mem_putL ht with rfl | ht
    · exact h4
    · exact h.to t ht
  · rcases mem_putL ht with rfl | ht
    · exact hd
    · exact h.dl t ht
theorem SlOk.del {L : SL} (h : SlOk L) (i : Int) : SlOk (delL L i) :=
  ⟨delL_rising h.up i, Nat.le_trans (length_del_le L i) h.few, fun s hs => h.to s (List.mem_filter.1 hs).1, fun s hs => h.dl s (List.mem_filter.1 hs).1⟩
theorem SlOk.open' {L : SL} (h : SlOk L) (i to now : Int) : SlOk (openL L i to now) := by
  unfold openL
  split
  · rename_i ho
    simp only [okOpen, decide_eq_true_eq] at ho
    split
    · exact h
    · rename_i hn
      refine h.put ?_ ⟨ho.2.1, ho.2.2.1⟩ (ends_le ho.2.2.2.1 ho.2.2.2.2 ho.2.1 ho.2.2.1)
      cases hg : (getL L i).isSome with
      | true => exact .inl rfl
      | false => right; exact Nat.lt_of_not_le fun hl => hn ⟨hg, hl⟩
  · exact h
theorem SlOk.touch {L : SL} (h : SlOk L) (i now : Int) : SlOk (touchL L i now) := by
  unfold touchL
  cases hg : getL L i with
  | none => exact h
  | some s =>
    simp only
    split
    · rename_i ho
      simp only [okNow, decide_eq_true_eq] at ho
      split
      · have := h.to s (getL_mem hg)
        exact h.put (.inl (by show (getL L i).isSome = true; rw [hg]; rfl)) this (ends_le ho.1 ho.2 this.1 this.2)
      · exact h
    · exact h
theorem length_all (L : SL) : (allL L).length = L.length := List.length_map ..
theorem exp_pairwise {L : SL} (hL : Rising L) (now : Int) : (expL L now).Pairwise (fun a b => a < b) := by
  unfold expL
  exact List.pairwise_map.2 (hL.filter _)
theorem mem_exp {L : SL} {now x : Int} : x ∈ expL L now ↔ ∃ s ∈ L, s.dl ≤ now ∧ s.id = x := by
  unfold expL
  simp only [List.mem_map, List.mem_filter, decide_eq_true_eq]
  constructor
  · rintro ⟨s, ⟨h1, h2⟩, h3⟩; exact ⟨s, h1, h2, h3⟩
  · rintro ⟨s, h1, h2, h3⟩; exact ⟨s, ⟨h1, h2⟩, h3⟩
theorem exp_all {L : SL} (h : SlOk L) {now : Int} (hn : 1099511627840 ≤ now) : expL L now = allL L := by
  unfold expL allL
  rw [List.filter_eq_self.2]
  intro s hs
  have := (h.dl s hs).2
  simp only [decide_eq_true_eq]; omega
end Go.Proofs.Ytlfcccckghnffaa
