/- The document's tree is a plain one: every part does there what it does here. -/
import Derived.Test.YtenbdoceaabecaaGreatP30
import Derived.Test.YtenbdoceaabecaaGreatP31
namespace Go.Proofs.YtenbdoceaabecaaGreat
set_option linter.unusedVariables false
set_option linter.unusedSimpArgs false
def ndOf (n : RN) : Nd := ⟨n.data, n.acl, n.st⟩
def nodeOf (l : List RN) (k : List UInt8) : Option Nd := (l.find? (fun n => decide (keyB n.path = k))).map ndOf
def sessOf (l : List RS) (i : Int) : Option (Int × ByteArray) := (l.find? (fun s => decide (s.id = i))).map (fun s => (s.timeout, s.secret))
def toM (R : RT) : TM := ⟨nodeOf R.N, sessOf R.S, R.z⟩
/-- no path twice, no session twice -/
structure UqR (R : RT) : Prop where
  n : (R.N.map RN.path).Nodup
  s : (R.S.map RS.id).Nodup
theorem uq_mem {l : List RN} (hu : (l.map RN.path).Nodup) {a b : RN} (ha : a ∈ l) (hb : b ∈ l) (h : a.path = b.path) : a = b := by
  induction l with
  | nil => cases ha
  | cons x r ih =>
    obtain ⟨h1, h2⟩ := List.nodup_cons.1 hu
    rcases List.mem_cons.1 ha with ea | ha' <;> rcases List.mem_cons.1 hb with eb | hb'
    · rw [ea, eb]
    · exact absurd (show x.path ∈ r.map RN.path from List.mem_map.2 ⟨b, hb', by rw [← h, ea]⟩) h1
    · exact absurd (show x.path ∈ r.map RN.path from List.mem_map.2 ⟨a, ha', by rw [h, eb]⟩) h1
    · exact ih h2 ha' hb'
theorem node_iff {l : List RN} (hu : (l.map RN.path).Nodup) {k : List UInt8} {nd : Nd} : nodeOf l k = some nd ↔ ∃ n ∈ l, keyB n.path = k ∧ ndOf n = nd := by
  unfold nodeOf
  constructor
  · intro h
    obtain ⟨n, hn, e⟩ := Option.map_eq_some_iff.1 h
    have h1 := List.find?_some hn
    exact ⟨n, List.mem_of_find?_eq_some hn, by simpa using h1, e⟩
  · rintro ⟨n, hn, hk, rfl⟩
    cases hf : l.find? (fun n => decide (keyB n.path = k)) with
    | none =>
      have := List.find?_eq_none.1 hf n hn
      simp [hk] at this
    | some m =>
      have h1 : keyB m.path = k := by simpa using List.find?_some hf
      have := uq_mem hu hn (List.mem_of_find?_eq_some hf) (keyB_inj (hk.trans h1.symm))
      subst this; rfl
theorem node_none {l : List RN} {k : List UInt8} : nodeOf l k = none ↔ ∀ n ∈ l, keyB n.path ≠ k := by
  unfold nodeOf
  rw [Option.map_eq_none_iff, List.find?_eq_none]
  simp
theorem node_ext {o p : Option Nd} (h : ∀ nd, o = some nd ↔ p = some nd) : o = p := by
  cases o with
  | none =>
    cases p with
    | none => rfl
    | some b => exact absurd ((h b).2 rfl) (by simp)
  | some a => exact ((h a).1 rfl).symm
theorem placed_has (R : RT) (p : ByteArray) : placed R p = hasN (toM R) p := by
  unfold placed hasN
  show _ = (nodeOf R.N (keyB p)).isSome
  rcases placeI_cases R.N p with ⟨h1, h2⟩ | ⟨i, hi, h1, h2, _⟩
  · rw [h1, node_none.2 (fun n hn e => h2 n hn (keyB_inj e))]; rfl
  · rw [h1]
    cases hn : nodeOf R.N (keyB p) with
    | none => exact absurd (congrArg _ h2) (node_none.1 hn _ (List.getElem_mem hi))
    | some nd => simp
theorem modify_mem {α : Type} {l : List α} {i : Nat} (hi : i < l.length) (f : α → α) (x : α) : x ∈ l.modify i f ↔ x = f l[i] ∨ ∃ j, ∃ hj : j < l.length, j ≠ i ∧ x = l[j] := by
  constructor
  · intro h
    obtain ⟨j, hj, rfl⟩ := List.getElem_of_mem h
    rw [List.length_modify] at hj
    rw [List.getElem_modify]
    by_cases e : i = j
    · subst e; rw [if_pos rfl]; exact .inl rfl
    · rw [if_neg e]; exact .inr ⟨j, hj, fun e' => e e'.symm, rfl⟩
  · rintro (rfl | ⟨j, hj, hne, rfl⟩)
    · refine List.mem_iff_getElem.2 ⟨i, by rw [List.length_modify]; exact hi, ?_⟩
      rw [List.getElem_modify, if_pos rfl]
    · refine List.mem_iff_getElem.2 ⟨j, by rw [List.length_modify]; exact hj, ?_⟩
      rw [List.getElem_modify, if_neg (fun e => hne e.symm)]
theorem modify_paths {l : List RN} {i : Nat} {f : RN → RN} (hf : ∀ n, (f n).path = n.path) : (l.modify i f).map RN.path = l.map RN.path := by
  rw [map_modify RN.path f id (fun a => by rw [hf]; rfl)]
  refine List.ext_getElem? fun j => ?_
  rw [List.getElem?_modify]
  split <;> simp
theorem modify_node {l : List RN} (hu : (l.map RN.path).Nodup) {p : ByteArray} {i : Nat} (hi : i < l.length) (hp : l[i].path = p) {f : RN → RN} (hf : ∀ n, (f n).path = n.path) {F : Nd → Nd} (hF : ∀ n, ndOf (f n) = F (ndOf n)) (k : List UInt8) :
    nodeOf (l.modify i f) k = if k = keyB p then (nodeOf l k).map F else nodeOf l k := by
  have hu2 : ((l.modify i f).map RN.path).Nodup := by rw [modify_paths hf]; exact hu
  refine node_ext fun nd => ?_
  rw [node_iff hu2]
  by_cases e : k = keyB p
  · rw [if_pos e]
    subst e
    have h0 : nodeOf l (keyB p) = some (ndOf l[i]) := (node_iff hu).2 ⟨l[i], List.getElem_mem hi, by rw [hp], rfl⟩
    rw [h0]
    constructor
    · rintro ⟨n, hn, hk, rfl⟩
      rcases (modify_mem hi f n).1 hn with rfl | ⟨j, hj, hne, rfl⟩
      · simp [hF]
      · have := uq_mem hu (List.getElem_mem hj) (List.getElem_mem hi) ((keyB_inj hk).trans hp.symm)
        exact absurd (by
          have h9 : (l.map RN.path)[j]'(by simpa using hj) = (l.map RN.path)[i]'(by simpa using hi) := by simp [this]
          exact (List.getElem_inj hu).1 h9) hne
    · intro h
      simp at h
      exact ⟨f l[i], (modify_mem hi f _).2 (.inl rfl), by rw [hf, hp], by rw [hF]; exact h⟩
  · rw [if_neg e, node_iff hu]
    constructor
    · rintro ⟨n, hn, hk, rfl⟩
      rcases (modify_mem hi f n).1 hn with rfl | ⟨j, hj, hne, rfl⟩
      · exact absurd (by rw [← hk, hf, hp]) e
      · exact ⟨_, List.getElem_mem hj, hk, rfl⟩
    · rintro ⟨n, hn, hk, rfl⟩
      obtain ⟨j, hj, rfl⟩ := List.getElem_of_mem hn
      refine ⟨l[j], (modify_mem hi f _).2 (.inr ⟨j, hj, fun e' => ?_, rfl⟩), hk, rfl⟩
      subst e'
      exact e (by rw [← hk, hp])
theorem tm_ext {M M' : TM} (h1 : ∀ k, M.N k = M'.N k) (h2 : ∀ i, M.S i = M'.S i) (h3 : M.z = M'.z) : M = M' := by
  cases M; cases M'
  simp only at h1 h2 h3
  rw [funext h1, funext h2, h3]
/-- a node's change, by its place -/
theorem place_mod {R : RT} (hu : UqR R) (p : ByteArray) {f : RN → RN} (hf : ∀ n, (f n).path = n.path) {F : Nd → Nd} (hF : ∀ n, ndOf (f n) = F (ndOf n)) (k : List UInt8) :
    nodeOf (if 0 ≤ placeI R.N p then modN R (placeI R.N p).toNat f else R).N k = if k = keyB p then (nodeOf R.N k).map F else nodeOf R.N k := by
  rcases placeI_cases R.N p with ⟨h1, h2⟩ | ⟨i, hi, h1, h2, _⟩
  · rw [h1, if_neg (by omega)]
    by_cases e : k = keyB p
    · rw [if_pos e, node_none.2 (fun n hn e' => h2 n hn (keyB_inj (e'.trans e)))]; rfl
    · rw [if_neg e]
  · rw [h1, if_pos (by omega)]
    exact modify_node hu.n hi h2 hf hF k
theorem uq_mod {R : RT} (hu : UqR R) {i : Nat} {f : RN → RN} (hf : ∀ n, (f n).path = n.path) : UqR (modN R i f) :=
  ⟨by show ((R.N.modify i f).map RN.path).Nodup; rw [modify_paths hf]; exact hu.n, hu.s⟩
theorem uq_kid {R : RT} (hu : UqR R) (p : ByteArray) (cv zx : Int) : UqR (kidR R p cv zx) := by
  unfold kidR; split
  · exact uq_mod hu (fun _ => rfl)
  · exact hu
theorem kid_S (R : RT) (p : ByteArray) (cv zx : Int) : (kidR R p cv zx).S = R.S ∧ (kidR R p cv zx).z = R.z := by
  unfold kidR; split <;> exact ⟨rfl, rfl⟩
theorem kid_toM {R : RT} (hu : UqR R) (p : ByteArray) (cv zx : Int) : toM (kidR R p cv zx) = kidsOf (toM R) p cv zx := by
  refine tm_ext (fun k => ?_) (fun i => ?_) ?_
  · rw [kids_N]
    show nodeOf (kidR R p cv zx).N k = _
    unfold kidR
    exact place_mod hu p (f := kidF cv zx) (fun _ => rfl) (F := kidU cv zx) (fun _ => rfl) k
  · show sessOf (kidR R p cv zx).S i = _
    rw [(kid_S R p cv zx).1]
    unfold kidsOf; split <;> rfl
  · show (kidR R p cv zx).z = _
    rw [(kid_S R p cv zx).2]
    unfold kidsOf; split <;> rfl
/-! Lay -/
theorem mem_if {α : Type} {c : Prop} [Decidable c] {x n : α} : x ∈ (if c then [n] else []) ↔ c ∧ x = n := by
  split <;> simp [*]
theorem lay_iff {α : Type} (key : α → ByteArray) (n : α) (l : List α) (x : α) : x ∈ (layFold key n l).1 ↔ ((layFold key n l).2 = true ∧ x = n) ∨ (x ∈ l ∧ key x ≠ key n) := by
  induction l using snoc_ind with
  | h0 => simp [layFold]
  | h1 l a ih =>
    rw [layFold_snoc]
    unfold layStep
    have hxa : x ∈ (if key a = key n then [] else [a]) ↔ (x = a ∧ key x ≠ key n) := by
      split
      · rename_i h; simp; rintro rfl; exact h
      · rename_i h; simp; rintro rfl; exact h
    have hA : ((x ∈ l ∨ x = a) ∧ key x ≠ key n) ↔ (x ∈ l ∧ key x ≠ key n) ∨ (x = a ∧ key x ≠ key n) := or_and_right
    simp only [List.mem_append, ih, mem_if, hxa, List.mem_singleton, hA]
    generalize (x ∈ l ∧ key x ≠ key n) = A
    generalize (x = a ∧ key x ≠ key n) = B
    generalize (x = n) = C
    cases (layFold key n l).2 <;> cases Op.bytesLess (key a).toList (key n).toList <;> by_cases hA' : A <;> by_cases hB' : B <;> by_cases hC' : C <;> simp [hA', hB', hC']
theorem layF_iff {α : Type} (key : α → ByteArray) (n : α) (l : List α) (x : α) : x ∈ layF key n l ↔ x = n ∨ (x ∈ l ∧ key x ≠ key n) := by
  unfold layF
  split
  · rename_i h; rw [lay_iff, h]; simp
  · rename_i h
    rw [List.mem_append, lay_iff]
    simp [h, or_comm]
theorem nodup_snoc {α : Type} {l : List α} {a : α} : (l ++ [a]).Nodup ↔ l.Nodup ∧ a ∉ l := by
  rw [List.nodup_append]
  constructor
  · rintro ⟨h1, _, h2⟩; exact ⟨h1, fun h => h2 a h a (by simp) rfl⟩
  · rintro ⟨h1, h2⟩; exact ⟨h1, by simp, fun x hx y hy e => by simp at hy; subst hy; subst e; exact h2 hx⟩
theorem lay_nodup {α : Type} (key : α → ByteArray) (n : α) (l : List α) (h : (l.map key).Nodup) : ((layFold key n l).1.map key).Nodup := by
  induction l using snoc_ind with
  | h0 => simp [layFold]
  | h1 l a ih =>
    rw [List.map_append, List.map_singleton, nodup_snoc] at h
    have ih := ih h.1
    have hm := lay_iff key n l
    rw [layFold_snoc]
    unfold layStep
    simp only
    have hna : key a ≠ key n → key a ∉ (layFold key n l).1.map key := fun hk hx => by
      obtain ⟨x, hx, e⟩ := List.mem_map.1 hx
      rcases (hm x).1 hx with ⟨_, rfl⟩ | ⟨h1, _⟩
      · exact hk e.symm
      · exact h.2 (List.mem_map.2 ⟨x, h1, e⟩)
    have hnn : (layFold key n l).2 = false → key n ∉ (layFold key n l).1.map key := fun hs hx => by
      obtain ⟨x, hx, e⟩ := List.mem_map.1 hx
      rcases (hm x).1 hx with ⟨h1, _⟩ | ⟨_, h2⟩
      · rw [hs] at h1; cases h1
      · exact h2 e
    split
    · rename_i hc
      split
      · simp only [List.append_nil, List.map_append, List.map_singleton]
        exact nodup_snoc.2 ⟨ih, hnn hc.1⟩
      · rename_i hk
        simp only [List.map_append, List.map_singleton]
        exact nodup_snoc.2 ⟨nodup_snoc.2 ⟨ih, hnn hc.1⟩, fun hx => by
          rcases List.mem_append.1 hx with hx | hx
          · exact hna hk hx
          · exact hk (by simpa using hx)⟩
    · split
      · simpa using ih
      · rename_i hk
        simp only [List.append_nil, List.map_append, List.map_singleton]
        exact nodup_snoc.2 ⟨ih, hna hk⟩
theorem layF_nodup {α : Type} (key : α → ByteArray) (n : α) (l : List α) (h : (l.map key).Nodup) : ((layF key n l).map key).Nodup := by
  have h1 := lay_nodup key n l h
  unfold layF
  split
  · exact h1
  · rename_i hs
    rw [List.map_append, List.map_singleton]
    refine nodup_snoc.2 ⟨h1, fun hx => ?_⟩
    obtain ⟨x, hx, e⟩ := List.mem_map.1 hx
    rcases (lay_iff key n l x).1 hx with ⟨h1, _⟩ | ⟨_, h2⟩
    · exact hs h1
    · exact h2 e
theorem lay_node {l : List RN} (hu : (l.map RN.path).Nodup) (n : RN) (k : List UInt8) : nodeOf (layF (·.path) n l) k = if k = keyB n.path then some (ndOf n) else nodeOf l k := by
  have hu2 := layF_nodup RN.path n l hu
  refine node_ext fun nd => ?_
  rw [node_iff hu2]
  by_cases e : k = keyB n.path
  · rw [if_pos e]
    constructor
    · rintro ⟨m, hm, hk, rfl⟩
      rcases (layF_iff RN.path n l m).1 hm with rfl | ⟨_, h2⟩
      · rfl
      · exact absurd (keyB_inj (hk.trans e)) h2
    · intro h
      simp at h
      exact ⟨n, (layF_iff RN.path n l n).2 (.inl rfl), e.symm, h⟩
  · rw [if_neg e, node_iff hu]
    constructor
    · rintro ⟨m, hm, hk, rfl⟩
      rcases (layF_iff RN.path n l m).1 hm with rfl | ⟨h1, _⟩
      · exact absurd hk.symm e
      · exact ⟨m, h1, hk, rfl⟩
    · rintro ⟨m, hm, hk, rfl⟩
      exact ⟨m, (layF_iff RN.path n l m).2 (.inr ⟨hm, fun e' => e (by rw [← hk, e'])⟩), hk, rfl⟩
/-! the parts -/
theorem has_kids (M : TM) (p q : ByteArray) (cv zx : Int) : hasN (kidsOf M p cv zx) q = hasN M q := by
  unfold hasN
  have := kids_none_iff M p cv zx (keyB q)
  cases h1 : (kidsOf M p cv zx).N (keyB q) <;> cases h2 : M.N (keyB q) <;> rw [h1, h2] at this <;> simp at this ⊢
theorem create_sim {R : RT} (hu : UqR R) (x : T1) (zx : Int) : toM (createR R x zx).1 = (createM (toM R) x zx).1 ∧ (createR R x zx).2 = (createM (toM R) x zx).2 ∧ UqR (createR R x zx).1 := by
  unfold createR createM
  rw [placed_has]
  by_cases hc : mayCome x.path = true ∧ hasN (toM R) (parS x.path) = true
  · rw [if_pos hc, if_pos hc]
    obtain ⟨hm, hp⟩ := hc
    obtain ⟨m1, m2⟩ := may_iff.1 hm
    have hne := par_ne m2 m1
    have hok : okP x.path = true := by unfold okP; simpa using m2
    have hu1 : UqR { R with N := layF (·.path) (newRN x zx) R.N } := ⟨layF_nodup RN.path _ _ hu.n, hu.s⟩
    refine ⟨?_, ?_, uq_kid hu1 _ _ _⟩
    · simp only
      rw [kid_toM hu1]
      refine tm_ext (fun k => ?_) (fun i => ?_) ?_
      · rw [kids_N, lay_N hok, kids_N]
        show (if k = _ then (nodeOf (layF _ _ _) k).map _ else nodeOf (layF _ _ _) k) = _
        rw [lay_node hu.n]
        show (if k = keyB (parS x.path) then (if k = keyB x.path then some (ndOf (newRN x zx)) else nodeOf R.N k).map _ else (if k = keyB x.path then some (ndOf (newRN x zx)) else nodeOf R.N k)) = if k = keyB x.path then some _ else (if k = keyB (parS x.path) then (nodeOf R.N k).map _ else nodeOf R.N k)
        by_cases e1 : k = keyB x.path
        · rw [if_pos e1, if_pos e1, if_neg (fun e => hne (by rw [← e, e1]))]; rfl
        · rw [if_neg e1, if_neg e1]
      · unfold layM kidsOf; rw [if_pos hok]; split <;> split <;> rfl
      · unfold layM kidsOf; rw [if_pos hok]; split <;> split <;> rfl
    · simp only
      rw [placed_has, has_kids]
  · rw [if_neg hc, if_neg hc]
    exact ⟨rfl, rfl, hu⟩
theorem keep_node {l : List RN} (hu : (l.map RN.path).Nodup) (p : ByteArray) (k : List UInt8) : nodeOf (l.filter (keepQ p)) k = if k = keyB p ∨ underL k p = true then none else nodeOf l k := by
  have hu2 : ((l.filter (keepQ p)).map RN.path).Nodup := (List.filter_sublist.map RN.path).nodup hu
  refine node_ext fun nd => ?_
  rw [node_iff hu2]
  have hq : ∀ n : RN, keepQ p n = true ↔ ¬ (keyB n.path = keyB p ∨ underL (keyB n.path) p = true) := fun n => by
    unfold keepQ underL
    rw [ba_mk]
    simp only [Bool.and_eq_true, Bool.not_eq_true', decide_eq_false_iff_not, not_or, Bool.not_eq_true]
    exact and_congr (not_congr ⟨fun e => by rw [e], fun e => keyB_inj e⟩) Iff.rfl
  by_cases e : k = keyB p ∨ underL k p = true
  · rw [if_pos e]
    constructor
    · rintro ⟨n, hn, hk, _⟩
      have := (hq n).1 (List.mem_filter.1 hn).2
      rw [hk] at this; exact absurd e this
    · intro h; cases h
  · rw [if_neg e, node_iff hu]
    constructor
    · rintro ⟨n, hn, hk, hd⟩; exact ⟨n, (List.mem_filter.1 hn).1, hk, hd⟩
    · rintro ⟨n, hn, hk, hd⟩; exact ⟨n, List.mem_filter.2 ⟨hn, (hq n).2 (by rw [hk]; exact e)⟩, hk, hd⟩
theorem erase_sim {R : RT} (hu : UqR R) (x : T1) (zx : Int) : toM (eraseR R x zx).1 = (removeM (toM R) x zx).1 ∧ (eraseR R x zx).2 = (removeM (toM R) x zx).2 ∧ UqR (eraseR R x zx).1 := by
  unfold eraseR removeM
  by_cases hm : mayCome x.path = true
  · rw [if_pos hm, if_pos hm]
    have hu1 : UqR { R with N := R.N.filter (keepQ x.path) } := ⟨(List.filter_sublist.map RN.path).nodup hu.n, hu.s⟩
    have hd : toM { R with N := R.N.filter (keepQ x.path) } = dropM (toM R) x.path := tm_ext (fun k => keep_node hu.n x.path k) (fun i => rfl) rfl
    have hc : toM (cutR R x zx) = kidsOf (dropM (toM R) x.path) (parS x.path) x.number zx := by
      unfold cutR; rw [kid_toM hu1, hd]
    refine ⟨hc, ?_, uq_kid hu1 _ _ _⟩
    simp only
    rw [placed_has, placed_has, hc, has_kids]
    cases hasN (toM R) x.path <;> cases hasN (dropM (toM R) x.path) (parS x.path) <;> simp
  · rw [if_neg hm, if_neg hm]
    exact ⟨rfl, rfl, hu⟩
theorem set_sim {R : RT} (hu : UqR R) (x : T1) (zx : Int) : toM (setR R x zx).1 = (setM (toM R) x zx).1 ∧ (setR R x zx).2 = (setM (toM R) x zx).2 ∧ UqR (setR R x zx).1 := by
  have hN := place_mod hu x.path (f := setF x zx) (fun _ => rfl) (F := setU x zx) (fun _ => rfl)
  unfold setR setM
  have hp := placed_has R x.path
  unfold hasN at hp
  have hpl : placed R x.path = true ↔ 0 ≤ placeI R.N x.path := by unfold placed; simp
  cases hn : (toM R).N x.path.data.toList with
  | none =>
    rw [hn] at hp
    rw [if_neg (by rw [hp]; simp)]
    exact ⟨rfl, rfl, hu⟩
  | some nd =>
    rw [hn] at hp
    have hp : placed R x.path = true := hp
    rw [if_pos hp]
    refine ⟨tm_ext (fun k => ?_) (fun i => rfl) rfl, rfl, uq_mod hu (fun _ => rfl)⟩
    have h := hN k
    rw [if_pos (hpl.1 hp)] at h
    refine h.trans ?_
    show _ = updN (nodeOf R.N) _ _ k
    by_cases e : k = keyB x.path
    · subst e
      rw [if_pos rfl, updN_same, show nodeOf R.N (keyB x.path) = some nd from hn]; rfl
    · rw [if_neg e, updN_other _ _ _ e]
theorem acl_sim {R : RT} (hu : UqR R) (x : T1) : toM (aclR R x) = aclM (toM R) x ∧ UqR (aclR R x) := by
  have hN := place_mod hu x.path (f := aclF x) (fun _ => rfl) (F := aclU x) (fun _ => rfl)
  unfold aclR aclM
  have hp := placed_has R x.path
  unfold hasN at hp
  have hpl : placed R x.path = true ↔ 0 ≤ placeI R.N x.path := by unfold placed; simp
  cases hn : (toM R).N x.path.data.toList with
  | none =>
    rw [hn] at hp
    rw [if_neg (by rw [hp]; simp)]
    exact ⟨rfl, hu⟩
  | some nd =>
    rw [hn] at hp
    have hp : placed R x.path = true := hp
    rw [if_pos hp]
    refine ⟨tm_ext (fun k => ?_) (fun i => rfl) rfl, uq_mod hu (fun _ => rfl)⟩
    have h := hN k
    rw [if_pos (hpl.1 hp)] at h
    refine h.trans ?_
    show _ = updN (nodeOf R.N) _ _ k
    by_cases e : k = keyB x.path
    · subst e
      rw [if_pos rfl, updN_same, show nodeOf R.N (keyB x.path) = some nd from hn]; rfl
    · rw [if_neg e, updN_other _ _ _ e]
/-- a part does there what it does here, and tells the same -/
theorem part_sim {R : RT} (hu : UqR R) (x : T1) (zx : Int) : toM (partR R x zx).1 = (partM (toM R) x zx).1 ∧ (partR R x zx).2 = (partM (toM R) x zx).2 ∧ UqR (partR R x zx).1 := by
  unfold partR partM
  by_cases h1 : x.kind = 1
  · rw [if_pos h1, if_pos h1]; exact create_sim hu x zx
  · rw [if_neg h1, if_neg h1]
    by_cases h2 : x.kind = 2
    · rw [if_pos h2, if_pos h2]; exact erase_sim hu x zx
    · rw [if_neg h2, if_neg h2]
      by_cases h3 : x.kind = 3
      · rw [if_pos h3, if_pos h3]; exact set_sim hu x zx
      · rw [if_neg h3, if_neg h3]
        by_cases h4 : x.kind = 4
        · rw [if_pos h4, if_pos h4]
          obtain ⟨a, b⟩ := acl_sim hu x
          exact ⟨a, rfl, b⟩
        · rw [if_neg h4, if_neg h4]; exact ⟨rfl, rfl, hu⟩
end Go.Proofs.YtenbdoceaabecaaGreat
