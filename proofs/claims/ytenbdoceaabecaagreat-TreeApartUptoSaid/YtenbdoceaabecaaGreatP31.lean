/- Plainly: a sound history done again. Plainly: a sound history done again (what steps leave). -/
import Derived.Test.YtenbdoceaabecaaGreatP03
import Derived.Test.YtenbdoceaabecaaGreatP18
namespace Go.Proofs.YtenbdoceaabecaaGreat
set_option linter.unusedVariables false
set_option linter.unusedSimpArgs false
abbrev keyB (p : ByteArray) : List UInt8 := p.data.toList
def prj (g : Nat) : Option Nd → Option (Int × Int × Int × ByteArray × List AR)
  | none => none
  | some nd => some (if g = 0 then (nd.st.cz, nd.st.owner, 0, ⟨#[]⟩, []) else if g = 1 then (nd.st.ver, nd.st.mz, 0, nd.data, []) else if g = 2 then (nd.st.aver, 0, 0, ⟨#[]⟩, nd.acl) else (nd.st.cver, nd.st.pz, 0, ⟨#[]⟩, []))
theorem prj_all {o o' : Option Nd} (h : ∀ g, g < 4 → prj g o = prj g o') : o = o' := by
  have h0 := h 0 (by decide)
  have h1 := h 1 (by decide)
  have h2 := h 2 (by decide)
  have h3 := h 3 (by decide)
  cases o with
  | none => cases o' with
    | none => rfl
    | some b => simp [prj] at h0
  | some a => cases o' with
    | none => simp [prj] at h0
    | some b =>
      obtain ⟨d, l, ⟨c1, c2, c3, c4, c5, c6, c7⟩⟩ := a
      obtain ⟨d', l', ⟨e1, e2, e3, e4, e5, e6, e7⟩⟩ := b
      simp [prj] at h0 h1 h2 h3
      obtain ⟨rfl, rfl⟩ := h0
      obtain ⟨rfl, rfl, rfl⟩ := h1
      obtain ⟨rfl, rfl⟩ := h2
      obtain ⟨rfl, rfl⟩ := h3
      rfl
theorem prj_none {g : Nat} {o : Option Nd} : prj g o = none ↔ o = none := by cases o <;> simp [prj]
/-- what a part touches: 0 that it is there, 1 its data, 2 its ACL, 3 its kids -/
def tch (x : T1) (k : List UInt8) (g : Nat) : Prop :=
  ((x.kind = 1 ∨ x.kind = 2) ∧ (k = keyB x.path ∨ (k = keyB (parS x.path) ∧ g = 3))) ∨ (x.kind = 3 ∧ k = keyB x.path ∧ g = 1) ∨ (x.kind = 4 ∧ k = keyB x.path ∧ g = 2)
def noKid (M : TM) (p : ByteArray) : Prop := ∀ q : ByteArray, M.N (keyB q) ≠ none → keyB q ≠ [47] → parS q ≠ p
def soundP (M : TM) (x : T1) : Prop :=
  (x.kind = 1 ∧ mayCome x.path = true ∧ M.N (keyB x.path) = none ∧ M.N (keyB (parS x.path)) ≠ none) ∨
  (x.kind = 2 ∧ keyB x.path ≠ [47] ∧ M.N (keyB x.path) ≠ none ∧ noKid M x.path) ∨ ((x.kind = 3 ∨ x.kind = 4) ∧ M.N (keyB x.path) ≠ none)
structure Closed (M : TM) : Prop where
  root : M.N [47] ≠ none
  ok : ∀ p : ByteArray, M.N (keyB p) ≠ none → checkS p = 0
  up : ∀ p : ByteArray, M.N (keyB p) ≠ none → keyB p ≠ [47] → M.N (keyB (parS p)) ≠ none
theorem keyB_inj {p q : ByteArray} (h : keyB p = keyB q) : p = q := eq_of_list h
theorem keyB_mk (k : List UInt8) : keyB ⟨k.toArray⟩ = k := rfl
theorem may_iff {p : ByteArray} : mayCome p = true ↔ keyB p ≠ [47] ∧ checkS p = 0 := by
  unfold mayCome okP; simp
theorem ok_names {p : ByteArray} (h : checkS p = 0) (hr : keyB p ≠ [47]) : ∃ ns n, AllOk (ns ++ [n]) ∧ p = pathS (ns ++ [n]) := by
  obtain ⟨ns, h1, h2, _⟩ := (check_ok p).1 h
  rcases List.eq_nil_or_concat ns with rfl | ⟨r, n, rfl⟩
  · subst h2; exact absurd rfl hr
  · rw [List.concat_eq_append] at h1 h2
    exact ⟨r, n, h1, h2⟩
theorem par_lt {p : ByteArray} (h : checkS p = 0) (hr : keyB p ≠ [47]) : (parS p).size < p.size := by
  obtain ⟨ns, n, ha, rfl⟩ := ok_names h hr
  rw [par_path ha, size_path, size_path, pathL_snoc]
  have hn := okName_pos (ha n (by simp))
  unfold pathL
  split
  · rename_i e; subst e; simp [joinN]; exact hn
  · simp
theorem par_ne {p : ByteArray} (h : checkS p = 0) (hr : keyB p ≠ [47]) : keyB (parS p) ≠ keyB p := fun e => by
  have := par_lt h hr
  rw [keyB_inj e] at this; omega
theorem par_not_under {p : ByteArray} (h : checkS p = 0) (hr : keyB p ≠ [47]) : underL (keyB (parS p)) p = false := by
  have h1 := par_lt h hr
  have h2 := (kidS_size p ⟨#[]⟩).1
  unfold underL underS
  rw [show ((⟨(keyB (parS p)).toArray⟩ : ByteArray)) = parS p from rfl]
  rw [decide_eq_false (by omega)]; rfl
theorem climb {M : TM} (hM : Closed M) {p : ByteArray} (hp : checkS p = 0) {k : List UInt8} (hk : M.N k ≠ none) (hu : underL k p = true) (hno : noKid M p) : False := by
  obtain ⟨ms, hms, rfl, _⟩ := (check_ok p).1 hp
  have hc : checkS ⟨k.toArray⟩ = 0 := hM.ok ⟨k.toArray⟩ hk
  obtain ⟨ns, hns, hkn, _⟩ := (check_ok _).1 hc
  have hku : underS (pathS ns) (pathS ms) = true := by rw [← hkn]; exact hu
  obtain ⟨m, r, rfl⟩ := (under_path hns hms).1 hku
  have hk' : M.N (keyB (pathS (ms ++ m :: r))) ≠ none := by rw [← hkn]; exact hk
  clear hkn hku hu hk hc
  have hgo : ∀ (j : Nat) (r : List (List UInt8)), r.length = j → AllOk (ms ++ m :: r) → M.N (keyB (pathS (ms ++ m :: r))) ≠ none → M.N (keyB (pathS (ms ++ [m]))) ≠ none := by
    intro j
    induction j with
    | zero => intro r hr _ h; rw [List.eq_nil_of_length_eq_zero hr] at h; exact h
    | succ j ih =>
      intro r hr ha h
      rcases List.eq_nil_or_concat r with rfl | ⟨r', x, rfl⟩
      · simp at hr
      · rw [List.concat_eq_append] at *
        have e : ms ++ m :: (r' ++ [x]) = (ms ++ m :: r') ++ [x] := by simp
        rw [e] at h ha
        have h2 := hM.up _ h (by
          show pathL _ ≠ [47]
          rw [Ne, pathL_slash ha]; simp)
        rw [par_path ha] at h2
        exact ih r' (by simp at hr; omega) (fun n hn => ha n (by simp at hn ⊢; rcases hn with h | h | h <;> simp [h])) h2
  have h1 := hgo r.length r rfl hns hk'
  have ha : AllOk (ms ++ [m]) := fun n hn => hns n (by simp at hn ⊢; rcases hn with h | h <;> simp [h])
  exact hno _ h1 (by show pathL _ ≠ [47]; rw [Ne, pathL_slash ha]; simp) (par_path ha)
def kidU (cv zx : Int) (nd : Nd) : Nd := { nd with st := { nd.st with cver := cv, pz := zx } }
theorem kids_N (M : TM) (p : ByteArray) (cv zx : Int) (k : List UInt8) : (kidsOf M p cv zx).N k = if k = keyB p then (M.N k).map (kidU cv zx) else M.N k := by
  unfold kidsOf
  by_cases e : k = keyB p
  · subst e
    rw [if_pos rfl]
    cases h : M.N (keyB p) with
    | none => simp [h]
    | some nd => simp [updN_same, kidU]
  · rw [if_neg e]
    cases h : M.N p.data.toList with
    | none => rfl
    | some nd => simp [updN_other _ _ _ e]
theorem kids_none_iff (M : TM) (p : ByteArray) (cv zx : Int) (k : List UInt8) : (kidsOf M p cv zx).N k = none ↔ M.N k = none := by
  rw [kids_N]; split <;> simp
theorem lay_N {M : TM} {p : ByteArray} (h : okP p = true) (d : ByteArray) (l : List AR) (s : St) (k : List UInt8) : (layM M p d l s).N k = if k = keyB p then some ⟨d, l, s⟩ else M.N k := by
  unfold layM; rw [if_pos h]; rfl
def stp (M : TM) (x : T1) (zx : Int) : TM := (partM M x zx).1
def newNd (x : T1) (zx : Int) : Nd := ⟨x.data, x.acl, ⟨zx, zx, zx, 0, 0, 0, x.owner⟩⟩
theorem create_N {M : TM} {x : T1} (h1 : x.kind = 1) (hm : mayCome x.path = true) (hp : M.N (keyB (parS x.path)) ≠ none) (zx : Int) (k : List UInt8) :
    (stp M x zx).N k = if k = keyB x.path then some (newNd x zx) else if k = keyB (parS x.path) then (M.N k).map (kidU x.number zx) else M.N k := by
  have hh : hasN M (parS x.path) = true := by unfold hasN; cases h : M.N (parS x.path).data.toList with
    | none => exact absurd h hp
    | some _ => rfl
  unfold stp partM
  rw [if_pos h1]
  unfold createM
  rw [if_pos ⟨hm, hh⟩, lay_N (by unfold mayCome at hm; rw [Bool.and_eq_true] at hm; exact hm.2), kids_N]; rfl
theorem create_no {M : TM} {x : T1} (h1 : x.kind = 1) (hp : M.N (keyB (parS x.path)) = none) (zx : Int) : stp M x zx = M := by
  unfold stp partM createM
  rw [if_pos h1, if_neg (by unfold hasN; simp [hp])]
theorem remove_N {M : TM} {x : T1} (h2 : x.kind = 2) (hm : mayCome x.path = true) (zx : Int) (k : List UInt8) :
    (stp M x zx).N k = if k = keyB x.path ∨ underL k x.path = true then none else if k = keyB (parS x.path) then (M.N k).map (kidU x.number zx) else M.N k := by
  unfold stp partM removeM
  rw [if_neg (by omega), if_pos h2, if_pos hm]
  show (kidsOf (dropM M x.path) (parS x.path) x.number zx).N k = _
  rw [kids_N]
  unfold dropM
  by_cases hc : k = keyB x.path ∨ underL k x.path = true
  · rw [if_pos hc]
    simp only [if_pos (show k = x.path.data.toList ∨ underL k x.path = true from hc)]; simp
  · rw [if_neg hc]
    simp only [if_neg (show ¬ (k = x.path.data.toList ∨ underL k x.path = true) from hc)]
def setU (x : T1) (zx : Int) (nd : Nd) : Nd := { nd with data := x.data, st := { nd.st with ver := x.number, mz := zx } }
theorem set_N {M : TM} {x : T1} (h3 : x.kind = 3) (zx : Int) (k : List UInt8) : (stp M x zx).N k = if k = keyB x.path then (M.N k).map (setU x zx) else M.N k := by
  unfold stp partM setM
  rw [if_neg (by omega), if_neg (by omega), if_pos h3]
  by_cases e : k = keyB x.path
  · subst e
    rw [if_pos rfl]
    cases h : M.N (keyB x.path) with
    | none => simp [h]
    | some nd => simp [updN_same, setU]
  · rw [if_neg e]
    cases h : M.N x.path.data.toList with
    | none => rfl
    | some nd => simp [updN_other _ _ _ e]
def aclU (x : T1) (nd : Nd) : Nd := { nd with acl := x.acl, st := { nd.st with aver := x.number } }
theorem acl_N {M : TM} {x : T1} (h4 : x.kind = 4) (zx : Int) (k : List UInt8) : (stp M x zx).N k = if k = keyB x.path then (M.N k).map (aclU x) else M.N k := by
  unfold stp partM
  rw [if_neg (by omega), if_neg (by omega), if_neg (by omega), if_pos h4]
  show (aclM M x).N k = _
  unfold aclM
  by_cases e : k = keyB x.path
  · subst e
    rw [if_pos rfl]
    cases h : M.N (keyB x.path) with
    | none => simp [h]
    | some nd => simp [updN_same, aclU]
  · rw [if_neg e]
    cases h : M.N x.path.data.toList with
    | none => rfl
    | some nd => simp [updN_other _ _ _ e]
theorem none_none {α β : Type} {o : Option α} {f : α → β} : o.map f = none ↔ o = none := by cases o <;> simp
theorem prj_kid {g : Nat} (cv zx : Int) (o : Option Nd) (hg : g < 3) : prj g (o.map (kidU cv zx)) = prj g o := by
  cases o with
  | none => rfl
  | some nd =>
    have : g = 0 ∨ g = 1 ∨ g = 2 := by omega
    rcases this with rfl | rfl | rfl <;> rfl
end Go.Proofs.YtenbdoceaabecaaGreat

namespace Go.Proofs.YtenbdoceaabecaaGreat
set_option linter.unusedVariables false
set_option linter.unusedSimpArgs false
variable {M X : TM} {x : T1}
theorem sound_kind (h : soundP M x) : x.kind = 1 ∨ x.kind = 2 ∨ x.kind = 3 ∨ x.kind = 4 := by
  rcases h with ⟨h, _⟩ | ⟨h, _⟩ | ⟨h | h, _⟩ <;> simp [h]
theorem tch_zero {k : List UInt8} (h : tch x k 0) (g : Nat) : tch x k g := by
  rcases h with ⟨h1, h2 | ⟨_, h2⟩⟩ | ⟨_, _, h2⟩ | ⟨_, _, h2⟩
  · exact .inl ⟨h1, .inl h2⟩
  all_goals omega
theorem may_of (hM : Closed M) {p : ByteArray} (h1 : keyB p ≠ [47]) (h2 : M.N (keyB p) ≠ none) : mayCome p = true := may_iff.2 ⟨h1, hM.ok p h2⟩
/-- what is not touched stays -/
theorem no_touch (hM : Closed M) (h : soundP M x) (zx : Int) {k : List UInt8} {g : Nat} (hg : g < 4) (ht : ¬ tch x k g) : prj g ((stp M x zx).N k) = prj g (M.N k) := by
  rcases h with ⟨h1, hm, hn, hp⟩ | ⟨h2, hr, hn, hno⟩ | ⟨h3 | h4, hn⟩
  · rw [create_N h1 hm hp]
    by_cases e : k = keyB x.path
    · exact absurd (.inl ⟨.inl h1, .inl e⟩) ht
    rw [if_neg e]
    by_cases e2 : k = keyB (parS x.path)
    · rw [if_pos e2, prj_kid]
      exact Nat.lt_of_le_of_ne (by omega) (fun eg => ht (.inl ⟨.inl h1, .inr ⟨e2, eg⟩⟩))
    · rw [if_neg e2]
  · rw [remove_N h2 (may_of hM hr hn)]
    by_cases e : k = keyB x.path
    · exact absurd (.inl ⟨.inr h2, .inl e⟩) ht
    by_cases eu : underL k x.path = true
    · rw [if_pos (.inr eu)]
      cases hk : M.N k with
      | none => rfl
      | some nd => exact (climb hM (hM.ok _ hn) (by rw [hk]; simp) eu hno).elim
    rw [if_neg (by simp [e, eu])]
    by_cases e2 : k = keyB (parS x.path)
    · rw [if_pos e2, prj_kid]
      exact Nat.lt_of_le_of_ne (by omega) (fun eg => ht (.inl ⟨.inr h2, .inr ⟨e2, eg⟩⟩))
    · rw [if_neg e2]
  · rw [set_N h3]
    by_cases e : k = keyB x.path
    · rw [if_pos e]
      have : g ≠ 1 := fun eg => ht (.inr (.inl ⟨h3, e, eg⟩))
      cases M.N k with
      | none => rfl
      | some nd =>
        have : g = 0 ∨ g = 2 ∨ g = 3 := by omega
        rcases this with rfl | rfl | rfl <;> rfl
    · rw [if_neg e]
  · rw [acl_N h4]
    by_cases e : k = keyB x.path
    · rw [if_pos e]
      have : g ≠ 2 := fun eg => ht (.inr (.inr ⟨h4, e, eg⟩))
      cases M.N k with
      | none => rfl
      | some nd =>
        have : g = 0 ∨ g = 1 ∨ g = 3 := by omega
        rcases this with rfl | rfl | rfl <;> rfl
    · rw [if_neg e]
/-- is a node there behind a sound step? -/
theorem there_step (hM : Closed M) (h : soundP M x) (zx : Int) (k : List UInt8) : (stp M x zx).N k ≠ none ↔ (x.kind = 1 ∧ k = keyB x.path) ∨ (M.N k ≠ none ∧ ¬ (x.kind = 2 ∧ k = keyB x.path)) := by
  rcases h with ⟨h1, hm, hn, hp⟩ | ⟨h2, hr, hn, hno⟩ | ⟨h3 | h4, hn⟩
  · rw [create_N h1 hm hp]
    by_cases e : k = keyB x.path
    · rw [if_pos e]; simp [h1, e]
    rw [if_neg e]
    split <;> simp [h1, e]
  · rw [remove_N h2 (may_of hM hr hn)]
    by_cases e : k = keyB x.path
    · rw [if_pos (.inl e)]; simp [h2, e]
    by_cases eu : underL k x.path = true
    · rw [if_pos (.inr eu)]
      cases hk : M.N k with
      | none => simp [h2]
      | some nd => exact (climb hM (hM.ok _ hn) (by rw [hk]; simp) eu hno).elim
    rw [if_neg (by simp [e, eu])]
    split <;> simp [h2, e]
  · rw [set_N h3]; split <;> simp [h3]
  · rw [acl_N h4]; split <;> simp [h4]
theorem closed_step (hM : Closed M) (h : soundP M x) (zx : Int) : Closed (stp M x zx) := by
  have ht := there_step hM h zx
  refine ⟨?_, ?_, ?_⟩
  · rw [ht]
    refine .inr ⟨hM.root, ?_⟩
    rintro ⟨h2, e⟩
    rcases h with ⟨h1, _⟩ | ⟨_, hr, _⟩ | ⟨h3 | h4, _⟩
    · omega
    · exact hr e.symm
    all_goals omega
  · intro p hp
    rcases (ht _).1 hp with ⟨h1, e⟩ | ⟨hp, _⟩
    · rcases h with ⟨_, hm, _⟩ | ⟨h2, _⟩ | ⟨h3 | h4, _⟩
      · rw [keyB_inj e]; exact (may_iff.1 hm).2
      all_goals omega
    · exact hM.ok p hp
  · intro p hp hr
    rw [ht]
    rcases (ht _).1 hp with ⟨h1, e⟩ | ⟨hp, hnd⟩
    · rcases h with ⟨_, hm, _, hpar⟩ | ⟨h2, _⟩ | ⟨h3 | h4, _⟩
      · rw [keyB_inj e]
        exact .inr ⟨hpar, fun hc => by omega⟩
      all_goals omega
    · refine .inr ⟨hM.up p hp hr, ?_⟩
      rintro ⟨h2, e⟩
      rcases h with ⟨h1, _⟩ | ⟨_, _, _, hno⟩ | ⟨h3 | h4, _⟩
      · omega
      · exact hno p hp hr (keyB_inj e)
      all_goals omega
/-- what a touch writes it writes whatever was there, if what it needs is there -/
theorem touch_same (hM : Closed M) (h : soundP M x) (zx : Int) {k : List UInt8} {g : Nat} (hg : g < 4) (ht : tch x k g)
    (hpar : x.kind = 1 → X.N (keyB (parS x.path)) ≠ none) (hpar2 : x.kind = 2 → k = keyB (parS x.path) → X.N (keyB (parS x.path)) ≠ none) (hself : x.kind = 3 ∨ x.kind = 4 → X.N (keyB x.path) ≠ none) :
    prj g ((stp X x zx).N k) = prj g ((stp M x zx).N k) := by
  rcases h with ⟨h1, hm, hn, hp⟩ | ⟨h2, hr, hn, hno⟩ | ⟨h3 | h4, hn⟩
  · rw [create_N h1 hm hp, create_N h1 hm (hpar h1)]
    by_cases e : k = keyB x.path
    · rw [if_pos e, if_pos e]
    rw [if_neg e, if_neg e]
    rcases ht with ⟨_, e' | ⟨e2, rfl⟩⟩ | ⟨h3, _⟩ | ⟨h4, _⟩
    · exact absurd e' e
    · rw [if_pos e2, if_pos e2]
      have hX := hpar h1
      rw [← e2] at hX hp
      cases hx : X.N k with
      | none => exact absurd hx hX
      | some a => cases hy : M.N k with
        | none => exact absurd hy hp
        | some b => rfl
    all_goals omega
  · have hmay := may_of hM hr hn
    rw [remove_N h2 hmay, remove_N h2 hmay]
    by_cases e : k = keyB x.path ∨ underL k x.path = true
    · rw [if_pos e, if_pos e]
    rw [if_neg e, if_neg e]
    rcases ht with ⟨_, e' | ⟨e2, rfl⟩⟩ | ⟨h3, _⟩ | ⟨h4, _⟩
    · exact absurd (.inl e') e
    · rw [if_pos e2, if_pos e2]
      have hX := hpar2 h2 e2
      have hp := hM.up _ hn hr
      rw [← e2] at hX hp
      cases hx : X.N k with
      | none => exact absurd hx hX
      | some a => cases hy : M.N k with
        | none => exact absurd hy hp
        | some b => rfl
    all_goals omega
  · rcases ht with ⟨h | h, _⟩ | ⟨_, e, rfl⟩ | ⟨h4, _⟩
    · omega
    · omega
    · rw [set_N h3, set_N h3, if_pos e, if_pos e]
      have hX := hself (.inl h3)
      rw [← e] at hX hn
      cases hx : X.N k with
      | none => exact absurd hx hX
      | some a => cases hy : M.N k with
        | none => exact absurd hy hn
        | some b => rfl
    · omega
  · rcases ht with ⟨h | h, _⟩ | ⟨h3, _⟩ | ⟨_, e, rfl⟩
    · omega
    · omega
    · omega
    · rw [acl_N h4, acl_N h4, if_pos e, if_pos e]
      have hX := hself (.inr h4)
      rw [← e] at hX hn
      cases hx : X.N k with
      | none => exact absurd hx hX
      | some a => cases hy : M.N k with
        | none => exact absurd hy hn
        | some b => rfl
/-- what a touch does not write, whatever was there, stays, or is there in neither -/
theorem untouched (hM : Closed M) (h : soundP M x) (zx : Int) {k : List UInt8} {g : Nat} (hg : g < 4) (ht : ¬ tch x k g) (he : prj g (X.N k) = prj g ((stp M x zx).N k)) : prj g ((stp X x zx).N k) = prj g ((stp M x zx).N k) := by
  rcases h with ⟨h1, hm, hn, hp⟩ | ⟨h2, hr, hn, hno⟩ | ⟨h3 | h4, hn⟩
  · by_cases hX : X.N (keyB (parS x.path)) = none
    · rw [create_no h1 hX]; exact he
    · rw [create_N h1 hm hX]
      rw [if_neg (fun e => ht (.inl ⟨.inl h1, .inl e⟩))]
      split
      · rename_i e2
        rw [prj_kid _ _ _ (Nat.lt_of_le_of_ne (by omega) (fun eg => ht (.inl ⟨.inl h1, .inr ⟨e2, eg⟩⟩)))]; exact he
      · exact he
  · have hmay := may_of hM hr hn
    rw [remove_N h2 hmay]
    by_cases eu : k = keyB x.path ∨ underL k x.path = true
    · rw [if_pos eu, remove_N h2 hmay, if_pos eu]
    · rw [if_neg eu]
      split
      · rename_i e2
        rw [prj_kid _ _ _ (Nat.lt_of_le_of_ne (by omega) (fun eg => ht (.inl ⟨.inr h2, .inr ⟨e2, eg⟩⟩)))]; exact he
      · exact he
  · rw [set_N (M := X) h3]
    split
    · rename_i e
      have : g ≠ 1 := fun eg => ht (.inr (.inl ⟨h3, e, eg⟩))
      rw [← he]
      cases X.N k with
      | none => rfl
      | some nd =>
        have : g = 0 ∨ g = 2 ∨ g = 3 := by omega
        rcases this with rfl | rfl | rfl <;> rfl
    · exact he
  · rw [acl_N (M := X) h4]
    split
    · rename_i e
      have : g ≠ 2 := fun eg => ht (.inr (.inr ⟨h4, e, eg⟩))
      rw [← he]
      cases X.N k with
      | none => rfl
      | some nd =>
        have : g = 0 ∨ g = 1 ∨ g = 3 := by omega
        rcases this with rfl | rfl | rfl <;> rfl
    · exact he
def runP : TM → List (T1 × Int) → TM
  | M, [] => M
  | M, e :: l => runP (stp M e.1 e.2) l
def soundL : TM → List (T1 × Int) → Prop
  | _, [] => True
  | M, e :: l => soundP M e.1 ∧ soundL (stp M e.1 e.2) l
def tchL (k : List UInt8) (g : Nat) : List (T1 × Int) → Prop
  | [] => False
  | e :: l => tch e.1 k g ∨ tchL k g l
theorem tchL_zero {k : List UInt8} (g : Nat) : ∀ {l : List (T1 × Int)}, tchL k 0 l → tchL k g l
  | [], h => h
  | e :: l, h => h.elim (fun h => .inl (tch_zero h g)) (fun h => .inr (tchL_zero g h))
theorem stays {k : List UInt8} {g : Nat} (hg : g < 4) : ∀ (l : List (T1 × Int)) {M : TM}, Closed M → soundL M l → ¬ tchL k g l → prj g ((runP M l).N k) = prj g (M.N k)
  | [], M, _, _, _ => rfl
  | e :: l, M, hM, hs, ht => (stays hg l (closed_step hM hs.1 e.2) hs.2 (fun h => ht (.inr h))).trans (no_touch hM hs.1 e.2 hg (fun h => ht (.inl h)))
/-- who takes a parent away has taken the kid away -/
theorem future {p q : ByteArray} (hq : parS q = p) (hr : keyB q ≠ [47]) (g : Nat) : ∀ (l : List (T1 × Int)) {M : TM}, Closed M → soundL M l → M.N (keyB p) ≠ none → M.N (keyB q) ≠ none → tchL (keyB p) 0 l → tchL (keyB q) g l
  | [], M, _, _, _, _, h => h
  | e :: l, M, hM, hs, hp, hk, h => by
    by_cases hqt : tch e.1 (keyB q) 0
    · exact .inl (tch_zero hqt g)
    · right
      have hpt : ¬ tch e.1 (keyB p) 0 := by
        rintro (⟨hk', e' | ⟨_, h0⟩⟩ | ⟨_, _, h0⟩ | ⟨_, _, h0⟩)
        · rcases hs.1 with ⟨h1, _, hn, _⟩ | ⟨h2, _, _, hno⟩ | ⟨h3 | h4, _⟩
          · rw [← e'] at hn; exact hp hn
          · exact hno q hk hr (hq.trans (keyB_inj e'))
          all_goals omega
        all_goals omega
      refine future hq hr g l (closed_step hM hs.1 e.2) hs.2 ?_ ?_ (h.resolve_left hpt)
      · rw [Ne, ← prj_none (g := 0), no_touch hM hs.1 e.2 (by decide) hpt, prj_none]; exact hp
      · rw [Ne, ← prj_none (g := 0), no_touch hM hs.1 e.2 (by decide) hqt, prj_none]; exact hk
/-- what agrees in all that is not touched any more comes to the same -/
theorem replay : ∀ (l : List (T1 × Int)) {M X : TM}, Closed M → soundL M l → (∀ k g, g < 4 → ¬ tchL k g l → prj g (X.N k) = prj g ((runP M l).N k)) → ∀ k, (runP X l).N k = (runP M l).N k
  | [], M, X, _, _, h, k => prj_all fun g hg => h k g hg (fun f => f)
  | e :: l, M, X, hM, hs, h, k => by
    have hM' := closed_step hM hs.1 e.2
    refine replay l hM' hs.2 (fun k g hg hnt => ?_) k
    rw [stays hg l hM' hs.2 hnt]
    -- what X has of a node that is there and not touched as such
    have hX : ∀ q : ByteArray, (stp M e.1 e.2).N (keyB q) ≠ none → ¬ tch e.1 (keyB q) 0 → ¬ tchL (keyB q) 0 l → X.N (keyB q) ≠ none := by
      intro q hq h1 h2
      have := h (keyB q) 0 (by decide) (fun hh => hh.elim h1 h2)
      rw [Ne, ← prj_none (g := 0), this, prj_none]
      show (runP (stp M e.1 e.2) l).N (keyB q) ≠ none
      rw [Ne, ← prj_none (g := 0), stays (by decide) l hM' hs.2 h2, prj_none]; exact hq
    by_cases ht : tch e.1 k g
    · have hth := there_step hM hs.1 e.2
      refine touch_same hM hs.1 e.2 hg ht ?_ ?_ ?_
      · intro h1
        rcases hs.1 with ⟨_, hm, hn, hp⟩ | ⟨h2, _⟩ | ⟨h3 | h4, _⟩
        · have hmm := may_iff.1 hm
          have hne : keyB (parS e.1.path) ≠ keyB e.1.path := par_ne hmm.2 hmm.1
          have hp' : (stp M e.1 e.2).N (keyB (parS e.1.path)) ≠ none := (hth _).2 (.inr ⟨hp, fun hc => by omega⟩)
          have hs' : (stp M e.1 e.2).N (keyB e.1.path) ≠ none := (hth _).2 (.inl ⟨h1, rfl⟩)
          refine hX _ hp' ?_ ?_
          · rintro (⟨_, e' | ⟨_, h0⟩⟩ | ⟨_, _, h0⟩ | ⟨_, _, h0⟩)
            · exact hne e'
            all_goals omega
          · intro h0
            rcases ht with ⟨_, e' | ⟨e', _⟩⟩ | ⟨h3, _⟩ | ⟨h4, _⟩
            · exact hnt (e' ▸ future rfl hmm.1 g l hM' hs.2 hp' hs' h0)
            · exact hnt (e' ▸ tchL_zero g h0)
            all_goals omega
        all_goals omega
      · intro h2 e'
        rcases hs.1 with ⟨h1, _⟩ | ⟨_, hr, hn, hno⟩ | ⟨h3 | h4, _⟩
        · omega
        · have hne : keyB (parS e.1.path) ≠ keyB e.1.path := par_ne (hM.ok _ hn) hr
          refine hX _ ((hth _).2 (.inr ⟨hM.up _ hn hr, fun hc => hne hc.2⟩)) ?_ ?_
          · rintro (⟨_, e' | ⟨_, h0⟩⟩ | ⟨_, _, h0⟩ | ⟨_, _, h0⟩)
            · exact hne e'
            all_goals omega
          · intro h0; exact hnt (e' ▸ tchL_zero g h0)
        all_goals omega
      · intro h34
        have hk : k = keyB e.1.path := by
          rcases ht with ⟨h | h, _⟩ | ⟨_, h, _⟩ | ⟨_, h, _⟩
          · omega
          · omega
          · exact h
          · exact h
        rcases hs.1 with ⟨h1, _⟩ | ⟨h2, _⟩ | ⟨_, hn⟩
        · omega
        · omega
        · refine hX _ ((hth _).2 (.inr ⟨hn, fun hc => by omega⟩)) ?_ ?_
          · rintro (⟨h | h, _⟩ | ⟨_, _, h0⟩ | ⟨_, _, h0⟩) <;> omega
          · intro h0; exact hnt (hk ▸ tchL_zero g h0)
    · refine untouched hM hs.1 e.2 hg ht ?_
      rw [h k g hg (fun hh => hh.elim ht hnt)]
      exact stays hg l hM' hs.2 hnt
theorem replay_same (l : List (T1 × Int)) {M : TM} (hM : Closed M) (hs : soundL M l) {X : TM} (hX : ∀ k, X.N k = (runP M l).N k) : ∀ k, (runP X l).N k = (runP M l).N k :=
  replay l hM hs (fun k g _ _ => by rw [hX k])
end Go.Proofs.YtenbdoceaabecaaGreat
