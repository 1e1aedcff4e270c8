/- The document's tree is a plain one: entries; a sound history. -/
import Derived.Test.YtenbdoceaabecaaGreatP32
namespace Go.Proofs.YtenbdoceaabecaaGreat
set_option linter.unusedVariables false
set_option linter.unusedSimpArgs false
theorem sessR_iff {l : List RS} (hu : (l.map RS.id).Nodup) {i : Int} {v : Int × ByteArray} : sessOf l i = some v ↔ ∃ s ∈ l, s.id = i ∧ (s.timeout, s.secret) = v := by
  unfold sessOf
  constructor
  · intro h
    obtain ⟨n, hn, e⟩ := Option.map_eq_some_iff.1 h
    have h1 := List.find?_some hn
    exact ⟨n, List.mem_of_find?_eq_some hn, by simpa using h1, e⟩
  · rintro ⟨n, hn, hk, rfl⟩
    cases hf : l.find? (fun s => decide (s.id = i)) with
    | none =>
      have := List.find?_eq_none.1 hf n hn
      simp [hk] at this
    | some m =>
      have h1 : m.id = i := by simpa using List.find?_some hf
      have hm := List.mem_of_find?_eq_some hf
      have : n = m := by
        clear hf
        induction l with
        | nil => cases hn
        | cons x r ih =>
          obtain ⟨u1, u2⟩ := List.nodup_cons.1 hu
          rcases List.mem_cons.1 hn with ea | ha' <;> rcases List.mem_cons.1 hm with eb | hb'
          · rw [ea, eb]
          · exact absurd (show x.id ∈ r.map RS.id from List.mem_map.2 ⟨m, hb', by rw [h1, ← hk, ea]⟩) u1
          · exact absurd (show x.id ∈ r.map RS.id from List.mem_map.2 ⟨n, ha', by rw [hk, ← h1, eb]⟩) u1
          · exact ih u2 ha' hb'
      subst this; rfl
theorem sess_ext {o p : Option (Int × ByteArray)} (h : ∀ v, o = some v ↔ p = some v) : o = p := by
  cases o with
  | none =>
    cases p with
    | none => rfl
    | some b => exact absurd ((h b).2 rfl) (by simp)
  | some a => exact ((h a).1 rfl).symm
theorem drop_sim {R : RT} (hu : UqR R) (id : Int) : toM (dropR R id) = { toM R with S := updN (toM R).S id none } ∧ UqR (dropR R id) := by
  have hu2 : ((R.S.filter fun s => decide (s.id ≠ id)).map RS.id).Nodup := (List.filter_sublist.map RS.id).nodup hu.s
  refine ⟨tm_ext (fun k => rfl) (fun i => ?_) rfl, ⟨hu.n, hu2⟩⟩
  show sessOf (R.S.filter fun s => decide (s.id ≠ id)) i = updN (sessOf R.S) id none i
  refine sess_ext fun v => ?_
  rw [sessR_iff hu2]
  by_cases e : i = id
  · subst e
    rw [updN_same]
    constructor
    · rintro ⟨s, hs, hk, _⟩
      have := (List.mem_filter.1 hs).2
      simp [hk] at this
    · intro h; cases h
  · rw [updN_other _ _ _ e, sessR_iff hu.s]
    constructor
    · rintro ⟨s, hs, hk, hv⟩; exact ⟨s, (List.mem_filter.1 hs).1, hk, hv⟩
    · rintro ⟨s, hs, hk, hv⟩; exact ⟨s, List.mem_filter.2 ⟨hs, by simp [hk, e]⟩, hk, hv⟩
theorem open_sim {R : RT} (hu : UqR R) (s : RS) : toM (openR R s) = { toM R with S := updN (toM R).S s.id (some (s.timeout, s.secret)) } ∧ UqR (openR R s) := by
  obtain ⟨hd, hu1⟩ := drop_sim hu s.id
  have hnot : s.id ∉ (dropR R s.id).S.map RS.id := fun h => by
    obtain ⟨t, ht, e⟩ := List.mem_map.1 h
    have := (List.mem_filter.1 ht).2
    simp [e] at this
  generalize hDS : (dropR R s.id).S = S at *
  have hperm : (S.takeWhile (ltQ s.id) ++ [s] ++ S.dropWhile (ltQ s.id)).Perm (s :: S) := by
    rw [List.append_assoc, List.singleton_append]
    refine (List.perm_middle).trans (List.Perm.cons _ ?_)
    rw [List.takeWhile_append_dropWhile]
  have hu2 : ((openR R s).S.map RS.id).Nodup := by
    unfold openR
    simp only
    rw [hDS]
    refine ((hperm.map RS.id).nodup_iff).2 ?_
    rw [List.map_cons]
    exact List.nodup_cons.2 ⟨hnot, hDS ▸ hu1.s⟩
  refine ⟨tm_ext (fun k => rfl) (fun i => ?_) rfl, ⟨hu.n, hu2⟩⟩
  show sessOf (openR R s).S i = updN (sessOf R.S) s.id _ i
  have hdi : sessOf S i = updN (sessOf R.S) s.id none i := by
    have := congrFun (congrArg TM.S hd) i
    rw [← hDS]; exact this
  refine sess_ext fun v => ?_
  rw [sessR_iff hu2]
  have hm : ∀ t, t ∈ (openR R s).S ↔ t = s ∨ t ∈ S := fun t => by
    unfold openR
    simp only
    rw [hDS, hperm.mem_iff]; simp
  by_cases e : i = s.id
  · subst e
    rw [updN_same]
    constructor
    · rintro ⟨t, ht, hk, rfl⟩
      rcases (hm t).1 ht with rfl | ht
      · rfl
      · exact absurd (List.mem_map.2 ⟨t, ht, hk⟩) hnot
    · intro h
      injection h with h
      exact ⟨s, (hm s).2 (.inl rfl), rfl, h⟩
  · rw [updN_other _ _ _ e]
    rw [updN_other _ _ _ e] at hdi
    rw [← hdi, sessR_iff (hDS ▸ hu1.s)]
    constructor
    · rintro ⟨t, ht, hk, hv⟩
      rcases (hm t).1 ht with rfl | ht
      · exact absurd hk.symm e
      · exact ⟨t, ht, hk, hv⟩
    · rintro ⟨t, ht, hk, hv⟩; exact ⟨t, (hm t).2 (.inr ht), hk, hv⟩
theorem parts_sim (dels : Bool) (zx : Int) : ∀ (l : List T1) {R : RT} (evs : List Ev), UqR R → toM (partsR zx R (l.filter (delQ (!dels)))) = (partsM dels zx (toM R) evs l).1 ∧ UqR (partsR zx R (l.filter (delQ (!dels))))
  | [], R, evs, hu => ⟨rfl, hu⟩
  | x :: l, R, evs, hu => by
    unfold partsM
    rw [List.filter_cons]
    by_cases hs : dels = true ∧ x.kind ≠ 2
    · rw [if_pos hs]
      have : delQ (!dels) x = false := by unfold delQ; simp [hs.1, hs.2]
      rw [this]
      exact parts_sim dels zx l evs hu
    · rw [if_neg hs]
      have hd : delQ (!dels) x = true := by
        unfold delQ
        cases dels
        · rfl
        · simp; simp at hs; exact hs
      rw [if_pos hd]
      obtain ⟨p1, p2, p3⟩ := part_sim hu x zx
      show toM (partsR zx (partR R x zx).1 (l.filter (delQ (!dels)))) = _ ∧ UqR (partsR zx (partR R x zx).1 (l.filter (delQ (!dels))))
      by_cases hdel : dels = true
      · rw [if_pos hdel]
        have h2 : x.kind = 2 := by
          simp only [hdel, true_and, Classical.not_not] at hs; exact hs
        have hrm : partM (toM R) x zx = removeM (toM R) x zx := by unfold partM; rw [if_neg (by omega), if_pos h2]
        rw [← hrm, ← p1]
        exact parts_sim dels zx l _ p3
      · rw [if_neg hdel, ← p1]
        exact parts_sim dels zx l _ p3
theorem do_sim {R : RT} (hu : UqR R) (x : T1) (l : List T1) (err zx : Int) : toM (doR R x l zx) = (doM (toM R) ⟨x, err, l⟩ zx).1 ∧ UqR (doR R x l zx) := by
  unfold doR doM
  by_cases h5 : x.kind = 5
  · rw [if_pos h5, if_pos h5]
    unfold sessM
    simp only
    by_cases h0 : 0 < x.owner
    · rw [if_pos h0, if_pos h0]; exact open_sim hu ⟨x.owner, x.number, x.data⟩
    · rw [if_neg h0, if_neg h0]; exact ⟨rfl, hu⟩
  · rw [if_neg h5, if_neg h5]
    by_cases h6 : x.kind = 6
    · rw [if_pos h6, if_pos h6]
      obtain ⟨a, b⟩ := parts_sim true zx l [] hu
      obtain ⟨c, d⟩ := drop_sim b x.owner
      exact ⟨by
        show toM (dropR (partsR zx R (l.filter (delQ (!true)))) x.owner) = _
        rw [c, a], d⟩
    · rw [if_neg h6, if_neg h6]
      by_cases h7 : x.kind = 7
      · rw [if_pos h7, if_pos h7]
        exact parts_sim false zx l [] hu
      · rw [if_neg h7, if_neg h7]
        by_cases h8 : x.kind = 8
        · rw [if_pos h8]
          refine ⟨?_, hu⟩
          unfold partM
          rw [if_neg (by simp only; omega), if_neg (by simp only; omega), if_neg (by simp only; omega), if_neg (by simp only; omega)]
        · rw [if_neg h8]
          obtain ⟨a, _, b⟩ := part_sim hu x zx
          exact ⟨a, b⟩
/-- an entry does there what it does here -/
theorem apply_sim {R : RT} (hu : UqR R) (x : T1) (l : List T1) (err zx : Int) : toM (applyR R x l zx) = (applyM (toM R) ⟨x, err, l⟩ zx).1 ∧ UqR (applyR R x l zx) := by
  obtain ⟨a, b⟩ := do_sim hu x l err zx
  refine ⟨?_, ⟨b.n, b.s⟩⟩
  have : (applyM (toM R) ⟨x, err, l⟩ zx).1 = { (doM (toM R) ⟨x, err, l⟩ zx).1 with z := zx } := by unfold applyM; split <;> rfl
  rw [this, ← a]; rfl
/-! soundness -/
theorem has_iff_N {M : TM} {p : ByteArray} : hasN M p = true ↔ M.N (keyB p) ≠ none := by
  unfold hasN
  cases M.N (keyB p) <;> simp
theorem kids_noKid {R : RT} (hu : UqR R) (p : ByteArray) (h : (kidsR R p).length = 0) : noKid (toM R) p := by
  intro q hq hr e
  have hq : nodeOf R.N (keyB q) ≠ none := hq
  cases hn : nodeOf R.N (keyB q) with
  | none => exact hq hn
  | some nd =>
    obtain ⟨n, hm, hk, _⟩ := (node_iff hu.n).1 hn
    have hp := keyB_inj hk
    unfold kidsR at h
    rw [List.length_map] at h
    have h0 := List.eq_nil_of_length_eq_zero h
    have : n ∈ R.N.filter (kidQ p) := List.mem_filter.2 ⟨hm, by unfold kidQ; rw [hp]; simp [hr, e]⟩
    rw [h0] at this; cases this
theorem finds_sound {R : RT} (hu : UqR R) {x : T1} (h : findsB R x = true) : soundP (toM R) x := by
  unfold findsB at h
  unfold soundP
  by_cases h1 : x.kind = 1
  · rw [if_pos h1] at h
    simp only [Bool.and_eq_true, Bool.not_eq_true', placed_has] at h
    refine .inl ⟨h1, h.1.1, ?_, has_iff_N.1 h.2⟩
    have := h.1.2
    unfold hasN at this
    cases hn : (toM R).N (keyB x.path) with
    | none => rfl
    | some nd => rw [hn] at this; cases this
  · rw [if_neg h1] at h
    by_cases h2 : x.kind = 2
    · rw [if_pos h2] at h
      simp only [Bool.and_eq_true, decide_eq_true_eq, placed_has] at h
      exact .inr (.inl ⟨h2, h.1.1, has_iff_N.1 h.1.2, kids_noKid hu _ h.2⟩)
    · rw [if_neg h2] at h
      by_cases h3 : x.kind = 3 ∨ x.kind = 4
      · rw [if_pos h3, placed_has] at h
        exact .inr (.inr ⟨h3, has_iff_N.1 h⟩)
      · rw [if_neg h3] at h; cases h
/-- the parts of a sound entry, one by one -/
def entPs (x : T1) (l : List T1) (zx : Int) : List (T1 × Int) :=
  if x.kind = 1 ∨ x.kind = 2 ∨ x.kind = 3 ∨ x.kind = 4 then [(x, zx)] else if x.kind = 6 ∨ x.kind = 7 then l.map (fun y => (y, zx)) else []
theorem sound_parts {cl : Bool} {zx : Int} : ∀ (l : List T1) {R : RT}, UqR R → soundSubs cl zx R l = true → soundL (toM R) (l.map (fun y => (y, zx))) ∧ (cl = true → ∀ y ∈ l, y.kind = 2)
  | [], R, hu, h => ⟨trivial, fun _ y hy => nomatch hy⟩
  | x :: l, R, hu, h => by
    have h' : (findsB R x && !(cl && !decide (x.kind = 2)) && soundSubs cl zx (partR R x zx).1 l) = true := h
    simp only [Bool.and_eq_true] at h'
    obtain ⟨p1, _, p3⟩ := part_sim hu x zx
    obtain ⟨s1, s2⟩ := sound_parts l p3 h'.2
    refine ⟨⟨finds_sound hu h'.1.1, ?_⟩, fun hc y hy => ?_⟩
    · have : stp (toM R) x zx = toM (partR R x zx).1 := p1.symm
      rw [this]; exact s1
    · rcases List.mem_cons.1 hy with rfl | hy
      · have := h'.1.2
        rw [hc] at this; simpa using this
      · exact s2 hc y hy
theorem run_parts (zx : Int) : ∀ (l : List T1) {R : RT}, UqR R → runP (toM R) (l.map (fun y => (y, zx))) = toM (partsR zx R l) ∧ UqR (partsR zx R l)
  | [], R, hu => ⟨rfl, hu⟩
  | x :: l, R, hu => by
    obtain ⟨p1, _, p3⟩ := part_sim hu x zx
    have : stp (toM R) x zx = toM (partR R x zx).1 := p1.symm
    show runP (stp (toM R) x zx) _ = _ ∧ UqR (partsR zx (partR R x zx).1 l)
    rw [this]
    exact run_parts zx l p3
theorem filter_all_true {α : Type} {p : α → Bool} {l : List α} (h : ∀ x ∈ l, p x = true) : l.filter p = l := List.filter_eq_self.2 h
/-- the nodes of a sound entry's tree come by its parts -/
theorem sound_run {R : RT} (hu : UqR R) {x : T1} {l : List T1} {zx : Int} (h : soundB R x l zx = true) :
    soundL (toM R) (entPs x l zx) ∧ ∀ k, (toM (applyR R x l zx)).N k = (runP (toM R) (entPs x l zx)).N k := by
  unfold soundB at h
  unfold entPs
  by_cases h1 : x.kind = 1 ∨ x.kind = 2 ∨ x.kind = 3 ∨ x.kind = 4
  · rw [if_pos h1] at h ⊢
    refine ⟨⟨finds_sound hu h, trivial⟩, fun k => ?_⟩
    obtain ⟨p1, _, _⟩ := part_sim hu x zx
    have ha : (toM (applyR R x l zx)).N k = (toM (partR R x zx).1).N k := by
      unfold applyR doR
      rw [if_neg (by omega), if_neg (by omega), if_neg (by omega), if_neg (by omega)]; rfl
    rw [ha, p1]; rfl
  · rw [if_neg h1] at h ⊢
    by_cases h6 : x.kind = 6 ∨ x.kind = 7
    · rw [if_pos h6] at h ⊢
      obtain ⟨s1, s2⟩ := sound_parts l hu h
      refine ⟨s1, fun k => ?_⟩
      obtain ⟨r1, _⟩ := run_parts zx l hu
      rw [r1]
      unfold applyR doR
      rw [if_neg (by omega)]
      by_cases h6' : x.kind = 6
      · rw [if_pos h6']
        have : l.filter (delQ false) = l := filter_all_true fun y hy => by unfold delQ; simp [s2 (by simpa using h6') y hy]
        rw [this]; rfl
      · rw [if_neg h6', if_pos (by omega)]
        have : l.filter (delQ true) = l := filter_all_true fun y hy => rfl
        rw [this]; rfl
    · rw [if_neg h6] at h ⊢
      refine ⟨trivial, fun k => ?_⟩
      unfold applyR doR
      by_cases h5 : x.kind = 5
      · rw [if_pos h5]
        split <;> rfl
      · rw [if_neg h5, if_neg (by omega), if_neg (by omega)]
        by_cases h8 : x.kind = 8
        · rw [if_pos h8]; rfl
        · rw [if_neg h8]
          unfold partR
          rw [if_neg (by omega), if_neg (by omega), if_neg (by omega), if_neg (by omega)]; rfl
theorem closed_run : ∀ (l : List (T1 × Int)) {M : TM}, Closed M → soundL M l → Closed (runP M l)
  | [], M, hM, _ => hM
  | e :: l, M, hM, h => closed_run l (closed_step hM h.1 e.2) h.2
theorem closed_ext {M M' : TM} (h : ∀ k, M.N k = M'.N k) (hM : Closed M) : Closed M' := by
  obtain ⟨a, b, c⟩ := hM
  simp only [h] at a b c
  exact ⟨a, b, c⟩
/-- a sound entry leaves a closed tree closed -/
theorem closed_apply {R : RT} (hu : UqR R) (hM : Closed (toM R)) {x : T1} {l : List T1} {zx : Int} (h : soundB R x l zx = true) : Closed (toM (applyR R x l zx)) := by
  obtain ⟨s1, s2⟩ := sound_run hu h
  exact closed_ext (fun k => (s2 k).symm) (closed_run _ hM s1)
end Go.Proofs.YtenbdoceaabecaaGreat
