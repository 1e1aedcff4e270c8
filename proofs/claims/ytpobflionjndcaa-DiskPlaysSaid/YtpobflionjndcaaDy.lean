/- The program's disk and the document's go together: each call's plain mathematics. -/
import Derived.Test.YtpobflionjndcaaDt
namespace Go.Proofs.Ytpobflionjndcaa
set_option linter.unusedVariables false
set_option linter.unusedSimpArgs false

structure Sim (d : DSt) (r : RSt) : Prop where
  n : r.n = d.n
  L : ∀ i, i < d.n → r.L i = d.S i
  Old : ∀ i, i < d.n → r.Old i = (d.O i).getD (d.S i)
  Pend : ∀ i, i < d.n → r.Pend i = (d.O i).isSome
  N : r.N = d.acts
  Gone : r.Gone = d.dead
  At : d.dead = false → (d.left = 0 ∧ r.At = 0) ∨ (0 < d.left ∧ r.At = r.N + d.left) ∨ (r.At = 0 ∧ 4611686018427387904 < d.left + d.acts)

theorem sim_new (n : Nat) : Sim (newD n) ⟨n, fun _ => zeros, fun _ => zeros, fun _ => false, 0, 0, false⟩ :=
  ⟨rfl, fun _ _ => rfl, fun _ _ => rfl, fun _ _ => rfl, rfl, rfl, fun _ => .inl ⟨rfl, rfl⟩⟩

theorem actR_same (r : RSt) : (actR r).n = r.n ∧ (actR r).L = r.L ∧ (actR r).Old = r.Old ∧ (actR r).Pend = r.Pend ∧ (actR r).N = r.N + 1 ∧ (actR r).At = r.At := by
  unfold actR; split <;> exact ⟨rfl, rfl, rfl, rfl, rfl, rfl⟩
theorem actD_same (d : DSt) : (actD d).1.n = d.n ∧ (actD d).1.S = d.S ∧ (actD d).1.O = d.O ∧ (actD d).1.acts = d.acts + 1 := by
  unfold actD; split
  · exact ⟨rfl, rfl, rfl, rfl⟩
  · split <;> exact ⟨rfl, rfl, rfl, rfl⟩

theorem sim_act {d : DSt} {r : RSt} (h : Sim d r) (hd : d.dead = false) (ha : d.acts < 4611686018427387902) :
    Sim (actD d).1 (actR r) ∧ (actD d).2 = (if (actR r).Gone then 2 else 0) := by
  obtain ⟨a1, a2, a3, a4, a5, a6⟩ := actR_same r
  obtain ⟨b1, b2, b3, b4⟩ := actD_same d
  have hN := h.N
  have hg : r.Gone = false := by rw [h.Gone]; exact hd
  have key : (actR r).Gone = (actD d).1.dead ∧ (actD d).2 = (if (actR r).Gone then 2 else 0) ∧
      ((actD d).1.dead = false → ((actD d).1.left = 0 ∧ r.At = 0) ∨ (0 < (actD d).1.left ∧ r.At = r.N + 1 + (actD d).1.left) ∨ (r.At = 0 ∧ 4611686018427387904 < (actD d).1.left + (d.acts + 1))) := by
    rw [actR_gone]
    unfold actD
    rcases h.At hd with ⟨h1, h2⟩ | ⟨h1, h2⟩ | ⟨h1, h2⟩
    · rw [if_pos h1, h2]
      simp [hg, hd, h1]
    · rw [if_neg (by omega)]
      by_cases e : d.left = 1
      · rw [if_pos e, decide_eq_true (show 0 < r.At by omega), decide_eq_true (show r.N + 1 = r.At by omega)]
        simp
      · rw [if_neg e, decide_eq_false (show ¬ r.N + 1 = r.At by omega)]
        simp only [hg, hd, Bool.and_false, Bool.or_false]
        exact ⟨by simp, by simp, fun _ => .inr (.inl ⟨by omega, by omega⟩)⟩
    · rw [if_neg (by omega), if_neg (by omega), h1]
      simp only [hg, hd]
      exact ⟨by simp, by simp, fun _ => .inr (.inr ⟨by omega, by omega⟩)⟩
  obtain ⟨k1, k2, k3⟩ := key
  refine ⟨⟨by rw [a1, b1]; exact h.n, ?_, ?_, ?_, by rw [a5, b4, hN], k1, ?_⟩, k2⟩
  · rw [a2, b1, b2]; exact h.L
  · rw [a3, b1, b2, b3]; exact h.Old
  · rw [a4, b1, b3]; exact h.Pend
  · rw [a5, a6, b4]; exact k3

theorem sim_has {d : DSt} {r : RSt} (h : Sim d r) (k : Int) : hasR r k = hasD d k := by unfold hasR hasD; rw [h.n]
theorem sim_read {d : DSt} {r : RSt} (h : Sim d r) (k : Int) : readR r k = readD d k := by
  unfold readR readD
  rw [h.Gone, sim_has h]
  by_cases hh : hasD d k = true
  · rw [h.L k.toNat (by have := (hasD_iff d k).1 hh; omega)]
  · simp [hh]
theorem sim_pend {d : DSt} {r : RSt} (h : Sim d r) : pendR r r.n = pendL d.n d.O := by
  unfold pendR pendL
  rw [h.n]
  exact List.filter_congr (fun i hi => h.Pend i (List.mem_range.1 hi))
theorem sim_arm {d : DSt} {r : RSt} (h : Sim d r) (k : Int) : (armR r k).2 = (armD d k).2 ∧ Sim (armD d k).1 (armR r k).1 := by
  cases hd : d.dead
  · have hg : r.Gone = false := h.Gone.trans hd
    by_cases h0 : k < 0
    · have e1 : armR r k = (r, 1) := by unfold armR; simp [hg, h0]
      have e2 : armD d k = (d, 1) := by unfold armD; simp [hd, h0]
      rw [e1, e2]; exact ⟨rfl, h⟩
    · have e2 : armD d k = ({ d with left := k.toNat }, 0) := by unfold armD; simp [hd, h0]
      by_cases h1 : 0 < k ∧ k ≤ 4611686018427387904
      · have e1 : armR r k = ({ r with At := r.N + k.toNat }, 0) := by unfold armR; simp [hg, h0, h1]
        rw [e1, e2]
        exact ⟨rfl, ⟨h.n, h.L, h.Old, h.Pend, h.N, h.Gone, fun _ => .inr (.inl ⟨by show 0 < k.toNat; omega, rfl⟩)⟩⟩
      · have e1 : armR r k = ({ r with At := 0 }, 0) := by
          unfold armR
          rw [if_neg (by simp [hg]), if_neg h0, if_neg h1]
        rw [e1, e2]
        refine ⟨rfl, ⟨h.n, h.L, h.Old, h.Pend, h.N, h.Gone, fun _ => ?_⟩⟩
        by_cases h2 : k = 0
        · exact .inl ⟨by show k.toNat = 0; omega, rfl⟩
        · exact .inr (.inr ⟨rfl, by show 4611686018427387904 < k.toNat + d.acts; omega⟩)
  · have e1 : armR r k = (r, 2) := by unfold armR; simp [h.Gone, hd]
    have e2 : armD d k = (d, 2) := by unfold armD; simp [hd]
    rw [e1, e2]; exact ⟨rfl, h⟩
theorem sim_write {d : DSt} {r : RSt} (h : Sim d r) (k : Int) (s : List UInt8) (ha : d.acts < 4611686018427387902) : (writeR r k s).2 = (writeD d k s).2 ∧ Sim (writeD d k s).1 (writeR r k s).1 := by
  cases hd : d.dead
  · have hg : r.Gone = false := h.Gone.trans hd
    by_cases hh : hasD d k = true ∧ s.length = 64
    · have e1 : writeR r k s = ({ actR r with L := upd r.L k.toNat s, Pend := upd r.Pend k.toNat true }, if (actR r).Gone then 2 else 0) := by
        unfold writeR
        rw [if_neg (show ¬ r.Gone = true by simp [hg]), sim_has h, if_neg (show ¬ ¬ (hasD d k = true ∧ s.length = 64) from not_not_intro hh)]
      have e2 : writeD d k s = actD { d with S := upd d.S k.toNat s, O := if (d.O k.toNat).isSome then d.O else upd d.O k.toNat (some (d.S k.toNat)) } := by
        unfold writeD
        rw [if_neg (show ¬ d.dead = true by simp [hd]), if_neg (show ¬ ¬ (hasD d k = true ∧ s.length = 64) from not_not_intro hh)]
      rw [e1, e2]
      have hk : k.toNat < d.n := by have := (hasD_iff d k).1 hh.1; omega
      have h' : Sim { d with S := upd d.S k.toNat s, O := if (d.O k.toNat).isSome then d.O else upd d.O k.toNat (some (d.S k.toNat)) } { r with L := upd r.L k.toNat s, Pend := upd r.Pend k.toNat true } := by
        refine ⟨h.n, fun i hi => ?_, fun i hi => ?_, fun i hi => ?_, h.N, h.Gone, h.At⟩
        · by_cases e : i = k.toNat
          · subst e; simp only [upd_same]
          · simp only [upd_other _ _ _ e]; exact h.L i hi
        · have hO := h.Old i hi
          by_cases e : i = k.toNat
          · subst e
            cases hp : d.O k.toNat with
            | none => rw [hp] at hO; simpa [hp, upd_same] using hO
            | some l => rw [hp] at hO; simpa [hp] using hO
          · cases hp : d.O k.toNat with
            | none => simpa [hp, upd_other _ _ _ e] using hO
            | some l => simpa [hp, upd_other _ _ _ e] using hO
        · have hP := h.Pend i hi
          by_cases e : i = k.toNat
          · subst e
            cases hp : d.O k.toNat with
            | none => simp [hp, upd_same]
            | some l => simp [hp, upd_same]
          · cases hp : d.O k.toNat with
            | none => simpa [hp, upd_other _ _ _ e] using hP
            | some l => simpa [hp, upd_other _ _ _ e] using hP
      obtain ⟨c1, c2⟩ := sim_act h' hd ha
      have e : actR { r with L := upd r.L k.toNat s, Pend := upd r.Pend k.toNat true } = { actR r with L := upd r.L k.toNat s, Pend := upd r.Pend k.toNat true } := by unfold actR; split <;> rfl
      rw [e] at c1 c2
      exact ⟨c2.symm, c1⟩
    · have e1 : writeR r k s = (r, 20) := by
        unfold writeR
        rw [if_neg (show ¬ r.Gone = true by simp [hg]), sim_has h, if_pos hh]
      have e2 : writeD d k s = (d, 20) := by
        unfold writeD
        rw [if_neg (show ¬ d.dead = true by simp [hd]), if_pos hh]
      rw [e1, e2]; exact ⟨rfl, h⟩
  · have e1 : writeR r k s = (r, 2) := by unfold writeR; simp [h.Gone, hd]
    have e2 : writeD d k s = (d, 2) := by unfold writeD; simp [hd]
    rw [e1, e2]; exact ⟨rfl, h⟩
theorem sim_sync {d : DSt} {r : RSt} (h : Sim d r) (ha : d.acts < 4611686018427387902) : (syncR r).2 = (syncD d).2 ∧ Sim (syncD d).1 (syncR r).1 := by
  cases hd : d.dead
  · have hg0 : r.Gone = false := h.Gone.trans hd
    obtain ⟨c1, c2⟩ := sim_act h hd ha
    cases hg : (actR r).Gone
    · rw [hg] at c2
      have e1 : syncR r = (upTo (actR r) (actR r).n, 0) := by unfold syncR; simp [hg0, hg]
      have e2 : syncD d = ({ (actD d).1 with O := fun _ => none }, 0) := by unfold syncD; rw [if_neg (by simp [hd]), if_pos (by simpa using c2)]
      rw [e1, e2]
      refine ⟨rfl, ⟨c1.n, fun i hi => c1.L i hi, fun i hi => ?_, fun i hi => ?_, c1.N, c1.Gone, c1.At⟩⟩
      · show (if i < (actR r).n then (actR r).L i else (actR r).Old i) = _
        rw [if_pos (by rw [c1.n]; exact hi)]
        exact c1.L i hi
      · show (if i < (actR r).n then false else (actR r).Pend i) = _
        rw [if_pos (by rw [c1.n]; exact hi)]; rfl
    · rw [hg] at c2
      have e1 : syncR r = (actR r, 2) := by unfold syncR; simp [hg0, hg]
      have e2 : syncD d = ((actD d).1, (actD d).2) := by unfold syncD; rw [if_neg (by simp [hd]), if_neg (by rw [c2]; decide)]
      rw [e1, e2]
      exact ⟨by rw [c2]; rfl, c1⟩
  · have e1 : syncR r = (r, 2) := by unfold syncR; simp [h.Gone, hd]
    have e2 : syncD d = (d, 2) := by unfold syncD; simp [hd]
    rw [e1, e2]; exact ⟨rfl, h⟩

def crashR (r : RSt) (how : List Int) : RSt :=
  { r with L := crashF (fun i => some (r.Old i)) how r.L (pendR r r.n) 0, Old := fun i => if r.Pend i then crashF (fun i => some (r.Old i)) how r.L (pendR r r.n) 0 i else r.Old i, Pend := fun _ => false, At := 0, Gone := false }
theorem crashF_congr (n : Nat) (O O' : Nat → Option (List UInt8)) (how : List Int) : ∀ (l : List Nat) (S S' : Nat → List UInt8) (k : Nat), (∀ i ∈ l, i < n ∧ oldL O i = oldL O' i) → (∀ i, i < n → S i = S' i) → ∀ i, i < n → crashF O how S l k i = crashF O' how S' l k i
  | [], _, _, _, _, h2, i, hi => h2 i hi
  | x :: t, S, S', k, h1, h2, i, hi => by
    rw [crashF, crashF]
    refine crashF_congr n O O' how t _ _ (k + 1) (fun j hj => h1 j (List.mem_cons_of_mem _ hj)) (fun j hj => ?_) i hi
    obtain ⟨hx, hox⟩ := h1 x (List.mem_cons_self ..)
    by_cases e : j = x
    · subst e; rw [upd_same, upd_same, hox, h2 j hj]
    · rw [upd_other _ _ _ e, upd_other _ _ _ e]; exact h2 j hj
theorem sim_crash {d : DSt} {r : RSt} (h : Sim d r) (how : List Int) : Sim (crashD d how) (crashR r how) := by
  have hp := sim_pend h
  have hc : ∀ i, i < d.n → crashF (fun i => some (r.Old i)) how r.L (pendR r r.n) 0 i = crashF d.O how d.S (pendL d.n d.O) 0 i := by
    intro i hi
    rw [hp]
    refine crashF_congr d.n _ _ how _ _ _ 0 (fun j hj => ?_) h.L i hi
    obtain ⟨h1, h2⟩ := (pend_mem d.n d.O j).1 hj
    refine ⟨h1, ?_⟩
    obtain ⟨o, ho⟩ := Option.isSome_iff_exists.1 h2
    show (some (r.Old j)).getD [] = (d.O j).getD []
    rw [h.Old j h1, ho]; rfl
  refine ⟨h.n, hc, fun i hi => ?_, fun i hi => rfl, h.N, rfl, fun _ => .inl ⟨rfl, rfl⟩⟩
  show (if r.Pend i then _ else r.Old i) = crashF d.O how d.S (pendL d.n d.O) 0 i
  have hPi := h.Pend i hi
  cases hO : d.O i with
  | none =>
    rw [hO] at hPi
    rw [if_neg (by rw [hPi]; simp), h.Old i hi, hO, crashF_out _ _ _ _ _ _ (by rw [pend_mem]; simp [hO])]; rfl
  | some o =>
    rw [hO] at hPi
    rw [if_pos (by rw [hPi]; rfl)]; exact hc i hi
end Go.Proofs.Ytpobflionjndcaa
