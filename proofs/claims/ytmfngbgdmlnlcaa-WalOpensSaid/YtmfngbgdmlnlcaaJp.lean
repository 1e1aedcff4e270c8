/- What stands on a log's disk between its calls, and behind a crash. -/
import Derived.Test.YtmfngbgdmlnlcaaJo
namespace Go.Proofs.Ytmfngbgdmlnlcaa
set_option linter.unusedVariables false
set_option linter.unusedSimpArgs false

structure Base (d : DSt) : Prop where
  lo : 16 ≤ d.n
  hi : d.n ≤ 32768
  len : ∀ i, i < d.n → (d.S i).length = 64
  olen : ∀ i o, d.O i = some o → i < d.n ∧ o.length = 64
/-- the area that a mark names has its records -/
structure Area (d : DSt) (m : MSt) (recs : List ByteArray) : Prop where
  area : ∀ p, p < m.le → byteS d.S (startN d m.ar) p = (laidL recs)[p]?
  le : m.le = sizeN recs
  nu : m.nu = recs.length
  small : ∀ r, r ∈ recs → r.size ≤ 4000
  ar : m.ar ≤ 1
  lesp : m.le ≤ spaceN d
  c1 : 1 ≤ m.c
  c2 : m.c + 1 < 4294967296
  a : m.a < 9223372036854775808
  b : m.b < 9223372036854775808
/-- what is not synced of it is as it was -/
def Pend (d : DSt) (m : MSt) : Prop := ∀ i j o, d.O (startN d m.ar + i) = some o → j < 64 → i * 64 + j < m.le → o[j]? = (d.S (startN d m.ar + i))[j]?
structure Half (d : DSt) (m : MSt) (recs : List ByteArray) : Prop where
  base : Base d
  A : Area d m recs
  P : Pend d m
  mrk : d.S (m.c % 2) = markL m
  oth : Tn (d.S (1 - m.c % 2)) (m.c + 1)
  om : ∀ i, i < 2 → d.O i = none
theorem sizeN_len (l : List ByteArray) : l.length ≤ sizeN l := by
  induction l with
  | nil => simp
  | cons s l ih => simp only [sizeN, List.map_cons, List.sum_cons, List.length_cons] at ih ⊢; omega
theorem Base.space {d : DSt} (h : Base d) : spaceN d ≤ 1048512 := by
  have := h.hi; unfold spaceN secN; omega
theorem Area.sm {d : DSt} {m : MSt} {recs : List ByteArray} (h : Area d m recs) (hb : Base d) : m.Small := by
  have h1 := hb.space
  have h2 := h.lesp
  have h3 := h.le
  have h4 := h.nu
  have h5 := sizeN_len recs
  have h6 := h.ar
  have h7 := h.c2
  exact ⟨by omega, by omega, by omega, by omega, h.a, h.b⟩
theorem byteS_at (S : Nat → List UInt8) (st i j : Nat) (hj : j < 64) : byteS S st (i * 64 + j) = (S (st + i))[j]? := by
  unfold byteS
  rw [show (i * 64 + j) / 64 = i by omega, show (i * 64 + j) % 64 = j by omega]
theorem startN_n {d d' : DSt} (h : d'.n = d.n) (ar : Nat) : startN d' ar = startN d ar ∧ secN d' = secN d ∧ spaceN d' = spaceN d := by
  unfold startN spaceN secN; rw [h]; exact ⟨rfl, rfl, rfl⟩
theorem Base.wrote {d d' : DSt} {n hi : Nat} (h : Base d) (hw : Wrote d d' n hi) (hh : hi ≤ d.n) : Base d' := by
  refine ⟨by rw [hw.sz]; exact h.lo, by rw [hw.sz]; exact h.hi, fun i hi' => hw.len h.len i (by rw [hw.sz] at hi'; exact hi'), fun i o ho => ?_⟩
  rw [hw.sz]
  rcases hw.old i with e | ⟨e1, e2⟩
  · exact h.olen i o (by rw [← e]; exact ho)
  · have hin : i < d.n := by
      rcases Nat.lt_or_ge i d.n with h1 | h1
      · exact h1
      · have := (hw.out i (.inr (by omega))).2
        rw [ho, e1] at this; cases this
    rw [ho] at e2
    obtain rfl := Option.some.inj e2
    exact ⟨hin, h.len i hin⟩
theorem Area.turn {d d' : DSt} {m : MSt} {recs : List ByteArray} (h : Area d m recs) (hn : d'.n = d.n) (hk : ∀ p, p < m.le → byteS d'.S (startN d m.ar) p = byteS d.S (startN d m.ar) p) : Area d' m recs := by
  obtain ⟨e1, e2, e3⟩ := startN_n hn m.ar
  exact ⟨fun p hp => by rw [e1, hk p hp]; exact h.area p hp, h.le, h.nu, h.small, h.ar, by rw [e3]; exact h.lesp, h.c1, h.c2, h.a, h.b⟩
theorem Pend.wrote {d d' : DSt} {m : MSt} {n hi : Nat} (h : Pend d m) (hw : Wrote d d' n hi) (hk : ∀ p, p < m.le → byteS d'.S (startN d m.ar) p = byteS d.S (startN d m.ar) p) : Pend d' m := by
  obtain ⟨e1, e2, e3⟩ := startN_n hw.sz m.ar
  intro i j o ho hj hp
  have hkk := hk _ hp
  rw [byteS_at _ _ _ _ hj, byteS_at _ _ _ _ hj] at hkk
  rw [e1] at ho ⊢
  rw [hkk]
  rcases hw.old (startN d m.ar + i) with e | ⟨_, e⟩
  · exact h i j o (by rw [← e]; exact ho) hj hp
  · rw [ho] at e
    obtain rfl := Option.some.inj e
    rfl
theorem Half.wrote {d d' : DSt} {m : MSt} {recs : List ByteArray} {n hi : Nat} (h : Half d m recs) (hw : Wrote d d' n hi) (hn : 2 ≤ n) (hh : hi ≤ d.n) (hk : ∀ p, p < m.le → byteS d'.S (startN d m.ar) p = byteS d.S (startN d m.ar) p) : Half d' m recs := by
  have hs : ∀ i, i < 2 → d'.S i = d.S i ∧ d'.O i = d.O i := fun i hi => hw.out i (.inl (by omega))
  exact ⟨h.base.wrote hw hh, h.A.turn hw.sz hk, h.P.wrote hw hk, by rw [(hs _ (by omega)).1]; exact h.mrk, by rw [(hs _ (by omega)).1]; exact h.oth, fun i hi => by rw [(hs i hi).2]; exact h.om i hi⟩
/-- nothing but what lies in memory has turned -/
theorem Half.same {d d' : DSt} {m : MSt} {recs : List ByteArray} (h : Half d m recs) (hn : d'.n = d.n) (hS : d'.S = d.S) (hO : d'.O = d.O) : Half d' m recs := by
  obtain ⟨e1, e2, e3⟩ := startN_n hn m.ar
  refine ⟨⟨by rw [hn]; exact h.base.lo, by rw [hn]; exact h.base.hi, by rw [hn, hS]; exact h.base.len, by rw [hn, hO]; exact h.base.olen⟩, h.A.turn hn (fun p _ => by rw [hS]), ?_, by rw [hS]; exact h.mrk, by rw [hS]; exact h.oth, by rw [hO]; exact h.om⟩
  unfold Pend
  rw [e1, hS, hO]; exact h.P
theorem Half.synced {d d' : DSt} {m : MSt} {recs : List ByteArray} (h : Half d m recs) (hn : d'.n = d.n) (hS : d'.S = d.S) (hO : ∀ i, d'.O i = none) : Half d' m recs := by
  refine ⟨⟨by rw [hn]; exact h.base.lo, by rw [hn]; exact h.base.hi, by rw [hn, hS]; exact h.base.len, fun i o ho => ?_⟩, h.A.turn hn (fun p _ => by rw [hS]), fun i j o ho => ?_, by rw [hS]; exact h.mrk, by rw [hS]; exact h.oth, fun i _ => hO i⟩
  · rw [hO] at ho; cases ho
  · rw [hO] at ho; cases ho

/-! ### the next mark -/
/-- the next mark is under way -/
structure Two (d : DSt) (m : MSt) (recs : List ByteArray) (m' : MSt) (recs' : List ByteArray) : Prop where
  base : Base d
  A : Area d m recs
  P : Pend d m
  A' : Area d m' recs'
  P' : Pend d m'
  c : m'.c = m.c + 1
  mrk : d.S (m.c % 2) = markL m
  om : d.O (m.c % 2) = none
  mrk' : d.S (m'.c % 2) = markL m'
  old : ∃ o, d.O (m'.c % 2) = some o ∧ Tn o m'.c
theorem actD_cases (d : DSt) : ((actD d).2 = 0 ∧ (actD d).1.dead = d.dead ∨ (actD d).2 = 2 ∧ (actD d).1.dead = true ∧ d.left = 1) ∧ (actD d).1.n = d.n ∧ (actD d).1.S = d.S ∧ (actD d).1.O = d.O ∧ (actD d).1.acts = d.acts + 1 ∧ (d.left = 0 → (actD d).1.left = 0) := by
  unfold actD
  split
  · exact ⟨.inl ⟨rfl, rfl⟩, rfl, rfl, rfl, rfl, fun h => h⟩
  · split
    · exact ⟨.inr ⟨rfl, rfl, by assumption⟩, rfl, rfl, rfl, rfl, fun _ => rfl⟩
    · exact ⟨.inl ⟨rfl, rfl⟩, rfl, rfl, rfl, rfl, fun h => absurd h (by assumption)⟩
structure Sy (d : DSt) (r : DSt × Int) : Prop where
  v : (r.2 = 0 ∧ r.1.dead = false ∧ ∀ i, r.1.O i = none) ∨ (r.2 = 2 ∧ r.1.dead = true ∧ d.left ≠ 0 ∧ r.1.O = d.O)
  n : r.1.n = d.n
  S : r.1.S = d.S
  acts : r.1.acts = d.acts + 1
  left : d.left = 0 → r.1.left = 0
theorem syncD_ok {d : DSt} (hd : d.dead = false) : Sy d (syncD d) := by
  obtain ⟨h1, h2, h3, h4, h5, h6⟩ := actD_cases d
  unfold syncD
  rw [if_neg (by simp [hd])]
  rcases h1 with ⟨h1, h7⟩ | ⟨h1, h7, h8⟩
  · rw [if_pos h1]
    exact ⟨.inl ⟨rfl, h7.trans hd, fun _ => rfl⟩, h2, h3, h5, h6⟩
  · rw [if_neg (by rw [h1]; decide)]
    exact ⟨.inr ⟨h1, h7, by omega, h4⟩, h2, h3, h5, h6⟩
structure Adv (d : DSt) (m : MSt) (recs : List ByteArray) (m' : MSt) (recs' : List ByteArray) (r : DSt × Int) : Prop where
  v : (r.2 = 0 ∧ r.1.dead = false ∧ (∀ i, r.1.O i = none) ∧ Half r.1 m' recs') ∨ (r.2 = 2 ∧ d.left ≠ 0 ∧ Two r.1 m recs m' recs')
  n : r.1.n = d.n
  S : ∀ i, 2 ≤ i → r.1.S i = d.S i
  acts : r.1.acts ≤ d.acts + 2
  left : d.left = 0 → r.1.left = 0
theorem byteS_two {S S' : Nat → List UInt8} (h : ∀ i, 2 ≤ i → S' i = S i) {st : Nat} (hst : 2 ≤ st) (p : Nat) : byteS S' st p = byteS S st p := by
  unfold byteS; rw [h _ (by omega)]
theorem advD_ok {g : LSt} {d : DSt} {m m' : MSt} {recs recs' : List ByteArray} (h : Half d m recs) (hd : d.dead = false) (hm : g.bump.m = m') (hc : m'.c = m.c + 1) (hA : Area d m' recs') (hP : Pend d m') : Adv d m recs m' recs' (advD g d) := by
  have hk : m'.c % 2 < d.n := by have := h.base.lo; omega
  have hne : m'.c % 2 ≠ m.c % 2 := by omega
  have hoe : m'.c % 2 = 1 - m.c % 2 := by omega
  obtain ⟨w1, w2, w3, w4, w5, w6⟩ := writeD_in (s := markL m') hk (markL_len m') hd
  have hO : d.O (m'.c % 2) = none := h.om _ (by omega)
  rw [if_neg (by rw [hO]; simp)] at w2
  have e : advD g d = if (writeD d ((m'.c % 2 : Nat) : Int) (markL m')).2 = 0 then syncD (writeD d ((m'.c % 2 : Nat) : Int) (markL m')).1 else writeD d ((m'.c % 2 : Nat) : Int) (markL m') := by
    unfold advD; rw [hm]
  have hS2 : ∀ i, 2 ≤ i → (writeD d ((m'.c % 2 : Nat) : Int) (markL m')).1.S i = d.S i := fun i hi => by rw [w1, upd_other _ _ _ (by omega)]
  have hB : Base (writeD d ((m'.c % 2 : Nat) : Int) (markL m')).1 := h.base.wrote (wrote_one hk (markL_len m') hd) (by omega)
  have hWr := wrote_one (s := markL m') hk (markL_len m') hd
  have hT : Two (writeD d ((m'.c % 2 : Nat) : Int) (markL m')).1 m recs m' recs' :=
    ⟨hB, h.A.turn w3 (fun p _ => byteS_two hS2 (startN_lo _ _) p), h.P.wrote hWr (fun p _ => byteS_two hS2 (startN_lo _ _) p), hA.turn w3 (fun p _ => byteS_two hS2 (startN_lo _ _) p), hP.wrote hWr (fun p _ => byteS_two hS2 (startN_lo _ _) p), hc,
      by rw [w1, upd_other _ _ _ (Ne.symm hne)]; exact h.mrk, by rw [w2, upd_other _ _ _ (Ne.symm hne)]; exact h.om _ (by omega), by rw [w1, upd_same], ⟨d.S (m'.c % 2), by rw [w2, upd_same], by rw [hoe, hc]; exact h.oth⟩⟩
  rw [e]
  generalize writeD d ((m'.c % 2 : Nat) : Int) (markL m') = r at *
  by_cases hv : r.2 = 0
  · rw [if_pos hv]
    have hrd : r.1.dead = false := by
      cases he : r.1.dead
      · rfl
      · rw [he] at w4; rw [w4] at hv; cases hv
    have sy := syncD_ok hrd
    refine ⟨?_, sy.n.trans w3, fun i hi => by rw [sy.S]; exact hS2 i hi, by rw [sy.acts, w6]; exact Nat.le_refl _, fun hl => sy.left (w5 hl).1⟩
    obtain ⟨t1, t2, t3, t4, t5, t6, t7, t8, t9, t10⟩ := hT
    rcases sy.v with ⟨s1, s2, s3⟩ | ⟨s1, s2, s3, s4⟩
    · refine .inl ⟨s1, s2, s3, ⟨⟨by rw [sy.n]; exact t1.lo, by rw [sy.n]; exact t1.hi, by rw [sy.n, sy.S]; exact t1.len, fun i o ho => ?_⟩, t4.turn sy.n (fun p _ => by rw [sy.S]), fun i j o ho => ?_, by rw [sy.S]; exact t9, ?_, fun i _ => s3 i⟩⟩
      · rw [s3] at ho; cases ho
      · rw [s3] at ho; cases ho
      · rw [sy.S, show 1 - m'.c % 2 = m.c % 2 by omega, t7]
        exact tn_mark (h.A.sm h.base) (by omega) hA.c2
    · refine .inr ⟨s1, fun hl => s3 (w5 hl).1, ⟨⟨by rw [sy.n]; exact t1.lo, by rw [sy.n]; exact t1.hi, by rw [sy.n, sy.S]; exact t1.len, by rw [sy.n, s4]; exact t1.olen⟩, t2.turn sy.n (fun p _ => by rw [sy.S]), ?_, t4.turn sy.n (fun p _ => by rw [sy.S]), ?_, t6, by rw [sy.S]; exact t7, by rw [s4]; exact t8, by rw [sy.S]; exact t9, by rw [s4]; exact t10⟩⟩
      · unfold Pend
        rw [(startN_n sy.n m.ar).1, sy.S, s4]; exact t3
      · unfold Pend
        rw [(startN_n sy.n m'.ar).1, sy.S, s4]; exact t5
  · rw [if_neg hv]
    have hrd : r.1.dead = true := by
      cases he : r.1.dead
      · rw [he] at w4; exact absurd w4 hv
      · rfl
    rw [hrd] at w4
    refine ⟨.inr ⟨w4, fun hl => ?_, hT⟩, w3, hS2, by rw [w6]; omega, fun hl => (w5 hl).1⟩
    have := (w5 hl).2
    rw [hrd] at this; cases this

/-- all that is told lasts: synced, then the next mark -/
structure Set_ (d : DSt) (m : MSt) (recs : List ByteArray) (m' : MSt) (recs' : List ByteArray) (r : DSt × Int) : Prop where
  v : (r.2 = 0 ∧ r.1.dead = false ∧ (∀ i, r.1.O i = none) ∧ Half r.1 m' recs') ∨ (r.2 = 2 ∧ d.left ≠ 0 ∧ (Half r.1 m recs ∨ Two r.1 m recs m' recs'))
  n : r.1.n = d.n
  S : ∀ i, 2 ≤ i → r.1.S i = d.S i
  acts : r.1.acts ≤ d.acts + 3
  left : d.left = 0 → r.1.left = 0
theorem setD_ok {g : LSt} {d : DSt} {m m' : MSt} {recs recs' : List ByteArray} (h : Half d m recs) (hd : d.dead = false) (hm : g.all.bump.m = m') (hc : m'.c = m.c + 1) (hA : Area d m' recs') : Set_ d m recs m' recs' (setD g d) ∧ setL g d = if (syncD d).2 = 0 then g.all.bump else g := by
  refine ⟨?_, rfl⟩
  have sy := syncD_ok hd
  unfold setD
  generalize syncD d = r at *
  rcases sy.v with ⟨s1, s2, s3⟩ | ⟨s1, s2, s3, s4⟩
  · rw [if_pos s1]
    have a := advD_ok (g := g.all) (h.synced sy.n sy.S s3) s2 hm hc (hA.turn sy.n (fun p _ => by rw [sy.S])) (fun i j o ho => by rw [s3] at ho; cases ho)
    refine ⟨?_, a.n.trans sy.n, fun i hi => by rw [a.S i hi, sy.S], by have := a.acts; rw [sy.acts] at this; omega, fun hl => a.left (sy.left hl)⟩
    rcases a.v with a1 | ⟨a1, a2, a3⟩
    · exact .inl a1
    · exact .inr ⟨a1, fun hl => a2 (sy.left hl), .inr a3⟩
  · rw [if_neg (by rw [s1]; decide)]
    exact ⟨.inr ⟨s1, s3, .inl (h.same sy.n sy.S s4)⟩, sy.n, fun i _ => by rw [sy.S], by rw [sy.acts]; omega, sy.left⟩
end Go.Proofs.Ytmfngbgdmlnlcaa
