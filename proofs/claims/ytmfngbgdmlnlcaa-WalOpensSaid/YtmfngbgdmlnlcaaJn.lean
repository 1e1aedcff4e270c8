/- What is written into an area of a log, byte by byte. -/
import Derived.Test.YtmfngbgdmlnlcaaJx
import Derived.Test.YtmfngbgdmlnlcaaJs
namespace Go.Proofs.Ytmfngbgdmlnlcaa
set_option linter.unusedVariables false
set_option linter.unusedSimpArgs false

/-- the byte p of the area that begins with the sector st -/
def byteS (S : Nat → List UInt8) (st p : Nat) : Option UInt8 := (S (st + p / 64))[p % 64]?

theorem writeD_in {d : DSt} {k : Nat} {s : List UInt8} (hk : k < d.n) (hs : s.length = 64) (hd : d.dead = false) :
    (writeD d (k : Int) s).1.S = upd d.S k s ∧ (writeD d (k : Int) s).1.O = (if (d.O k).isSome then d.O else upd d.O k (some (d.S k))) ∧
    (writeD d (k : Int) s).1.n = d.n ∧ (writeD d (k : Int) s).2 = (if (writeD d (k : Int) s).1.dead then 2 else 0) ∧
    (d.left = 0 → (writeD d (k : Int) s).1.left = 0 ∧ (writeD d (k : Int) s).1.dead = false) ∧ (writeD d (k : Int) s).1.acts = d.acts + 1 := by
  have hh : hasD d (k : Int) = true := (hasD_iff d _).2 ⟨by omega, by omega⟩
  unfold writeD
  rw [if_neg (by simp [hd]), if_neg (by simp [hh, hs])]
  unfold actD
  simp only [Int.toNat_natCast]
  split
  · exact ⟨rfl, rfl, rfl, by simp [hd], fun h => ⟨by assumption, hd⟩, rfl⟩
  · split
    · exact ⟨rfl, rfl, rfl, by simp, fun h => absurd h (by assumption), rfl⟩
    · exact ⟨rfl, rfl, rfl, by simp [hd], fun h => absurd h (by assumption), rfl⟩

/-- the sectors from n on, below hi, have been written -/
structure Wrote (d d' : DSt) (n hi : Nat) : Prop where
  sz : d'.n = d.n
  out : ∀ i, i < n ∨ hi ≤ i → d'.S i = d.S i ∧ d'.O i = d.O i
  old : ∀ i, d'.O i = d.O i ∨ (d.O i = none ∧ d'.O i = some (d.S i))
  len : (∀ i, i < d.n → (d.S i).length = 64) → ∀ i, i < d.n → (d'.S i).length = 64
  nop : ∀ i, d'.O i = none → d'.S i = d.S i
  left : d.left = 0 → d.dead = false → d'.left = 0 ∧ d'.dead = false
theorem Wrote.refl (d : DSt) (n hi : Nat) : Wrote d d n hi :=
  ⟨rfl, fun _ _ => ⟨rfl, rfl⟩, fun _ => .inl rfl, fun h => h, fun _ _ => rfl, fun h1 h2 => ⟨h1, h2⟩⟩
theorem Wrote.trans {d d1 d2 : DSt} {n n1 hi hi1 : Nat} (h : Wrote d d1 n hi1) (g : Wrote d1 d2 n1 hi) (hn : n ≤ n1) (hh : hi1 ≤ hi) : Wrote d d2 n hi := by
  have hno : ∀ i, d1.O i = none → d.O i = none := fun i h1 => by
    rcases h.old i with e | ⟨_, e⟩
    · rw [← e]; exact h1
    · rw [h1] at e; cases e
  refine ⟨g.sz.trans h.sz, fun i hi' => ?_, fun i => ?_, fun hl => ?_, fun i h2 => ?_, fun hl hd => g.left (h.left hl hd).1 (h.left hl hd).2⟩
  · obtain ⟨a1, a2⟩ := h.out i (by omega)
    obtain ⟨b1, b2⟩ := g.out i (by omega)
    exact ⟨b1.trans a1, b2.trans a2⟩
  · rcases g.old i with e | ⟨e1, e2⟩
    · rw [e]; exact h.old i
    · exact .inr ⟨hno i e1, by rw [e2, h.nop i e1]⟩
  · have := g.len (fun i hi => by rw [h.sz] at hi; exact h.len hl i hi)
    rw [h.sz] at this; exact this
  · have h1 : d1.O i = none := by
      rcases g.old i with e | ⟨_, e⟩
      · rw [← e]; exact h2
      · rw [h2] at e; cases e
    rw [g.nop i h2, h.nop i h1]
theorem wrote_one {d : DSt} {k : Nat} {s : List UInt8} (hk : k < d.n) (hs : s.length = 64) (hd : d.dead = false) : Wrote d (writeD d (k : Int) s).1 k (k + 1) := by
  obtain ⟨h1, h2, h3, _, h5, _⟩ := writeD_in hk hs hd
  refine ⟨h3, fun i hi => ?_, fun i => ?_, fun hl i hi => ?_, fun i hn => ?_, fun hl _ => h5 hl⟩
  · have hne : i ≠ k := by omega
    rw [h1, h2, upd_other _ _ _ hne]
    refine ⟨rfl, ?_⟩
    split
    · rfl
    · exact upd_other _ _ _ hne
  · rw [h2]
    split
    · exact .inl rfl
    · rename_i hno
      by_cases e : i = k
      · subst e
        exact .inr ⟨by simpa using hno, upd_same _ _ _⟩
      · exact .inl (upd_other _ _ _ e)
  · rw [h1]
    by_cases e : i = k
    · subst e; rw [upd_same]; exact hs
    · rw [upd_other _ _ _ e]; exact hl i hi
  · rw [h2] at hn
    rw [h1]
    by_cases e : i = k
    · subst e
      split at hn
      · rename_i hy; rw [hn] at hy; cases hy
      · rw [upd_same] at hn; cases hn
    · exact upd_other _ _ _ e

theorem chunkL_len (s : List UInt8) : (chunkL s).length = 64 := by
  unfold chunkL
  rw [List.length_append, List.length_take, List.length_replicate]; omega
theorem chunkL_get (s : List UInt8) {j : Nat} (hj : j < s.length) (h64 : j < 64) : (chunkL s)[j]? = s[j]? := by
  unfold chunkL
  rw [List.getElem?_append_left (by rw [List.length_take]; omega), List.getElem?_take, if_pos h64]

structure Put (d : DSt) (r : DSt × Int) (n hi : Nat) (s : List UInt8) : Prop where
  wr : Wrote d r.1 n hi
  v : r.2 = if r.1.dead then 2 else 0
  got : r.2 = 0 → ∀ k, k < s.length → byteS r.1.S n k = s[k]?
  first : s ≠ [] → r.1.S n = chunkL s
  acts : r.1.acts ≤ d.acts + s.length
theorem putD_ok : ∀ (f : Nat) (d : DSt) (n hi : Nat) (s : List UInt8), d.dead = false → s.length < f → n + (s.length + 63) / 64 ≤ hi → hi ≤ d.n → Put d (putD f d n s) n hi s
  | 0, d, n, hi, s, _, h, _, _ => absurd h (by omega)
  | f + 1, d, n, hi, s, hd, hf, hn, hh => by
    rw [putD]
    by_cases h0 : s.length = 0
    · rw [if_pos h0]
      have : s = [] := List.length_eq_zero_iff.1 h0
      exact ⟨Wrote.refl _ _ _, by simp [hd], fun _ k hk => by omega, fun hne => absurd this hne, Nat.le_add_right _ _⟩
    · rw [if_neg h0]
      have hk : n < d.n := by omega
      obtain ⟨w1, w2, w3, w4, w5, w6⟩ := writeD_in (s := chunkL s) hk (chunkL_len s) hd
      have hw := wrote_one (s := chunkL s) hk (chunkL_len s) hd
      have hwr : Wrote d (writeD d (n : Int) (chunkL s)).1 n hi := ⟨hw.sz, fun i hi' => hw.out i (by omega), hw.old, hw.len, hw.nop, hw.left⟩
      by_cases hv : (writeD d (n : Int) (chunkL s)).2 = 0
      · rw [if_pos hv]
        have hd1 : (writeD d (n : Int) (chunkL s)).1.dead = false := by
          cases he : (writeD d (n : Int) (chunkL s)).1.dead
          · rfl
          · rw [he] at w4; rw [w4] at hv; cases hv
        have ih := putD_ok f (writeD d (n : Int) (chunkL s)).1 (n + 1) hi (s.drop 64) hd1 (by rw [List.length_drop]; omega) (by rw [List.length_drop]; omega) (by rw [w3]; exact hh)
        have hSn : (putD f (writeD d (n : Int) (chunkL s)).1 (n + 1) (s.drop 64)).1.S n = chunkL s := by
          rw [(ih.wr.out n (.inl (by omega))).1, w1, upd_same]
        refine ⟨hw.trans ih.wr (by omega) (by omega), ih.v, fun h k hks => ?_, fun _ => hSn, ?_⟩
        · by_cases h64 : k < 64
          · unfold byteS
            rw [show n + k / 64 = n by omega, hSn, show k % 64 = k by omega]
            exact chunkL_get s hks h64
          · have := ih.got h (k - 64) (by rw [List.length_drop]; omega)
            unfold byteS at this ⊢
            rw [show n + 1 + (k - 64) / 64 = n + k / 64 by omega, show (k - 64) % 64 = k % 64 by omega] at this
            rw [this, List.getElem?_drop, show 64 + (k - 64) = k by omega]
        · have := ih.acts
          rw [w6, List.length_drop] at this
          have h1 : 1 ≤ s.length := by omega
          omega
      · rw [if_neg hv]
        refine ⟨hwr, w4, fun h => absurd h hv, fun _ => by rw [w1, upd_same], by rw [w6]; omega⟩

theorem startN_lo (d : DSt) (ar : Nat) : 2 ≤ startN d ar := Nat.le_add_right _ _
theorem startN_hi {d : DSt} (hlo : 16 ≤ d.n) {ar : Nat} (h : ar ≤ 1) : startN d ar + secN d ≤ d.n := by
  unfold startN
  have : ar * secN d ≤ 1 * secN d := Nat.mul_le_mul_right _ h
  unfold secN at *; omega
theorem readD_in {d : DSt} {k : Nat} (hk : k < d.n) (hd : d.dead = false) : readD d (k : Int) = (d.S k, 0) := by
  have hh : hasD d (k : Int) = true := (hasD_iff d _).2 ⟨by omega, by omega⟩
  unfold readD
  rw [if_neg (by simp [hd]), if_pos hh, Int.toNat_natCast]

/-- s has been written from the byte at on -/
structure Wri (d : DSt) (r : DSt × Int) (st sec at_ : Nat) (s : List UInt8) : Prop where
  wr : Wrote d r.1 (st + at_ / 64) (st + sec)
  v : r.2 = if r.1.dead then 2 else 0
  got : r.2 = 0 → ∀ k, k < s.length → byteS r.1.S st (at_ + k) = s[k]?
  ahead : ∀ p, p < at_ → byteS r.1.S st p = byteS d.S st p
  acts : r.1.acts ≤ d.acts + s.length + 64
theorem wriD_ok {g : LSt} {d : DSt} {at_ : Nat} {s : List UInt8} (hd : d.dead = false) (har : g.m.ar ≤ 1) (hlo : 16 ≤ d.n) (hlen : ∀ i, i < d.n → (d.S i).length = 64) (hfit : at_ + s.length ≤ spaceN d) (hs : s ≠ []) :
    Wri d (wriD g d at_ s) (startN d g.m.ar) (secN d) at_ s := by
  have hhi := startN_hi hlo har
  have hs1 : 1 ≤ s.length := by
    rcases s with _ | ⟨x, s⟩
    · exact absurd rfl hs
    · simp
  unfold spaceN at hfit
  have hn1 : startN d g.m.ar + at_ / 64 < d.n := by omega
  unfold wriD
  generalize startN d g.m.ar = st at *
  generalize secN d = sec at *
  have hL := hlen _ hn1
  by_cases h64 : 0 < at_ % 64
  · rw [if_pos h64, readD_in hn1 hd, if_pos rfl]
    have htl : ((d.S (st + at_ / 64)).take (at_ % 64) ++ s).length = at_ % 64 + s.length := by
      rw [List.length_append, List.length_take, hL]; omega
    have hpre : ((d.S (st + at_ / 64)).take (at_ % 64)).length = at_ % 64 := by rw [List.length_take, hL]; omega
    have P := putD_ok (((d.S (st + at_ / 64)).take (at_ % 64) ++ s).length + 1) d (st + at_ / 64) (st + sec) ((d.S (st + at_ / 64)).take (at_ % 64) ++ s) hd (Nat.lt_succ_self _) (by rw [htl]; omega) hhi
    refine ⟨P.wr, P.v, fun h k hk => ?_, fun p hp => ?_, ?_⟩
    · have := P.got h (at_ % 64 + k) (by rw [htl]; omega)
      rw [List.getElem?_append_right (by rw [hpre]; omega), hpre, show at_ % 64 + k - at_ % 64 = k by omega] at this
      rw [← this]
      unfold byteS
      rw [show st + (at_ + k) / 64 = st + at_ / 64 + (at_ % 64 + k) / 64 by omega, show (at_ + k) % 64 = (at_ % 64 + k) % 64 by omega]
    · unfold byteS
      by_cases hlt : p / 64 < at_ / 64
      · rw [(P.wr.out (st + p / 64) (.inl (by omega))).1]
      · have hmod : p % 64 < at_ % 64 := by omega
        rw [show st + p / 64 = st + at_ / 64 by omega, P.first (by intro e; rw [e] at htl; simp at htl; omega),
          chunkL_get _ (by rw [htl]; omega) (by omega), List.getElem?_append_left (by rw [hpre]; exact hmod), List.getElem?_take, if_pos hmod]
    · refine Nat.le_trans P.acts ?_
      rw [htl]; omega
  · rw [if_neg h64]
    have P := putD_ok (s.length + 1) d (st + at_ / 64) (st + sec) s hd (Nat.lt_succ_self _) (by omega) hhi
    refine ⟨P.wr, P.v, fun h k hk => ?_, fun p hp => ?_, by have := P.acts; omega⟩
    · rw [← P.got h k hk]
      unfold byteS
      rw [show st + (at_ + k) / 64 = st + at_ / 64 + k / 64 by omega, show (at_ + k) % 64 = k % 64 by omega]
    · unfold byteS
      rw [(P.wr.out (st + p / 64) (.inl (by omega))).1]
end Go.Proofs.Ytmfngbgdmlnlcaa
