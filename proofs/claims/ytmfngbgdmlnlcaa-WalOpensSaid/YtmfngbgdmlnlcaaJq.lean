/- What stands on a disk is read again; what each call does to it. -/
import Derived.Test.YtmfngbgdmlnlcaaJkj
namespace Go.Proofs.Ytmfngbgdmlnlcaa
set_option linter.unusedVariables false
set_option linter.unusedSimpArgs false

/-! ### records are taken up again -/
theorem laidL_cons (s : ByteArray) (l : List ByteArray) : laidL (s :: l) = recL s ++ laidL l := by simp [laidL]
theorem laidL_snoc (l : List ByteArray) (s : ByteArray) : laidL (l ++ [s]) = laidL l ++ recL s := by simp [laidL]
theorem beh_rec (s : ByteArray) (t : List UInt8) (hs : s.size ≤ 4000) : behN (recL s ++ t) = 2 + s.size := by
  unfold behN
  have e : recL s ++ t = highL s.size 2 ++ (s.data.toList ++ highL (wsum (sumdL s)) 4 ++ t) := by simp [recL, sumdL, List.append_assoc]
  rw [e, List.take_left' (by rw [highL_len]), val_high 2 _ (by omega) (by omega), Int.toNat_natCast]
theorem rec_rec (s : ByteArray) (t : List UInt8) (hs : s.size ≤ 4000) : recN (recL s ++ t) = some (s.data.toList, t) := by
  have hsl : s.data.toList.length = s.size := rfl
  have hsum : (sumdL s).length = 2 + s.size := by unfold sumdL; rw [List.length_append, highL_len, hsl]
  unfold recN
  rw [List.length_append, recL_len, if_neg (by omega), beh_rec s t hs, if_neg (by omega), if_neg (by omega)]
  have e1 : recL s ++ t = sumdL s ++ (highL (wsum (sumdL s)) 4 ++ t) := by simp [recL, List.append_assoc]
  have e2 : (recL s ++ t).drop (2 + s.size) = highL (wsum (sumdL s)) 4 ++ t := by rw [e1, List.drop_left' hsum]
  have e3 : (recL s ++ t).take (2 + s.size) = sumdL s := by rw [e1, List.take_left' hsum]
  have hw := wsum_lt (sumdL s)
  rw [e2, e3, show 2 + s.size + 4 - (2 + s.size) = 4 by omega, List.take_left' (by rw [highL_len])]
  obtain ⟨z, hz⟩ := Int.eq_ofNat_of_zero_le hw.1
  rw [if_pos (by rw [hz]; exact valI_high z 4 (by omega) (by omega))]
  congr 2
  · have e4 : (recL s ++ t).drop 2 = s.data.toList ++ (highL (wsum (sumdL s)) 4 ++ t) := by
      have : recL s ++ t = highL s.size 2 ++ (s.data.toList ++ (highL (wsum (sumdL s)) 4 ++ t)) := by simp [recL, sumdL, List.append_assoc]
      rw [this, List.drop_left' (by rw [highL_len])]
    rw [e4, List.take_left' (by rw [hsl]; omega)]
  · have e5 : recL s ++ t = (sumdL s ++ highL (wsum (sumdL s)) 4) ++ t := rfl
    rw [e5, List.drop_left' (by rw [List.length_append, hsum, highL_len])]
theorem taken_laid : ∀ (l : List ByteArray) (f : Nat), (∀ r ∈ l, r.size ≤ 4000) → (laidL l).length < f → takenN f (laidL l) = some (l.map fun r => r.data.toList)
  | [], f, _, hf => by
    obtain ⟨f, rfl⟩ : ∃ k, f = k + 1 := ⟨f - 1, by omega⟩
    rfl
  | s :: l, f, h, hf => by
    obtain ⟨f, rfl⟩ : ∃ k, f = k + 1 := ⟨f - 1, by omega⟩
    rw [laidL_cons] at hf ⊢
    rw [List.length_append, recL_len] at hf
    rw [takenN, if_neg (by rw [List.length_append, recL_len]; omega), rec_rec s _ (h s (by simp))]
    show (takenN f (laidL l)).map _ = _
    rw [taken_laid l f (fun r hr => h r (by simp [hr])) (by omega)]
    rfl
theorem Half.stands {d : DSt} {m : MSt} {recs : List ByteArray} (h : Half d m recs) : Stands d m (recs.map fun r => r.data.toList) := by
  have hsm := h.A.sm h.base
  have hst := startN_hi h.base.lo h.A.ar
  have hll : ∀ i, i < secN d → (d.S (startN d m.ar + i)).length = 64 := fun i hi => h.base.len _ (by omega)
  have hlesp := h.A.lesp
  refine ⟨last_mark hsm h.A.c1 h.A.ar hlesp h.mrk h.oth, ⟨hsm, h.A.ar, hlesp⟩, by have := h.A.c1; omega, ?_, by rw [List.length_map, h.A.nu]⟩
  have e : (areaL d.S (startN d m.ar) (secN d)).take m.le = laidL recs := by
    apply List.ext_getElem?
    intro p
    rw [List.getElem?_take]
    by_cases hp : p < m.le
    · rw [if_pos hp, areaL_get hll (by unfold spaceN at hlesp; omega)]
      exact h.A.area p hp
    · rw [if_neg hp, List.getElem?_eq_none (by rw [laidL_len, ← h.A.le]; omega)]
  rw [e]
  exact taken_laid _ _ h.A.small (by rw [laidL_len, h.A.le]; omega)
theorem bytesOf_id (recs : List ByteArray) : (recs.map fun r => r.data.toList).map bytesOf = recs := by
  rw [List.map_map]
  have : (bytesOf ∘ fun r : ByteArray => r.data.toList) = id := by
    funext r
    simp [bytesOf]
  rw [this, List.map_id]

/-! ### a log on a disk that lives -/
structure Good (d : DSt) (g : LSt) : Prop where
  half : Half d g.m (g.recs.take g.m.nu)
  nu : g.m.nu ≤ g.recs.length
  used : g.used = sizeN g.recs
  usp : g.used ≤ spaceN d
  area : ∀ p, p < g.used → byteS d.S (startN d g.m.ar) p = (laidL g.recs)[p]?
  small : ∀ r, r ∈ g.recs → r.size ≤ 4000
  dead : d.dead = false
  doubt : g.doubt = false
theorem Half.good {d : DSt} {m : MSt} {recs : List ByteArray} (h : Half d m recs) (hd : d.dead = false) : Good d ⟨m, recs, m.le, false⟩ := by
  have e : recs.take m.nu = recs := by rw [h.A.nu]; exact List.take_length
  exact ⟨by show Half d m (recs.take m.nu); rw [e]; exact h, Nat.le_of_eq h.A.nu, h.A.le, h.A.lesp, h.A.area, h.A.small, hd, rfl⟩
theorem sizeN_le_of_take (l : List ByteArray) (n : Nat) : sizeN (l.take n) ≤ sizeN l := sizeN_mono l n
theorem Good.le_used {d : DSt} {g : LSt} (h : Good d g) : g.m.le ≤ g.used := by
  rw [h.half.A.le, h.used]; exact sizeN_mono _ _
/-- what became of a call that answered r.2: the log is L, and would be G -/
structure Out (d : DSt) (g : LSt) (r : DSt × Int) (L G : LSt) : Prop where
  ok : r.2 ≠ 2 → r.2 = 0 ∧ L = G ∧ Good r.1 G
  die : r.2 = 2 → d.left ≠ 0 ∧ (Half r.1 g.m (g.recs.take g.m.nu) ∨ Two r.1 g.m (g.recs.take g.m.nu) G.m (G.recs.take G.m.nu))
  n : r.1.n = d.n
  left : d.left = 0 → r.1.left = 0
  acts : r.1.acts ≤ d.acts + 1100000
theorem room_fits {d : DSt} {u : Nat} {s : Nat} (h : (s : Int) ≤ roomZ u d) : s ≤ 4000 ∧ u + 6 + s ≤ spaceN d := by
  unfold roomZ at h; omega
theorem append_out {d : DSt} {g : LSt} (h : Good d g) (s : ByteArray) (hro : (s.size : Int) ≤ roomZ g.used d) : Out d g (wriD (g.add s) d g.used (recL s)) (g.add s) (g.add s) := by
  obtain ⟨hs, hfit⟩ := room_fits hro
  have hrl := recL_len s
  have W := wriD_ok (g := g.add s) (d := d) (at_ := g.used) (s := recL s) h.dead h.half.A.ar h.half.base.lo h.half.base.len (by rw [hrl]; omega) (by intro e; rw [e] at hrl; simp at hrl; omega)
  have ea : (g.add s).m = g.m := rfl
  rw [ea] at W
  generalize wriD (g.add s) d g.used (recL s) = r at *
  have hst := startN_hi h.half.base.lo h.half.A.ar
  have hH : Half r.1 g.m (g.recs.take g.m.nu) := h.half.wrote W.wr (by have := startN_lo d g.m.ar; omega) hst (fun p hp => W.ahead p (Nat.lt_of_lt_of_le hp h.le_used))
  have hv : r.2 = 0 ∧ r.1.dead = false ∨ r.2 = 2 ∧ r.1.dead = true := by
    have := W.v
    cases he : r.1.dead <;> rw [he] at this <;> simp at this
    · exact .inl ⟨this, rfl⟩
    · exact .inr ⟨this, rfl⟩
  refine ⟨fun hne => ?_, fun h2 => ⟨fun hl => ?_, .inl hH⟩, W.wr.sz, fun hl => (W.wr.left hl h.dead).1, ?_⟩
  · rcases hv with ⟨hv, hd⟩ | ⟨hv, _⟩
    · refine ⟨hv, rfl, ?_⟩
      have hlen : (laidL g.recs).length = g.used := by rw [laidL_len, h.used]
      obtain ⟨e1, e2, e3⟩ := startN_n W.wr.sz g.m.ar
      refine ⟨?_, ?_, ?_, ?_, ?_, ?_, hd, h.doubt⟩
      · show Half r.1 g.m ((g.recs ++ [s]).take g.m.nu)
        rw [List.take_append_of_le_length h.nu]; exact hH
      · show g.m.nu ≤ (g.recs ++ [s]).length
        rw [List.length_append]; have := h.nu; omega
      · show g.used + (6 + s.size) = sizeN (g.recs ++ [s])
        rw [sizeN_snoc, h.used]
      · show g.used + (6 + s.size) ≤ spaceN r.1
        rw [e3]; omega
      · intro p hp
        replace hp : p < g.used + (6 + s.size) := hp
        show byteS r.1.S (startN r.1 g.m.ar) p = (laidL (g.recs ++ [s]))[p]?
        rw [e1, laidL_snoc]
        by_cases hlt : p < g.used
        · rw [W.ahead p hlt, List.getElem?_append_left (by omega)]; exact h.area p hlt
        · have := W.got hv (p - g.used) (by rw [hrl]; omega)
          rw [show g.used + (p - g.used) = p by omega] at this
          rw [this, List.getElem?_append_right (by omega), hlen]
      · intro x hx
        replace hx : x ∈ g.recs ++ [s] := hx
        rcases List.mem_append.1 hx with hx | hx
        · exact h.small x hx
        · rw [List.mem_singleton] at hx; subst hx; exact hs
    · exact absurd hv hne
  · rcases hv with ⟨hv, _⟩ | ⟨_, hd⟩
    · rw [hv] at h2; cases h2
    · rw [(W.wr.left hl h.dead).2] at hd; cases hd
  · have := W.acts
    rw [hrl] at this
    have := h.usp
    omega
/-- records that stand at the beginning of the area -/
theorem set_out {d : DSt} {g g1 : LSt} {recs : List ByteArray} {m : MSt} (hH : Half d m recs) (hd : d.dead = false) (hc1 : g1.m.c = m.c) (hc2 : m.c + 2 < 4294967296) (hu : g1.used = sizeN g1.recs) (husp : g1.used ≤ spaceN d) (harea : ∀ p, p < g1.used → byteS d.S (startN d g1.m.ar) p = (laidL g1.recs)[p]?) (hsm : ∀ r, r ∈ g1.recs → r.size ≤ 4000)
    (har : g1.m.ar ≤ 1) (ha : g1.m.a < 9223372036854775808) (hb : g1.m.b < 9223372036854775808) (hdb : g1.doubt = false) :
    ((setD g1 d).2 ≠ 2 → (setD g1 d).2 = 0 ∧ setL g1 d = g1.all.bump ∧ Good (setD g1 d).1 g1.all.bump) ∧
    ((setD g1 d).2 = 2 → d.left ≠ 0 ∧ (Half (setD g1 d).1 m recs ∨ Two (setD g1 d).1 m recs g1.all.bump.m g1.recs)) ∧ (setD g1 d).1.n = d.n ∧ (d.left = 0 → (setD g1 d).1.left = 0) ∧ (setD g1 d).1.acts ≤ d.acts + 3 := by
  have hA : Area d g1.all.bump.m g1.recs := ⟨harea, hu, rfl, hsm, har, husp, by show 1 ≤ g1.m.c + 1; omega, by show g1.m.c + 1 + 1 < _; omega, ha, hb⟩
  have st := (setD_ok (g := g1) (m' := g1.all.bump.m) hH hd rfl (by show g1.m.c + 1 = m.c + 1; omega) hA).1
  have hL : (setD g1 d).2 ≠ 2 → setL g1 d = g1.all.bump := by
    intro hne
    unfold setL
    unfold setD at hne
    by_cases h0 : (syncD d).2 = 0
    · rw [if_pos h0]
    · rw [if_neg h0] at hne
      rcases (syncD_ok hd).v with ⟨h1, _⟩ | ⟨h1, _⟩
      · exact absurd h1 h0
      · exact absurd h1 hne
  refine ⟨fun hne => ?_, fun h2 => ?_, st.n, st.left, st.acts⟩
  · rcases st.v with ⟨h1, h2, h3, h4⟩ | ⟨h1, _⟩
    · refine ⟨h1, hL hne, ?_⟩
      obtain ⟨e1, e2, e3⟩ := startN_n st.n g1.m.ar
      have et : g1.recs.take g1.recs.length = g1.recs := List.take_length
      exact ⟨by show Half _ g1.all.bump.m (g1.recs.take g1.recs.length); rw [et]; exact h4, Nat.le_refl _, hu, by show g1.used ≤ _; rw [e3]; exact husp, fun p hp => by
        show byteS _ (startN _ g1.m.ar) p = _
        rw [e1, byteS_two st.S (startN_lo _ _)]; exact harea p hp, hsm, h2, hdb⟩
    · exact absurd h1 hne
  · rcases st.v with ⟨h1, _⟩ | ⟨_, h3, h4⟩
    · rw [h1] at h2; cases h2
    · exact ⟨h3, h4⟩
theorem sync_out {d : DSt} {g : LSt} (h : Good d g) (hc : g.m.c + 2 < 4294967296) : Out d g (setD g d) (setL g d) g.all.bump := by
  obtain ⟨h1, h2, h3, h4, h5⟩ := set_out (g := g) (g1 := g) h.half h.dead rfl hc h.used h.usp h.area h.small h.half.A.ar h.half.A.a h.half.A.b h.doubt
  have et : g.recs.take g.recs.length = g.recs := List.take_length
  exact ⟨h1, fun hh => ⟨(h2 hh).1, (h2 hh).2.imp id (fun t => by show Two _ _ _ _ (g.recs.take g.recs.length); rw [et]; exact t)⟩, h3, h4, by omega⟩
theorem laidL_pre (l : List ByteArray) (n : Nat) {p : Nat} (hp : p < sizeN (l.take n)) : (laidL (l.take n))[p]? = (laidL l)[p]? := by
  have e : laidL l = laidL (l.take n) ++ laidL (l.drop n) := by
    unfold laidL
    rw [← List.flatMap_append, List.take_append_drop]
  rw [e, List.getElem?_append_left (by rw [laidL_len]; exact hp)]
theorem cut_out {d : DSt} {g : LSt} (h : Good d g) (n : Nat) (hc : g.m.c + 2 < 4294967296) : Out d g (setD (g.held (g.recs.take n)) d) (setL (g.held (g.recs.take n)) d) (g.held (g.recs.take n)).all.bump := by
  have hle := sizeN_mono g.recs n
  obtain ⟨h1, h2, h3, h4, h5⟩ := set_out (g := g) (g1 := g.held (g.recs.take n)) h.half h.dead rfl hc rfl (by show sizeN _ ≤ _; have := h.usp; have := h.used; omega)
    (fun p hp => by
      replace hp : p < sizeN (g.recs.take n) := hp
      show byteS d.S (startN d g.m.ar) p = (laidL (g.recs.take n))[p]?
      rw [laidL_pre _ _ hp]; exact h.area p (by rw [h.used]; omega))
    (fun r hr => h.small r (List.mem_of_mem_take hr)) h.half.A.ar h.half.A.a h.half.A.b h.doubt
  have et : (g.recs.take n).take (g.recs.take n).length = g.recs.take n := List.take_length
  exact ⟨h1, fun hh => ⟨(h2 hh).1, (h2 hh).2.imp id (fun t => by show Two _ _ _ _ ((g.recs.take n).take (g.recs.take n).length); rw [et]; exact t)⟩, h3, h4, by omega⟩
theorem mark_out {d : DSt} {g : LSt} (h : Good d g) (a b : Nat) (ha : a < 9223372036854775808) (hb : b < 9223372036854775808) (hc : g.m.c + 2 < 4294967296) : Out d g (advD (g.put a b) d) (g.put a b).bump (g.put a b).bump := by
  have hA : Area d (g.put a b).bump.m (g.recs.take g.m.nu) := ⟨h.half.A.area, h.half.A.le, h.half.A.nu, h.half.A.small, h.half.A.ar, h.half.A.lesp, by show 1 ≤ g.m.c + 1; omega, by show g.m.c + 1 + 1 < _; omega, ha, hb⟩
  have hP : Pend d (g.put a b).bump.m := h.half.P
  have ad := advD_ok (g := g.put a b) h.half h.dead rfl (show g.m.c + 1 = g.m.c + 1 from rfl) hA hP
  refine ⟨fun hne => ?_, fun h2 => ?_, ad.n, ad.left, by have := ad.acts; omega⟩
  · rcases ad.v with ⟨h1, h2, h3, h4⟩ | ⟨h1, _⟩
    · refine ⟨h1, rfl, ?_⟩
      obtain ⟨e1, e2, e3⟩ := startN_n ad.n g.m.ar
      exact ⟨h4, h.nu, h.used, by show g.used ≤ _; rw [e3]; exact h.usp, fun p hp => by
        show byteS _ (startN _ g.m.ar) p = _
        rw [e1, byteS_two ad.S (startN_lo _ _)]; exact h.area p hp, h.small, h2, h.doubt⟩
    · exact absurd h1 hne
  · rcases ad.v with ⟨h1, _⟩ | ⟨_, h3, h4⟩
    · rw [h1] at h2; cases h2
    · exact ⟨h3, .inr h4⟩
theorem renew_out {d : DSt} {g : LSt} (h : Good d g) (l : List ByteArray) (hal : ∀ r, r ∈ l → r.size ≤ 4000) (hro : sizeN l ≤ spaceN d) (hc : g.m.c + 2 < 4294967296) : Out d g (renD g d l) (renL g d l) (g.ren l).all.bump := by
  have har : (g.ren l).m.ar ≤ 1 := by show 1 - g.m.ar ≤ 1; omega
  have ea : (g.ren l).m.ar = 1 - g.m.ar := rfl
  have hst := startN_hi h.half.base.lo h.half.A.ar
  have hst1 := startN_hi h.half.base.lo har
  have hlow := startN_lo d (g.ren l).m.ar
  have hsp := h.half.base.space
  -- behind the writes
  have key : ∃ st hi, Wrote d (wriD (g.ren l) d 0 (laidL l)).1 st hi ∧ 2 ≤ st ∧ hi ≤ d.n ∧ ((wriD (g.ren l) d 0 (laidL l)).2 = if (wriD (g.ren l) d 0 (laidL l)).1.dead then 2 else 0) ∧
      ((wriD (g.ren l) d 0 (laidL l)).2 = 0 → ∀ p, p < sizeN l → byteS (wriD (g.ren l) d 0 (laidL l)).1.S (startN d (1 - g.m.ar)) p = (laidL l)[p]?) ∧
      (∀ p, p < g.m.le → byteS (wriD (g.ren l) d 0 (laidL l)).1.S (startN d g.m.ar) p = byteS d.S (startN d g.m.ar) p) ∧ (wriD (g.ren l) d 0 (laidL l)).1.acts ≤ d.acts + spaceN d + 64 := by
    by_cases hl : laidL l = []
    · have e : wriD (g.ren l) d 0 (laidL l) = (d, 0) := by rw [hl]; rfl
      have e0 : sizeN l = 0 := by rw [← laidL_len, hl]; rfl
      rw [e]
      exact ⟨2, 2, Wrote.refl _ _ _, Nat.le_refl _, by have := h.half.base.lo; omega, by simp [h.dead], fun _ p hp => by omega, fun p _ => rfl, by show d.acts ≤ _; omega⟩
    · have W := wriD_ok (g := g.ren l) (d := d) (at_ := 0) (s := laidL l) h.dead har h.half.base.lo h.half.base.len (by rw [laidL_len]; omega) hl
      refine ⟨_, _, W.wr, by omega, hst1, W.v, fun hv p hp => ?_, fun p hp => ?_, by have := W.acts; rw [laidL_len] at this; omega⟩
      · have := W.got hv p (by rw [laidL_len]; exact hp)
        rw [Nat.zero_add] at this
        exact this
      · unfold byteS
        have hps : p / 64 < secN d := by have := h.half.A.lesp; unfold spaceN at this; omega
        rw [(W.wr.out (startN d g.m.ar + p / 64) ?_).1]
        rw [ea]
        have h1 := h.half.A.ar
        unfold startN
        rcases (show g.m.ar = 0 ∨ g.m.ar = 1 by omega) with e | e
        · rw [e]; left; simp; omega
        · rw [e]; right; first | (simp; done) | (simp; omega)
  obtain ⟨st, hi, kw, k1, k2, kv, kg, kk, ka⟩ := key
  have hH : Half (wriD (g.ren l) d 0 (laidL l)).1 g.m (g.recs.take g.m.nu) := h.half.wrote kw k1 k2 kk
  have hv : (wriD (g.ren l) d 0 (laidL l)).2 = 0 ∧ (wriD (g.ren l) d 0 (laidL l)).1.dead = false ∨ (wriD (g.ren l) d 0 (laidL l)).2 = 2 ∧ (wriD (g.ren l) d 0 (laidL l)).1.dead = true := by
    cases he : (wriD (g.ren l) d 0 (laidL l)).1.dead <;> rw [he] at kv <;> simp at kv
    · exact .inl ⟨kv, rfl⟩
    · exact .inr ⟨kv, rfl⟩
  unfold renD renL
  generalize wriD (g.ren l) d 0 (laidL l) = r at *
  obtain ⟨e1, e2, e3⟩ := startN_n kw.sz (1 - g.m.ar)
  rcases hv with ⟨hv, hd⟩ | ⟨hv, hd⟩
  · rw [if_pos hv, if_pos hv]
    obtain ⟨h1, h2, h3, h4, h5⟩ := set_out (g := g) (g1 := g.ren l) hH hd rfl hc rfl (by rw [e3]; exact hro)
      (fun p hp => by
        show byteS r.1.S (startN r.1 (1 - g.m.ar)) p = _
        rw [e1]; exact kg hv p hp)
      hal har h.half.A.a h.half.A.b h.doubt
    have et : l.take l.length = l := List.take_length
    exact ⟨h1, fun hh => ⟨fun hl => (h2 hh).1 (kw.left hl h.dead).1, (h2 hh).2.imp id (fun t => by show Two _ _ _ _ (l.take l.length); rw [et]; exact t)⟩, h3.trans kw.sz, fun hl => h4 (kw.left hl h.dead).1, by omega⟩
  · rw [if_neg (by rw [hv]; decide), if_neg (by rw [hv]; decide)]
    refine ⟨fun hne => absurd hv hne, fun _ => ⟨fun hl => ?_, .inl hH⟩, kw.sz, fun hl => (kw.left hl h.dead).1, by omega⟩
    rw [(kw.left hl h.dead).2] at hd; cases hd

/-! ### a disk that was formatted -/
theorem for_good {d : DSt} (hb : Base d) (hd : d.dead = false) (hleft : d.left = 0) : Good (forD d) log0.bump ∧ (forD d).left = 0 ∧ (forD d).n = d.n ∧ (forD d).acts ≤ d.acts + 3 := by
  have hlo := hb.lo
  obtain ⟨x1, x2, x3, x4, x5, x6⟩ := writeD_in (d := d) (k := 0) (s := zeros) (by omega) (by simp [zeros]) hd
  have hw0 := wrote_one (d := d) (k := 0) (s := zeros) (by omega) (by simp [zeros]) hd
  have hx5 := x5 hleft
  have e0 : (writeD d 0 zeros) = writeD d ((0 : Nat) : Int) zeros := rfl
  unfold forD
  rw [e0]
  generalize (writeD d ((0 : Nat) : Int) zeros) = r at *
  obtain ⟨y1, y2, y3, y4, y5, y6⟩ := writeD_in (d := r.1) (k := 1) (s := markL log0.bump.m) (by omega) (markL_len _) hx5.2
  have hw1 := wrote_one (d := r.1) (k := 1) (s := markL log0.bump.m) (by omega) (markL_len _) hx5.2
  have hy5 := y5 hx5.1
  have e : advD log0 r.1 = if (writeD r.1 ((1 : Nat) : Int) (markL log0.bump.m)).2 = 0 then syncD (writeD r.1 ((1 : Nat) : Int) (markL log0.bump.m)).1 else writeD r.1 ((1 : Nat) : Int) (markL log0.bump.m) := rfl
  rw [e]
  rw [hy5.2] at y4
  rw [if_pos (by rw [y4]; rfl)]
  have hB := (hb.wrote hw0 (by omega)).wrote hw1 (by omega)
  have hlen := (hw0.len hb.len)
  generalize writeD r.1 ((1 : Nat) : Int) (markL log0.bump.m) = q at *
  have sy := syncD_ok hy5.2
  rcases sy.v with ⟨s1, s2, s3⟩ | ⟨_, _, s3, _⟩
  · have hn : (syncD q.1).1.n = d.n := by rw [sy.n, y3, x3]
    refine ⟨⟨⟨⟨by rw [hn]; exact hb.lo, by rw [hn]; exact hb.hi, fun i hi => ?_, fun i o ho => ?_⟩, ⟨fun p hp => absurd hp (Nat.not_lt_zero _), rfl, rfl, fun r hr => by simp [log0, LSt.bump] at hr, by decide, Nat.zero_le _, by decide, by decide, by decide, by decide⟩, fun i j o ho => ?_, ?_, ?_, fun i _ => s3 i⟩, Nat.zero_le _, rfl, Nat.zero_le _, fun p hp => absurd hp (Nat.not_lt_zero _), fun r hr => by simp [log0, LSt.bump] at hr, s2, rfl⟩, sy.left hy5.1, hn, by rw [sy.acts, y6, x6]; omega⟩
    · rw [sy.S]; exact hB.len i (by rw [← sy.n]; exact hi)
    · rw [s3] at ho; cases ho
    · rw [s3] at ho; cases ho
    · show (syncD q.1).1.S 1 = _
      rw [sy.S, y1, upd_same]
    · show Tn ((syncD q.1).1.S 0) 2
      rw [sy.S, y1, upd_other _ _ _ (by decide), x1, upd_same]
      exact tn_zeros (by decide) (by decide)
  · exact absurd hy5.1 s3
end Go.Proofs.Ytmfngbgdmlnlcaa
