/- Two pairs of trackers; SessionPlays, walked. -/
import Derived.Test.YtlfcccckghnffaaSm
namespace Go.Proofs.Ytlfcccckghnffaa
open Go.ChangeShapes Go.WideShapes Go.ChangeAt Go.RowKit Go.Maps
set_option linter.unusedVariables false
set_option linter.unusedSimpArgs false
def updL (L : Nat → SL) (j : Nat) (l : SL) : Nat → SL := fun i => if i = j then l else L i
/-- two pairs, and the rows of their pointers -/
structure St2 (w0 : World) (T R : Nat → Nat) (g4 g5 : Nat) (L : Nat → SL) (c N : Nat) (w : World) : Prop where
  ex : ∃ (Q : Nat → SQ) (V : Nat → Value) (B : Nat → Nat), (∀ j, j < 2 → PD w (Q j) (R j) (V j) (B j) (L j) (L j) c ∧ (Q j).t = T j ∧ ∀ k, PBs (Q j) (R j) (V j) k → w0.heap.size ≤ k ∧ k < N ∧ k ≠ g4 ∧ k ≠ g5) ∧
    ∀ i j, i < 2 → j < 2 → i ≠ j → ∀ k, PBs (Q i) (R i) (V i) k → ¬ PBs (Q j) (R j) (V j) k
  kp : Kept (fun _ => False) w0 w
  h4 : w.heap[g4]? = some (.cells #[.pointer (some ⟨T 0, 0, none⟩), .pointer (some ⟨T 1, 0, none⟩)] 24 (0, 0))
  h5 : w.heap[g5]? = some (.cells #[.pointer (some ⟨R 0, 0, none⟩), .pointer (some ⟨R 1, 0, none⟩)] 27 (0, 0))
  n4 : g4 < N ∧ g5 < N ∧ N ≤ w.heap.size
section
variable {w0 w w' : World} {T R : Nat → Nat} {g4 g5 : Nat} {L : Nat → SL} {c N : Nat}
theorem St2.kept {X : Nat → Prop} (h : St2 w0 T R g4 g5 L c N w) (hk : Kept X w w') (hX : ∀ k, X k → N ≤ k) : St2 w0 T R g4 g5 L c N w' := by
  obtain ⟨Q, V, B, h1, h2⟩ := h.ex
  have hn := h.n4
  have h0 := h.kp.size
  refine ⟨⟨Q, V, B, fun j hj => ?_, h2⟩, h.kp.trans' hk (fun k hk' hx => ?_), ?_, ?_, ⟨hn.1, hn.2.1, Nat.le_trans hn.2.2 hk.size⟩⟩
  · obtain ⟨a1, a2, a3⟩ := h1 j hj
    exact ⟨a1.kept hk (fun k hp hx => by have := hX k hx; have := a3 k hp; omega), a2, a3⟩
  · obtain ⟨a1, a2, a3⟩ := h1 0 (by omega)
    have := hX k hx
    have := (a3 _ (.inl (.inl rfl))).1
    have := (a3 _ (.inl (.inl rfl))).2.1
    exact absurd hk' (by have h9 := h.n4; omega)
  · rw [hk.block g4 (by omega) (fun hx => by have := hX _ hx; omega)]; exact h.h4
  · rw [hk.block g5 (by omega) (fun hx => by have := hX _ hx; omega)]; exact h.h5
theorem St2.kept0 (h : St2 w0 T R g4 g5 L c N w) (hk : Kept (fun _ => False) w w') : St2 w0 T R g4 g5 L c N w' := h.kept hk (fun _ f => f.elim)
theorem St2.t_at (h : St2 w0 T R g4 g5 L c N w) {j : Nat} (hj : j < 2) : w.cell? ⟨g4, j, none⟩ = some (.pointer (some ⟨T j, 0, none⟩)) := by
  have hb := h.h4
  rcases (show j = 0 ∨ j = 1 by omega) with rfl | rfl <;> simp [World.cell?, hb]
theorem St2.r_at (h : St2 w0 T R g4 g5 L c N w) {j : Nat} (hj : j < 2) : w.cell? ⟨g5, j, none⟩ = some (.pointer (some ⟨R j, 0, none⟩)) := by
  have hb := h.h5
  rcases (show j = 0 ∨ j = 1 by omega) with rfl | rfl <;> simp [World.cell?, hb]
theorem St2.pair (h : St2 w0 T R g4 g5 L c N w) {j : Nat} (hj : j < 2) : ∃ q v B, PD w q (R j) v B (L j) (L j) c ∧ q.t = T j := by
  obtain ⟨Q, V, B, h1, h2⟩ := h.ex
  obtain ⟨a1, a2, _⟩ := h1 j hj
  exact ⟨_, _, _, a1, a2⟩
theorem St2.ok (h : St2 w0 T R g4 g5 L c N w) {j : Nat} (hj : j < 2) : SlOk (L j) := by
  obtain ⟨q, v, B, h1, _⟩ := h.pair hj
  exact h1.a.ok
theorem s2_dead (h : St2 w0 T R g4 g5 L c N w) {j : Nat} (hj : j < 2) (i : Int) (hi : I64 i) {a b : Int} (ha : deadN (L j) i = a) (hb : deadE (L j) i = b) : Calls Try.prog 11 #[.pointer (some ⟨T j, 0, none⟩), .int .i64 i] w fun e w' => e = .returned (.tuple #[.int .i64 a, .int .i64 b]) ∧ Kept (fun _ => False) w w' := by
  obtain ⟨q, v, B, h1, h2⟩ := h.pair hj
  rw [← h2, ← ha, ← hb]
  exact dead_any h1.a i hi
theorem s2_rdead (h : St2 w0 T R g4 g5 L c N w) {j : Nat} (hj : j < 2) (i : Int) {a b : Int} (ha : deadN (L j) i = a) (hb : deadE (L j) i = b) : Calls Try.prog 12 #[.pointer (some ⟨R j, 0, none⟩), .int .i64 i] w fun e w' => e = .returned (.tuple #[.int .i64 a, .int .i64 b]) ∧ w' = w := by
  obtain ⟨q, v, B, h1, h2⟩ := h.pair hj
  rw [← ha, ← hb]
  exact (rdead_any h1.b i).mono fun e w' ⟨h1, h2⟩ => ⟨h1, h2.symm⟩
theorem s2_exp (h : St2 w0 T R g4 g5 L c N w) {j : Nat} (hj : j < 2) (now : Int) (hi : I64 now) {l : List Int} (hl : expL (L j) now = l) : Calls Try.prog 13 #[.pointer (some ⟨T j, 0, none⟩), .int .i64 now] w (RowPost w l) := by
  obtain ⟨q, v, B, h1, h2⟩ := h.pair hj
  rw [← h2, ← hl]
  exact exp_any h1.a now hi
theorem s2_all (h : St2 w0 T R g4 g5 L c N w) {j : Nat} (hj : j < 2) {l : List Int} (hl : allL (L j) = l) : Calls Try.prog 14 #[.pointer (some ⟨T j, 0, none⟩)] w (RowPost w l) := by
  obtain ⟨q, v, B, h1, h2⟩ := h.pair hj
  rw [← h2, ← hl]
  exact all_any h1.a
theorem s2_rexp (h : St2 w0 T R g4 g5 L c N w) {j : Nat} (hj : j < 2) (now : Int) {l : List Int} (hl : expL (L j) now = l) : Calls Try.prog 16 #[.pointer (some ⟨R j, 0, none⟩), .int .i64 now] w (RowPost w l) := by
  obtain ⟨q, v, B, h1, h2⟩ := h.pair hj
  rw [← hl]
  exact rexp_any h1.b now
theorem s2_rall (h : St2 w0 T R g4 g5 L c N w) {j : Nat} (hj : j < 2) {l : List Int} (hl : allL (L j) = l) : Calls Try.prog 17 #[.pointer (some ⟨R j, 0, none⟩)] w (RowPost w l) := by
  obtain ⟨q, v, B, h1, h2⟩ := h.pair hj
  rw [← hl]
  exact rall_any h1.b
theorem s2_do (h : St2 w0 T R g4 g5 L c N w) {j : Nat} (hj : j < 2) (s : St4) (h64 : I64 s.what ∧ I64 s.id ∧ I64 s.to ∧ I64 s.now) (hc : c < 4611686018427387904) :
    Calls Try.prog 10 #[.pointer (some ⟨T j, 0, none⟩), .pointer (some ⟨R j, 0, none⟩), .agg #[.int .i64 s.what, .int .i64 s.id, .int .i64 s.to, .int .i64 s.now]] w fun e w' => e = .returned (.bool true) ∧ St2 w0 T R g4 g5 (updL L j (doL s (L j))) (c + 1) w'.heap.size w' ∧ ∀ k, k < w.heap.size → N ≤ k → w'.heap[k]? = w.heap[k]? := by
  obtain ⟨Q, V, B, h1, h2⟩ := h.ex
  obtain ⟨a1, a2, a3⟩ := h1 j hj
  have hn := h.n4
  have hsz := h.kp.size
  rw [← a2]
  refine (do_any a1 s h64 hc).mono fun e w' ⟨he, hm⟩ => ?_
  obtain ⟨q, v, b, g1, g2, g3, g6⟩ := hm
  have hs := g6.size
  refine ⟨he, ⟨⟨fun i => if i = j then q else Q i, fun i => if i = j then v else V i, fun i => if i = j then b else B i, fun i hi => ?_, fun i i' hi hi' hne k hk hk' => ?_⟩, h.kp.trans' g6 (fun k hk hp => by have := a3 k hp; omega), ?_, ?_, ⟨by omega, by omega, Nat.le_refl _⟩⟩, fun k hk hN => g6.block k hk (fun hp => by have := a3 k hp; omega)⟩
  · by_cases e : i = j
    · subst e
      simp only [if_true, updL]
      refine ⟨g1, g2.trans a2, fun k hk => ?_⟩
      have hk9 := g1.lt k hk
      rcases g3 k hk with h5 | h5
      · have := a3 k h5; omega
      · omega
    · simp only [if_neg e, updL]
      obtain ⟨b1, b2, b3⟩ := h1 i hi
      exact ⟨(b1.kept g6 (fun k hk hp => h2 i j hi hj e k hk hp)).mono (Nat.le_succ c), b2, fun k hk => by have := b3 k hk; omega⟩
  · by_cases e : i = j
    · subst e
      have e' : ¬ i' = i := fun e' => hne e'.symm
      simp only [if_true] at hk
      simp only [if_neg e'] at hk'
      obtain ⟨b1, b2, b3⟩ := h1 i' hi'
      rcases g3 k hk with h5 | h5
      · exact h2 i i' hi hi' hne k h5 hk'
      · have := b3 k hk'; omega
    · simp only [if_neg e] at hk
      by_cases e2 : i' = j
      · subst e2
        simp only [if_true] at hk'
        obtain ⟨b1, b2, b3⟩ := h1 i hi
        rcases g3 k hk' with h5 | h5
        · exact h2 i i' hi hi' hne k hk h5
        · have := b3 k hk; omega
      · simp only [if_neg e2] at hk'
        exact h2 i i' hi hi' hne k hk hk'
  · rw [g6.block g4 (by omega) (fun hp => (a3 _ hp).2.2.1 rfl)]; exact h.h4
  · rw [g6.block g5 (by omega) (fun hp => (a3 _ hp).2.2.2 rfl)]; exact h.h5
theorem same_yes {BA BB : Nat} {va vb : Value} {l : List Int} (hA : ZRow BA w va l) (hB : ZRow BB w vb l) (hl : l.length ≤ 16) :
    Calls Try.prog 15 #[va, vb] w fun e w' => e = .returned (.bool true) ∧ Kept (fun _ => False) w w' :=
  (same_any hA hB (by omega)).mono fun e w' ⟨he, n, hw⟩ => ⟨by rw [he]; simp, by rw [hw]; exact kept_drewN _ _⟩
/-- within a round: with the rows of the answers, and the step's box -/
structure Rn (w0 : World) (T R : Nat → Nat) (g4 g5 : Nat) (L : Nat → SL) (c N xb bo ba : Nat) (s : St4) (vo va : Value) (lo la : List Int) (w : World) : Prop where
  st : St2 w0 T R g4 g5 L c N w
  box : w.heap[xb]? = some (.cells #[.int .i64 s.what, .int .i64 s.id, .int .i64 s.to, .int .i64 s.now] 31 (0, 0))
  ro : ZRow bo w vo lo
  ra : ZRow ba w va la
variable {xb bo ba : Nat} {s : St4} {vo va : Value} {lo la : List Int}
theorem Rn.kept0 (h : Rn w0 T R g4 g5 L c N xb bo ba s vo va lo la w) (hk : Kept (fun _ => False) w w') : Rn w0 T R g4 g5 L c N xb bo ba s vo va lo la w' :=
  ⟨h.st.kept0 hk, by rw [hk.block _ (lt_of_block h.box) (fun f => f)]; exact h.box, zrow_kept h.ro hk (fun _ _ f => f), zrow_kept h.ra hk (fun _ _ f => f)⟩
theorem Rn.drew (h : Rn w0 T R g4 g5 L c N xb bo ba s vo va lo la w) : Rn w0 T R g4 g5 L c N xb bo ba s vo va lo la w.drew := h.kept0 ((Kept.refl _ w).drew)
theorem Rn.two (h : Rn w0 T R g4 g5 L c N xb bo ba s vo va lo la w) {j : Nat} (hj : j < 2) : w.cell? ⟨g5, j, none⟩ = some (.pointer (some ⟨R j, 0, none⟩)) ∧ w.cell? ⟨xb, 3, none⟩ = some (.int .i64 s.now) := ⟨h.st.r_at hj, (four_cells h.box).2.2.2⟩
theorem Rn.twoT (h : Rn w0 T R g4 g5 L c N xb bo ba s vo va lo la w) {j : Nat} (hj : j < 2) : w.cell? ⟨g4, j, none⟩ = some (.pointer (some ⟨T j, 0, none⟩)) ∧ w.cell? ⟨xb, 1, none⟩ = some (.int .i64 s.id) := ⟨h.st.t_at hj, (four_cells h.box).2.1⟩
theorem Rn.twoR (h : Rn w0 T R g4 g5 L c N xb bo ba s vo va lo la w) {j : Nat} (hj : j < 2) : w.cell? ⟨g5, j, none⟩ = some (.pointer (some ⟨R j, 0, none⟩)) ∧ w.cell? ⟨xb, 1, none⟩ = some (.int .i64 s.id) := ⟨h.st.r_at hj, (four_cells h.box).2.1⟩
theorem rn_dead (h : Rn w0 T R g4 g5 L c N xb bo ba s vo va lo la w) {j : Nat} (hj : j < 2) (i : Int) (hi : I64 i) {a b : Int} (ha : deadN (L j) i = a) (hb : deadE (L j) i = b) : Calls Try.prog 11 #[.pointer (some ⟨T j, 0, none⟩), .int .i64 i] w fun e w' => e = .returned (.tuple #[.int .i64 a, .int .i64 b]) ∧ Rn w0 T R g4 g5 L c N xb bo ba s vo va lo la w' :=
  (s2_dead h.st hj i hi ha hb).mono fun e w' ⟨h1, h2⟩ => ⟨h1, h.kept0 h2⟩
theorem rn_rdead (h : Rn w0 T R g4 g5 L c N xb bo ba s vo va lo la w) {j : Nat} (hj : j < 2) (i : Int) {a b : Int} (ha : deadN (L j) i = a) (hb : deadE (L j) i = b) : Calls Try.prog 12 #[.pointer (some ⟨R j, 0, none⟩), .int .i64 i] w fun e w' => e = .returned (.tuple #[.int .i64 a, .int .i64 b]) ∧ Rn w0 T R g4 g5 L c N xb bo ba s vo va lo la w' :=
  (s2_rdead h.st hj i ha hb).mono fun e w' ⟨h1, h2⟩ => ⟨h1, h2 ▸ h⟩
theorem rn_rexp (h : Rn w0 T R g4 g5 L c N xb bo ba s vo va lo la w) {j : Nat} (hj : j < 2) (now : Int) (hl : expL (L j) now = lo) : Calls Try.prog 16 #[.pointer (some ⟨R j, 0, none⟩), .int .i64 now] w fun e w' => ∃ v, e = .returned v ∧ ZRow w.heap.size w' v lo ∧ Rn w0 T R g4 g5 L c N xb bo ba s vo va lo la w' :=
  (s2_rexp h.st hj now hl).mono fun e w' ⟨v, h1, h2, h3⟩ => ⟨v, h1, h2, h.kept0 h3⟩
theorem rn_rall (h : Rn w0 T R g4 g5 L c N xb bo ba s vo va lo la w) {j : Nat} (hj : j < 2) (hl : allL (L j) = la) : Calls Try.prog 17 #[.pointer (some ⟨R j, 0, none⟩)] w fun e w' => ∃ v, e = .returned v ∧ ZRow w.heap.size w' v la ∧ Rn w0 T R g4 g5 L c N xb bo ba s vo va lo la w' :=
  (s2_rall h.st hj hl).mono fun e w' ⟨v, h1, h2, h3⟩ => ⟨v, h1, h2, h.kept0 h3⟩
theorem rn_same_o (h : Rn w0 T R g4 g5 L c N xb bo ba s vo va lo la w) {B : Nat} {v : Value} (hv : ZRow B w v lo) (hl : lo.length ≤ 16) : Calls Try.prog 15 #[vo, v] w fun e w' => e = .returned (.bool true) ∧ Rn w0 T R g4 g5 L c N xb bo ba s vo va lo la w' :=
  (same_yes h.ro hv hl).mono fun e w' ⟨h1, h2⟩ => ⟨h1, h.kept0 h2⟩
theorem rn_same_a (h : Rn w0 T R g4 g5 L c N xb bo ba s vo va lo la w) {B : Nat} {v : Value} (hv : ZRow B w v la) (hl : la.length ≤ 16) : Calls Try.prog 15 #[va, v] w fun e w' => e = .returned (.bool true) ∧ Rn w0 T R g4 g5 L c N xb bo ba s vo va lo la w' :=
  (same_yes h.ra hv hl).mono fun e w' ⟨h1, h2⟩ => ⟨h1, h.kept0 h2⟩
end
section
variable {w0 w w' : World} {T R : Nat → Nat} {g4 g5 : Nat} {L : Nat → SL} {c N : Nat}
theorem s2_all2 (h : St2 w0 T R g4 g5 L c N w) {j : Nat} (hj : j < 2) {l : List Int} (hl : allL (L j) = l) : Calls Try.prog 14 #[.pointer (some ⟨T j, 0, none⟩)] w fun e w' => ∃ v, e = .returned v ∧ ZRow w.heap.size w' v l ∧ St2 w0 T R g4 g5 L c N w' :=
  (s2_all h hj hl).mono fun e w' ⟨v, h1, h2, h3⟩ => ⟨v, h1, h2, h.kept0 h3⟩
theorem s2_rall2 (h : St2 w0 T R g4 g5 L c N w) {j : Nat} (hj : j < 2) {l : List Int} (hl : allL (L j) = l) {B : Nat} {v : Value} (hr : ZRow B w v l) : Calls Try.prog 17 #[.pointer (some ⟨R j, 0, none⟩)] w fun e w' => ∃ v', e = .returned v' ∧ ZRow w.heap.size w' v' l ∧ ZRow B w' v l ∧ St2 w0 T R g4 g5 L c N w' :=
  (s2_rall h hj hl).mono fun e w' ⟨v, h1, h2, h3⟩ => ⟨v, h1, h2, zrow_kept hr h3 (fun _ _ f => f), h.kept0 h3⟩
theorem s2_same2 (h : St2 w0 T R g4 g5 L c N w) {BA BB : Nat} {va vb : Value} {l : List Int} (hA : ZRow BA w va l) (hB : ZRow BB w vb l) (hl : l.length ≤ 16) : Calls Try.prog 15 #[va, vb] w fun e w' => e = .returned (.bool true) ∧ St2 w0 T R g4 g5 L c N w' :=
  (same_yes hA hB hl).mono fun e w' ⟨h1, h2⟩ => ⟨h1, h.kept0 h2⟩
theorem St2.both (h : St2 w0 T R g4 g5 L c N w) : (w.cell? ⟨g4, 0, none⟩ = some (.pointer (some ⟨T 0, 0, none⟩)) ∧ w.cell? ⟨g5, 0, none⟩ = some (.pointer (some ⟨R 0, 0, none⟩))) ∧ w.cell? ⟨g4, 1, none⟩ = some (.pointer (some ⟨T 1, 0, none⟩)) ∧ w.cell? ⟨g5, 1, none⟩ = some (.pointer (some ⟨R 1, 0, none⟩)) := ⟨⟨h.t_at (by decide), h.r_at (by decide)⟩, h.t_at (by decide), h.r_at (by decide)⟩
end
structure PlyRel (w : World) (T R : Nat → Nat) (g4 g5 len : Nat) (iv : Value) (wr : World) : Prop where
  ex : ∃ (k c N : Nat) (L : Nat → SL), iv = .int .i64 k ∧ k ≤ len ∧ c ≤ k ∧ St2 w T R g4 g5 L c N wr
/-- a row that is written over -/
structure OvRel (w0 : World) (T R : Nat → Nat) (g4 g5 : Nat) (L : Nat → SL) (c N n : Nat) (v v2 : Value) (b1 b2 n2 : Nat) (iv : Value) (wr : World) : Prop where
  ex : ∃ (k : Nat) (l l2 : List Int), iv = .int .i64 k ∧ k ≤ n ∧ l.length = n ∧ l2.length = n2 ∧ ZRow b1 wr v l ∧ ZRow b2 wr v2 l2 ∧ St2 w0 T R g4 g5 L c N wr
theorem zrow_set {w : World} {B g cap : Nat} {l : List Int} (h : ZRow B w (.slice (some ⟨g, 0, none⟩) l.length cap) l) {i : Nat} (hi : i < l.length) (x : Int) : ZRow B (w.setCell ⟨g, i, none⟩ (.int .i64 x)) (.slice (some ⟨g, 0, none⟩) l.length cap) (l.set i x) := by
  have := own_set h (j := i) (by simpa using hi) (.int .i64 x)
  unfold ZRow
  rw [List.length_set, List.map_set]
  exact this
set_option maxRecDepth 100000 in
set_option maxHeartbeats 4000000 in
theorem plays_walk (w : World) (sa : Option Addr) (scap : Nat) (os : List St4) (hos : StepsAt w sa os) :
    Calls Try.prog 3 #[.slice sa os.length scap] w fun e w' => e = .returned (.bool true) ∧ Kept (fun _ => False) w w' := by
  have HOS := Lib.hid hos
  have hol := hos.room
  have HAW := Lib.hid (awake_any w)
  clear hos
  go_enter Try.func3, Try.ntmps3
  go_wp2_with fail
  refine HAW.out.mono ?_
  rintro e w1 ⟨rfl, hk1⟩
  have HK1 := Lib.hid hk1
  clear hk1
  go_wp2_with fail
  refine (new_any _).mono ?_
  rintro e w2 ⟨q0, rfl, hq2, hb2, hk2⟩
  have HQ2 := Lib.hid hq2
  have HB2 := Lib.hid hb2
  have HK2 := Lib.hid (HK1.out.trans hk2)
  have hz1 := HK1.out.size
  have hz2 := hk2.size
  clear hq2 hb2 hk2
  go_wp2_with fail
  refine (new_any _).mono ?_
  rintro e w3 ⟨q1, rfl, hq3, hb3, hk3⟩
  have HQ3 := Lib.hid hq3
  have HB3 := Lib.hid hb3
  have HQ2' := Lib.hid (HQ2.out.kept0 hk3)
  have HK3 := Lib.hid (HK2.out.trans hk3)
  have hz3 := hk3.size
  clear hq3 hb3 hk3
  have hA4 := (Kept.refl (fun _ => False) w3).alloc (.cells #[.pointer (some ⟨q0.t, 0, none⟩), .pointer (some ⟨q1.t, 0, none⟩)] 24)
  have HA4 := Lib.hid hA4
  have HG4 := Lib.hid (World.alloc_heap_new w3 (.cells #[.pointer (some ⟨q0.t, 0, none⟩), .pointer (some ⟨q1.t, 0, none⟩)] 24))
  clear hA4
  go_wp2_with fail
  refine (rnew_any _).mono ?_
  rintro e w5 ⟨r0, rfl, hr5, he5, hk5⟩
  have HR5 := Lib.hid hr5
  have HE5 := Lib.hid he5
  have HK5 := Lib.hid hk5
  clear hr5 he5 hk5
  go_wp2_with fail
  refine (rnew_any _).mono ?_
  rintro e w6 ⟨r1, rfl, hr6, he6, hk6⟩
  have HR6 := Lib.hid hr6
  have HE6 := Lib.hid he6
  have HK6 := Lib.hid hk6
  clear hr6 he6 hk6
  have hz5 := HK5.out.size
  have hz6 := HK6.out.size
  simp only [World.size_alloc] at hz5
  have hA7 := (Kept.refl (fun _ => False) w6).alloc (.cells #[.pointer (some ⟨r0, 0, none⟩), .pointer (some ⟨r1, 0, none⟩)] 27)
  obtain ⟨T, hT⟩ : ∃ T : Nat → Nat, T = fun j => if j = 0 then q0.t else q1.t := ⟨_, rfl⟩
  obtain ⟨R, hR⟩ : ∃ R : Nat → Nat, R = fun j => if j = 0 then r0 else r1 := ⟨_, rfl⟩
  have hT0 : T 0 = q0.t := by rw [hT]; rfl
  have hT1 : T 1 = q1.t := by rw [hT]; rfl
  have hR0 : R 0 = r0 := by rw [hR]; rfl
  have hR1 : R 1 = r1 := by rw [hR]; rfl
  have HST : Hid (St2 w T R w3.heap.size w6.heap.size (fun _ => []) 0 (w6.alloc (.cells #[.pointer (some ⟨r0, 0, none⟩), .pointer (some ⟨r1, 0, none⟩)] 27)).heap.size (w6.alloc (.cells #[.pointer (some ⟨r0, 0, none⟩), .pointer (some ⟨r1, 0, none⟩)] 27))) := by
    -- the two pairs
    have hbq0 : ∀ k, SQs q0 k → w1.heap.size ≤ k ∧ k < w2.heap.size := fun k hk => ⟨HB2.out k hk, HQ2.out.lt k hk⟩
    have hbq1 : ∀ k, SQs q1 k → w2.heap.size ≤ k ∧ k < w3.heap.size := fun k hk => ⟨HB3.out k hk, HQ3.out.lt k hk⟩
    have hr0 : r0 = w3.heap.size + 1 := by have := HE5.out; simpa using this
    have hr1 : r1 = w5.heap.size := HE6.out
    have hr0l : r0 < w5.heap.size := lt_of_block HR5.out.at_
    have hr1l : r1 < w6.heap.size := lt_of_block HR6.out.at_
    have hall : Kept (fun _ => False) w3 (w6.alloc (.cells #[.pointer (some ⟨r0, 0, none⟩), .pointer (some ⟨r1, 0, none⟩)] 27)) := ((HA4.out.trans HK5.out).trans HK6.out).trans hA7
    refine ⟨⟨fun j => if j = 0 then q0 else q1, fun _ => .slice none 0 0, fun j => if j = 0 then (w3.alloc (.cells #[.pointer (some ⟨q0.t, 0, none⟩), .pointer (some ⟨q1.t, 0, none⟩)] 24)).heap.size else w5.heap.size, fun j hj => ?_, fun i j hi hj hij k hk hk' => ?_⟩, HK3.out.trans hall, ?_, ?_, ⟨by simp; omega, by simp, Nat.le_refl _⟩⟩
    · rcases (show j = 0 ∨ j = 1 by omega) with rfl | rfl
      · rw [hR0, hT0]
        simp only [if_true]
        refine ⟨⟨HQ2'.out.kept0 hall, HR5.out.kept0 (HK6.out.trans hA7), fun k hk hk' => ?_⟩, by simp, fun k hk => ?_⟩
        · have := hbq0 k hk
          rcases hk' with e | e
          · omega
          · cases e
        · simp only [World.size_alloc]
          rcases hk with hk | e | e
          · have := hbq0 k hk; omega
          · omega
          · cases e
      · rw [hR1, hT1]
        simp only [show ¬ (1 : Nat) = 0 from by decide, if_false]
        refine ⟨⟨HQ3.out.kept0 hall, HR6.out.kept0 hA7, fun k hk hk' => ?_⟩, by simp, fun k hk => ?_⟩
        · have := hbq1 k hk
          rcases hk' with e | e
          · omega
          · cases e
        · simp only [World.size_alloc]
          rcases hk with hk | e | e
          · have := hbq1 k hk; omega
          · omega
          · cases e
    · have hcov : ∀ i, i < 2 → ∀ k, PBs (if i = 0 then q0 else q1) (R i) (.slice none 0 0) k → (i = 0 ∧ (SQs q0 k ∨ k = r0)) ∨ (i = 1 ∧ (SQs q1 k ∨ k = r1)) := fun i hi k hk => by
        rcases (show i = 0 ∨ i = 1 by omega) with rfl | rfl
        · rw [hR0] at hk
          rcases hk with hk | e | e
          · exact .inl ⟨rfl, .inl hk⟩
          · exact .inl ⟨rfl, .inr e⟩
          · cases e
        · rw [hR1] at hk
          rcases hk with hk | e | e
          · exact .inr ⟨rfl, .inl hk⟩
          · exact .inr ⟨rfl, .inr e⟩
          · cases e
      have c1 := hcov i hi k hk
      have c2 := hcov j hj k hk'
      rcases c1 with ⟨e1, c1⟩ | ⟨e1, c1⟩ <;> rcases c2 with ⟨e2, c2⟩ | ⟨e2, c2⟩
      · omega
      · rcases c1 with c1 | c1 <;> rcases c2 with c2 | c2
        · have := hbq0 k c1; have := hbq1 k c2; omega
        · have := hbq0 k c1; omega
        · have := hbq1 k c2; omega
        · omega
      · rcases c1 with c1 | c1 <;> rcases c2 with c2 | c2
        · have := hbq1 k c1; have := hbq0 k c2; omega
        · have := hbq1 k c1; omega
        · have := hbq0 k c2; omega
        · omega
      · omega
    · rw [hT0, hT1, hA7.block _ (by omega) (fun f => f), HK6.out.block _ (by omega) (fun f => f), HK5.out.block _ (by simp) (fun f => f)]; exact HG4.out
    · rw [hR0, hR1]; exact World.alloc_heap_new w6 _
  have HKEND := Lib.hid HST.out.kp
  obtain ⟨W7, hW7⟩ : ∃ W, w6.alloc (.cells #[.pointer (some ⟨r0, 0, none⟩), .pointer (some ⟨r1, 0, none⟩)] 27) = W := ⟨_, rfl⟩
  have t0 := HST.out.t_at (j := 0) (by decide)
  have t1 := HST.out.t_at (j := 1) (by decide)
  clear hT hR hT0 hT1 hR0 hR1 hA7 HA4 HG4 HR5 HR6 HE5 HE6 HK5 HK6 HQ2' HQ3 HB3 HB2 HQ2 HK3 HK2 HK1 HKEND HAW hz1 hz2 hz3 hz5 hz6
  rw [hW7] at HST t0 t1
  go_wp2_with fail
  generalize w6.alloc _ = W7' at *
  subst hW7
  generalize w3.heap.size = g4 at *
  generalize w6.heap.size = g5 at *
  clear t0 t1
  go_loopw [6] (fun iv wr => PlyRel w T R g4 g5 os.length iv wr) (fun iv _ => os.length - (Go.RowKit.intOf iv).toNat)
  case atStart => exact ⟨0, 0, _, _, rfl, by omega, by omega, HST.out⟩
  case round =>
    obtain ⟨k, c, N, L, rfl, hk, hc, hst⟩ := hrel.ex
    clear hrel HST
    by_cases hlt : k < os.length
    · have hos2 := (HOS.out.kept hst.kp).at_
      obtain ⟨b, off, rfl, hblt, hcells⟩ := hos2.resolve_left (by omega)
      obtain ⟨x0, x1, x2, x3⟩ := hcells k hlt
      have hfit := HOS.out.fits os[k] (List.getElem_mem hlt)
      obtain ⟨o, ho⟩ : ∃ o, os[k] = o := ⟨_, rfl⟩
      rw [ho] at x0 x1 x2 x3 hfit
      have HF := Lib.hid hfit
      obtain ⟨j, hj⟩ : ∃ j, absN o.to % 2 = j := ⟨_, rfl⟩
      have hj2 : j < 2 := by omega
      have hi0 : 0 ≤ (j : Int) := by omega
      have hi1 : (j : Int) < 2 := by omega
      have HPK := Lib.hid (fun V => pick_nat o.to 2 V hfit.2.2.1 (by decide) (by decide) hj)
      have hA := (Kept.refl (fun _ => False) wr).alloc (.cells #[.int .i64 o.what, .int .i64 o.id, .int .i64 o.to, .int .i64 o.now] 31)
      have HS1 := Lib.hid (hst.kept0 hA)
      have HX1 := Lib.hid (World.alloc_heap_new wr (.cells #[.int .i64 o.what, .int .i64 o.id, .int .i64 o.to, .int .i64 o.now] 31))
      have hNx : N ≤ wr.heap.size := hst.n4.2.2
      obtain ⟨xb, hxb⟩ : ∃ xb, wr.heap.size = xb := ⟨_, rfl⟩
      rw [hxb] at HX1 hNx
      clear hos2 hcells hst hfit hj ho hA
      go_wp2_with fail
      refine (HPK.out _).mono ?_
      rintro e w4 ⟨rfl, rfl⟩
      generalize wr.alloc _ = wa at HS1 HX1 ⊢
      clear x0 x1 x2 x3 hxb HPK
      have HS1d := Lib.hid (HS1.out.kept0 ((Kept.refl _ wa).drew))
      have t1 := HS1.out.t_at hj2
      have r1 := HS1.out.r_at hj2
      obtain ⟨y0, y1, y2, y3⟩ := four_cells HX1.out
      go_wp2_with fail
      go_still_tail 9, (by kernel_rfl)
      go_wp2_with fail
      refine (s2_do HS1d.out hj2 o HF.out (by omega)).mono ?_
      rintro e w5 ⟨rfl, hst5, hbl5⟩
      have hX5 : w5.heap[xb]? = some (.cells #[.int .i64 o.what, .int .i64 o.id, .int .i64 o.to, .int .i64 o.now] 31 (0, 0)) := (hbl5 xb (lt_of_block (w := wa.drew) HX1.out) hNx).trans HX1.out
      have HX5 := Lib.hid hX5
      obtain ⟨L5, hL5⟩ : ∃ L5, updL L j (doL o (L j)) = L5 := ⟨_, rfl⟩
      rw [hL5] at hst5
      obtain ⟨N5, hN5⟩ : ∃ N5, w5.heap.size = N5 := ⟨_, rfl⟩
      rw [hN5] at hst5
      have HS5 := Lib.hid hst5
      have HN5 := Lib.hid hN5
      obtain ⟨dn, hdn⟩ : ∃ a, deadN (L5 j) o.id = a := ⟨_, rfl⟩
      obtain ⟨de, hde⟩ : ∃ a, deadE (L5 j) o.id = a := ⟨_, rfl⟩
      obtain ⟨lo, hlo⟩ : ∃ a, expL (L5 j) o.now = a := ⟨_, rfl⟩
      obtain ⟨la, hla⟩ : ∃ a, allL (L5 j) = a := ⟨_, rfl⟩
      have hlo16 : lo.length ≤ 16 := by
        rw [← hlo]; unfold expL; rw [List.length_map]
        exact Nat.le_trans (List.length_filter_le _ _) (hst5.ok hj2).few
      have hla16 : la.length ≤ 16 := by rw [← hla, length_all]; exact (hst5.ok hj2).few
      have HDN := Lib.hid hdn
      have HDE := Lib.hid hde
      have HLO := Lib.hid hlo
      have HLA := Lib.hid hla
      clear hst5 hbl5 hX5 hL5 hN5 hdn hde hlo hla t1 r1 y0 y1 y2 y3 HS1 HS1d HX1
      obtain ⟨y0, y1, y2, y3⟩ := four_cells HX5.out
      have t1 := HS5.out.t_at hj2
      have r1 := HS5.out.r_at hj2
      have hra : Rn w T R g4 g5 L5 (c + 1) N5 xb 0 0 o (.slice none 0 0) (.slice none 0 0) [] [] w5 := ⟨HS5.out, HX5.out, World.ownsRow_nil _ _ _ _, World.ownsRow_nil _ _ _ _⟩
      have hrad := hra.drew
      go_wp2_with fail
      go_region_held3 (fun w' => w'.cell? ⟨g4, j, none⟩ = some (.pointer (some ⟨T j, 0, none⟩)) ∧ w'.cell? ⟨xb, 1, none⟩ = some (.int .i64 o.id)) (first | assumption | go_keep | exact Rn.twoT (by assumption) hj2)
        (first
          | (go_at_call 11; refine (rn_dead (by assumption) hj2 o.id HF.out.2.1 HDN.out HDE.out).mono ?_; rintro e w6 ⟨rfl, hp6⟩))
      have HR6 := Lib.hid hp6
      clear y0 y1 y2 y3 t1 r1 hra hrad hp6
      obtain ⟨r1, y1⟩ := HR6.out.twoR hj2
      have hrad := HR6.out.drew
      have hra := HR6.out
      go_wp2_with fail
      go_region_held3 (fun w' => w'.cell? ⟨g5, j, none⟩ = some (.pointer (some ⟨R j, 0, none⟩)) ∧ w'.cell? ⟨xb, 1, none⟩ = some (.int .i64 o.id)) (first | assumption | go_keep | exact Rn.twoR (by assumption) hj2)
        (first
          | (go_at_call 12; refine (rn_rdead (by assumption) hj2 o.id HDN.out HDE.out).mono ?_; rintro e w7 ⟨rfl, hp7⟩))
      have HS7 := Lib.hid hp7.st
      have HX7 := Lib.hid hp7.box
      clear r1 y1 hra hrad hp7
      obtain ⟨y0, y1, y2, y3⟩ := four_cells HX7.out
      have t1 := HS7.out.t_at hj2
      have r1 := HS7.out.r_at hj2
      have HS7d := Lib.hid (HS7.out.kept0 ((Kept.refl _ w7).drew))
      go_wp2_with fail
      go_still_tail 6, (by kernel_rfl)
      go_wp2_with fail
      refine (s2_exp HS7d.out hj2 o.now HF.out.2.2.2 HLO.out).mono ?_
      rintro e w8 ⟨vo, rfl, hr8, hk8⟩
      have hk8' : Kept (fun _ => False) w7 w8 := (((Kept.refl _ w7).drew).trans hk8)
      have HS8 := Lib.hid (HS7.out.kept0 hk8')
      have HX8 : Hid (w8.heap[xb]? = some (.cells #[.int .i64 o.what, .int .i64 o.id, .int .i64 o.to, .int .i64 o.now] 31 (0, 0))) := Lib.hid (by rw [hk8'.block xb (lt_of_block HX7.out) (fun f => f)]; exact HX7.out)
      have HRO8 := Lib.hid hr8
      have HZ8 := Lib.hid hk8'.size
      clear hk8 hk8' hr8 y0 y1 y2 y3 t1 r1 HS7d
      have t1 := HS8.out.t_at hj2
      go_wp2_with fail
      refine (s2_all HS8.out hj2 HLA.out).mono ?_
      rintro e w9 ⟨va, rfl, hr9, hk9⟩
      obtain ⟨ao, co, rfl⟩ := zrow_shape HRO8.out
      obtain ⟨aa, ca, rfl⟩ := zrow_shape hr9
      have HRN : Hid (Rn w T R g4 g5 L5 (c + 1) N5 xb w7.drew.heap.size w8.heap.size o (.slice ao lo.length co) (.slice aa la.length ca) lo la w9) := Lib.hid ⟨HS8.out.kept0 hk9, by rw [hk9.block xb (lt_of_block HX8.out) (fun f => f)]; exact HX8.out, zrow_kept HRO8.out hk9 (fun _ _ f => f), hr9⟩
      clear hr9 hk9 t1
      have hrnd := HRN.out.drew
      have r1 := HRN.out.st.r_at hj2
      obtain ⟨y0, y1, y2, y3⟩ := four_cells HRN.out.box
      go_wp2_with fail
      go_region_held3 (fun w' => w'.cell? ⟨g5, j, none⟩ = some (.pointer (some ⟨R j, 0, none⟩)) ∧ w'.cell? ⟨xb, 3, none⟩ = some (.int .i64 o.now)) (first | assumption | go_keep | exact Rn.two (by assumption) hj2)
        (first
          | (go_at_call 16; refine (rn_rexp (by assumption) hj2 _ HLO.out).mono ?_; rintro e w10 ⟨v10, rfl, hr10, hp10⟩)
          | (go_at_call 17; refine (rn_rall (by assumption) hj2 HLA.out).mono ?_; rintro e w11 ⟨v11, rfl, hr11, hp11⟩)
          | (go_at_call 15; with_reducible refine (rn_same_o (by assumption) (by assumption) hlo16).mono ?_; rintro e w12 ⟨rfl, hp12⟩)
          | (go_at_call 15; with_reducible refine (rn_same_a (by assumption) (by assumption) hla16).mono ?_; rintro e w13 ⟨rfl, hp13⟩))
      have hno : N5 ≤ w7.drew.heap.size := HS7.out.n4.2.2
      have hna : N5 ≤ w8.heap.size := HS8.out.n4.2.2
      have HDIS := Lib.hid (fun k (e : (Value.slice ao lo.length co).ownBlock = some k) => (own_lt HRO8.out e).2)
      have HR13 := Lib.hid hp13
      clear y0 y1 y2 y3 r1 hrnd HRO8 hp10 hr10 hp11 hr11 hp12 hp13
      obtain ⟨bo, hbo⟩ : ∃ bo, w7.drew.heap.size = bo := ⟨_, rfl⟩
      obtain ⟨ba, hba⟩ : ∃ ba, w8.heap.size = ba := ⟨_, rfl⟩
      rw [hbo] at hno HR13
      rw [hba] at hna HDIS HR13
      clear hbo hba
      go_wp2_with fail
      go_loopw [16] (fun iv wr => OvRel w T R g4 g5 L5 (c + 1) N5 la.length (.slice aa la.length ca) (.slice ao lo.length co) ba bo lo.length iv wr) (fun iv _ => 100 - (Go.RowKit.intOf iv).toNat)
      case atStart => exact ⟨0, la, lo, rfl, by omega, rfl, rfl, HR13.out.ra, HR13.out.ro, HR13.out.st⟩
      case round =>
        obtain ⟨i, l, l2, rfl, hi, hl, hl2, hrow, hrow2, hst⟩ := hrel.ex
        clear hrel
        by_cases hil : i < la.length
        · obtain ⟨gg, cap, e, hgb, hgl, hc0, hf0⟩ := zrow_at hrow (i := i) (by omega)
          rw [hl] at e
          injection e with e1 e2 e3
          subst e1; subst e3
          rw [Nat.zero_add] at hc0 hf0
          obtain ⟨cv, hcv⟩ : ∃ cv, wr.cell? ⟨gg, i, none⟩ = some cv := ⟨_, hc0⟩
          clear hc0
          have hi0' : 0 ≤ (i : Int) := by omega
          have hks := kept_set wr gg i (.int .i64 (-9))
          have HST9 := Lib.hid (hst.kept hks (fun k e => by have e : k = gg := e; omega))
          have hz9 : ZRow ba (wr.setCell ⟨gg, i, none⟩ (.int .i64 (-9))) (.slice (some ⟨gg, 0, none⟩) l.length ca) (l.set i (-9)) := zrow_set (by rw [hl]; exact hrow) (by omega) (-9)
          rw [hl] at hz9
          have HZ9 := Lib.hid hz9
          have HL9 : Hid ((l.set i (-9)).length = la.length) := Lib.hid (by rw [List.length_set]; exact hl)
          have HO9 := Lib.hid (zrow_kept hrow2 hks (fun k e1 e2 => by have e2 : k = gg := e2; have := HDIS.out k e1; omega))
          have HL2 := Lib.hid hl2
          clear hks hz9 hrow hrow2 hst hl hl2 e2
          go_wp2_with fail
          go_roundw
          case rel => exact ⟨i + 1, _, _, by go_num, by omega, HL9.out, HL2.out, HZ9.out, HO9.out, HST9.out⟩
          case measure => simp [Go.RowKit.intOf]; omega
        · have HST9 := Lib.hid hst
          have HRO9 := Lib.hid hrow2
          have HL2 := Lib.hid hl2
          clear hrow hrow2 hst hl hl2
          go_wp2_with fail
          go_loopw [17] (fun iv wr => OvRel w T R g4 g5 L5 (c + 1) N5 lo.length (.slice ao lo.length co) (.slice none 0 0) bo 0 0 iv wr) (fun iv _ => 100 - (Go.RowKit.intOf iv).toNat)
          case atStart => exact ⟨0, l2, [], rfl, by omega, HL2.out, rfl, HRO9.out, World.ownsRow_nil _ _ _ _, HST9.out⟩
          case round =>
            obtain ⟨i2, l3, l4, rfl, hi, hl, hl2, hrow, hrow2, hst⟩ := hrel.ex
            clear hrel
            by_cases hil2 : i2 < lo.length
            · obtain ⟨gg, cap, e, hgb, hgl, hc0, hf0⟩ := zrow_at hrow (i := i2) (by omega)
              rw [hl] at e
              injection e with e1 e2 e3
              subst e1; subst e3
              rw [Nat.zero_add] at hc0 hf0
              obtain ⟨cv, hcv⟩ : ∃ cv, wr.cell? ⟨gg, i2, none⟩ = some cv := ⟨_, hc0⟩
              clear hc0
              have hi0' : 0 ≤ (i2 : Int) := by omega
              have hks := kept_set wr gg i2 (.int .i64 (-9))
              have HST9 := Lib.hid (hst.kept hks (fun k e => by have e : k = gg := e; omega))
              have hz9 : ZRow bo (wr.setCell ⟨gg, i2, none⟩ (.int .i64 (-9))) (.slice (some ⟨gg, 0, none⟩) l3.length co) (l3.set i2 (-9)) := zrow_set (by rw [hl]; exact hrow) (by omega) (-9)
              rw [hl] at hz9
              have HZ9 := Lib.hid hz9
              have HL9 : Hid ((l3.set i2 (-9)).length = lo.length) := Lib.hid (by rw [List.length_set]; exact hl)
              have HO9 := Lib.hid (zrow_kept hrow2 hks (fun k e1 e2 => by have e2 : k = gg := e2; cases e1))
              have HL2 := Lib.hid hl2
              clear hks hz9 hrow hrow2 hst hl hl2 e2
              go_wp2_with fail
              go_roundw
              case rel => exact ⟨i2 + 1, _, _, by go_num, by omega, HL9.out, HL2.out, HZ9.out, HO9.out, HST9.out⟩
              case measure => simp [Go.RowKit.intOf]; omega
            · have HST9 := Lib.hid hst
              have HRO9 := Lib.hid hrow2
              have HL2 := Lib.hid hl2
              clear hrow hrow2 hst hl hl2
              go_wp2_with fail
              go_roundw
              case rel => exact ⟨k + 1, c + 1, N5, L5, by go_num, by omega, by omega, HST9.out⟩
              case measure => simp [Go.RowKit.intOf]; omega
    · obtain ⟨l0, hl0⟩ : ∃ l, allL (L 0) = l := ⟨_, rfl⟩
      obtain ⟨l1, hl1⟩ : ∃ l, allL (L 1) = l := ⟨_, rfl⟩
      have h016 : l0.length ≤ 16 := by rw [← hl0, length_all]; exact (hst.ok (by decide)).few
      have h116 : l1.length ≤ 16 := by rw [← hl1, length_all]; exact (hst.ok (by decide)).few
      have HL0 := Lib.hid hl0
      have HL1 := Lib.hid hl1
      obtain ⟨⟨t0, r0'⟩, t1, r1'⟩ := hst.both
      have hst0 := hst
      have hstd := hst.kept0 ((Kept.refl _ wr).drew)
      clear hl0 hl1 hst
      go_wp2_with fail
      go_region_held3 (fun w' => (w'.cell? ⟨g4, 0, none⟩ = some (.pointer (some ⟨T 0, 0, none⟩)) ∧ w'.cell? ⟨g5, 0, none⟩ = some (.pointer (some ⟨R 0, 0, none⟩))) ∧ w'.cell? ⟨g4, 1, none⟩ = some (.pointer (some ⟨T 1, 0, none⟩)) ∧ w'.cell? ⟨g5, 1, none⟩ = some (.pointer (some ⟨R 1, 0, none⟩))) (first | assumption | go_keep | exact St2.both (by assumption))
        (first
          | (go_at_call 14; with_reducible refine (s2_all2 (by assumption) (show 0 < 2 by decide) HL0.out).mono ?_; rintro e w5 ⟨v5, rfl, hr5, hp5⟩)
          | (go_at_call 14; with_reducible refine (s2_all2 (by assumption) (show 1 < 2 by decide) HL1.out).mono ?_; rintro e w6 ⟨v6, rfl, hr6, hp6⟩)
          | (go_at_call 17; with_reducible refine (s2_rall2 (by assumption) (show 0 < 2 by decide) HL0.out (by assumption)).mono ?_; rintro e w7 ⟨v7, rfl, hr7, hr7', hp7⟩)
          | (go_at_call 17; with_reducible refine (s2_rall2 (by assumption) (show 1 < 2 by decide) HL1.out (by assumption)).mono ?_; rintro e w8 ⟨v8, rfl, hr8, hr8', hp8⟩)
          | (go_at_call 15; with_reducible refine (s2_same2 (by assumption) (by assumption) (by assumption) (by assumption)).mono ?_; rintro e w9 ⟨rfl, hp9⟩))
      go_wp2_with fail
      go_ret
      exact ⟨rfl, St2.kp (by assumption)⟩
end Go.Proofs.Ytlfcccckghnffaa
