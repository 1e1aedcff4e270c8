/- The document's tracker: a row of sessions. place, ends, New, Deadline. -/
import Derived.Test.YtlfcccckghnffaaSra
import Derived.Test.YtlfcccckghnffaaSb
namespace Go.Proofs.Ytlfcccckghnffaa
open Go.ChangeShapes Go.WideShapes Go.ChangeAt Go.RowKit Go.Maps
set_option linter.unusedVariables false
set_option linter.unusedSimpArgs false
def Se.cells (s : Se) : List Value := [.int .i64 s.id, .int .i64 s.to, .int .i64 s.dl]
def seC (L : SL) : List Value := L.flatMap Se.cells
theorem seC_len (L : SL) : (seC L).length = L.length * 3 := by
  induction L with
  | nil => rfl
  | cons x r ih => simp only [seC, List.flatMap_cons, List.length_append, List.length_cons] at ih ⊢; rw [ih]; simp [Se.cells]; omega
theorem seC_one {u : Value} {L : SL} (h : u ∈ seC L) : u.oneCell' = true := by
  obtain ⟨s, _, hs⟩ := List.mem_flatMap.1 h
  simp only [Se.cells, List.mem_cons, List.not_mem_nil, or_false] at hs
  rcases hs with rfl | rfl | rfl <;> rfl
theorem seC_at {L : SL} {i : Nat} (hi : i < L.length) : (seC L)[i * 3]? = some (.int .i64 L[i].id) ∧ (seC L)[i * 3 + 1]? = some (.int .i64 L[i].to) ∧ (seC L)[i * 3 + 2]? = some (.int .i64 L[i].dl) := by
  induction L generalizing i with
  | nil => simp at hi
  | cons x r ih =>
    have e : seC (x :: r) = [.int .i64 x.id, .int .i64 x.to, .int .i64 x.dl] ++ seC r := rfl
    rw [e]
    cases i with
    | zero => exact ⟨rfl, rfl, rfl⟩
    | succ i =>
      obtain ⟨h1, h2, h3⟩ := ih (i := i) (by simpa using hi)
      refine ⟨?_, ?_, ?_⟩
      · rw [List.getElem?_append_right (by simp; omega)]; simpa [show (i + 1) * 3 - 3 = i * 3 by omega] using h1
      · rw [List.getElem?_append_right (by simp; omega)]; simpa [show (i + 1) * 3 + 1 - 3 = i * 3 + 1 by omega] using h2
      · rw [List.getElem?_append_right (by simp; omega)]; simpa [show (i + 1) * 3 + 2 - 3 = i * 3 + 2 by omega] using h3
theorem rowSe : RowTy Try.prog 49 57 3 24 := RowTy.of (z := .agg #[.int .i64 0, .int .i64 0, .int .i64 0]) Try.underlying49 (by kernel_rfl) rfl (by decide)
theorem rowInt : RowTy Try.prog 37 3 1 8 := RowTy.of (z := .int .i64 0) Try.underlying37 (by kernel_rfl) rfl (by decide)
abbrev SRow (B : Nat) (w : World) (v : Value) (L : SL) : Prop := w.ownsRow B 57 3 v L.length (seC L)
/-- the document's tracker: its block and its row's -/
structure RD (w : World) (t : Nat) (v : Value) (B : Nat) (L : SL) : Prop where
  at_ : w.heap[t]? = some (.cells #[v] 51 (0, 0))
  row : SRow B w v L
  ok : SlOk L
def RBs (t : Nat) (v : Value) : Nat → Prop := fun k => k = t ∨ v.ownBlock = some k
section
variable {w w' : World} {t B : Nat} {v : Value} {L : SL}
theorem RD.two (h : RD w t v B L) : w.cell? ⟨t, 0, none⟩ = some v ∧ w.frozen? ⟨t, 0, none⟩ = false := cell_box h.at_
theorem RD.kept {X : Nat → Prop} (h : RD w t v B L) (hk : Kept X w w') (hx : ∀ k, RBs t v k → ¬ X k) : RD w' t v B L :=
  ⟨by rw [hk.block t (lt_of_block h.at_) (hx t (.inl rfl))]; exact h.at_, ownKept h.row hk (fun k e => hx k (.inr e)), h.ok⟩
theorem RD.kept0 (h : RD w t v B L) (hk : Kept (fun _ => False) w w') : RD w' t v B L := h.kept hk (fun _ _ f => f)
theorem RD.lt (h : RD w t v B L) : ∀ k, RBs t v k → k < w.heap.size := by
  rintro k (rfl | e)
  · exact lt_of_block h.at_
  · exact (own_lo h.row e).2.1
theorem RD.nt (h : RD w t v B L) {k : Nat} (e : v.ownBlock = some k) : k ≠ t := by
  obtain ⟨_, _, cur, hc⟩ := own_lo h.row e
  intro e2; subst e2
  rw [h.at_] at hc
  simp only [Option.some.injEq, Obj.cells.injEq] at hc
  have h9 : (51 : TypeId) = 57 := hc.2.1
  exact absurd h9 (by decide)
/-- the cells of the i-th session -/
theorem RD.at3 (h : RD w t v B L) {i : Nat} (hi : i < L.length) : ∃ g cap, v = .slice (some ⟨g, 0, none⟩) L.length cap ∧ B ≤ g ∧ g < w.heap.size ∧ w.cell? ⟨g, 0 + i * 3, none⟩ = some (.int .i64 L[i].id) ∧ w.cell? ⟨g, 0 + i * 3 + 1, none⟩ = some (.int .i64 L[i].to) ∧ w.cell? ⟨g, 0 + i * 3 + 2, none⟩ = some (.int .i64 L[i].dl) ∧ w.frozen? ⟨g, 0 + i * 3 + 2, none⟩ = false := by
  obtain ⟨a, cap, e, hc⟩ := own_cell h.row
  obtain ⟨h1, h2, h3⟩ := seC_at hi
  obtain ⟨g, rfl, hb, hg, c1, _⟩ := hc _ _ h1
  obtain ⟨g', e', _, _, c2, _⟩ := hc _ _ h2
  obtain ⟨g'', e'', _, _, c3, f3⟩ := hc _ _ h3
  cases e'; cases e''
  rw [Nat.zero_add]
  exact ⟨g, cap, e, hb, hg, c1, c2, c3, f3⟩
/-- where a session stands -/
def placeL (L : SL) (i : Int) : Int := match L.findIdx? (fun s => s.id == i) with
  | some k => k
  | none => -1
theorem find_idx {L : SL} {i : Int} : (getL L i = none ∧ placeL L i = -1) ∨ ∃ k, ∃ h : k < L.length, getL L i = some L[k] ∧ placeL L i = k ∧ L[k].id = i ∧ ∀ j (hj : j < k), (L[j]'(by omega)).id ≠ i := by
  unfold placeL
  cases hf : L.findIdx? (fun s => s.id == i) with
  | none =>
    left
    rw [List.findIdx?_eq_none_iff] at hf
    exact ⟨getL_none.2 fun s hs e => by have := hf s hs; simp [e] at this, rfl⟩
  | some k =>
    right
    rw [List.findIdx?_eq_some_iff_getElem] at hf
    obtain ⟨hk, h1, h2⟩ := hf
    refine ⟨k, hk, ?_, rfl, by simpa using h1, fun j hj => by simpa using h2 j hj⟩
    unfold getL
    rw [List.find?_eq_some_iff_getElem]
    exact ⟨h1, k, hk, rfl, fun j hj => by simpa using h2 j hj⟩
structure PlRel (w : World) (n : Nat) (L : SL) (i : Int) (iv : Value) (wr : World) : Prop where
  ex : ∃ k : Nat, iv = .int .i64 k ∧ k ≤ n ∧ wr = w ∧ ∀ j (h : j < L.length), j < k → L[j].id ≠ i
set_option maxHeartbeats 1000000 in
theorem place_any (h : RD w t v B L) (i : Int) :
    Calls Try.prog 24 #[.pointer (some ⟨t, 0, none⟩), .int .i64 i] w fun e w' => e = .returned (.int .i64 (placeL L i)) ∧ w = w' := by
  obtain ⟨c0, f0⟩ := h.two
  obtain ⟨a0, cp0, hv⟩ := own_shape h.row
  have HH := Lib.hid h
  have hl := h.ok.few
  subst hv
  clear h
  go_enter Try.func24, Try.ntmps24
  go_wp2_with fail
  go_loopw [5] (fun iv wr => PlRel w L.length L i iv wr) (fun iv _ => L.length - (Go.RowKit.intOf iv).toNat)
  case atStart => exact ⟨0, rfl, Nat.zero_le _, rfl, fun j h hj => absurd hj (by omega)⟩
  case round =>
    obtain ⟨k, rfl, hk, rfl, hn⟩ := hrel.ex
    clear hrel
    have HN := Lib.hid hn
    clear hn
    by_cases hlt : k < L.length
    · obtain ⟨g, cap, e, _, _, c1, _, _, _⟩ := HH.out.at3 hlt
      injection e with e1 e2 e3
      subst e1; subst e3
      obtain ⟨x, hx⟩ : ∃ x, L[k].id = x := ⟨_, rfl⟩
      rw [hx] at c1
      rw [Nat.zero_add] at c1
      by_cases hxi : x = i
      · have HX : Hid (placeL L i = k) := Lib.hid (by
          rcases find_idx (L := L) (i := i) with ⟨h1, _⟩ | ⟨k2, h2, h3, h4, h5, h6⟩
          · exact absurd (hx.trans hxi) (getL_none.1 h1 _ (List.getElem_mem hlt))
          · rw [h4]
            rcases Nat.lt_trichotomy k k2 with h | h | h
            · exact absurd (hx.trans hxi) (h6 k h)
            · rw [h]
            · exact absurd h5 (HN.out k2 h2 h))
        subst hxi
        clear hx e2
        go_wp2_with fail
        go_ret
        exact ⟨ret_int HX.out.symm, rfl⟩
      · have hb : (x == i) = false := by simpa using hxi
        have HX := Lib.hid hx
        clear hx e2
        go_wp2_with fail
        go_roundw
        case rel => exact ⟨k + 1, by go_num, by omega, rfl, fun j h hj => by
          by_cases e : j = k
          · subst e; rw [HX.out]; exact hxi
          · exact HN.out j h (by omega)⟩
        case measure => simp [Go.RowKit.intOf]; omega
    · have HX : Hid (placeL L i = -1) := Lib.hid (by
        rcases find_idx (L := L) (i := i) with ⟨_, h1⟩ | ⟨k2, h2, h3, h4, h5, h6⟩
        · exact h1
        · exact absurd h5 (HN.out k2 h2 (by omega)))
      go_wp2_with fail
      go_ret
      exact ⟨ret_int HX.out.symm, rfl⟩
structure EnRel (w : World) (s z : Int) (iv : Value) (wr : World) : Prop where
  ex : ∃ n : Int, iv = .int .i64 n ∧ s ≤ n ∧ n ≤ z ∧ wr = w
set_option maxHeartbeats 1000000 in
theorem ends_any (now to : Int) (w : World) (h0 : 0 ≤ now) (h1 : now ≤ 1099511627776) (h2 : 4 ≤ to) (h3 : to ≤ 60) : Calls Try.prog 32 #[.int .i64 now, .int .i64 to] w fun e w' => e = .returned (.int .i64 (endsI now to)) ∧ w = w' := by
  obtain ⟨z, hz⟩ : ∃ z, endsI now to = z := ⟨_, rfl⟩
  have hz1 : z % 4 = 0 ∧ now + to ≤ z ∧ z ≤ now + to + 3 := by subst hz; unfold endsI; omega
  obtain ⟨s, hs⟩ : ∃ s, now + to = s := ⟨_, rfl⟩
  have hs1 : 0 ≤ s ∧ s ≤ z ∧ z ≤ s + 3 ∧ s ≤ 1099511627836 := by omega
  obtain ⟨s1, s2, s3, s4⟩ := hs1
  have HZ := Lib.hid hz1.1
  have HS := Lib.hid hs
  rw [hz]
  clear hz1 hs hz
  go_enter Try.func32, Try.ntmps32
  go_wp2_with fail
  rw [HS.out]
  go_loopw [5] (fun iv wr => EnRel w s z iv wr) (fun iv _ => (z - (Go.RowKit.intOf iv)).toNat)
  case atStart => exact ⟨s, rfl, Int.le_refl _, s2, rfl⟩
  case round =>
    obtain ⟨n, rfl, n1, n2, rfl⟩ := hrel.ex
    clear hrel
    by_cases hn : n % 4 = 0
    · have hnz : n = z := by have := HZ.out; omega
      subst hnz
      go_wp2_with fail
      go_ret
      exact ⟨rfl, rfl⟩
    · have hb : (n % 4 != 0) = true := by simpa using hn
      have hlt : n < z := by
        have := HZ.out
        rcases Int.lt_or_eq_of_le n2 with h | h
        · exact h
        · subst h; exact absurd this hn
      go_wp2_with fail
      go_roundw
      case rel => exact ⟨n + 1, rfl, by omega, by omega, rfl⟩
      case measure => simp [Go.RowKit.intOf]; omega
theorem rnew_any (w : World) : Calls Try.prog 8 #[] w fun e w' => ∃ t, e = .returned (.pointer (some ⟨t, 0, none⟩)) ∧ RD w' t (.slice none 0 0) w.heap.size [] ∧ t = w.heap.size ∧ Kept (fun _ => False) w w' := by
  go_enter Try.func8, Try.ntmps8
  go_wp2
  go_ret
  exact ⟨w.heap.size, rfl, ⟨heap_alloc_new w _, World.ownsRow_nil _ _ _ _, slOk_nil⟩, rfl, (Kept.refl _ w).alloc _⟩
set_option maxHeartbeats 1000000 in
theorem rdead_any (h : RD w t v B L) (i : Int) :
    Calls Try.prog 12 #[.pointer (some ⟨t, 0, none⟩), .int .i64 i] w fun e w' => e = .returned (.tuple #[.int .i64 (deadN L i), .int .i64 (deadE L i)]) ∧ w = w' := by
  obtain ⟨c0, f0⟩ := h.two
  obtain ⟨a0, cp0, hv⟩ := own_shape h.row
  have HP := Lib.hid (place_any h i)
  have HH := Lib.hid h
  have hl := h.ok.few
  rcases find_idx (L := L) (i := i) with ⟨h1, h2⟩ | ⟨k, hk, h3, h4, _⟩
  · have HE : Hid (deadN L i = 0 ∧ deadE L i = 90) := Lib.hid (by unfold deadN deadE; rw [h1]; exact ⟨rfl, rfl⟩)
    rw [h2] at HP
    clear h h1 h2
    go_enter Try.func12, Try.ntmps12
    go_wp2_with (first | (go_at_call 24; refine HP.out.mono ?_; rintro e w' ⟨rfl, rfl⟩) | go_in)
    go_ret2
    rw [HE.out.1, HE.out.2]
    exact ⟨rfl, rfl⟩
  · have HE : Hid (deadN L i = L[k].dl ∧ deadE L i = 0) := Lib.hid (by unfold deadN deadE; rw [h3]; exact ⟨rfl, rfl⟩)
    rw [h4] at HP
    obtain ⟨g, cap, e, _, _, _, _, c3, _⟩ := h.at3 hk
    obtain ⟨x, hx⟩ : ∃ x, L[k].dl = x := ⟨_, rfl⟩
    rw [hx] at c3 HE
    rw [Nat.zero_add] at c3
    subst e
    clear h h3 h4 hx hv
    go_enter Try.func12, Try.ntmps12
    go_wp2_with (first | (go_at_call 24; refine HP.out.mono ?_; rintro e w' ⟨rfl, rfl⟩) | go_in)
    go_ret2
    rw [HE.out.1, HE.out.2]
    exact ⟨rfl, rfl⟩
end
end Go.Proofs.Ytlfcccckghnffaa
