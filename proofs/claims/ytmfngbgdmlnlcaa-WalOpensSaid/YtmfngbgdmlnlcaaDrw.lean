/- The document's disk in memory; its small calls. -/
import Derived.Test.YtmfngbgdmlnlcaaDn0
import Derived.BigQuiet
import Derived.Laws.AppendOwn
import Derived.ChangeSlices
namespace Go.Proofs.Ytmfngbgdmlnlcaa
open Go.ChangeShapes Go.WideShapes Go.ChangeAt Go.RowKit
open Go.Maps Go.Proofs
set_option linter.unusedVariables false
set_option linter.unusedSimpArgs false

/-- n values by an index, in block g (which may have spare places) -/
structure RowAt (w : World) (g : Nat) (T : TypeId) (n : Nat) (V : Nat → Value) : Prop where
  at_ : ∃ r : List Value, w.heap[g]? = some (.cells ((List.range n).map V ++ r).toArray T (0, 0))
theorem row_get {n : Nat} {V : Nat → Value} {i : Nat} (h : i < n) (r : List Value) : ((List.range n).map V ++ r)[i]? = some (V i) := by
  rw [List.getElem?_append_left (by simpa using h), List.getElem?_map, List.getElem?_range h]; rfl
theorem RowAt.lt {w : World} {g : Nat} {T : TypeId} {n : Nat} {V : Nat → Value} (h : RowAt w g T n V) : g < w.heap.size := by
  obtain ⟨r, hr⟩ := h.at_; exact lt_of_block hr
theorem RowAt.cell {w : World} {g : Nat} {T : TypeId} {n : Nat} {V : Nat → Value} (h : RowAt w g T n V) {i : Nat} (hi : i < n) : w.cell? ⟨g, i, none⟩ = some (V i) := by
  obtain ⟨r, hr⟩ := h.at_
  rw [cell_of_row w g i _ _ (0, 0) hr, List.getElem?_toArray, row_get hi]
theorem RowAt.frozen {w : World} {g : Nat} {T : TypeId} {n : Nat} {V : Nat → Value} (h : RowAt w g T n V) (i : Nat) : w.frozen? ⟨g, i, none⟩ = false := by
  obtain ⟨r, hr⟩ := h.at_
  simp [World.frozen?, hr]
theorem RowAt.kept {X : Nat → Prop} {w w' : World} {g : Nat} {T : TypeId} {n : Nat} {V : Nat → Value} (h : RowAt w g T n V) (hk : Kept X w w') (hx : ¬ X g) : RowAt w' g T n V := by
  obtain ⟨r, hr⟩ := h.at_
  exact ⟨⟨r, by rw [hk.block g (lt_of_block hr) hx]; exact hr⟩⟩
theorem RowAt.set {w : World} {g : Nat} {T : TypeId} {n : Nat} {V : Nat → Value} (h : RowAt w g T n V) {i : Nat} (hi : i < n) (v : Value) : RowAt (w.setCell ⟨g, i, none⟩ v) g T n (upd V i v) := by
  obtain ⟨r, hr⟩ := h.at_
  refine ⟨⟨r, ?_⟩⟩
  rw [heap_set _ hr]
  congr 3
  apply List.ext_getElem?
  intro j
  by_cases e : j = i
  · subst e
    rw [List.getElem?_set_self (by simp; omega), row_get hi, upd_same]
  · rw [List.getElem?_set_ne (Ne.symm e)]
    by_cases hj : j < n
    · rw [row_get hj, row_get hj, upd_other _ _ _ e]
    · rw [List.getElem?_append_right (by simpa using hj), List.getElem?_append_right (by simpa using hj)]; simp
theorem RowAt.congr {w : World} {g : Nat} {T : TypeId} {n : Nat} {V V' : Nat → Value} (h : RowAt w g T n V) (e : ∀ i, i < n → V i = V' i) : RowAt w g T n V' := by
  obtain ⟨r, hr⟩ := h.at_
  exact ⟨⟨r, by rw [hr]; congr 3; congr 1; exact List.map_congr_left (fun i hi => e i (List.mem_range.1 hi))⟩⟩

def strF (L : Nat → List UInt8) : Nat → Value := fun i => .string ⟨(L i).toArray⟩
def boolF (P : Nat → Bool) : Nat → Value := fun i => .bool (P i)
theorem strF_upd (L : Nat → List UInt8) (i : Nat) (l : List UInt8) : upd (strF L) i (.string ⟨l.toArray⟩) = strF (upd L i l) := by
  funext k; unfold strF upd; split <;> rfl
theorem boolF_upd (P : Nat → Bool) (i : Nat) (b : Bool) : upd (boolF P) i (.bool b) = boolF (upd P i b) := by
  funext k; unfold boolF upd; split <;> rfl

/-- what the document's disk is -/
structure RSt where
  n : Nat
  L : Nat → List UInt8
  Old : Nat → List UInt8
  Pend : Nat → Bool
  N : Nat
  At : Nat
  Gone : Bool
/-- its blocks -/
structure RB4 where
  x : Nat
  l : Nat
  o : Nat
  p : Nat
  cl : Nat
  co : Nat
def XB (q : RB4) : Nat → Prop := fun k => k = q.x ∨ k = q.l ∨ k = q.o ∨ k = q.p
structure RfAt (w : World) (q : RB4) (d : RSt) : Prop where
  at_ : w.heap[q.x]? = some (.cells [.slice (some ⟨q.l, 0, none⟩) d.n q.cl, .slice (some ⟨q.o, 0, none⟩) d.n q.co, .slice (some ⟨q.p, 0, none⟩) d.n d.n, .int .i64 d.N, .int .i64 d.At, .bool d.Gone].toArray 60 (0, 0))
  hl : RowAt w q.l 9 d.n (strF d.L)
  ho : RowAt w q.o 9 d.n (strF d.Old)
  hp : RowAt w q.p 4 d.n (boolF d.Pend)
  a1 : q.x ≠ q.l
  a2 : q.x ≠ q.o
  a3 : q.x ≠ q.p
  a4 : q.l ≠ q.o
  a5 : q.l ≠ q.p
  a6 : q.o ≠ q.p
  hi : d.n ≤ 32768
  sl : ∀ i, i < d.n → (d.L i).length = 64
  so : ∀ i, i < d.n → (d.Old i).length = 64
  atb : d.At ≤ 9223372036854775807
theorem RfAt.kept {X : Nat → Prop} {w w' : World} {q : RB4} {d : RSt} (h : RfAt w q d) (hk : Kept X w w') (hx : ∀ k, XB q k → ¬ X k) : RfAt w' q d :=
  ⟨by rw [hk.block q.x (lt_of_block h.at_) (hx _ (.inl rfl))]; exact h.at_, h.hl.kept hk (hx _ (.inr (.inl rfl))), h.ho.kept hk (hx _ (.inr (.inr (.inl rfl)))), h.hp.kept hk (hx _ (.inr (.inr (.inr rfl)))),
   h.a1, h.a2, h.a3, h.a4, h.a5, h.a6, h.hi, h.sl, h.so, h.atb⟩
theorem RfAt.drewN {w : World} {q : RB4} {d : RSt} (h : RfAt w q d) (n : Nat) : RfAt (w.drewN n) q d := h.kept ((Kept.refl (fun _ => False) w).drewN n) (fun _ _ f => f)
theorem RfAt.inn {w : World} {q : RB4} {d : RSt} (h : RfAt w q d) : ∀ k, XB q k → k < w.heap.size := by
  rintro k (rfl | rfl | rfl | rfl)
  · exact lt_of_block h.at_
  · exact h.hl.lt
  · exact h.ho.lt
  · exact h.hp.lt
structure Six (w : World) (q : RB4) (d : RSt) : Prop where
  c0 : w.cell? ⟨q.x, 0, none⟩ = some (.slice (some ⟨q.l, 0, none⟩) d.n q.cl)
  c1 : w.cell? ⟨q.x, 1, none⟩ = some (.slice (some ⟨q.o, 0, none⟩) d.n q.co)
  c2 : w.cell? ⟨q.x, 2, none⟩ = some (.slice (some ⟨q.p, 0, none⟩) d.n d.n)
  c3 : w.cell? ⟨q.x, 3, none⟩ = some (.int .i64 d.N)
  c4 : w.cell? ⟨q.x, 4, none⟩ = some (.int .i64 d.At)
  c5 : w.cell? ⟨q.x, 5, none⟩ = some (.bool d.Gone)
  f : ∀ i, w.frozen? ⟨q.x, i, none⟩ = false
theorem RfAt.six {w : World} {q : RB4} {d : RSt} (h : RfAt w q d) : Six w q d :=
  ⟨by rw [cell_of_row w q.x 0 _ _ (0, 0) h.at_]; rfl, by rw [cell_of_row w q.x 1 _ _ (0, 0) h.at_]; rfl, by rw [cell_of_row w q.x 2 _ _ (0, 0) h.at_]; rfl,
   by rw [cell_of_row w q.x 3 _ _ (0, 0) h.at_]; rfl, by rw [cell_of_row w q.x 4 _ _ (0, 0) h.at_]; rfl, by rw [cell_of_row w q.x 5 _ _ (0, 0) h.at_]; rfl, fun i => by simp [World.frozen?, h.at_]⟩
theorem RfAt.setX {w : World} {q : RB4} {d d' : RSt} (h : RfAt w q d) (i : Nat) (v : Value)
    (hc : ([.slice (some ⟨q.l, 0, none⟩) d.n q.cl, .slice (some ⟨q.o, 0, none⟩) d.n q.co, .slice (some ⟨q.p, 0, none⟩) d.n d.n, .int .i64 d.N, .int .i64 d.At, .bool d.Gone] : List Value).set i v =
      [.slice (some ⟨q.l, 0, none⟩) d'.n q.cl, .slice (some ⟨q.o, 0, none⟩) d'.n q.co, .slice (some ⟨q.p, 0, none⟩) d'.n d'.n, .int .i64 d'.N, .int .i64 d'.At, .bool d'.Gone])
    (h1 : d'.n = d.n) (h2 : d'.L = d.L) (h3 : d'.Old = d.Old) (h4 : d'.Pend = d.Pend) (h5 : d'.At ≤ 9223372036854775807) : RfAt (w.setCell ⟨q.x, i, none⟩ v) q d' := by
  have hk := kept_set w q.x i v
  refine ⟨by rw [← hc]; exact heap_set _ h.at_, ?_, ?_, ?_, h.a1, h.a2, h.a3, h.a4, h.a5, h.a6, by rw [h1]; exact h.hi, by rw [h1, h2]; exact h.sl, by rw [h1, h3]; exact h.so, h5⟩
  · rw [h1, h2]; exact h.hl.kept hk (fun e => h.a1 e.symm)
  · rw [h1, h3]; exact h.ho.kept hk (fun e => h.a2 e.symm)
  · rw [h1, h4]; exact h.hp.kept hk (fun e => h.a3 e.symm)
theorem RfAt.setN {w : World} {q : RB4} {d : RSt} (h : RfAt w q d) (x : Nat) : RfAt (w.setCell ⟨q.x, 3, none⟩ (.int .i64 x)) q { d with N := x } := h.setX 3 _ rfl rfl rfl rfl rfl h.atb
theorem RfAt.setAt {w : World} {q : RB4} {d : RSt} (h : RfAt w q d) (x : Nat) (hx : x ≤ 9223372036854775807) : RfAt (w.setCell ⟨q.x, 4, none⟩ (.int .i64 x)) q { d with At := x } := h.setX 4 _ rfl rfl rfl rfl rfl hx
theorem RfAt.setGone {w : World} {q : RB4} {d : RSt} (h : RfAt w q d) (x : Bool) : RfAt (w.setCell ⟨q.x, 5, none⟩ (.bool x)) q { d with Gone := x } := h.setX 5 _ rfl rfl rfl rfl rfl h.atb
theorem RfAt.setL {w : World} {q : RB4} {d : RSt} (h : RfAt w q d) {i : Nat} (hi : i < d.n) {l : List UInt8} (hl : l.length = 64) : RfAt (w.setCell ⟨q.l, i, none⟩ (.string ⟨l.toArray⟩)) q { d with L := upd d.L i l } := by
  have hk := kept_set w q.l i (.string ⟨l.toArray⟩)
  refine ⟨by rw [hk.block q.x (lt_of_block h.at_) h.a1]; exact h.at_, by rw [← strF_upd]; exact h.hl.set hi _, h.ho.kept hk (fun e => h.a4 e.symm), h.hp.kept hk (fun e => h.a5 e.symm), h.a1, h.a2, h.a3, h.a4, h.a5, h.a6, h.hi, fun k hk => ?_, h.so, h.atb⟩
  by_cases e : k = i
  · subst e; simp only [upd_same]; exact hl
  · simp only [upd_other _ _ _ e]; exact h.sl k hk
theorem RfAt.setOld {w : World} {q : RB4} {d : RSt} (h : RfAt w q d) {i : Nat} (hi : i < d.n) {l : List UInt8} (hl : l.length = 64) : RfAt (w.setCell ⟨q.o, i, none⟩ (.string ⟨l.toArray⟩)) q { d with Old := upd d.Old i l } := by
  have hk := kept_set w q.o i (.string ⟨l.toArray⟩)
  refine ⟨by rw [hk.block q.x (lt_of_block h.at_) h.a2]; exact h.at_, h.hl.kept hk h.a4, by rw [← strF_upd]; exact h.ho.set hi _, h.hp.kept hk (fun e => h.a6 e.symm), h.a1, h.a2, h.a3, h.a4, h.a5, h.a6, h.hi, h.sl, fun k hk => ?_, h.atb⟩
  by_cases e : k = i
  · subst e; simp only [upd_same]; exact hl
  · simp only [upd_other _ _ _ e]; exact h.so k hk
theorem RfAt.setPend {w : World} {q : RB4} {d : RSt} (h : RfAt w q d) {i : Nat} (hi : i < d.n) (b : Bool) : RfAt (w.setCell ⟨q.p, i, none⟩ (.bool b)) q { d with Pend := upd d.Pend i b } := by
  have hk := kept_set w q.p i (.bool b)
  exact ⟨by rw [hk.block q.x (lt_of_block h.at_) h.a3]; exact h.at_, h.hl.kept hk h.a5, h.ho.kept hk h.a6, by rw [← boolF_upd]; exact h.hp.set hi _, h.a1, h.a2, h.a3, h.a4, h.a5, h.a6, h.hi, h.sl, h.so, h.atb⟩

/-! ### What the calls do -/
def actR (d : RSt) : RSt := if 0 < d.At ∧ d.N + 1 = d.At then { d with N := d.N + 1, Gone := true } else { d with N := d.N + 1 }
def hasR (d : RSt) (k : Int) : Bool := decide (0 ≤ k) && decide (k < d.n)
def readR (d : RSt) (k : Int) : List UInt8 × Int := if d.Gone then ([], 2) else if hasR d k then (d.L k.toNat, 0) else ([], 20)
def armR (d : RSt) (k : Int) : RSt × Int := if d.Gone then (d, 2) else if k < 0 then (d, 1) else if 0 < k ∧ k ≤ 4611686018427387904 then ({ d with At := d.N + k.toNat }, 0) else ({ d with At := 0 }, 0)
def writeR (d : RSt) (k : Int) (s : List UInt8) : RSt × Int :=
  if d.Gone then (d, 2) else if ¬ (hasR d k = true ∧ s.length = 64) then (d, 20)
  else ({ actR d with L := upd d.L k.toNat s, Pend := upd d.Pend k.toNat true }, if (actR d).Gone then 2 else 0)
theorem hasR_iff (d : RSt) (k : Int) : hasR d k = true ↔ 0 ≤ k ∧ k < d.n := by simp [hasR]

section
variable {w : World} {q : RB4} {d : RSt}
def RPost (w : World) (q : RB4) (v : Value) (d' : RSt) (e : Ending) (w' : World) : Prop := e = .returned v ∧ RfAt w' q d' ∧ Kept (XB q) w w'
theorem kept_x (w : World) (q : RB4) (i : Nat) (v : Value) : Kept (XB q) w (w.setCell ⟨q.x, i, none⟩ v) := (kept_set w q.x i v).mono (fun _ _ e => .inl e)
theorem kept_l (w : World) (q : RB4) (i : Nat) (v : Value) : Kept (XB q) w (w.setCell ⟨q.l, i, none⟩ v) := (kept_set w q.l i v).mono (fun _ _ e => .inr (.inl e))
theorem kept_o (w : World) (q : RB4) (i : Nat) (v : Value) : Kept (XB q) w (w.setCell ⟨q.o, i, none⟩ v) := (kept_set w q.o i v).mono (fun _ _ e => .inr (.inr (.inl e)))
theorem kept_p (w : World) (q : RB4) (i : Nat) (v : Value) : Kept (XB q) w (w.setCell ⟨q.p, i, none⟩ v) := (kept_set w q.p i v).mono (fun _ _ e => .inr (.inr (.inr e)))

theorem actR_gone (d : RSt) : (actR d).Gone = (d.Gone || (decide (0 < d.At) && decide (d.N + 1 = d.At))) := by
  unfold actR
  by_cases h : 0 < d.At ∧ d.N + 1 = d.At
  · rw [if_pos h]; simp [h]
  · rw [if_neg h]
    by_cases h1 : 0 < d.At
    · have h2 : ¬ d.N + 1 = d.At := fun e => h ⟨h1, e⟩
      simp [h2]
    · simp [h1]

set_option maxHeartbeats 1000000 in
theorem xact_any (h : RfAt w q d) (ha : d.N < 9223372036854775807) : Calls Try.prog 23 #[.pointer (some ⟨q.x, 0, none⟩)] w (RPost w q (.bool (actR d).Gone) (actR d)) := by
  obtain ⟨c0, c1, c2, c3, c4, c5, f⟩ := h.six
  have f3 := f 3; have f5 := f 5
  have HD := Lib.hid h
  have hl := h.atb
  clear h
  obtain ⟨n, L, Old, Pend, N, At, Gone⟩ := d
  simp only at c0 c1 c2 c3 c4 c5 ha hl
  clear c0 c1 c2
  have hN := HD.out.setN (N + 1)
  have hw : ((N + 1 : Nat) : Int) = (N : Int) + 1 := by omega
  rw [hw] at hN
  have HN := Lib.hid hN
  clear hN hw
  by_cases h0 : 0 < At
  · by_cases h1 : N + 1 = At
    · have hE : ((N : Int) + 1 == (At : Int)) = true := by simp; omega
      have E : Hid (actR ⟨n, L, Old, Pend, N, At, Gone⟩ = ⟨n, L, Old, Pend, N + 1, At, true⟩) := Lib.hid (by unfold actR; rw [if_pos ⟨h0, h1⟩])
      clear h1
      go_enter Try.func23, Try.ntmps23
      go_wp2_with fail
      go_quiet (fail)
      go_wp2_with fail
      go_ret
      rw [E.out]
      exact ⟨rfl, (HN.out.drewN nq).setGone true, ((kept_x w q 3 _).drewN nq).trans (kept_x _ q 5 _)⟩
    · have hE : ((N : Int) + 1 == (At : Int)) = false := by simp; omega
      have E : Hid (actR ⟨n, L, Old, Pend, N, At, Gone⟩ = ⟨n, L, Old, Pend, N + 1, At, Gone⟩) := Lib.hid (by unfold actR; rw [if_neg (by simp; omega)])
      clear h1
      go_enter Try.func23, Try.ntmps23
      go_wp2_with fail
      go_quiet (fail)
      go_wp2_with fail
      go_ret
      rw [E.out]
      exact ⟨rfl, HN.out.drewN nq, (kept_x w q 3 _).drewN nq⟩
  · have E : Hid (actR ⟨n, L, Old, Pend, N, At, Gone⟩ = ⟨n, L, Old, Pend, N + 1, At, Gone⟩) := Lib.hid (by unfold actR; rw [if_neg (by simp; omega)])
    obtain rfl : At = 0 := by omega
    go_enter Try.func23, Try.ntmps23
    go_wp2_with fail
    go_quiet (fail)
    go_wp2_with fail
    go_ret
    rw [E.out]
    exact ⟨rfl, HN.out.drewN nq, (kept_x w q 3 _).drewN nq⟩

set_option maxHeartbeats 1000000 in
theorem xwrite_any (h : RfAt w q d) (k : Int) (s : ByteArray) (ha : d.N < 9223372036854775807) : Calls Try.prog 8 #[.pointer (some ⟨q.x, 0, none⟩), .int .i64 k, .string s] w (RPost w q (.int .i64 (writeR d k s.data.toList).2) (writeR d k s.data.toList).1) := by
  obtain ⟨c0, c1, c2, c3, c4, c5, f⟩ := h.six
  have HD := Lib.hid h
  have hhi := h.hi
  have HR : Hid (writeR d k s.data.toList = if d.Gone then (d, 2) else if ¬ (hasR d k = true ∧ s.data.toList.length = 64) then (d, 20) else ({ actR d with L := upd d.L k.toNat s.data.toList, Pend := upd d.Pend k.toNat true }, if (actR d).Gone then 2 else 0)) := Lib.hid rfl
  clear h c1 c2 c3 c4
  cases hd : d.Gone
  · have HDD := Lib.hid hd
    rw [hd] at c5
    by_cases hs : s.size = 64
    · by_cases h0 : k < 0
      · have e : Hid (writeR d k s.data.toList = (d, 20)) := Lib.hid (by
          unfold writeR
          have : hasR d k = false := by unfold hasR; rw [decide_eq_false (show ¬ 0 ≤ k by omega)]; rfl
          simp [this, HDD.out])
        rw [e.out]
        clear hd
        go_enter Try.func8, Try.ntmps8
        go_wp2_with fail
        go_ret
        exact ⟨rfl, HD.out, Kept.refl _ _⟩
      · by_cases h1 : (d.n : Int) ≤ k
        · have e : Hid (writeR d k s.data.toList = (d, 20)) := Lib.hid (by
            unfold writeR
            have : hasR d k = false := by unfold hasR; rw [decide_eq_false (show ¬ k < (d.n : Int) by omega), Bool.and_false]
            simp [this, HDD.out])
          rw [e.out]
          clear hd
          go_enter Try.func8, Try.ntmps8
          go_wp2_with fail
          go_ret
          exact ⟨rfl, HD.out, Kept.refl _ _⟩
        · obtain ⟨i, rfl⟩ := Int.eq_ofNat_of_zero_le (show 0 ≤ k by omega)
          have hi : i < d.n := by omega
          have hn2 : (actR d).n = d.n := by unfold actR; split <;> rfl
          have hL2 : (actR d).L = d.L := by unfold actR; split <;> rfl
          have hP2 : (actR d).Pend = d.Pend := by unfold actR; split <;> rfl
          have e : Hid (writeR d (i : Int) s.data.toList = ({ actR d with L := upd d.L i s.data.toList, Pend := upd d.Pend i true }, if (actR d).Gone then 2 else 0)) := Lib.hid (by
            unfold writeR
            have : hasR d (i : Int) = true := (hasR_iff d _).2 ⟨by omega, by omega⟩
            simp [this, hs, HDD.out])
          have HSL : Hid (s.data.toList.length = 64) := Lib.hid (by rw [size_toList]; exact hs)
          rw [e.out]
          obtain ⟨x, hx⟩ : ∃ x, actR d = x := ⟨_, rfl⟩
          have HACT := Lib.hid (xact_any HD.out ha)
          rw [hx] at HACT hn2 hL2 hP2 ⊢
          rw [← hL2, ← hP2]
          have hi2 : i < x.n := by omega
          have HX := Lib.hid hn2
          clear hd hx hL2 hP2 hn2
          cases hg : x.Gone
          · rw [hg] at HACT
            have HG := Lib.hid hg
            clear hg
            go_enter Try.func8, Try.ntmps8
            go_wp2_with fail
            refine HACT.out.mono ?_
            rintro e w1 ⟨rfl, h1, hk1⟩
            have H1 := Lib.hid h1
            have HK1 := Lib.hid hk1
            obtain ⟨c0, c1, c2, c3, c4, c5, f⟩ := h1.six
            have hcl := h1.hl.cell hi2
            have hfl := h1.hl.frozen i
            have HS1 := h1.setL hi2 HSL.out
            rw [show (⟨s.data.toList.toArray⟩ : ByteArray) = s by simp] at HS1
            have HS1' := Lib.hid HS1
            have hkl := kept_l w1 q i (.string s)
            have a1 := HD.out.a1
            have a5 := HD.out.a5
            have hcp0 := h1.hp.cell hi2
            have hfp := h1.hp.frozen i
            have HS2 := Lib.hid (HS1.setPend hi2 true)
            clear h1 hk1 HS1 hkl HACT
            go_wp2_with fail
            go_ret
            exact ⟨rfl, HS2.out, HK1.out.trans ((kept_l w1 q i _).trans (kept_p _ q i _))⟩
          · rw [hg] at HACT
            have HG := Lib.hid hg
            clear hg
            go_enter Try.func8, Try.ntmps8
            go_wp2_with fail
            refine HACT.out.mono ?_
            rintro e w1 ⟨rfl, h1, hk1⟩
            have H1 := Lib.hid h1
            have HK1 := Lib.hid hk1
            obtain ⟨c0, c1, c2, c3, c4, c5, f⟩ := h1.six
            have hcl := h1.hl.cell hi2
            have hfl := h1.hl.frozen i
            have HS1 := h1.setL hi2 HSL.out
            rw [show (⟨s.data.toList.toArray⟩ : ByteArray) = s by simp] at HS1
            have HS1' := Lib.hid HS1
            have hkl := kept_l w1 q i (.string s)
            have a1 := HD.out.a1
            have a5 := HD.out.a5
            have hcp0 := h1.hp.cell hi2
            have hfp := h1.hp.frozen i
            have HS2 := Lib.hid (HS1.setPend hi2 true)
            clear h1 hk1 HS1 hkl HACT
            go_wp2_with fail
            go_ret
            exact ⟨rfl, HS2.out, HK1.out.trans ((kept_l w1 q i _).trans (kept_p _ q i _))⟩
    · have e : Hid (writeR d k s.data.toList = (d, 20)) := Lib.hid (by
        unfold writeR
        simp [hs, HDD.out])
      rw [e.out]
      clear hd
      have hs2 : ¬ (s.size : Int) = 64 := by omega
      by_cases h0 : k < 0
      · go_enter Try.func8, Try.ntmps8
        go_wp2_with fail
        go_ret
        exact ⟨rfl, HD.out, Kept.refl _ _⟩
      · by_cases h1 : (d.n : Int) ≤ k
        · go_enter Try.func8, Try.ntmps8
          go_wp2_with fail
          go_ret
          exact ⟨rfl, HD.out, Kept.refl _ _⟩
        · go_enter Try.func8, Try.ntmps8
          go_wp2_with fail
          go_ret
          exact ⟨rfl, HD.out, Kept.refl _ _⟩
  · have HDD := Lib.hid hd
    rw [hd] at c5
    have e : Hid (writeR d k s.data.toList = (d, 2)) := Lib.hid (by unfold writeR; simp [HDD.out])
    rw [e.out]
    clear hd
    go_enter Try.func8, Try.ntmps8
    go_wp2_with fail
    go_ret
    exact ⟨rfl, HD.out, Kept.refl _ _⟩
end
end Go.Proofs.Ytmfngbgdmlnlcaa
