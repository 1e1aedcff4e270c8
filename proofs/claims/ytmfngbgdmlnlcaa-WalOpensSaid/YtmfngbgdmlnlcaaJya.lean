/- What each call that acts defers, where the disk has died: the log is as it was, and in doubt. -/
import Derived.Test.YtmfngbgdmlnlcaaJz
namespace Go.Proofs.Ytmfngbgdmlnlcaa
open Go.ChangeShapes Go.WideShapes Go.ChangeAt Go.RowKit
set_option linter.unusedVariables false
set_option linter.unusedSimpArgs false

theorem log_info : (Try.prog.info? 75).map (·.size) = some 10 := by kernel_rfl
set_option maxRecDepth 100000 in
set_option maxHeartbeats 2000000 in
theorem right_die {lb eb : Nat} (c0 c1 c2 c3 c4 c5 c6 c7 c8 c9 : Value) {cur : List Value} {w : World} (he : w.cell? ⟨eb, 0, none⟩ = some (.int .i64 2)) (hlb : w.heap[lb]? = some (.cells cur.toArray 75 (0, 0))) (hcur : cur.length = 10)
    (h1 : ∀ v ∈ [c0, c1, c2, c3, c4, c5, c6, c7, c8, c9], v.oneCell' = true) (u : FrameMode) :
    CallsD Try.prog 34 #[.pointer (some ⟨lb, 0, none⟩), .agg #[c0, c1, c2, c3, c4, c5, c6, c7, c8, c9], .pointer (some ⟨eb, 0, none⟩)] u w fun e u' w' => u' = u ∧ e = .returned (.tuple #[]) ∧ Kept (fun k => k = lb) w w' := by
  have hb : eb < w.heap.size := World.block_lt_of_cell? w _ he
  have he1 : (w.alloc (.cells #[c0, c1, c2, c3, c4, c5, c6, c7, c8, c9] 75)).cell? ⟨eb, 0, none⟩ = some (.int .i64 2) := by
    rw [World.cell?_of_block (w := w) (Below.heap_alloc _ _ _ hb)]; exact he
  have hlt := lt_of_block hlb
  have hlb1 : (w.alloc (.cells #[c0, c1, c2, c3, c4, c5, c6, c7, c8, c9] 75)).heap[lb]? = some (.cells cur.toArray 75 (0, 0)) := by
    rw [Below.heap_alloc _ _ _ hlt]; exact hlb
  have hbox := heap_alloc_new w (.cells #[c0, c1, c2, c3, c4, c5, c6, c7, c8, c9] 75)
  have hrange : (w.alloc (.cells #[c0, c1, c2, c3, c4, c5, c6, c7, c8, c9] 75)).rangeAt w.heap.size 0 [c0, c1, c2, c3, c4, c5, c6, c7, c8, c9] := fun j v hv => by
    rw [cell_of_row _ w.heap.size (0 + j) _ _ (0, 0) hbox, Nat.zero_add, ← hv]; simp
  have hrow : ((w.alloc (.cells #[c0, c1, c2, c3, c4, c5, c6, c7, c8, c9] 75)).setRow lb #[c0, c1, c2, c3, c4, c5, c6, c7, c8, c9]).heap[lb]? = some (.cells #[c0, c1, c2, c3, c4, c5, c6, c7, c8, c9] 75 (0, 0)) := setRow_heap _ _ _ _ _ _ hlb1
  have hf9 : ((w.alloc (.cells #[c0, c1, c2, c3, c4, c5, c6, c7, c8, c9] 75)).setRow lb #[c0, c1, c2, c3, c4, c5, c6, c7, c8, c9]).frozen? ⟨lb, 9, none⟩ = false := by simp [World.frozen?, hrow]
  have hc9 : ((w.alloc (.cells #[c0, c1, c2, c3, c4, c5, c6, c7, c8, c9] 75)).setRow lb #[c0, c1, c2, c3, c4, c5, c6, c7, c8, c9]).cell? ⟨lb, 9, none⟩ = some c9 := by rw [cell_of_row _ lb 9 _ _ (0, 0) hrow]; rfl
  have hk : Kept (fun k => k = lb) w ((w.alloc (.cells #[c0, c1, c2, c3, c4, c5, c6, c7, c8, c9] 75)).setRow lb #[c0, c1, c2, c3, c4, c5, c6, c7, c8, c9]) := by
    have h2 : Kept (fun k => k = lb) w (w.alloc (.cells #[c0, c1, c2, c3, c4, c5, c6, c7, c8, c9] 75)) := (Kept.refl _ w).alloc _
    refine h2.trans ⟨rfl, rfl, rfl, by simp [World.setRow], fun k hk hn => ?_⟩
    simp only [World.setRow, Array.getElem?_modify]
    rw [if_neg (fun e => hn e.symm)]
  have HK := Lib.hid hk
  have H1 := Lib.hid h1
  have HC := Lib.hid hcur
  have HR := Lib.hid hrange
  have HL := Lib.hid hlb1
  clear hk h1 hcur hrange hlb1 hbox hrow hlb hb hlt he
  go_enter_d Try.func34, Try.ntmps34
  go_wp2_with (first
    | (refine wpList_load_mid rfl 75 _ rfl w.heap.size 0 rfl [c0, c1, c2, c3, c4, c5, c6, c7, c8, c9] _ HR.out Try.underlying75 rfl log_info ?_)
    | (refine wpList_store_row _ rfl 75 _ _ rfl lb _ [c0, c1, c2, c3, c4, c5, c6, c7, c8, c9] rfl rfl HL.out log_info (by simpa using HC.out) H1.out ?_))
  go_end0
  exact ⟨rfl, HK.out.setCell (a := ⟨lb, 9, none⟩) (.inl rfl) _⟩
theorem right_all {lb eb : Nat} {v : Int} (c0 c1 c2 c3 c4 c5 c6 c7 c8 c9 : Value) {cur : List Value} {w : World} (he : w.cell? ⟨eb, 0, none⟩ = some (.int .i64 v)) (hlb : w.heap[lb]? = some (.cells cur.toArray 75 (0, 0))) (hcur : cur.length = 10)
    (h1 : ∀ v ∈ [c0, c1, c2, c3, c4, c5, c6, c7, c8, c9], v.oneCell' = true) (u : FrameMode) :
    CallsD Try.prog 34 #[.pointer (some ⟨lb, 0, none⟩), .agg #[c0, c1, c2, c3, c4, c5, c6, c7, c8, c9], .pointer (some ⟨eb, 0, none⟩)] u w fun e u' w' => u' = u ∧ e = .returned (.tuple #[]) ∧ (v ≠ 2 → Kept (fun _ => False) w w') ∧ Kept (fun k => k = lb) w w' := by
  by_cases hv : v = 2
  · subst hv
    exact (right_die c0 c1 c2 c3 c4 c5 c6 c7 c8 c9 he hlb hcur h1 u).mono fun e u' w' ⟨a, b, c⟩ => ⟨a, b, fun h => absurd rfl h, c⟩
  · exact (right_not c0 c1 c2 c3 c4 c5 c6 c7 c8 c9 he hv u).mono fun e u' w' ⟨a, b, c⟩ => ⟨a, b, fun _ => c, c.mono (fun _ _ f => f.elim)⟩

/-- a log behind a call that answered v, and its disk -/
structure Wq (Z : Nat → Prop) (w : World) (lb db : Nat) (g : LSt) (d : DSt) (v : Int) : Prop where
  log : v ≠ 2 → Wl Z w lb db g d
  disk : ∃ sb mb nn, DAt w db sb mb nn d ∧ ∀ k, DB db sb mb k → Z k
  nw : ∀ k, w.heap.size ≤ k → Z k
theorem Wl.righted {Z Z' : Nat → Prop} {w w' : World} {lb db : Nat} {g : LSt} {d : DSt} {v : Int} (h : Wl Z w lb db g d) (h0 : v ≠ 2 → Kept (fun _ => False) w w') (h1 : Kept (fun k => k = lb) w w') (hz : ∀ k, Z k → Z' k) : Wq Z' w' lb db g d v := by
  obtain ⟨sb, mb, nn, rv, hD, hL, ⟨a1, a2, a3⟩, a4, a5⟩ := h.ex
  refine ⟨fun hv => ?_, ⟨sb, mb, nn, hD.kept h1 (fun k hk e => by have e : k = lb := e; subst e; exact a4 hk), fun k hk => hz k (a2 k hk)⟩, fun k hk => hz k (a5 k (Nat.le_trans h1.size hk))⟩
  have hk := h0 hv
  exact ⟨sb, mb, nn, rv, hD.kept hk (fun _ _ f => f), hL.kept hk id (fun _ _ f => f), ⟨hz _ a1, fun k hk => hz _ (a2 k hk), fun k hk => hz _ (a3 k hk)⟩, a4, fun k hk' => hz _ (a5 k (Nat.le_trans hk.size hk'))⟩
theorem Wl.whole {Z : Nat → Prop} {w : World} {lb db : Nat} {g : LSt} {d : DSt} (h : Wl Z w lb db g d) (v : Int) : Wq Z w lb db g d v :=
  h.righted (fun _ => Kept.refl _ w) (Kept.refl _ w) (fun _ z => z)
theorem Wl.atLog {Z : Nat → Prop} {w : World} {lb db : Nat} {g : LSt} {d : DSt} (h : Wl Z w lb db g d) : Z lb ∧ ∃ cur : List Value, cur.length = 10 ∧ w.heap[lb]? = some (.cells cur.toArray 75 (0, 0)) := by
  obtain ⟨sb, mb, nn, rv, hD, hL, ⟨a1, a2, a3⟩, a4, a5⟩ := h.ex
  exact ⟨a1, _, rfl, hL.at_⟩
theorem LgAt.slice {w : World} {lb db : Nat} {rv : Value} {g : LSt} (h : LgAt w lb db rv g) : ∃ a cap, rv = .slice a g.recs.length cap ∧ g.recs.length ≤ cap := by
  rcases h.row.2 with ⟨hv, h0⟩ | ⟨gg, cap, cur, hv, hb, hh, h1, _⟩
  · exact ⟨none, 0, by rw [hv, h0], by omega⟩
  · exact ⟨_, _, hv, h1⟩
end Go.Proofs.Ytmfngbgdmlnlcaa
