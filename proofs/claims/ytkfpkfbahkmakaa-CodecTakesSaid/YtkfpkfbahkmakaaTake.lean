/- take: an item, by both readers. -/
import Derived.Test.YtkfpkfbahkmakaaRefs
import Derived.Test.YtkfpkfbahkmakaaLay
import Derived.Deep.RegionHeld3
namespace Go.Proofs.Ytkfpkfbahkmakaa
open Go.ChangeShapes Go.WideShapes Go.ChangeAt Go.RowKit
set_option linter.unusedVariables false

theorem Kept.of_drew' {S : Nat → Prop} {w w' : World} (h : Kept S w.drew w') : Kept S w w' := ⟨h.os, h.tape, h.output, h.size, h.block⟩

/-- both readers stand alike -/
structure Both (w : World) (b1 : Nat) (v1 : Value) (b2 : Nat) (s : ByteArray) (pos p e : Nat) : Prop where
  r : RAt w b1 v1 s.data.toList pos e
  f : FAt w b2 s p e
  alike : e = 0 → p = pos

def BS (b1 b2 : Nat) : Nat → Prop := fun k => k = b1 ∨ k = b2

def TakePost (w : World) (b1 : Nat) (v1 : Value) (b2 : Nat) (s : ByteArray) (en : Ending) (w' : World) : Prop :=
  en = .returned (.bool true) ∧ (∃ pos p e, Both w' b1 v1 b2 s pos p e) ∧ Kept (BS b1 b2) w w'

theorem take_end {w w1 w2 : World} {b1 b2 : Nat} {v1 : Value} {s : ByteArray} {pos p e : Nat} (o : Obj) (k1 : Kept (RS b1) (w.alloc o) w1) (k2 : Kept (RS b2) w1 w2)
    (r : RAt w1 b1 v1 s.data.toList pos e) (f : FAt w2 b2 s p e) (ha : e = 0 → p = pos) (hd : ¬ WS b1 v1 b2) :
    (∃ pos p e, Both w2 b1 v1 b2 s pos p e) ∧ Kept (BS b1 b2) w w2 := by
  have hd' : Disj (WS b1 v1) (RS b2) := fun k hk e => hd (by rw [← show k = b2 from e]; exact hk)
  exact ⟨⟨pos, p, e, r.keep k2 hd', f, ha⟩, ((Kept.alloc (Kept.refl (BS b1 b2) w) o).trans (k1.mono fun k _ h => Or.inl h)).trans (k2.mono fun k _ h => Or.inr h)⟩

set_option maxRecDepth 100000 in
set_option maxHeartbeats 1000000 in
theorem take_any (x : Item) (w : World) (b1 : Nat) (v1 : Value) (b2 : Nat) (s : ByteArray) (pos p e : Nat) (hB : Both w b1 v1 b2 s pos p e) (hd : ¬ WS b1 v1 b2) (hn : I64 x.n) :
    Calls Try.prog 17 #[.pointer (some ⟨b1, 0, none⟩), .pointer (some ⟨b2, 0, none⟩), .agg #[.int .i64 x.kind, .int .i64 x.n, .bool x.flag, .string x.s]] w (TakePost w b1 v1 b2 s) := by
  obtain ⟨k, n, f, t⟩ := x
  obtain ⟨hR0, hF0, hal⟩ := hB
  simp only at hn ⊢
  have hK0 : Kept (fun _ => False) w (w.alloc (.cells #[.int .i64 k, .int .i64 n, .bool f, .string t] 29)) := (Kept.refl _ w).alloc _
  have hR := hR0.keep hK0 (disj_none _)
  have hF := hF0.keep hK0 (fun h => h)
  have hsl : s.data.toList.length = s.size := by simp
  have hb1 : b1 < w.heap.size := lt_of_block hR0.at_
  have hb2 : b2 < w.heap.size := lt_of_block hF0.at_
  have hn1 : ¬ RS b1 w.heap.size := fun h => by have h' : w.heap.size = b1 := h; omega
  have hn2 : ¬ RS b2 w.heap.size := fun h => by have h' : w.heap.size = b2 := h; omega
  have hnb : ¬ RS b1 b2 := fun h => hd (Or.inl (show b2 = b1 from h))
  have HAL := Lib.hid hal; clear hal hK0
  by_cases h1 : k = 1
  · subst h1
    go_enter Try.func17, Try.ntmps17
    go_wp2_with (first | (go_at_call 20; refine (rnum_any _ b1 v1 _ pos e hR).mono ?_; rintro en w1 ⟨rfl, hR1, hk1⟩; have hF1 := hF.keep hk1 hnb) | (go_at_call 37; refine (fnum_any _ b2 s p pos e hF1 HAL.out).mono ?_; rintro en w2 ⟨p2, rfl, hF2, hp2, hk2⟩))
    go_ret
    exact ⟨ret_val (congrArg Value.bool (by simp)), take_end _ hk1 hk2 hR1 hF2 hp2 hd⟩
  · by_cases h2 : k = 2
    · subst h2
      go_enter Try.func17, Try.ntmps17
      go_wp2_with (first | (go_at_call 21; refine (rflag_any _ b1 v1 _ pos e hR).mono ?_; rintro en w1 ⟨rfl, hR1, hk1⟩; have hF1 := hF.keep hk1 hnb) | (go_at_call 38; refine (fflag_any _ b2 s p pos e hF1 HAL.out).mono ?_; rintro en w2 ⟨p2, rfl, hF2, hp2, hk2⟩))
      go_ret
      exact ⟨ret_val (congrArg Value.bool (by simp)), take_end _ hk1 hk2 hR1 hF2 hp2 hd⟩
    · by_cases h3 : k = 3
      · subst h3
        have hc : ((w.alloc (.cells #[.int .i64 3, .int .i64 n, .bool f, .string t] 29)).cell? ⟨w.heap.size, 1, none⟩) = some (.int .i64 n) := by rw [World.cell?_alloc_at _ _ _ _ rfl]; rfl
        go_enter Try.func17, Try.ntmps17
        go_wp2_with fail
        go_region_held3 (fun w' => w'.cell? ⟨w.heap.size, 1, none⟩ = some (.int .i64 n)) (first | assumption | go_keep) (first
          | (go_at_call 22; refine (rtext_any n _ b1 v1 _ pos e (hR.drewN 1) hn.1 hn.2).mono ?_; rintro en w1 ⟨rfl, hR1, hk1⟩; obtain ⟨d0, d1, d2, d3⟩ := box_cells hk1.of_drew' hn1; have hF1 := hF.keep hk1.of_drew' hnb)
          | (go_at_call 39; refine (ftext_any n _ b2 s p pos e hF1 HAL.out hn).mono ?_; rintro en w2 ⟨p2, rfl, hF2, hp2, hk2⟩; obtain ⟨g0, g1, g2, g3⟩ := box_cells ((hk1.of_drew'.mono (T := BS b1 b2) fun k _ h => Or.inl h).trans (hk2.mono fun k _ h => Or.inr h)) (fun h => h.elim hn1 hn2)))
        all_goals go_wp2_with fail
        all_goals go_ret
        all_goals exact ⟨ret_val (congrArg Value.bool (by simp)), take_end _ hk1.of_drew' hk2 hR1 hF2 hp2 hd⟩
      · by_cases h4 : k = 4
        · subst h4
          have hc : ((w.alloc (.cells #[.int .i64 4, .int .i64 n, .bool f, .string t] 29)).cell? ⟨w.heap.size, 1, none⟩) = some (.int .i64 n) := by rw [World.cell?_alloc_at _ _ _ _ rfl]; rfl
          go_enter Try.func17, Try.ntmps17
          go_wp2_with fail
          go_region_held3 (fun w' => w'.cell? ⟨w.heap.size, 1, none⟩ = some (.int .i64 n)) (first | assumption | go_keep) (first
            | (go_at_call 23; refine (rcount_any n _ b1 v1 _ pos e (hR.drewN 1) hn.1 hn.2).mono ?_; rintro en w1 ⟨rfl, hR1, hk1⟩; obtain ⟨d0, d1, d2, d3⟩ := box_cells hk1.of_drew' hn1; have hF1 := hF.keep hk1.of_drew' hnb)
            | (go_at_call 40; refine (fcount_any n _ b2 s p pos e hF1 HAL.out hn).mono ?_; rintro en w2 ⟨p2, rfl, hF2, hp2, hk2⟩; obtain ⟨g0, g1, g2, g3⟩ := box_cells ((hk1.of_drew'.mono (T := BS b1 b2) fun k _ h => Or.inl h).trans (hk2.mono fun k _ h => Or.inr h)) (fun h => h.elim hn1 hn2)))
          all_goals go_wp2_with fail
          all_goals go_ret
          all_goals exact ⟨ret_val (congrArg Value.bool (by simp)), take_end _ hk1.of_drew' hk2 hR1 hF2 hp2 hd⟩
        · by_cases h5 : k = 5
          · subst h5
            go_enter Try.func17, Try.ntmps17
            go_wp2_with (first | (go_at_call 41; refine (rFail_any _ b1 v1 _ pos e hR).mono ?_; rintro en w1 ⟨rfl, hR1, hk1⟩; have hF1 := hF.keep hk1 hnb) | (go_at_call 42; refine (fFail_any _ b2 s p pos e hF1 HAL.out).mono ?_; rintro en w2 ⟨p2, rfl, hF2, hp2, hk2⟩))
            go_ret
            exact ⟨rfl, take_end _ hk1 hk2 hR1 hF2 hp2 hd⟩
          · by_cases h6 : k = 6
            · subst h6
              go_enter Try.func17, Try.ntmps17
              go_wp2_with (first | (go_at_call 18; refine (rend_e _ b1 v1 _ pos e hR).mono ?_; rintro en w1 ⟨rfl, hR1, hk1⟩; rw [hsl] at hR1 ⊢; have hF1 := hF.keep hk1 hnb) | (go_at_call 19; refine (fend_any _ b2 s p pos e hF1 HAL.out).mono ?_; rintro en w2 ⟨p2, rfl, hF2, hp2, hk2⟩))
              go_ret
              exact ⟨ret_val (congrArg Value.bool (by simp)), take_end _ hk1 hk2 hR1 hF2 hp2 hd⟩
            · go_enter Try.func17, Try.ntmps17
              go_wp2_with fail
              go_ret
              exact ⟨rfl, take_end _ (Kept.refl _ _) (Kept.refl _ _) hR hF HAL.out hd⟩
end Go.Proofs.Ytkfpkfbahkmakaa
