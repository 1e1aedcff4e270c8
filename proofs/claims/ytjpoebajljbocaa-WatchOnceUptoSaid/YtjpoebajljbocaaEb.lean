/- New, Count, Drop, isWatch, met, put. -/
import Derived.Test.YtjpoebajljbocaaEa
import Derived.StillTailTactics
import Derived.RegionTactic
import Derived.Lib.Hide
import Derived.BigQuiet
import Derived.Deep.QuietTactic
namespace Go.Proofs.Ytjpoebajljbocaa
open Go.ChangeShapes Go.WideShapes Go.ChangeAt Go.RowKit Go.Maps
set_option linter.unusedVariables false
set_option linter.unusedSimpArgs false
theorem ret_boolW {a b : Bool} (h : a = b) : Ending.returned (.bool a) = .returned (.bool b) := by rw [h]
def MovedW (w : World) (q : WQ) (L' : WL) (w' : World) : Prop := ∃ q', WAt w' q' L' ∧ q'.t = q.t ∧ (∀ k, WQs q' k → WQs q k ∨ w.heap.size ≤ k) ∧ Kept (WQs q) w w'
section
variable {w w' : World} {q : WQ} {L : WL} {D : DV} {E : Int → DV}
theorem MovedW.same (h : WAt w q L) (hk : Kept (fun _ => False) w w') : MovedW w q L w' :=
  ⟨q, h.kept0 hk, rfl, fun k hq => .inl hq, hk.mono (fun k _ f => f.elim)⟩
theorem MovedW.ahead {w1 : World} {L' : WL} (hk : Kept (fun _ => False) w w1) (h : MovedW w1 q L' w') : MovedW w q L' w' := by
  obtain ⟨q', h1, h2, h3, h4⟩ := h
  exact ⟨q', h1, h2, fun k hq => (h3 k hq).imp id (fun h => Nat.le_trans hk.size h), (hk.mono (T := WQs q) (fun k _ f => f.elim)).trans h4⟩
/-- Count, of a set that is there -/
theorem count_low {t m k n : Nat} {E0 : DV} {i : Int} (hc : w.cell? ⟨t, 0, none⟩ = some (.map (some m)))
    (hl : (Instr.lookup 118 (.map (some m)) (.int .i64 i) false).run Try.prog w = .ok (.map (some k)) w)
    (hown : w.ownsMap Try.prog 123 tok k n E0) :
    Calls Try.prog 30 #[.pointer (some ⟨t, 0, none⟩), .int .i64 i] w fun e w' => e = .returned (.int .i64 (Maps.size E0)) ∧ w = w' := by
  go_enter Try.func30, Try.ntmps30
  go_wp2_with (first
    | (at_len; refine wpList_len_own _ rfl _ 127 rfl 123 124 Try.underlying127 tok k n _ rfl hown ?_)
    | go_in)
  go_ret
  exact ⟨rfl, rfl⟩
theorem count_low0 {t m : Nat} {i : Int} (hc : w.cell? ⟨t, 0, none⟩ = some (.map (some m)))
    (hl : (Instr.lookup 118 (.map (some m)) (.int .i64 i) false).run Try.prog w = .ok (.map none) w) :
    Calls Try.prog 30 #[.pointer (some ⟨t, 0, none⟩), .int .i64 i] w fun e w' => e = .returned (.int .i64 0) ∧ w = w' := by
  have hln : ∀ ty, (Builtin.len_ #[127] ty #[.map none]).run Try.prog w = .ok (.int .i64 0) w := fun ty => Maps.len_nil Try.underlying127 ty
  go_enter Try.func30, Try.ntmps30
  go_wp2
  go_ret
  exact ⟨rfl, rfl⟩
theorem WD.count (h : WD w q L D E) (i : Int) (hi : I64 i) :
    Calls Try.prog 30 #[.pointer (some ⟨q.t, 0, none⟩), .int .i64 i] w fun e w' => e = .returned (.int .i64 (countW L i)) ∧ w = w' := by
  obtain ⟨c0, f⟩ := h.two
  have hl := h.look1 hi
  cases hb : q.B i with
  | none =>
    rw [hb] at hl
    have := h.noneB.1 hb
    rw [show countW L i = 0 by unfold countW; rw [this]; rfl]
    exact count_low0 c0 hl
  | some k =>
    rw [hb] at hl
    rw [← h.sizeB hb]
    exact count_low c0 hl (h.b i k hb)
theorem count_any (h : WAt w q L) (i : Int) (hi : I64 i) :
    Calls Try.prog 30 #[.pointer (some ⟨q.t, 0, none⟩), .int .i64 i] w fun e w' => e = .returned (.int .i64 (countW L i)) ∧ w = w' := by
  obtain ⟨D, E, h⟩ := h
  exact h.count i hi
/-- Drop -/
theorem drop_any (h : WAt w q L) (i : Int) (hi : I64 i) :
    Calls Try.prog 32 #[.pointer (some ⟨q.t, 0, none⟩), .int .i64 i] w fun e w' => e = .returned (.tuple #[]) ∧ MovedW w q (delW L i) w' := by
  obtain ⟨D, E, h⟩ := h
  obtain ⟨c0, f⟩ := h.two
  have HD := Lib.hid h
  have hm := h.m
  have hmt := h.mt
  have hlt := h.lt _ (.inl rfl)
  clear h
  go_enter Try.func32, Try.ntmps32
  go_wp2_with (first
    | (at_delete; refine wpList_delete_own _ rfl _ _ 118 3 rfl 127 keyI Try.underlying118 tok q.m _ D rfl hm _ _ rfl (keyI64 hi) ?_; intro w2 hown2 hturn2; go_frame)
    | go_in)
  go_end0
  have hk2 := keptM hturn2
  refine ⟨rfl, _, ⟨_, _, HD.out.del (owns_tight hown2) (hk2.mono (fun j _ e => .inl e))⟩, rfl, ?_, hk2.mono (fun j _ e => .inr (.inl e))⟩
  rintro j (e | e | ⟨a, ha⟩)
  · exact .inl (.inl e)
  · exact .inl (.inr (.inl e))
  · have ha : updB q.B i none a = some j := ha
    unfold updB at ha
    split at ha
    · cases ha
    · exact .inl (.inr (.inr ⟨a, ha⟩))
/-- Drop, in a loop over the sessions -/
theorem drop_ranges {t m r n cnt : Nat} {left : Lit → Bool} (hc : w.cell? ⟨t, 0, none⟩ = some (.map (some m))) (hrg : w.ranges Try.prog 3 tok m r n D left cnt) (i : Int) (hi : I64 i) :
    Calls Try.prog 32 #[.pointer (some ⟨t, 0, none⟩), .int .i64 i] w fun e w' => e = .returned (.tuple #[]) ∧
      ∃ cnt', w'.ranges Try.prog 3 tok m r n (D.del (.int .i64 i)) (fun z => left z && !z.sameKey (.int .i64 i)) cnt' ∧ cnt' ≤ cnt ∧ Kept (fun j => j = m) w w' := by
  go_enter Try.func32, Try.ntmps32
  go_wp2_with (first
    | (at_delete; refine wpList_delete_ranges _ rfl _ _ 118 3 rfl 127 keyI Try.underlying118 _ m r n _ _ _ rfl hrg _ _ rfl (keyI64 hi) ?_; intro w3 cnt3 hrg3 hle hturn; go_frame)
    | go_in)
  go_end0
  exact ⟨rfl, cnt3, hrg3, hle, keptM hturn⟩
def isW (k : Int) (p : ByteArray) : Bool := decide (1 ≤ k) && (decide (k ≤ 3) && decide (checkS p = 0))
theorem isWatch_any (k : Int) (p : ByteArray) (hp : p.size ≤ 140737488355328) (w : World) :
    Calls Try.prog 55 #[.int .i64 k, .string p] w fun e w' => e = .returned (.bool (isW k p)) ∧ Kept (fun _ => False) w w' := by
  by_cases h1 : 1 ≤ k
  · by_cases h3 : k ≤ 3
    · obtain ⟨c, hc⟩ : ∃ c, checkS p = c := ⟨_, rfl⟩
      have HI : Hid (isW k p = (c == 0)) := Lib.hid (by
        unfold isW; rw [hc]; simp [h1, h3]; rw [Bool.eq_iff_iff]; simp)
      have HC := Lib.hid (check_any p w hp)
      rw [hc] at HC
      clear hc
      go_enter Try.func55, Try.ntmps55
      go_wp2_with (first
        | (go_at_call 66; refine HC.out.mono ?_; rintro e w1 ⟨rfl, hb⟩)
        | fail)
      go_ret
      exact ⟨ret_boolW HI.out.symm, keptB hb (Nat.le_refl _)⟩
    · have HI : Hid (isW k p = false) := Lib.hid (by unfold isW; simp [h3])
      have b3 : decide (k ≤ 3) = false := by simpa using h3
      go_enter Try.func55, Try.ntmps55
      go_wp2_with fail
      go_ret
      exact ⟨ret_boolW HI.out.symm, Kept.refl _ _⟩
  · have HI : Hid (isW k p = false) := Lib.hid (by unfold isW; simp [h1])
    have b1 : decide (k ≥ 1) = false := by simpa using h1
    have b1' : decide (1 ≤ k) = false := by simpa using h1
    go_enter Try.func55, Try.ntmps55
    go_wp2_with fail
    go_ret
    exact ⟨ret_boolW HI.out.symm, Kept.refl _ _⟩
/-- a row of numbers -/
abbrev encI : Int → Value := Value.int .i64
abbrev IRow (B : Nat) (w : World) (v : Value) (l : List Int) : Prop := w.ownsRow B 3 1 v l.length (l.map encI)
def MetPost (w : World) (k : Int) (e : Ending) (w' : World) : Prop := ∃ v, e = .returned v ∧ IRow w.heap.size w' v (kindsOf k) ∧ Kept (fun _ => False) w w'
theorem new_irow (w : World) (l : List Int) (hl : l ≠ []) (h2 : l.length ≤ 1000000) : IRow w.heap.size (w.alloc (.cells (l.map encI).toArray 3)) (.slice (some ⟨w.heap.size, 0, none⟩) l.length l.length) l :=
  ⟨by simp, .inr ⟨w.heap.size, l.length, _, rfl, Nat.le_refl _, heap_alloc_new w _, by simp, by unfold maxLen; omega, by simp, by simp; exact List.take_of_length_le (by simp)⟩⟩
theorem met_any (k : Int) (w : World) : Calls Try.prog 80 #[.int .i64 k] w (MetPost w k) := by
  by_cases h1 : k = 1
  · subst h1
    go_enter Try.func80, Try.ntmps80
    go_wp2_with fail
    go_ret
    exact ⟨_, rfl, new_irow w [2] (by simp) (by decide), (Kept.refl _ w).alloc _⟩
  · have b1 : (k == 1) = false := by simpa using h1
    by_cases h2 : k = 2
    · subst h2
      go_enter Try.func80, Try.ntmps80
      go_wp2_with fail
      go_ret
      exact ⟨_, rfl, new_irow w [1, 2, 3] (by simp) (by decide), (Kept.refl _ w).alloc _⟩
    · have b2 : (k == 2) = false := by simpa using h2
      by_cases h3 : k = 3
      · subst h3
        go_enter Try.func80, Try.ntmps80
        go_wp2_with fail
        go_ret
        exact ⟨_, rfl, new_irow w [1, 2] (by simp) (by decide), (Kept.refl _ w).alloc _⟩
      · have b3 : (k == 3) = false := by simpa using h3
        by_cases h4 : k = 4
        · subst h4
          go_enter Try.func80, Try.ntmps80
          go_wp2_with fail
          go_ret
          exact ⟨_, rfl, new_irow w [3] (by simp) (by decide), (Kept.refl _ w).alloc _⟩
        · have b4 : (k == 4) = false := by simpa using h4
          have HK : Hid (kindsOf k = []) := Lib.hid (by unfold kindsOf; simp [h1, h2, h3, h4])
          clear h1 h2 h3 h4
          go_enter Try.func80, Try.ntmps80
          go_wp2_with fail
          go_ret
          refine ⟨_, rfl, ?_, Kept.refl _ w⟩
          rw [HK.out]; exact World.ownsRow_nil _ _ _ _
/-- New -/
def NewPost (w : World) (e : Ending) (w' : World) : Prop := ∃ q, e = .returned (.pointer (some ⟨q.t, 0, none⟩)) ∧ WAt w' q [] ∧ (∀ k, WQs q k → w.heap.size ≤ k) ∧ Kept (fun _ => False) w w'
theorem wnew_any (w : World) : Calls Try.prog 28 #[] w (NewPost w) := by
  have hmm := @run_makeMap Try.prog 118 w
  go_enter Try.func28, Try.ntmps28
  go_wp2_with fail
  go_ret
  have hA : Kept (fun _ => False) w (w.alloc (.map #[] 0)) := (Kept.refl _ w).alloc _
  have hb2 := heap_alloc_new (w.alloc (.map #[] 0)) (.cells #[.map (some w.heap.size)] 120)
  refine ⟨⟨w.heap.size + 1, w.heap.size, fun _ => none⟩, ?_, ⟨.map [], fun _ => .map [], ?_, ?_, fun a => by rw [lookV_empty]; rfl, (fun a k h => nomatch h), (fun a k h => nomatch h), fun a => ?_, (fun a a' k h => nomatch h), (fun a k h => nomatch h), wlOk_nil⟩, ?_, (hA.alloc _)⟩
  · simp
  · rw [show (w.alloc (.map #[] 0)).heap.size = w.heap.size + 1 by simp] at hb2
    exact hb2
  · exact owns_tight (ownsMap_kept (World.ownsMap_made w _ _ _) ((Kept.refl (fun _ => False) _).alloc _) (fun f => f))
  · constructor
    · intro h; cases h
    · intro h; exact absurd rfl h
  · rintro k (rfl | rfl | ⟨a, ha⟩)
    · exact Nat.le_succ _
    · exact Nat.le_refl _
    · cases ha
end
end Go.Proofs.Ytjpoebajljbocaa
