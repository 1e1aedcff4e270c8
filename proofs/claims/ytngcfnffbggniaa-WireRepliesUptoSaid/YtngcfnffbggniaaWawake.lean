/- awake of layer 2: the chapter's examples. -/
import Derived.Test.YtngcfnffbggniaaIsmall
namespace Go.Proofs.Ytngcfnffbggniaa
open Go.ChangeShapes Go.WideShapes Go.ChangeAt Go.RowKit
set_option linter.unusedVariables false

theorem Old.alloc {w0 w : World} (h : Old w0 w) (o : Obj) : Old w0 (w.alloc o) := Kept.alloc h o

theorem wex1 : eventF.lay ⟨3, ⟨#[47, 97]⟩, 7⟩ = [6, 2, 47, 97, 14] := by decide +kernel
theorem wex2 : helloF.lay ⟨1, 0, 10, ⟨#[115]⟩⟩ = [2, 0, 20, 1, 115] := by decide +kernel
theorem wex3 : noteF.lay ⟨1, 2, 3, 4, 5, 6⟩ = [2, 4, 6, 8, 10, 12] := by decide +kernel

theorem small_i64 {n : Int} (h : 0 ≤ n) (h2 : n ≤ 100) : I64 n := by unfold I64; omega
theorem wexr1 : eventF.read ⟨#[6, 2, 47, 97, 14]⟩ = some ⟨3, ⟨#[47, 97]⟩, 7⟩ :=
  Fmt.read_lay eventF_ok wex1.symm ⟨small_i64 (by decide) (by decide), (by decide : (2 : Nat) ≤ 4096), small_i64 (by decide) (by decide)⟩
theorem wexr2 : eventF.read ⟨#[6, 2, 47, 97, 14, 0]⟩ = none := by
  cases h : eventF.read ⟨#[6, 2, 47, 97, 14, 0]⟩ with
  | none => rfl
  | some x =>
    have h1 := (Fmt.read_some eventF_ok h).1
    have h2 := eventF_ok.pf x ⟨3, ⟨#[47, 97]⟩, 7⟩ [] [0] (by rw [← h1, wex1]; rfl)
    simp at h2

theorem get_event_ok (w : World) : Calls Try.prog 31 #[.string ⟨#[6, 2, 47, 97, 14]⟩] w fun en w' => en = .returned (.tuple #[.agg #[.int .i64 3, .string ⟨#[47, 97]⟩, .int .i64 7], .int .i64 0]) ∧ Old w w' := by
  have h := GetEvent_any ⟨#[6, 2, 47, 97, 14]⟩ w (by decide)
  rw [wexr1] at h
  refine h.mono fun en w' ⟨cs, he, hO, hE⟩ => ?_
  have hcs : cs = [.int .i64 3, .string ⟨#[47, 97]⟩, .int .i64 7] := hE.1
  subst hcs
  exact ⟨he, hO⟩
theorem get_event_bad (w : World) : Calls Try.prog 31 #[.string ⟨#[6, 2, 47, 97, 14, 0]⟩] w fun en w' => en = .returned (.tuple #[.agg #[.int .i64 0, .string ⟨#[]⟩, .int .i64 0], .int .i64 120]) ∧ Old w w' := by
  have h := GetEvent_any ⟨#[6, 2, 47, 97, 14, 0]⟩ w (by decide)
  rw [wexr2] at h
  refine h.mono fun en w' ⟨cs, he, hO, hE⟩ => ?_
  have hcs : cs = [.int .i64 0, .string ⟨#[]⟩, .int .i64 0] := hE.1
  subst hcs
  exact ⟨he, hO⟩
theorem put_event_ex (w : World) : Calls Try.prog 21 #[.agg #[.int .i64 3, .string ⟨#[47, 97]⟩, .int .i64 7]] w fun en w' => en = .returned (.string ⟨#[6, 2, 47, 97, 14]⟩) ∧ Old w w' := by
  have h := PutEvent_any ⟨3, ⟨#[47, 97]⟩, 7⟩ [.int .i64 3, .string ⟨#[47, 97]⟩, .int .i64 7] (fun _ => False) w ⟨rfl, small_i64 (by decide) (by decide), (by unfold Str; decide), small_i64 (by decide) (by decide)⟩ (fun _ f => f.elim) (by rw [wex1]; decide)
  rw [wex1] at h
  exact h
theorem put_hello_ex (w : World) : Calls Try.prog 22 #[.agg #[.int .i64 1, .int .i64 0, .int .i64 10, .string ⟨#[115]⟩]] w fun en w' => en = .returned (.string ⟨#[2, 0, 20, 1, 115]⟩) ∧ Old w w' := by
  have h := PutHello_any ⟨1, 0, 10, ⟨#[115]⟩⟩ [.int .i64 1, .int .i64 0, .int .i64 10, .string ⟨#[115]⟩] (fun _ => False) w ⟨rfl, small_i64 (by decide) (by decide), small_i64 (by decide) (by decide), small_i64 (by decide) (by decide), (by unfold Str; decide)⟩ (fun _ f => f.elim) (by rw [wex2]; decide)
  rw [wex2] at h
  exact h
theorem put_note_ex (w : World) : Calls Try.prog 23 #[.agg #[.int .i64 1, .int .i64 2, .int .i64 3, .int .i64 4, .int .i64 5, .int .i64 6]] w fun en w' => en = .returned (.string ⟨#[2, 4, 6, 8, 10, 12]⟩) ∧ Old w w' := by
  have h := PutNote_any ⟨1, 2, 3, 4, 5, 6⟩ [.int .i64 1, .int .i64 2, .int .i64 3, .int .i64 4, .int .i64 5, .int .i64 6] (fun _ => False) w ⟨rfl, small_i64 (by decide) (by decide), small_i64 (by decide) (by decide), small_i64 (by decide) (by decide), small_i64 (by decide) (by decide), small_i64 (by decide) (by decide), small_i64 (by decide) (by decide)⟩ (fun _ f => f.elim) (by rw [wex3]; decide)
  rw [wex3] at h
  exact h

set_option maxRecDepth 100000 in
theorem wawake_any (w : World) : Calls Try.prog 9 #[] w fun e w' => e = .returned (.bool true) ∧ Old w w' := by
  have hO0 := Old.refl w
  go_enter Try.func9, Try.ntmps9
  go_wp2_with fail
  refine (put_event_ex _).mono ?_
  rintro en w1 ⟨rfl, hO1⟩
  have hP1 := hO0.none hO1
  clear hO0 hO1
  go_wp2_with fail
  refine (get_event_ok _).mono ?_
  rintro en w2 ⟨rfl, hO2⟩
  have hP2 := hP1.none hO2
  clear hP1 hO2
  go_wp2_with fail
  refine (get_event_bad _).mono ?_
  rintro en w3 ⟨rfl, hO3⟩
  have hb3 : w3.heap[w2.heap.size]? = some (.cells #[.int .i64 3, .string ⟨#[47, 97]⟩, .int .i64 7] 50 (0, 0)) := by
    rw [hO3.block _ (by simp) id]; exact heap_alloc_new w2 _
  have hP3 := (hP2.alloc _).none hO3
  clear hP2 hO3
  go_wp2_with fail
  refine (put_hello_ex _).mono ?_
  rintro en w4 ⟨rfl, hO4⟩
  have hQ4 : Old w3 w4 := ((Old.refl w3).alloc _).none hO4
  have hb4 := (hQ4.block _ (lt_of_block hb3) id).trans hb3
  have hP4 := hP3.none hQ4
  clear hb3 hP3 hO4 hQ4
  go_wp2_with fail
  refine (put_note_ex _).mono ?_
  rintro en w5 ⟨rfl, hO5⟩
  have hb5 := (hO5.block _ (lt_of_block hb4) id).trans hb4
  have hP5 := hP4.none hO5
  clear hb4 hP4 hO5
  have c0 : w5.cell? ⟨w2.heap.size, 0, none⟩ = some (.int .i64 3) := by simp [World.cell?, hb5]
  have c1 : w5.cell? ⟨w2.heap.size, 1, none⟩ = some (.string ⟨#[47, 97]⟩) := by simp [World.cell?, hb5]
  have c2 : w5.cell? ⟨w2.heap.size, 2, none⟩ = some (.int .i64 7) := by simp [World.cell?, hb5]
  clear hb5
  go_wp2_with fail
  go_ret
  exact ⟨rfl, hP5⟩
end Go.Proofs.Ytngcfnffbggniaa
