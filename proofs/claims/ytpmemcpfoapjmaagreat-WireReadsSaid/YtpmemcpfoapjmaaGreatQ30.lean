/- awake of layer 2: the chapter's examples. WireSmall: the walk. WireReads: the walk. -/
import Derived.Test.YtpmemcpfoapjmaaGreatQ09
import Derived.Test.YtpmemcpfoapjmaaGreatQ08
import Derived.Test.YtpmemcpfoapjmaaGreatQ06
import Derived.WalkSpells
import Derived.Outline
import Derived.Test.YtpmemcpfoapjmaaGreatQ12
import Derived.Test.YtpmemcpfoapjmaaGreatQ18
import Derived.Test.YtpmemcpfoapjmaaGreatQ25
import Derived.Test.YtpmemcpfoapjmaaGreatQ29
namespace Go.Proofs.YtpmemcpfoapjmaaGreat
open Go.ChangeShapes Go.WideShapes Go.ChangeAt Go.RowKit
set_option linter.unusedVariables false

theorem Old.alloc {w0 w : World} (h : Old w0 w) (o : Obj) : Old w0 (w.alloc o) := Kept.alloc h o

theorem wex1 : eventF.lay ⟨3, ⟨#[47, 97]⟩, 7⟩ = [6, 2, 47, 97, 14] := by decide +kernel
theorem wex2 : helloF.lay ⟨1, 0, 10, ⟨#[115]⟩⟩ = [2, 0, 20, 1, 115] := by decide +kernel
theorem wex3 : noteF.lay ⟨1, 2, 3, 4, 5, 6⟩ = [2, 4, 6, 8, 10, 12] := by decide +kernel

theorem small_i64 {n : Int} (h : 0 ≤ n) (h2 : n ≤ 100) : I64 n := by unfold I64; omega
theorem wexr1 : eventF.read ⟨#[6, 2, 47, 97, 14]⟩ = some ⟨3, ⟨#[47, 97]⟩, 7⟩ :=
  Fmt.read_lay eventF_ok wex1.symm ⟨small_i64 (by decide) (by decide), (by decide : (2 : Nat) ≤ 4096), small_i64 (by decide) (by decide)⟩
theorem wexr2 : eventF.read ⟨#[6, 2, 47, 97, 14, 0]⟩ = none := by
  cases h : eventF.read ⟨#[6, 2, 47, 97, 14, 0]⟩ with
  | none => rfl
  | some x =>
    have h1 := (Fmt.read_some eventF_ok h).1
    have h2 := eventF_ok.pf x ⟨3, ⟨#[47, 97]⟩, 7⟩ [] [0] (by rw [← h1, wex1]; rfl)
    simp at h2

theorem get_event_ok (w : World) : Calls Tryz.prog 16 #[.string ⟨#[6, 2, 47, 97, 14]⟩] w fun en w' => en = .returned (.tuple #[.agg #[.int .i64 3, .string ⟨#[47, 97]⟩, .int .i64 7], .int .i64 0]) ∧ Old w w' := by
  have h := GetEvent_any ⟨#[6, 2, 47, 97, 14]⟩ w (by decide)
  rw [wexr1] at h
  refine h.mono fun en w' ⟨cs, he, hO, hE⟩ => ?_
  have hcs : cs = [.int .i64 3, .string ⟨#[47, 97]⟩, .int .i64 7] := hE.1
  subst hcs
  exact ⟨he, hO⟩
theorem get_event_bad (w : World) : Calls Tryz.prog 16 #[.string ⟨#[6, 2, 47, 97, 14, 0]⟩] w fun en w' => en = .returned (.tuple #[.agg #[.int .i64 0, .string ⟨#[]⟩, .int .i64 0], .int .i64 120]) ∧ Old w w' := by
  have h := GetEvent_any ⟨#[6, 2, 47, 97, 14, 0]⟩ w (by decide)
  rw [wexr2] at h
  refine h.mono fun en w' ⟨cs, he, hO, hE⟩ => ?_
  have hcs : cs = [.int .i64 0, .string ⟨#[]⟩, .int .i64 0] := hE.1
  subst hcs
  exact ⟨he, hO⟩
theorem put_event_ex (w : World) : Calls Tryz.prog 15 #[.agg #[.int .i64 3, .string ⟨#[47, 97]⟩, .int .i64 7]] w fun en w' => en = .returned (.string ⟨#[6, 2, 47, 97, 14]⟩) ∧ Old w w' := by
  have h := PutEvent_any ⟨3, ⟨#[47, 97]⟩, 7⟩ [.int .i64 3, .string ⟨#[47, 97]⟩, .int .i64 7] (fun _ => False) w ⟨rfl, small_i64 (by decide) (by decide), (by unfold Str; decide), small_i64 (by decide) (by decide)⟩ (fun _ f => f.elim) (by rw [wex1]; decide)
  rw [wex1] at h
  exact h
theorem put_hello_ex (w : World) : Calls Tryz.prog 17 #[.agg #[.int .i64 1, .int .i64 0, .int .i64 10, .string ⟨#[115]⟩]] w fun en w' => en = .returned (.string ⟨#[2, 0, 20, 1, 115]⟩) ∧ Old w w' := by
  have h := PutHello_any ⟨1, 0, 10, ⟨#[115]⟩⟩ [.int .i64 1, .int .i64 0, .int .i64 10, .string ⟨#[115]⟩] (fun _ => False) w ⟨rfl, small_i64 (by decide) (by decide), small_i64 (by decide) (by decide), small_i64 (by decide) (by decide), (by unfold Str; decide)⟩ (fun _ f => f.elim) (by rw [wex2]; decide)
  rw [wex2] at h
  exact h
theorem put_note_ex (w : World) : Calls Tryz.prog 18 #[.agg #[.int .i64 1, .int .i64 2, .int .i64 3, .int .i64 4, .int .i64 5, .int .i64 6]] w fun en w' => en = .returned (.string ⟨#[2, 4, 6, 8, 10, 12]⟩) ∧ Old w w' := by
  have h := PutNote_any ⟨1, 2, 3, 4, 5, 6⟩ [.int .i64 1, .int .i64 2, .int .i64 3, .int .i64 4, .int .i64 5, .int .i64 6] (fun _ => False) w ⟨rfl, small_i64 (by decide) (by decide), small_i64 (by decide) (by decide), small_i64 (by decide) (by decide), small_i64 (by decide) (by decide), small_i64 (by decide) (by decide), small_i64 (by decide) (by decide)⟩ (fun _ f => f.elim) (by rw [wex3]; decide)
  rw [wex3] at h
  exact h

set_option maxRecDepth 100000 in
theorem wawake_any (w : World) : Calls Tryz.prog 5 #[] w fun e w' => e = .returned (.bool true) ∧ Old w w' := by
  have hO0 := Old.refl w
  go_enter Tryz.func5, Tryz.ntmps5
  go_wp2_with fail
  refine (put_event_ex _).mono ?_
  rintro en w1 ⟨rfl, hO1⟩
  have hP1 := hO0.none hO1
  clear hO0 hO1
  go_wp2_with fail
  refine (get_event_ok _).mono ?_
  rintro en w2 ⟨rfl, hO2⟩
  have hP2 := hP1.none hO2
  clear hP1 hO2
  go_wp2_with fail
  refine (get_event_bad _).mono ?_
  rintro en w3 ⟨rfl, hO3⟩
  have hb3 : w3.heap[w2.heap.size]? = some (.cells #[.int .i64 3, .string ⟨#[47, 97]⟩, .int .i64 7] 46 (0, 0)) := by
    rw [hO3.block _ (by simp) id]; exact heap_alloc_new w2 _
  have hP3 := (hP2.alloc _).none hO3
  clear hP2 hO3
  go_wp2_with fail
  refine (put_hello_ex _).mono ?_
  rintro en w4 ⟨rfl, hO4⟩
  have hQ4 : Old w3 w4 := ((Old.refl w3).alloc _).none hO4
  have hb4 := (hQ4.block _ (lt_of_block hb3) id).trans hb3
  have hP4 := hP3.none hQ4
  clear hb3 hP3 hO4 hQ4
  go_wp2_with fail
  refine (put_note_ex _).mono ?_
  rintro en w5 ⟨rfl, hO5⟩
  have hb5 := (hO5.block _ (lt_of_block hb4) id).trans hb4
  have hP5 := hP4.none hO5
  clear hb4 hP4 hO5
  have c0 : w5.cell? ⟨w2.heap.size, 0, none⟩ = some (.int .i64 3) := by simp [World.cell?, hb5]
  have c1 : w5.cell? ⟨w2.heap.size, 1, none⟩ = some (.string ⟨#[47, 97]⟩) := by simp [World.cell?, hb5]
  have c2 : w5.cell? ⟨w2.heap.size, 2, none⟩ = some (.int .i64 7) := by simp [World.cell?, hb5]
  clear hb5
  go_wp2_with fail
  go_ret
  exact ⟨rfl, hP5⟩
end Go.Proofs.YtpmemcpfoapjmaaGreat

namespace Go.Proofs.YtpmemcpfoapjmaaGreat.wireSmall
open Go.ChangeShapes Go.WideShapes Go.ChangeAt Go.RowKit
set_option linter.unusedVariables false

/-- both answer alike -/
theorem both_event (s : ByteArray) (hs : s.size ≤ 140737488355328) : ∃ (x : Event) (e : Int),
    (∀ W : World, Calls Tryz.prog 16 #[.string s] W fun en w' => en = .returned (.tuple #[.agg #[.int .i64 x.kind, .string x.path, .int .i64 x.zxid], .int .i64 e]) ∧ Old W w') ∧
    (∀ W : World, Calls Tryz.prog 39 #[.string s] W fun en w' => en = .returned (.tuple #[.agg #[.int .i64 x.kind, .string x.path, .int .i64 x.zxid], .int .i64 e]) ∧ Old W w') := by
  refine ⟨(eventF.read s).getD zEvent, errOf (eventF.read s), fun W => (GetEvent_any s W (by unfold maxLen; omega)).mono fun en w' ⟨cs, he, hO, hE⟩ => ?_, fun W => (refget_event s W hs).mono fun en w' ⟨cs, he, hO, hE⟩ => ?_⟩
  · obtain rfl := hE.1
    exact ⟨he, hO⟩
  · obtain rfl := hE.1
    exact ⟨he, hO⟩

/-- both answer alike -/
theorem both_hello (s : ByteArray) (hs : s.size ≤ 140737488355328) : ∃ (x : Hello) (e : Int),
    (∀ W : World, Calls Tryz.prog 37 #[.string s] W fun en w' => en = .returned (.tuple #[.agg #[.int .i64 x.session, .int .i64 x.zxid, .int .i64 x.timeout, .string x.secret], .int .i64 e]) ∧ Old W w') ∧
    (∀ W : World, Calls Tryz.prog 40 #[.string s] W fun en w' => en = .returned (.tuple #[.agg #[.int .i64 x.session, .int .i64 x.zxid, .int .i64 x.timeout, .string x.secret], .int .i64 e]) ∧ Old W w') := by
  refine ⟨(helloF.read s).getD zHello, errOf (helloF.read s), fun W => (GetHello_any s W (by unfold maxLen; omega)).mono fun en w' ⟨cs, he, hO, hE⟩ => ?_, fun W => (refget_hello s W hs).mono fun en w' ⟨cs, he, hO, hE⟩ => ?_⟩
  · obtain rfl := hE.1
    exact ⟨he, hO⟩
  · obtain rfl := hE.1
    exact ⟨he, hO⟩

/-- both answer alike -/
theorem both_note (s : ByteArray) (hs : s.size ≤ 140737488355328) : ∃ (x : Note) (e : Int),
    (∀ W : World, Calls Tryz.prog 38 #[.string s] W fun en w' => en = .returned (.tuple #[.agg #[.int .i64 x.from_, .int .i64 x.state, .int .i64 x.round, .int .i64 x.leader, .int .i64 x.epoch, .int .i64 x.zxid], .int .i64 e]) ∧ Old W w') ∧
    (∀ W : World, Calls Tryz.prog 41 #[.string s] W fun en w' => en = .returned (.tuple #[.agg #[.int .i64 x.from_, .int .i64 x.state, .int .i64 x.round, .int .i64 x.leader, .int .i64 x.epoch, .int .i64 x.zxid], .int .i64 e]) ∧ Old W w') := by
  refine ⟨(noteF.read s).getD zNote, errOf (noteF.read s), fun W => (GetNote_any s W (by unfold maxLen; omega)).mono fun en w' ⟨cs, he, hO, hE⟩ => ?_, fun W => (refget_note s W hs).mono fun en w' ⟨cs, he, hO, hE⟩ => ?_⟩
  · obtain rfl := hE.1
    exact ⟨he, hO⟩
  · obtain rfl := hE.1
    exact ⟨he, hO⟩

set_option maxRecDepth 100000 in
set_option maxHeartbeats 2000000 in
theorem small_any (s : ByteArray) (w : World) (hs : s.size ≤ 140737488355328) : Calls Tryz.prog 14 #[.string s] w fun e w' => e = .returned (.bool true) ∧ Old w w' := by
  obtain ⟨⟨e0, e1, e2⟩, e_event, pa_event, pb_event⟩ := both_event s hs
  simp only at pa_event pb_event
  have PA_event := Lib.hid pa_event; clear pa_event
  have PB_event := Lib.hid pb_event; clear pb_event
  have HSZ_event := Lib.hid (show (Tryz.prog.info? 46).map (·.size) = some 3 by kernel_rfl)
  obtain ⟨⟨h0, h1, h2, h3⟩, e_hello, pa_hello, pb_hello⟩ := both_hello s hs
  simp only at pa_hello pb_hello
  have PA_hello := Lib.hid pa_hello; clear pa_hello
  have PB_hello := Lib.hid pb_hello; clear pb_hello
  have HSZ_hello := Lib.hid (show (Tryz.prog.info? 51).map (·.size) = some 4 by kernel_rfl)
  obtain ⟨⟨n0, n1, n2, n3, n4, n5⟩, e_note, pa_note, pb_note⟩ := both_note s hs
  simp only at pa_note pb_note
  have PA_note := Lib.hid pa_note; clear pa_note
  have PB_note := Lib.hid pb_note; clear pb_note
  have HSZ_note := Lib.hid (show (Tryz.prog.info? 54).map (·.size) = some 6 by kernel_rfl)
  go_enter Tryz.func14, Tryz.ntmps14
  go_wp2_with fail
  refine (PA_event.out _).mono ?_
  rintro en w1 ⟨rfl, hO1⟩
  have HO1 := Lib.hid (((Old.refl w).none hO1).make (.cells ([.int .i64 e0, .string e1, .int .i64 e2] : List Value).toArray 46))
  have hA1 : Old w1 (w1.alloc (.cells ([.int .i64 e0, .string e1, .int .i64 e2] : List Value).toArray 46)) := (Old.refl _).make _
  have HB1 := Lib.hid (heap_alloc_new w1 (.cells ([.int .i64 e0, .string e1, .int .i64 e2] : List Value).toArray 46))
  clear hO1 hA1
  go_wp2_with (refine wpList_store_new w1 rfl 46 _ _ rfl _ [.int .i64 e0, .string e1, .int .i64 e2] rfl rfl HSZ_event.out rfl (by simp [Value.oneCell']) ?_)
  refine (PA_hello.out _).mono ?_
  rintro en w2 ⟨rfl, hO2⟩
  have HO2 := Lib.hid ((HO1.out.none hO2).make (.cells ([.int .i64 h0, .int .i64 h1, .int .i64 h2, .string h3] : List Value).toArray 51))
  have hA2 : Old w2 (w2.alloc (.cells ([.int .i64 h0, .int .i64 h1, .int .i64 h2, .string h3] : List Value).toArray 51)) := (Old.refl _).make _
  replace HB1 := Lib.hid (((hO2.none hA2).block _ (lt_of_block HB1.out) id).trans HB1.out)
  have HB2 := Lib.hid (heap_alloc_new w2 (.cells ([.int .i64 h0, .int .i64 h1, .int .i64 h2, .string h3] : List Value).toArray 51))
  clear hO2 hA2 HO1
  go_wp2_with (refine wpList_store_new w2 rfl 51 _ _ rfl _ [.int .i64 h0, .int .i64 h1, .int .i64 h2, .string h3] rfl rfl HSZ_hello.out rfl (by simp [Value.oneCell']) ?_)
  refine (PA_note.out _).mono ?_
  rintro en w3 ⟨rfl, hO3⟩
  have HO3 := Lib.hid ((HO2.out.none hO3).make (.cells ([.int .i64 n0, .int .i64 n1, .int .i64 n2, .int .i64 n3, .int .i64 n4, .int .i64 n5] : List Value).toArray 54))
  have hA3 : Old w3 (w3.alloc (.cells ([.int .i64 n0, .int .i64 n1, .int .i64 n2, .int .i64 n3, .int .i64 n4, .int .i64 n5] : List Value).toArray 54)) := (Old.refl _).make _
  replace HB1 := Lib.hid (((hO3.none hA3).block _ (lt_of_block HB1.out) id).trans HB1.out)
  replace HB2 := Lib.hid (((hO3.none hA3).block _ (lt_of_block HB2.out) id).trans HB2.out)
  have HB3 := Lib.hid (heap_alloc_new w3 (.cells ([.int .i64 n0, .int .i64 n1, .int .i64 n2, .int .i64 n3, .int .i64 n4, .int .i64 n5] : List Value).toArray 54))
  clear hO3 hA3 HO2
  go_wp2_with (refine wpList_store_new w3 rfl 54 _ _ rfl _ [.int .i64 n0, .int .i64 n1, .int .i64 n2, .int .i64 n3, .int .i64 n4, .int .i64 n5] rfl rfl HSZ_note.out rfl (by simp [Value.oneCell']) ?_)
  refine (PB_event.out _).mono ?_
  rintro en w4 ⟨rfl, hO4⟩
  have HO4 := Lib.hid ((HO3.out.none hO4).make (.cells ([.int .i64 e0, .string e1, .int .i64 e2] : List Value).toArray 46))
  have hA4 : Old w4 (w4.alloc (.cells ([.int .i64 e0, .string e1, .int .i64 e2] : List Value).toArray 46)) := (Old.refl _).make _
  replace HB1 := Lib.hid (((hO4.none hA4).block _ (lt_of_block HB1.out) id).trans HB1.out)
  replace HB2 := Lib.hid (((hO4.none hA4).block _ (lt_of_block HB2.out) id).trans HB2.out)
  replace HB3 := Lib.hid (((hO4.none hA4).block _ (lt_of_block HB3.out) id).trans HB3.out)
  have HB4 := Lib.hid (heap_alloc_new w4 (.cells ([.int .i64 e0, .string e1, .int .i64 e2] : List Value).toArray 46))
  clear hO4 hA4 HO3
  go_wp2_with (refine wpList_store_new w4 rfl 46 _ _ rfl _ [.int .i64 e0, .string e1, .int .i64 e2] rfl rfl HSZ_event.out rfl (by simp [Value.oneCell']) ?_)
  refine (PB_hello.out _).mono ?_
  rintro en w5 ⟨rfl, hO5⟩
  have HO5 := Lib.hid ((HO4.out.none hO5).make (.cells ([.int .i64 h0, .int .i64 h1, .int .i64 h2, .string h3] : List Value).toArray 51))
  have hA5 : Old w5 (w5.alloc (.cells ([.int .i64 h0, .int .i64 h1, .int .i64 h2, .string h3] : List Value).toArray 51)) := (Old.refl _).make _
  replace HB1 := Lib.hid (((hO5.none hA5).block _ (lt_of_block HB1.out) id).trans HB1.out)
  replace HB2 := Lib.hid (((hO5.none hA5).block _ (lt_of_block HB2.out) id).trans HB2.out)
  replace HB3 := Lib.hid (((hO5.none hA5).block _ (lt_of_block HB3.out) id).trans HB3.out)
  replace HB4 := Lib.hid (((hO5.none hA5).block _ (lt_of_block HB4.out) id).trans HB4.out)
  have HB5 := Lib.hid (heap_alloc_new w5 (.cells ([.int .i64 h0, .int .i64 h1, .int .i64 h2, .string h3] : List Value).toArray 51))
  clear hO5 hA5 HO4
  go_wp2_with (refine wpList_store_new w5 rfl 51 _ _ rfl _ [.int .i64 h0, .int .i64 h1, .int .i64 h2, .string h3] rfl rfl HSZ_hello.out rfl (by simp [Value.oneCell']) ?_)
  refine (PB_note.out _).mono ?_
  rintro en w6 ⟨rfl, hO6⟩
  have HO6 := Lib.hid ((HO5.out.none hO6).make (.cells ([.int .i64 n0, .int .i64 n1, .int .i64 n2, .int .i64 n3, .int .i64 n4, .int .i64 n5] : List Value).toArray 54))
  have hA6 : Old w6 (w6.alloc (.cells ([.int .i64 n0, .int .i64 n1, .int .i64 n2, .int .i64 n3, .int .i64 n4, .int .i64 n5] : List Value).toArray 54)) := (Old.refl _).make _
  replace HB1 := Lib.hid (((hO6.none hA6).block _ (lt_of_block HB1.out) id).trans HB1.out)
  replace HB2 := Lib.hid (((hO6.none hA6).block _ (lt_of_block HB2.out) id).trans HB2.out)
  replace HB3 := Lib.hid (((hO6.none hA6).block _ (lt_of_block HB3.out) id).trans HB3.out)
  replace HB4 := Lib.hid (((hO6.none hA6).block _ (lt_of_block HB4.out) id).trans HB4.out)
  replace HB5 := Lib.hid (((hO6.none hA6).block _ (lt_of_block HB5.out) id).trans HB5.out)
  have HB6 := Lib.hid (heap_alloc_new w6 (.cells ([.int .i64 n0, .int .i64 n1, .int .i64 n2, .int .i64 n3, .int .i64 n4, .int .i64 n5] : List Value).toArray 54))
  clear hO6 hA6 HO5
  have HR1 := Lib.hid (range_row HB1.out)
  have HR2 := Lib.hid (range_row HB2.out)
  have HR3 := Lib.hid (range_row HB3.out)
  have HR4 := Lib.hid (range_row HB4.out)
  have HR5 := Lib.hid (range_row HB5.out)
  have HR6 := Lib.hid (range_row HB6.out)
  go_wp2_with (first
    | (refine wpList_store_new w6 rfl 54 _ _ rfl _ [.int .i64 n0, .int .i64 n1, .int .i64 n2, .int .i64 n3, .int .i64 n4, .int .i64 n5] rfl rfl HSZ_note.out rfl (by simp [Value.oneCell']) ?_)
    | (refine wpList_load_mid rfl 46 (.tmp 3) rfl w1.heap.size 0 rfl [.int .i64 e0, .string e1, .int .i64 e2] _ HR1.out Tryz.underlying46 rfl HSZ_event.out ?_)
    | (refine wpList_load_mid rfl 46 (.tmp 9) rfl w4.heap.size 0 rfl [.int .i64 e0, .string e1, .int .i64 e2] _ HR4.out Tryz.underlying46 rfl HSZ_event.out ?_)
    | (refine wpList_load_guarded rfl 51 (.tmp 5) rfl w2.heap.size 0 rfl [.int .i64 h0, .int .i64 h1, .int .i64 h2, .string h3] _ HR2.out Tryz.underlying51 rfl HSZ_hello.out ?_)
    | (refine wpList_load_guarded rfl 51 (.tmp 11) rfl w5.heap.size 0 rfl [.int .i64 h0, .int .i64 h1, .int .i64 h2, .string h3] _ HR5.out Tryz.underlying51 rfl HSZ_hello.out ?_)
    | (refine wpList_load_guarded rfl 54 (.tmp 7) rfl w3.heap.size 0 rfl [.int .i64 n0, .int .i64 n1, .int .i64 n2, .int .i64 n3, .int .i64 n4, .int .i64 n5] _ HR3.out Tryz.underlying54 rfl HSZ_note.out ?_)
    | (refine wpList_load_guarded rfl 54 (.tmp 13) rfl w6.heap.size 0 rfl [.int .i64 n0, .int .i64 n1, .int .i64 n2, .int .i64 n3, .int .i64 n4, .int .i64 n5] _ HR6.out Tryz.underlying54 rfl HSZ_note.out ?_))
  go_ret
  exact ⟨rfl, HO6.out⟩

theorem len_event (x : Event) (h0 : I64 x.kind) (h1 : I64 x.zxid) (h2 : x.path.size ≤ 9000000000000000000) : (eventF.lay x).length ≤ x.path.size + 30 := by
  have a := num_len h0
  have b := num_len h1
  have c := sev_length_u64 (n := x.path.size) (by omega)
  simp only [eventF, isoF, seqF, lay_num, lay_text, List.length_append, str_len]
  omega
theorem len_hello (x : Hello) (h0 : I64 x.session) (h1 : I64 x.zxid) (h3 : I64 x.timeout) (h2 : x.secret.size ≤ 9000000000000000000) : (helloF.lay x).length ≤ x.secret.size + 40 := by
  have a := num_len h0
  have b := num_len h1
  have d := num_len h3
  have c := sev_length_u64 (n := x.secret.size) (by omega)
  simp only [helloF, isoF, seqF, lay_num, lay_text, List.length_append, str_len]
  omega
theorem len_note (x : Note) (h0 : I64 x.from_) (h1 : I64 x.state) (h2 : I64 x.round) (h3 : I64 x.leader) (h4 : I64 x.epoch) (h5 : I64 x.zxid) : (noteF.lay x).length ≤ 60 := by
  have a := num_len h0
  have b := num_len h1
  have c := num_len h2
  have d := num_len h3
  have e := num_len h4
  have f := num_len h5
  simp only [noteF, isoF, seqF, lay_num, List.length_append]
  omega

end Go.Proofs.YtpmemcpfoapjmaaGreat.wireSmall

namespace Go.Proofs.YtpmemcpfoapjmaaGreat.wireReads
open Go.ChangeShapes Go.WideShapes Go.ChangeAt Go.RowKit
set_option linter.unusedVariables false

theorem walk (s : ByteArray) (w : World) (hs : s.size ≤ 140737488351232) : Calls Tryz.prog 4 #[.string s] w fun e w' => e = .returned (.bool true) ∧ Below w.heap.size w w' := by
  have hz : s.size ≤ 140737488355328 := by omega
  have HZ := Lib.hid hz; clear hz hs
  go_enter Tryz.func4, Tryz.ntmps4
  go_wp2_with fail
  refine (wawake_any _).mono ?_
  rintro en w1 ⟨rfl, hO1⟩
  have HO1 := Lib.hid hO1; clear hO1
  go_wp2_with fail
  refine (law_entry s _ HZ.out).mono ?_
  rintro en w2 ⟨rfl, hO2⟩
  have HO2 := Lib.hid (HO1.out.none hO2); clear hO2
  go_wp2_with fail
  refine (law_req s _ HZ.out).mono ?_
  rintro en w3 ⟨rfl, hO3⟩
  have HO3 := Lib.hid (HO2.out.none hO3); clear hO3
  go_wp2_with fail
  refine (law_reply s _ HZ.out).mono ?_
  rintro en w4 ⟨rfl, hO4⟩
  have HO4 := Lib.hid (HO3.out.none hO4); clear hO4
  go_wp2_with fail
  refine (law_message s _ HZ.out).mono ?_
  rintro en w5 ⟨rfl, hO5⟩
  have HO5 := Lib.hid (HO4.out.none hO5); clear hO5
  go_wp2_with fail
  refine (wireSmall.small_any s _ HZ.out).mono ?_
  rintro en w6 ⟨rfl, hO6⟩
  have HO6 := Lib.hid (HO5.out.none hO6); clear hO6
  go_wp2_with fail
  go_ret
  exact ⟨rfl, HO6.out.below⟩
end Go.Proofs.YtpmemcpfoapjmaaGreat.wireReads
