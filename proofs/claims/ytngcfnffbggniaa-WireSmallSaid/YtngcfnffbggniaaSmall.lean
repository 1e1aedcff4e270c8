/- WireSmall: the walk. -/
import Derived.Test.YtngcfnffbggniaaRget
import Derived.Test.YtngcfnffbggniaaRput
import Derived.Test.YtngcfnffbggniaaGot
import Derived.Test.YtngcfnffbggniaaWawake
import Derived.WalkSpells
import Derived.Outline
namespace Go.Proofs.Ytngcfnffbggniaa.wireSmall
open Go.ChangeShapes Go.WideShapes Go.ChangeAt Go.RowKit
set_option linter.unusedVariables false

/-- both answer alike -/
theorem both_event (s : ByteArray) (hs : s.size ≤ 140737488355328) : ∃ (x : Event) (e : Int),
    (∀ W : World, Calls Try.prog 31 #[.string s] W fun en w' => en = .returned (.tuple #[.agg #[.int .i64 x.kind, .string x.path, .int .i64 x.zxid], .int .i64 e]) ∧ Old W w') ∧
    (∀ W : World, Calls Try.prog 59 #[.string s] W fun en w' => en = .returned (.tuple #[.agg #[.int .i64 x.kind, .string x.path, .int .i64 x.zxid], .int .i64 e]) ∧ Old W w') := by
  refine ⟨(eventF.read s).getD zEvent, errOf (eventF.read s), fun W => (GetEvent_any s W (by unfold maxLen; omega)).mono fun en w' ⟨cs, he, hO, hE⟩ => ?_, fun W => (refget_event s W hs).mono fun en w' ⟨cs, he, hO, hE⟩ => ?_⟩
  · obtain rfl := hE.1
    exact ⟨he, hO⟩
  · obtain rfl := hE.1
    exact ⟨he, hO⟩

/-- both answer alike -/
theorem both_hello (s : ByteArray) (hs : s.size ≤ 140737488355328) : ∃ (x : Hello) (e : Int),
    (∀ W : World, Calls Try.prog 57 #[.string s] W fun en w' => en = .returned (.tuple #[.agg #[.int .i64 x.session, .int .i64 x.zxid, .int .i64 x.timeout, .string x.secret], .int .i64 e]) ∧ Old W w') ∧
    (∀ W : World, Calls Try.prog 60 #[.string s] W fun en w' => en = .returned (.tuple #[.agg #[.int .i64 x.session, .int .i64 x.zxid, .int .i64 x.timeout, .string x.secret], .int .i64 e]) ∧ Old W w') := by
  refine ⟨(helloF.read s).getD zHello, errOf (helloF.read s), fun W => (GetHello_any s W (by unfold maxLen; omega)).mono fun en w' ⟨cs, he, hO, hE⟩ => ?_, fun W => (refget_hello s W hs).mono fun en w' ⟨cs, he, hO, hE⟩ => ?_⟩
  · obtain rfl := hE.1
    exact ⟨he, hO⟩
  · obtain rfl := hE.1
    exact ⟨he, hO⟩

/-- both answer alike -/
theorem both_note (s : ByteArray) (hs : s.size ≤ 140737488355328) : ∃ (x : Note) (e : Int),
    (∀ W : World, Calls Try.prog 58 #[.string s] W fun en w' => en = .returned (.tuple #[.agg #[.int .i64 x.from_, .int .i64 x.state, .int .i64 x.round, .int .i64 x.leader, .int .i64 x.epoch, .int .i64 x.zxid], .int .i64 e]) ∧ Old W w') ∧
    (∀ W : World, Calls Try.prog 61 #[.string s] W fun en w' => en = .returned (.tuple #[.agg #[.int .i64 x.from_, .int .i64 x.state, .int .i64 x.round, .int .i64 x.leader, .int .i64 x.epoch, .int .i64 x.zxid], .int .i64 e]) ∧ Old W w') := by
  refine ⟨(noteF.read s).getD zNote, errOf (noteF.read s), fun W => (GetNote_any s W (by unfold maxLen; omega)).mono fun en w' ⟨cs, he, hO, hE⟩ => ?_, fun W => (refget_note s W hs).mono fun en w' ⟨cs, he, hO, hE⟩ => ?_⟩
  · obtain rfl := hE.1
    exact ⟨he, hO⟩
  · obtain rfl := hE.1
    exact ⟨he, hO⟩

set_option maxRecDepth 100000 in
set_option maxHeartbeats 2000000 in
theorem small_any (s : ByteArray) (w : World) (hs : s.size ≤ 140737488355328) : Calls Try.prog 27 #[.string s] w fun e w' => e = .returned (.bool true) ∧ Old w w' := by
  obtain ⟨⟨e0, e1, e2⟩, e_event, pa_event, pb_event⟩ := both_event s hs
  simp only at pa_event pb_event
  have PA_event := Lib.hid pa_event; clear pa_event
  have PB_event := Lib.hid pb_event; clear pb_event
  have HSZ_event := Lib.hid (show (Try.prog.info? 50).map (·.size) = some 3 by kernel_rfl)
  obtain ⟨⟨h0, h1, h2, h3⟩, e_hello, pa_hello, pb_hello⟩ := both_hello s hs
  simp only at pa_hello pb_hello
  have PA_hello := Lib.hid pa_hello; clear pa_hello
  have PB_hello := Lib.hid pb_hello; clear pb_hello
  have HSZ_hello := Lib.hid (show (Try.prog.info? 52).map (·.size) = some 4 by kernel_rfl)
  obtain ⟨⟨n0, n1, n2, n3, n4, n5⟩, e_note, pa_note, pb_note⟩ := both_note s hs
  simp only at pa_note pb_note
  have PA_note := Lib.hid pa_note; clear pa_note
  have PB_note := Lib.hid pb_note; clear pb_note
  have HSZ_note := Lib.hid (show (Try.prog.info? 54).map (·.size) = some 6 by kernel_rfl)
  go_enter Try.func27, Try.ntmps27
  go_wp2_with fail
  refine (PA_event.out _).mono ?_
  rintro en w1 ⟨rfl, hO1⟩
  have HO1 := Lib.hid (((Old.refl w).none hO1).make (.cells ([.int .i64 e0, .string e1, .int .i64 e2] : List Value).toArray 50))
  have hA1 : Old w1 (w1.alloc (.cells ([.int .i64 e0, .string e1, .int .i64 e2] : List Value).toArray 50)) := (Old.refl _).make _
  have HB1 := Lib.hid (heap_alloc_new w1 (.cells ([.int .i64 e0, .string e1, .int .i64 e2] : List Value).toArray 50))
  clear hO1 hA1
  go_wp2_with (refine wpList_store_new w1 rfl 50 _ _ rfl _ [.int .i64 e0, .string e1, .int .i64 e2] rfl rfl HSZ_event.out rfl (by simp [Value.oneCell']) ?_)
  refine (PA_hello.out _).mono ?_
  rintro en w2 ⟨rfl, hO2⟩
  have HO2 := Lib.hid ((HO1.out.none hO2).make (.cells ([.int .i64 h0, .int .i64 h1, .int .i64 h2, .string h3] : List Value).toArray 52))
  have hA2 : Old w2 (w2.alloc (.cells ([.int .i64 h0, .int .i64 h1, .int .i64 h2, .string h3] : List Value).toArray 52)) := (Old.refl _).make _
  replace HB1 := Lib.hid (((hO2.none hA2).block _ (lt_of_block HB1.out) id).trans HB1.out)
  have HB2 := Lib.hid (heap_alloc_new w2 (.cells ([.int .i64 h0, .int .i64 h1, .int .i64 h2, .string h3] : List Value).toArray 52))
  clear hO2 hA2 HO1
  go_wp2_with (refine wpList_store_new w2 rfl 52 _ _ rfl _ [.int .i64 h0, .int .i64 h1, .int .i64 h2, .string h3] rfl rfl HSZ_hello.out rfl (by simp [Value.oneCell']) ?_)
  refine (PA_note.out _).mono ?_
  rintro en w3 ⟨rfl, hO3⟩
  have HO3 := Lib.hid ((HO2.out.none hO3).make (.cells ([.int .i64 n0, .int .i64 n1, .int .i64 n2, .int .i64 n3, .int .i64 n4, .int .i64 n5] : List Value).toArray 54))
  have hA3 : Old w3 (w3.alloc (.cells ([.int .i64 n0, .int .i64 n1, .int .i64 n2, .int .i64 n3, .int .i64 n4, .int .i64 n5] : List Value).toArray 54)) := (Old.refl _).make _
  replace HB1 := Lib.hid (((hO3.none hA3).block _ (lt_of_block HB1.out) id).trans HB1.out)
  replace HB2 := Lib.hid (((hO3.none hA3).block _ (lt_of_block HB2.out) id).trans HB2.out)
  have HB3 := Lib.hid (heap_alloc_new w3 (.cells ([.int .i64 n0, .int .i64 n1, .int .i64 n2, .int .i64 n3, .int .i64 n4, .int .i64 n5] : List Value).toArray 54))
  clear hO3 hA3 HO2
  go_wp2_with (refine wpList_store_new w3 rfl 54 _ _ rfl _ [.int .i64 n0, .int .i64 n1, .int .i64 n2, .int .i64 n3, .int .i64 n4, .int .i64 n5] rfl rfl HSZ_note.out rfl (by simp [Value.oneCell']) ?_)
  refine (PB_event.out _).mono ?_
  rintro en w4 ⟨rfl, hO4⟩
  have HO4 := Lib.hid ((HO3.out.none hO4).make (.cells ([.int .i64 e0, .string e1, .int .i64 e2] : List Value).toArray 50))
  have hA4 : Old w4 (w4.alloc (.cells ([.int .i64 e0, .string e1, .int .i64 e2] : List Value).toArray 50)) := (Old.refl _).make _
  replace HB1 := Lib.hid (((hO4.none hA4).block _ (lt_of_block HB1.out) id).trans HB1.out)
  replace HB2 := Lib.hid (((hO4.none hA4).block _ (lt_of_block HB2.out) id).trans HB2.out)
  replace HB3 := Lib.hid (((hO4.none hA4).block _ (lt_of_block HB3.out) id).trans HB3.out)
  have HB4 := Lib.hid (heap_alloc_new w4 (.cells ([.int .i64 e0, .string e1, .int .i64 e2] : List Value).toArray 50))
  clear hO4 hA4 HO3
  go_wp2_with (refine wpList_store_new w4 rfl 50 _ _ rfl _ [.int .i64 e0, .string e1, .int .i64 e2] rfl rfl HSZ_event.out rfl (by simp [Value.oneCell']) ?_)
  refine (PB_hello.out _).mono ?_
  rintro en w5 ⟨rfl, hO5⟩
  have HO5 := Lib.hid ((HO4.out.none hO5).make (.cells ([.int .i64 h0, .int .i64 h1, .int .i64 h2, .string h3] : List Value).toArray 52))
  have hA5 : Old w5 (w5.alloc (.cells ([.int .i64 h0, .int .i64 h1, .int .i64 h2, .string h3] : List Value).toArray 52)) := (Old.refl _).make _
  replace HB1 := Lib.hid (((hO5.none hA5).block _ (lt_of_block HB1.out) id).trans HB1.out)
  replace HB2 := Lib.hid (((hO5.none hA5).block _ (lt_of_block HB2.out) id).trans HB2.out)
  replace HB3 := Lib.hid (((hO5.none hA5).block _ (lt_of_block HB3.out) id).trans HB3.out)
  replace HB4 := Lib.hid (((hO5.none hA5).block _ (lt_of_block HB4.out) id).trans HB4.out)
  have HB5 := Lib.hid (heap_alloc_new w5 (.cells ([.int .i64 h0, .int .i64 h1, .int .i64 h2, .string h3] : List Value).toArray 52))
  clear hO5 hA5 HO4
  go_wp2_with (refine wpList_store_new w5 rfl 52 _ _ rfl _ [.int .i64 h0, .int .i64 h1, .int .i64 h2, .string h3] rfl rfl HSZ_hello.out rfl (by simp [Value.oneCell']) ?_)
  refine (PB_note.out _).mono ?_
  rintro en w6 ⟨rfl, hO6⟩
  have HO6 := Lib.hid ((HO5.out.none hO6).make (.cells ([.int .i64 n0, .int .i64 n1, .int .i64 n2, .int .i64 n3, .int .i64 n4, .int .i64 n5] : List Value).toArray 54))
  have hA6 : Old w6 (w6.alloc (.cells ([.int .i64 n0, .int .i64 n1, .int .i64 n2, .int .i64 n3, .int .i64 n4, .int .i64 n5] : List Value).toArray 54)) := (Old.refl _).make _
  replace HB1 := Lib.hid (((hO6.none hA6).block _ (lt_of_block HB1.out) id).trans HB1.out)
  replace HB2 := Lib.hid (((hO6.none hA6).block _ (lt_of_block HB2.out) id).trans HB2.out)
  replace HB3 := Lib.hid (((hO6.none hA6).block _ (lt_of_block HB3.out) id).trans HB3.out)
  replace HB4 := Lib.hid (((hO6.none hA6).block _ (lt_of_block HB4.out) id).trans HB4.out)
  replace HB5 := Lib.hid (((hO6.none hA6).block _ (lt_of_block HB5.out) id).trans HB5.out)
  have HB6 := Lib.hid (heap_alloc_new w6 (.cells ([.int .i64 n0, .int .i64 n1, .int .i64 n2, .int .i64 n3, .int .i64 n4, .int .i64 n5] : List Value).toArray 54))
  clear hO6 hA6 HO5
  have HR1 := Lib.hid (range_row HB1.out)
  have HR2 := Lib.hid (range_row HB2.out)
  have HR3 := Lib.hid (range_row HB3.out)
  have HR4 := Lib.hid (range_row HB4.out)
  have HR5 := Lib.hid (range_row HB5.out)
  have HR6 := Lib.hid (range_row HB6.out)
  go_wp2_with (first
    | (refine wpList_store_new w6 rfl 54 _ _ rfl _ [.int .i64 n0, .int .i64 n1, .int .i64 n2, .int .i64 n3, .int .i64 n4, .int .i64 n5] rfl rfl HSZ_note.out rfl (by simp [Value.oneCell']) ?_)
    | (refine wpList_load_mid rfl 50 (.tmp 3) rfl w1.heap.size 0 rfl [.int .i64 e0, .string e1, .int .i64 e2] _ HR1.out Try.underlying50 rfl HSZ_event.out ?_)
    | (refine wpList_load_mid rfl 50 (.tmp 9) rfl w4.heap.size 0 rfl [.int .i64 e0, .string e1, .int .i64 e2] _ HR4.out Try.underlying50 rfl HSZ_event.out ?_)
    | (refine wpList_load_guarded rfl 52 (.tmp 5) rfl w2.heap.size 0 rfl [.int .i64 h0, .int .i64 h1, .int .i64 h2, .string h3] _ HR2.out Try.underlying52 rfl HSZ_hello.out ?_)
    | (refine wpList_load_guarded rfl 52 (.tmp 11) rfl w5.heap.size 0 rfl [.int .i64 h0, .int .i64 h1, .int .i64 h2, .string h3] _ HR5.out Try.underlying52 rfl HSZ_hello.out ?_)
    | (refine wpList_load_guarded rfl 54 (.tmp 7) rfl w3.heap.size 0 rfl [.int .i64 n0, .int .i64 n1, .int .i64 n2, .int .i64 n3, .int .i64 n4, .int .i64 n5] _ HR3.out Try.underlying54 rfl HSZ_note.out ?_)
    | (refine wpList_load_guarded rfl 54 (.tmp 13) rfl w6.heap.size 0 rfl [.int .i64 n0, .int .i64 n1, .int .i64 n2, .int .i64 n3, .int .i64 n4, .int .i64 n5] _ HR6.out Try.underlying54 rfl HSZ_note.out ?_))
  go_ret
  exact ⟨rfl, HO6.out⟩

theorem len_event (x : Event) (h0 : I64 x.kind) (h1 : I64 x.zxid) (h2 : x.path.size ≤ 9000000000000000000) : (eventF.lay x).length ≤ x.path.size + 30 := by
  have a := num_len h0
  have b := num_len h1
  have c := sev_length_u64 (n := x.path.size) (by omega)
  simp only [eventF, isoF, seqF, lay_num, lay_text, List.length_append, str_len]
  omega
theorem len_hello (x : Hello) (h0 : I64 x.session) (h1 : I64 x.zxid) (h3 : I64 x.timeout) (h2 : x.secret.size ≤ 9000000000000000000) : (helloF.lay x).length ≤ x.secret.size + 40 := by
  have a := num_len h0
  have b := num_len h1
  have d := num_len h3
  have c := sev_length_u64 (n := x.secret.size) (by omega)
  simp only [helloF, isoF, seqF, lay_num, lay_text, List.length_append, str_len]
  omega
theorem len_note (x : Note) (h0 : I64 x.from_) (h1 : I64 x.state) (h2 : I64 x.round) (h3 : I64 x.leader) (h4 : I64 x.epoch) (h5 : I64 x.zxid) : (noteF.lay x).length ≤ 60 := by
  have a := num_len h0
  have b := num_len h1
  have c := num_len h2
  have d := num_len h3
  have e := num_len h4
  have f := num_len h5
  simp only [noteF, isoF, seqF, lay_num, List.length_append]
  omega

set_option maxRecDepth 100000 in
set_option maxHeartbeats 2000000 in
theorem walk0 (x : Event) (y : Hello) (z : Note) (ce ch cn : List Value) (ok : Nat → Prop) (w : World) (hE : eventE w ok ce x) (hH : helloE w ok ch y) (hN : noteE w ok cn z) (hx : x.path.size ≤ 140737488351232) (hy : y.secret.size ≤ 140737488351232) :
    Calls Try.prog 6 #[.agg ce.toArray, .agg ch.toArray, .agg cn.toArray] w fun e w' => e = .returned (.bool true) ∧ Old w w' := by
  have HSZ_e := Lib.hid (info_len (show (Try.prog.info? 50).map (·.size) = some 3 by kernel_rfl) (eventE_flat hE).1)
  have HSZ_h := Lib.hid (info_len (show (Try.prog.info? 52).map (·.size) = some 4 by kernel_rfl) (helloE_flat hH).1)
  have HSZ_n := Lib.hid (info_len (show (Try.prog.info? 54).map (·.size) = some 6 by kernel_rfl) (noteE_flat hN).1)
  have hle := len_event x hE.2.1 hE.2.2.2 (by omega)
  have hlh := len_hello y hH.2.1 hH.2.2.1 hH.2.2.2.1 (by omega)
  have hln := len_note z hN.2.1 hN.2.2.1 hN.2.2.2.1 hN.2.2.2.2.1 hN.2.2.2.2.2.1 hN.2.2.2.2.2.2
  have HE := Lib.hid (show ∀ W : World, eventE W (fun _ => False) ce x from fun _ => hE)
  have HH := Lib.hid (show ∀ W : World, helloE W (fun _ => False) ch y from fun _ => hH)
  have HN := Lib.hid (show ∀ W : World, noteE W (fun _ => False) cn z from fun _ => hN)
  clear hE hH hN
  obtain ⟨a, ha⟩ : ∃ a : ByteArray, (⟨(eventF.lay x).toArray⟩ : ByteArray) = a := ⟨_, rfl⟩
  obtain ⟨b, hb⟩ : ∃ b : ByteArray, (⟨(helloF.lay y).toArray⟩ : ByteArray) = b := ⟨_, rfl⟩
  obtain ⟨c, hc⟩ : ∃ c : ByteArray, (⟨(noteF.lay z).toArray⟩ : ByteArray) = c := ⟨_, rfl⟩
  have hza : a.size ≤ 140737488355328 := by rw [← ha, mk_size]; omega
  have hzb : b.size ≤ 140737488355328 := by rw [← hb, mk_size]; omega
  have hzc : c.size ≤ 140737488355328 := by rw [← hc, mk_size]; omega
  have SA := Lib.hid ha; clear ha
  have SB := Lib.hid hb; clear hb
  have SC := Lib.hid hc; clear hc
  have LE : Hid ((eventF.lay x).length ≤ 144900000000000) := Lib.hid (by omega)
  have LH : Hid ((helloF.lay y).length ≤ 144900000000000) := Lib.hid (by omega)
  have LN : Hid ((noteF.lay z).length ≤ 144900000000000) := Lib.hid (by omega)
  clear hle hlh hln
  have hin : ∀ W : World, In W (fun _ => False) := fun _ _ h => h.elim
  have HIN := Lib.hid hin; clear hin
  go_enter Try.func6, Try.ntmps6
  go_wp2_with fail
  refine (wawake_any _).mono ?_
  rintro en w1 ⟨rfl, hO1⟩
  have hA : Old (w.alloc (.cells ce.toArray 50)) ((w.alloc (.cells ce.toArray 50)).alloc (.cells ch.toArray 52)) := (Old.refl _).make _
  have hb0 : w1.heap[w.heap.size]? = some (.cells ce.toArray 50 (0, 0)) := by
    rw [((hA.make (.cells cn.toArray 54)).none hO1).block _ (by simp) id]; exact heap_alloc_new w _
  have hb1 : w1.heap[w.heap.size + 1]? = some (.cells ch.toArray 52 (0, 0)) := by
    rw [(((Old.refl ((w.alloc (.cells ce.toArray 50)).alloc (.cells ch.toArray 52))).make (.cells cn.toArray 54)).none hO1).block _ (by simp) id]
    have h := heap_alloc_new (w.alloc (.cells ce.toArray 50)) (.cells ch.toArray 52)
    rwa [show (w.alloc (.cells ce.toArray 50)).heap.size = w.heap.size + 1 from by simp] at h
  have hb2 : w1.heap[w.heap.size + 2]? = some (.cells cn.toArray 54 (0, 0)) := by
    rw [hO1.block _ (by simp) id]
    have h := heap_alloc_new ((w.alloc (.cells ce.toArray 50)).alloc (.cells ch.toArray 52)) (.cells cn.toArray 54)
    rwa [show ((w.alloc (.cells ce.toArray 50)).alloc (.cells ch.toArray 52)).heap.size = w.heap.size + 2 from by simp] at h
  have HB0 := Lib.hid hb0; clear hb0
  have HB1 := Lib.hid hb1; clear hb1
  have HB2 := Lib.hid hb2; clear hb2
  have HO1 := Lib.hid (((((Old.refl w).make _).make _).make _).none hO1)
  clear hO1 hA
  have HR0 := Lib.hid (range_row HB0.out)
  go_wp2_with (refine wpList_load_mid rfl 50 (.tmp 3) rfl w.heap.size 0 rfl ce _ HR0.out Try.underlying50 rfl HSZ_e.out ?_)
  refine (PutEvent_any x _ _ _ (HE.out _) (HIN.out _) LE.out).mono ?_
  rintro en w2 ⟨rfl, hO2⟩
  rw [SA.out]
  have HR1 := Lib.hid (range_row ((hO2.block _ (lt_of_block HB1.out) id).trans HB1.out))
  have HO2 := Lib.hid hO2
  clear hO2 HR0
  go_wp2_with (refine wpList_load_mid rfl 52 (.tmp 4) rfl (w.heap.size + 1) 0 rfl ch _ HR1.out Try.underlying52 rfl HSZ_h.out ?_)
  refine (PutHello_any y _ _ _ (HH.out _) (HIN.out _) LH.out).mono ?_
  rintro en w3 ⟨rfl, hO3⟩
  rw [SB.out]
  have HO3 := Lib.hid (HO2.out.none hO3)
  have HR2 := Lib.hid (range_row ((HO3.out.block _ (lt_of_block HB2.out) id).trans HB2.out))
  clear hO3 HR1 HO2
  go_wp2_with (refine wpList_load_mid rfl 54 (.tmp 5) rfl (w.heap.size + 2) 0 rfl cn _ HR2.out Try.underlying54 rfl HSZ_n.out ?_)
  refine (PutNote_any z _ _ _ (HN.out _) (HIN.out _) LN.out).mono ?_
  rintro en w4 ⟨rfl, hO4⟩
  rw [SC.out]
  have HO4 := Lib.hid (HO3.out.none hO4)
  clear hO4 HR2 HO3
  have HRa := Lib.hid (range_row ((HO4.out.block _ (lt_of_block HB0.out) id).trans HB0.out))
  go_wp2_with (first
    | (refine wpList_load_guarded rfl 50 (.tmp 3) rfl w.heap.size 0 rfl ce _ HRa.out Try.underlying50 rfl HSZ_e.out ?_)
    | (refine wpList_load_guarded rfl 52 (.tmp 4) rfl (w.heap.size + 1) 0 rfl ch _ HRb.out Try.underlying52 rfl HSZ_h.out ?_)
    | (refine wpList_load_guarded rfl 54 (.tmp 5) rfl (w.heap.size + 2) 0 rfl cn _ HRc.out Try.underlying54 rfl HSZ_n.out ?_)
    | (go_at_call 24; refine (refput_event x _ _ _ (HE.out _) (by have := LE.out; omega)).mono ?_; rintro en w5 ⟨rfl, hO5⟩; rw [SA.out]; have HO5 := Lib.hid (HO4.out.none hO5); clear hO5; have HRb := Lib.hid (range_row ((HO5.out.block _ (lt_of_block HB1.out) id).trans HB1.out)))
    | (go_at_call 25; refine (refput_hello y _ _ _ (HH.out _) (by have := LH.out; omega)).mono ?_; rintro en w6 ⟨rfl, hO6⟩; rw [SB.out]; have HO6 := Lib.hid (HO5.out.none hO6); clear hO6; have HRc := Lib.hid (range_row ((HO6.out.block _ (lt_of_block HB2.out) id).trans HB2.out)))
    | (go_at_call 26; refine (refput_note z _ _ _ (HN.out _) (by have := LN.out; omega)).mono ?_; rintro en w7 ⟨rfl, hO7⟩; rw [SC.out]; have HO7 := Lib.hid (HO6.out.none hO7); clear hO7)
    | (go_at_call 27; have _t := HO9; refine (small_any c _ hzc).mono ?_; rintro en wa ⟨rfl, hOa⟩; have HOa := Lib.hid (HO9.out.none hOa); clear hOa)
    | (go_at_call 27; have _t := HO8; refine (small_any b _ hzb).mono ?_; rintro en w9 ⟨rfl, hO9⟩; have HO9 := Lib.hid (HO8.out.none hO9); clear hO9)
    | (go_at_call 27; refine (small_any a _ hza).mono ?_; rintro en w8 ⟨rfl, hO8⟩; have HO8 := Lib.hid (HO7.out.none hO8); clear hO8))
  go_ret
  exact ⟨rfl, HO1.out.none HOa.out⟩

end Go.Proofs.Ytngcfnffbggniaa.wireSmall
