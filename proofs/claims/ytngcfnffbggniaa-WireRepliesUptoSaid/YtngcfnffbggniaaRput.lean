/- The document's own answers of layer 2: an event, a hello, a note, laid; several numbers. -/
import Derived.Test.YtngcfnffbggniaaWref
import Derived.Test.YtngcfnffbggniaaPscal
import Derived.Deep.RegionHeld3
import Derived.Deep.DeepCutAuto
namespace Go.Proofs.Ytngcfnffbggniaa
open Go.ChangeShapes Go.WideShapes Go.ChangeAt Go.RowKit
set_option linter.unusedVariables false

theorem Old.cell {w w' : World} (h : Old w w') {a : Addr} {v : Value} (hc : w.cell? a = some v) : w'.cell? a = some v := by
  obtain ⟨b, o, sp⟩ := a
  have hlt := World.block_lt_of_cell? w _ hc
  rw [← hc]
  exact World.cell?_of_block (h.block b hlt id)
theorem Old.drew {w w' : World} (h : Old w w') : Old w w'.drew := ⟨h.os, h.tape, h.output, h.size, h.block⟩
theorem Old.of_drew {w w' : World} (h : Old w.drew w') : Old w w' := ⟨h.os, h.tape, h.output, h.size, h.block⟩
theorem Old.make {w w' : World} (h : Old w w') (o : Obj) : Old w (w'.alloc o) := Kept.alloc h o
theorem lay_num (n : Int) : numF.lay n = sev (zz n) := rfl
theorem lay_text (m : Nat) (s : ByteArray) : (textF m).lay s = sev s.size ++ s.data.toList := rfl
theorem lay_flag (x : Bool) : flagF.lay x = [if x then 1 else 0] := rfl
theorem num_len {n : Int} (h : I64 n) : (sev (zz n)).length ≤ 10 := sev_length_u64 (zz_le h.1 h.2)

theorem nums_at (ns : List Int) (g : Nat) (w : World) (hb : w.heap[g]? = some (.cells (ns.map (Value.int .i64)).toArray 3 (0, 0))) (h : ∀ n ∈ ns, I64 n) (hm : ns.length ≤ maxLen) :
    ListR intE w (fun k => k = g) 1 (.slice (some ⟨g, 0, none⟩) ns.length ns.length) ns := by
  refine ⟨ns.map fun n => [Value.int .i64 n], ⟨_, _, by rw [List.length_map], by rw [List.length_map]; exact Nat.le_refl _, hm, Or.inr ⟨g, 0, rfl, ⟨rfl, fun k _ => by simp [World.frozen?, hb]⟩, lt_of_block hb, fun i hi => ⟨by simp, fun j hj => ?_⟩⟩⟩, by simp, fun i hi hi' => ?_⟩
  · have hj0 : j = 0 := by simpa using hj
    subst hj0
    have hi2 : i < ns.length := by simpa using hi
    have hc := cell_of_row _ g i _ _ (0, 0) hb
    rw [show 0 + i * 1 + 0 = i from by omega, hc]
    simp [List.getElem?_eq_getElem hi2]
  · simp only [List.getElem_map]
    exact ⟨rfl, h _ (List.getElem_mem _)⟩

theorem refnums2 (a0 a1 : Int) (g : Nat) (w : World) (hb : w.heap[g]? = some (.cells #[.int .i64 a0, .int .i64 a1] 3 (0, 0))) (h0 : I64 a0) (h1 : I64 a1) :
    Calls Try.prog 34 #[.slice (some ⟨g, 0, none⟩) 2 2] w (OldStr w (sev (zz a0) ++ sev (zz a1))) := by
  have h := refnums_any [a0, a1] _ _ _ (nums_at [a0, a1] g w hb (by simp only [List.mem_cons, List.not_mem_nil, or_false, forall_eq_or_imp, forall_eq]; exact ⟨h0, h1⟩) (by unfold maxLen; simp only [List.length_cons, List.length_nil]; omega)) (by
    simp only [layN, List.flatMap_cons, List.flatMap_nil, List.append_nil, lay_num, List.length_append]
    have := num_len h0; have := num_len h1
    omega)
  have e : layN numF [a0, a1] = sev (zz a0) ++ sev (zz a1) := by simp only [layN, List.flatMap_cons, List.flatMap_nil, List.append_nil, lay_num]
  rw [e] at h
  exact h

theorem refnums3 (a0 a1 a2 : Int) (g : Nat) (w : World) (hb : w.heap[g]? = some (.cells #[.int .i64 a0, .int .i64 a1, .int .i64 a2] 3 (0, 0))) (h0 : I64 a0) (h1 : I64 a1) (h2 : I64 a2) :
    Calls Try.prog 34 #[.slice (some ⟨g, 0, none⟩) 3 3] w (OldStr w (sev (zz a0) ++ (sev (zz a1) ++ sev (zz a2)))) := by
  have h := refnums_any [a0, a1, a2] _ _ _ (nums_at [a0, a1, a2] g w hb (by simp only [List.mem_cons, List.not_mem_nil, or_false, forall_eq_or_imp, forall_eq]; exact ⟨h0, h1, h2⟩) (by unfold maxLen; simp only [List.length_cons, List.length_nil]; omega)) (by
    simp only [layN, List.flatMap_cons, List.flatMap_nil, List.append_nil, lay_num, List.length_append]
    have := num_len h0; have := num_len h1; have := num_len h2
    omega)
  have e : layN numF [a0, a1, a2] = sev (zz a0) ++ (sev (zz a1) ++ sev (zz a2)) := by simp only [layN, List.flatMap_cons, List.flatMap_nil, List.append_nil, lay_num]
  rw [e] at h
  exact h

theorem refnums5 (a0 a1 a2 a3 a4 : Int) (g : Nat) (w : World) (hb : w.heap[g]? = some (.cells #[.int .i64 a0, .int .i64 a1, .int .i64 a2, .int .i64 a3, .int .i64 a4] 3 (0, 0))) (h0 : I64 a0) (h1 : I64 a1) (h2 : I64 a2) (h3 : I64 a3) (h4 : I64 a4) :
    Calls Try.prog 34 #[.slice (some ⟨g, 0, none⟩) 5 5] w (OldStr w (sev (zz a0) ++ (sev (zz a1) ++ (sev (zz a2) ++ (sev (zz a3) ++ sev (zz a4)))))) := by
  have h := refnums_any [a0, a1, a2, a3, a4] _ _ _ (nums_at [a0, a1, a2, a3, a4] g w hb (by simp only [List.mem_cons, List.not_mem_nil, or_false, forall_eq_or_imp, forall_eq]; exact ⟨h0, h1, h2, h3, h4⟩) (by unfold maxLen; simp only [List.length_cons, List.length_nil]; omega)) (by
    simp only [layN, List.flatMap_cons, List.flatMap_nil, List.append_nil, lay_num, List.length_append]
    have := num_len h0; have := num_len h1; have := num_len h2; have := num_len h3; have := num_len h4
    omega)
  have e : layN numF [a0, a1, a2, a3, a4] = sev (zz a0) ++ (sev (zz a1) ++ (sev (zz a2) ++ (sev (zz a3) ++ sev (zz a4)))) := by simp only [layN, List.flatMap_cons, List.flatMap_nil, List.append_nil, lay_num]
  rw [e] at h
  exact h

theorem refnums6 (a0 a1 a2 a3 a4 a5 : Int) (g : Nat) (w : World) (hb : w.heap[g]? = some (.cells #[.int .i64 a0, .int .i64 a1, .int .i64 a2, .int .i64 a3, .int .i64 a4, .int .i64 a5] 3 (0, 0))) (h0 : I64 a0) (h1 : I64 a1) (h2 : I64 a2) (h3 : I64 a3) (h4 : I64 a4) (h5 : I64 a5) :
    Calls Try.prog 34 #[.slice (some ⟨g, 0, none⟩) 6 6] w (OldStr w (sev (zz a0) ++ (sev (zz a1) ++ (sev (zz a2) ++ (sev (zz a3) ++ (sev (zz a4) ++ sev (zz a5))))))) := by
  have h := refnums_any [a0, a1, a2, a3, a4, a5] _ _ _ (nums_at [a0, a1, a2, a3, a4, a5] g w hb (by simp only [List.mem_cons, List.not_mem_nil, or_false, forall_eq_or_imp, forall_eq]; exact ⟨h0, h1, h2, h3, h4, h5⟩) (by unfold maxLen; simp only [List.length_cons, List.length_nil]; omega)) (by
    simp only [layN, List.flatMap_cons, List.flatMap_nil, List.append_nil, lay_num, List.length_append]
    have := num_len h0; have := num_len h1; have := num_len h2; have := num_len h3; have := num_len h4; have := num_len h5
    omega)
  have e : layN numF [a0, a1, a2, a3, a4, a5] = sev (zz a0) ++ (sev (zz a1) ++ (sev (zz a2) ++ (sev (zz a3) ++ (sev (zz a4) ++ sev (zz a5))))) := by simp only [layN, List.flatMap_cons, List.flatMap_nil, List.append_nil, lay_num]
  rw [e] at h
  exact h

theorem refnums9 (a0 a1 a2 a3 a4 a5 a6 a7 a8 : Int) (g : Nat) (w : World) (hb : w.heap[g]? = some (.cells #[.int .i64 a0, .int .i64 a1, .int .i64 a2, .int .i64 a3, .int .i64 a4, .int .i64 a5, .int .i64 a6, .int .i64 a7, .int .i64 a8] 3 (0, 0))) (h0 : I64 a0) (h1 : I64 a1) (h2 : I64 a2) (h3 : I64 a3) (h4 : I64 a4) (h5 : I64 a5) (h6 : I64 a6) (h7 : I64 a7) (h8 : I64 a8) :
    Calls Try.prog 34 #[.slice (some ⟨g, 0, none⟩) 9 9] w (OldStr w (sev (zz a0) ++ (sev (zz a1) ++ (sev (zz a2) ++ (sev (zz a3) ++ (sev (zz a4) ++ (sev (zz a5) ++ (sev (zz a6) ++ (sev (zz a7) ++ sev (zz a8)))))))))) := by
  have h := refnums_any [a0, a1, a2, a3, a4, a5, a6, a7, a8] _ _ _ (nums_at [a0, a1, a2, a3, a4, a5, a6, a7, a8] g w hb (by simp only [List.mem_cons, List.not_mem_nil, or_false, forall_eq_or_imp, forall_eq]; exact ⟨h0, h1, h2, h3, h4, h5, h6, h7, h8⟩) (by unfold maxLen; simp only [List.length_cons, List.length_nil]; omega)) (by
    simp only [layN, List.flatMap_cons, List.flatMap_nil, List.append_nil, lay_num, List.length_append]
    have := num_len h0; have := num_len h1; have := num_len h2; have := num_len h3; have := num_len h4; have := num_len h5; have := num_len h6; have := num_len h7; have := num_len h8
    omega)
  have e : layN numF [a0, a1, a2, a3, a4, a5, a6, a7, a8] = sev (zz a0) ++ (sev (zz a1) ++ (sev (zz a2) ++ (sev (zz a3) ++ (sev (zz a4) ++ (sev (zz a5) ++ (sev (zz a6) ++ (sev (zz a7) ++ sev (zz a8)))))))) := by simp only [layN, List.flatMap_cons, List.flatMap_nil, List.append_nil, lay_num]
  rw [e] at h
  exact h

set_option maxRecDepth 100000 in
theorem refput_event (x : Event) (cs : List Value) (ok : Nat → Prop) (w : World) (hE : eventE w ok cs x) (hl : (eventF.lay x).length ≤ 1000000000000000) :
    Calls Try.prog 24 #[.agg cs.toArray] w (OldStr w (eventF.lay x)) := by
  obtain ⟨rfl, h0, h1, h2⟩ := hE
  obtain ⟨kind, path, zxid⟩ := x
  simp only at h0 h1 h2
  have hlay : eventF.lay ⟨kind, path, zxid⟩ = sev (zz kind) ++ (sev path.size ++ (path.data.toList ++ sev (zz zxid))) := by simp only [eventF, isoF, seqF, lay_num, lay_text, List.append_assoc]
  rw [hlay] at hl ⊢
  simp only [List.length_append] at hl
  have q0 : ∀ W, Sem.run Try.prog (Op.stringOp .add ⟨(sev (zz kind)).toArray⟩ ⟨(sev path.size ++ path.data.toList).toArray⟩) W = .ok (.string ⟨(sev (zz kind) ++ (sev path.size ++ path.data.toList)).toArray⟩) W := fun W => by
    rw [add_str _ _ _ (by simp only [List.length_append]; omega) W] <;> simp only [List.append_assoc]
  have q1 : ∀ W, Sem.run Try.prog (Op.stringOp .add ⟨(sev (zz kind) ++ (sev path.size ++ path.data.toList)).toArray⟩ ⟨(sev (zz zxid)).toArray⟩) W = .ok (.string ⟨(sev (zz kind) ++ (sev path.size ++ (path.data.toList ++ sev (zz zxid)))).toArray⟩) W := fun W => by
    rw [add_str _ _ _ (by simp only [List.length_append]; omega) W] <;> simp only [List.append_assoc]
  have hO0 : Old w (w.alloc (.cells #[.int .i64 kind, .string path, .int .i64 zxid] 50)) := (Old.refl w).make _
  have hb := heap_alloc_new w (.cells #[.int .i64 kind, .string path, .int .i64 zxid] 50)
  have c0 : (w.alloc (.cells #[.int .i64 kind, .string path, .int .i64 zxid] 50)).cell? ⟨w.heap.size, 0, none⟩ = some (.int .i64 kind) := cell_of_row _ _ 0 _ _ _ hb
  have c1 : (w.alloc (.cells #[.int .i64 kind, .string path, .int .i64 zxid] 50)).cell? ⟨w.heap.size, 1, none⟩ = some (.string path) := cell_of_row _ _ 1 _ _ _ hb
  have c2 : (w.alloc (.cells #[.int .i64 kind, .string path, .int .i64 zxid] 50)).cell? ⟨w.heap.size, 2, none⟩ = some (.int .i64 zxid) := cell_of_row _ _ 2 _ _ _ hb
  have t1 : path.size ≤ 9223372036854775000 := by unfold Str at h1; omega
  clear h1
  generalize hw1 : w.alloc (.cells #[.int .i64 kind, .string path, .int .i64 zxid] 50) = w1 at hO0 c0 c1 c2
  clear hb hlay hl
  have HW := Lib.hid hw1; clear hw1
  have HO0 := Lib.hid hO0; clear hO0
  have C0 := Lib.hid c0; clear c0
  have C1 := Lib.hid c1; clear c1
  have C2 := Lib.hid c2; clear c2
  go_enter Try.func24, Try.ntmps24
  go_upto_region 1 with fail
  rw [HW.out]
  have hO0 := HO0.out
  have c0 := C0.out
  have c1 := C1.out
  have c2 := C2.out
  go_region_held3 (fun w' => w'.cell? ⟨w.heap.size, 0, none⟩ = some (.int .i64 kind) ∧ w'.cell? ⟨w.heap.size, 1, none⟩ = some (.string path) ∧ w'.cell? ⟨w.heap.size, 2, none⟩ = some (.int .i64 zxid) ∧ Old w w')
    (((try dsimp only); (repeat' apply And.intro) <;> first | assumption | (simp only [World.cell?_drew]; assumption) | exact Old.drew (by assumption) | exact Old.make (by assumption) _ | exact Old.drew (Old.make (by assumption) _) | exact Old.cell ((Old.refl _).make _) (by assumption)))
    (first
      | (go_at_call 42; refine (refnum_any _ _ (by assumption)).mono ?_; rintro e w9 ⟨rfl, hO9⟩; go_split_ands; have hP9 : Old w w9 := Old.none (by assumption) hO9; have d0 : w9.cell? ⟨w.heap.size, 0, none⟩ = some (.int .i64 kind) := Old.cell hO9 (by assumption); have d1 : w9.cell? ⟨w.heap.size, 1, none⟩ = some (.string path) := Old.cell hO9 (by assumption); have d2 : w9.cell? ⟨w.heap.size, 2, none⟩ = some (.int .i64 zxid) := Old.cell hO9 (by assumption); clear hO9)
      | (go_at_call 43; refine (reftext_any _ _ (by assumption)).mono ?_; rintro e w9 ⟨rfl, hO9⟩; go_split_ands; have hP9 : Old w w9 := Old.none (by assumption) hO9; have d0 : w9.cell? ⟨w.heap.size, 0, none⟩ = some (.int .i64 kind) := Old.cell hO9 (by assumption); have d1 : w9.cell? ⟨w.heap.size, 1, none⟩ = some (.string path) := Old.cell hO9 (by assumption); have d2 : w9.cell? ⟨w.heap.size, 2, none⟩ = some (.int .i64 zxid) := Old.cell hO9 (by assumption); clear hO9))
  all_goals go_wp2_with fail
  all_goals go_ret
  all_goals exact ⟨rfl, by assumption⟩

set_option maxRecDepth 100000 in
theorem refput_hello (x : Hello) (cs : List Value) (ok : Nat → Prop) (w : World) (hE : helloE w ok cs x) (hl : (helloF.lay x).length ≤ 1000000000000000) :
    Calls Try.prog 25 #[.agg cs.toArray] w (OldStr w (helloF.lay x)) := by
  obtain ⟨rfl, h0, h1, h2, h3⟩ := hE
  obtain ⟨session, zxid, timeout, secret⟩ := x
  simp only at h0 h1 h2 h3
  have hlay : helloF.lay ⟨session, zxid, timeout, secret⟩ = sev (zz session) ++ (sev (zz zxid) ++ (sev (zz timeout) ++ (sev secret.size ++ secret.data.toList))) := by simp only [helloF, isoF, seqF, lay_num, lay_text]
  rw [hlay] at hl ⊢
  simp only [List.length_append] at hl
  have q0 : ∀ W, Sem.run Try.prog (Op.stringOp .add ⟨(sev (zz session) ++ (sev (zz zxid) ++ sev (zz timeout))).toArray⟩ ⟨(sev secret.size ++ secret.data.toList).toArray⟩) W = .ok (.string ⟨(sev (zz session) ++ (sev (zz zxid) ++ (sev (zz timeout) ++ (sev secret.size ++ secret.data.toList)))).toArray⟩) W := fun W => by
    rw [add_str _ _ _ (by simp only [List.length_append]; omega) W] <;> simp only [List.append_assoc]
  have hO0 : Old w (w.alloc (.cells #[.int .i64 session, .int .i64 zxid, .int .i64 timeout, .string secret] 52)) := (Old.refl w).make _
  have hb := heap_alloc_new w (.cells #[.int .i64 session, .int .i64 zxid, .int .i64 timeout, .string secret] 52)
  have c0 : (w.alloc (.cells #[.int .i64 session, .int .i64 zxid, .int .i64 timeout, .string secret] 52)).cell? ⟨w.heap.size, 0, none⟩ = some (.int .i64 session) := cell_of_row _ _ 0 _ _ _ hb
  have c1 : (w.alloc (.cells #[.int .i64 session, .int .i64 zxid, .int .i64 timeout, .string secret] 52)).cell? ⟨w.heap.size, 1, none⟩ = some (.int .i64 zxid) := cell_of_row _ _ 1 _ _ _ hb
  have c2 : (w.alloc (.cells #[.int .i64 session, .int .i64 zxid, .int .i64 timeout, .string secret] 52)).cell? ⟨w.heap.size, 2, none⟩ = some (.int .i64 timeout) := cell_of_row _ _ 2 _ _ _ hb
  have c3 : (w.alloc (.cells #[.int .i64 session, .int .i64 zxid, .int .i64 timeout, .string secret] 52)).cell? ⟨w.heap.size, 3, none⟩ = some (.string secret) := cell_of_row _ _ 3 _ _ _ hb
  have t3 : secret.size ≤ 9223372036854775000 := by unfold Str at h3; omega
  clear h3
  generalize hw1 : w.alloc (.cells #[.int .i64 session, .int .i64 zxid, .int .i64 timeout, .string secret] 52) = w1 at hO0 c0 c1 c2 c3
  clear hb hlay hl
  have HW := Lib.hid hw1; clear hw1
  have HO0 := Lib.hid hO0; clear hO0
  have C0 := Lib.hid c0; clear c0
  have C1 := Lib.hid c1; clear c1
  have C2 := Lib.hid c2; clear c2
  have C3 := Lib.hid c3; clear c3
  go_enter Try.func25, Try.ntmps25
  go_upto_region 1 with fail
  rw [HW.out]
  have hO0 := HO0.out
  have c0 := C0.out
  have c1 := C1.out
  have c2 := C2.out
  have c3 := C3.out
  go_region_held3 (fun w' => w'.cell? ⟨w.heap.size, 0, none⟩ = some (.int .i64 session) ∧ w'.cell? ⟨w.heap.size, 1, none⟩ = some (.int .i64 zxid) ∧ w'.cell? ⟨w.heap.size, 2, none⟩ = some (.int .i64 timeout) ∧ w'.cell? ⟨w.heap.size, 3, none⟩ = some (.string secret) ∧ Old w w')
    (((try dsimp only); (repeat' apply And.intro) <;> first | assumption | (simp only [World.cell?_drew]; assumption) | exact Old.drew (by assumption) | exact Old.make (by assumption) _ | exact Old.drew (Old.make (by assumption) _) | exact Old.cell ((Old.refl _).make _) (by assumption)))
    (first
      | (go_at_call 43; refine (reftext_any _ _ (by assumption)).mono ?_; rintro e w9 ⟨rfl, hO9⟩; go_split_ands; have hP9 : Old w w9 := Old.none (by assumption) hO9; have d0 : w9.cell? ⟨w.heap.size, 0, none⟩ = some (.int .i64 session) := Old.cell hO9 (by assumption); have d1 : w9.cell? ⟨w.heap.size, 1, none⟩ = some (.int .i64 zxid) := Old.cell hO9 (by assumption); have d2 : w9.cell? ⟨w.heap.size, 2, none⟩ = some (.int .i64 timeout) := Old.cell hO9 (by assumption); have d3 : w9.cell? ⟨w.heap.size, 3, none⟩ = some (.string secret) := Old.cell hO9 (by assumption); clear hO9)
      | (go_at_call 34; refine (refnums3 session zxid timeout _ _ (by exact heap_alloc_new _ _) h0 h1 h2).mono ?_; rintro e w9 ⟨rfl, hO9⟩; go_split_ands; have hP9 : Old w w9 := Old.none (by assumption) hO9; have d0 : w9.cell? ⟨w.heap.size, 0, none⟩ = some (.int .i64 session) := Old.cell hO9 (by assumption); have d1 : w9.cell? ⟨w.heap.size, 1, none⟩ = some (.int .i64 zxid) := Old.cell hO9 (by assumption); have d2 : w9.cell? ⟨w.heap.size, 2, none⟩ = some (.int .i64 timeout) := Old.cell hO9 (by assumption); have d3 : w9.cell? ⟨w.heap.size, 3, none⟩ = some (.string secret) := Old.cell hO9 (by assumption); clear hO9))
  all_goals go_wp2_with fail
  all_goals go_ret
  all_goals exact ⟨rfl, by assumption⟩

set_option maxRecDepth 100000 in
theorem refput_note (x : Note) (cs : List Value) (ok : Nat → Prop) (w : World) (hE : noteE w ok cs x) (hl : (noteF.lay x).length ≤ 1000000000000000) :
    Calls Try.prog 26 #[.agg cs.toArray] w (OldStr w (noteF.lay x)) := by
  obtain ⟨rfl, h0, h1, h2, h3, h4, h5⟩ := hE
  obtain ⟨from_, state, round, leader, epoch, zxid⟩ := x
  simp only at h0 h1 h2 h3 h4 h5
  have hlay : noteF.lay ⟨from_, state, round, leader, epoch, zxid⟩ = sev (zz from_) ++ (sev (zz state) ++ (sev (zz round) ++ (sev (zz leader) ++ (sev (zz epoch) ++ sev (zz zxid))))) := by simp only [noteF, isoF, seqF, lay_num]
  rw [hlay] at hl ⊢
  simp only [List.length_append] at hl
  have hO0 : Old w (w.alloc (.cells #[.int .i64 from_, .int .i64 state, .int .i64 round, .int .i64 leader, .int .i64 epoch, .int .i64 zxid] 54)) := (Old.refl w).make _
  have hb := heap_alloc_new w (.cells #[.int .i64 from_, .int .i64 state, .int .i64 round, .int .i64 leader, .int .i64 epoch, .int .i64 zxid] 54)
  have c0 : (w.alloc (.cells #[.int .i64 from_, .int .i64 state, .int .i64 round, .int .i64 leader, .int .i64 epoch, .int .i64 zxid] 54)).cell? ⟨w.heap.size, 0, none⟩ = some (.int .i64 from_) := cell_of_row _ _ 0 _ _ _ hb
  have c1 : (w.alloc (.cells #[.int .i64 from_, .int .i64 state, .int .i64 round, .int .i64 leader, .int .i64 epoch, .int .i64 zxid] 54)).cell? ⟨w.heap.size, 1, none⟩ = some (.int .i64 state) := cell_of_row _ _ 1 _ _ _ hb
  have c2 : (w.alloc (.cells #[.int .i64 from_, .int .i64 state, .int .i64 round, .int .i64 leader, .int .i64 epoch, .int .i64 zxid] 54)).cell? ⟨w.heap.size, 2, none⟩ = some (.int .i64 round) := cell_of_row _ _ 2 _ _ _ hb
  have c3 : (w.alloc (.cells #[.int .i64 from_, .int .i64 state, .int .i64 round, .int .i64 leader, .int .i64 epoch, .int .i64 zxid] 54)).cell? ⟨w.heap.size, 3, none⟩ = some (.int .i64 leader) := cell_of_row _ _ 3 _ _ _ hb
  have c4 : (w.alloc (.cells #[.int .i64 from_, .int .i64 state, .int .i64 round, .int .i64 leader, .int .i64 epoch, .int .i64 zxid] 54)).cell? ⟨w.heap.size, 4, none⟩ = some (.int .i64 epoch) := cell_of_row _ _ 4 _ _ _ hb
  have c5 : (w.alloc (.cells #[.int .i64 from_, .int .i64 state, .int .i64 round, .int .i64 leader, .int .i64 epoch, .int .i64 zxid] 54)).cell? ⟨w.heap.size, 5, none⟩ = some (.int .i64 zxid) := cell_of_row _ _ 5 _ _ _ hb
  generalize hw1 : w.alloc (.cells #[.int .i64 from_, .int .i64 state, .int .i64 round, .int .i64 leader, .int .i64 epoch, .int .i64 zxid] 54) = w1 at hO0 c0 c1 c2 c3 c4 c5
  clear hb hlay hl
  have HW := Lib.hid hw1; clear hw1
  have HO0 := Lib.hid hO0; clear hO0
  have C0 := Lib.hid c0; clear c0
  have C1 := Lib.hid c1; clear c1
  have C2 := Lib.hid c2; clear c2
  have C3 := Lib.hid c3; clear c3
  have C4 := Lib.hid c4; clear c4
  have C5 := Lib.hid c5; clear c5
  go_enter Try.func26, Try.ntmps26
  go_upto_region 1 with fail
  rw [HW.out]
  have hO0 := HO0.out
  have c0 := C0.out
  have c1 := C1.out
  have c2 := C2.out
  have c3 := C3.out
  have c4 := C4.out
  have c5 := C5.out
  go_wp2_with (first | (go_at_call 34; refine (refnums6 from_ state round leader epoch zxid _ _ (by exact heap_alloc_new _ _) h0 h1 h2 h3 h4 h5).mono ?_; rintro e w9 ⟨rfl, hO9⟩; have hP9 : Old w w9 := Old.none (Old.make HO0.out _) hO9))
  go_ret
  exact ⟨rfl, by assumption⟩

end Go.Proofs.Ytngcfnffbggniaa
