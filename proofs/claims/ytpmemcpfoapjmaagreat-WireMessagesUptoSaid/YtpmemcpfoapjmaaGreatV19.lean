/- The document's own answers of layer 2: a op, laid. -/
import Derived.Test.YtpmemcpfoapjmaaGreatV11
namespace Go.Proofs.YtpmemcpfoapjmaaGreat
open Go.ChangeShapes Go.WideShapes Go.ChangeAt Go.RowKit
set_option linter.unusedVariables false


set_option maxRecDepth 100000 in
set_option maxHeartbeats 4000000 in
theorem refput_op (x : Oper1) (cs : List Value) (ok : Nat → Prop) (w : World) (hE : oper1E w ok cs x) (hl : (oper1F.lay x).length ≤ 1000000000000000) :
    Calls Tryz.prog 64 #[.agg cs.toArray] w (OldStr w (oper1F.lay x)) := by
  obtain ⟨vsubs, varmed, vacl, rfl, hacl, h_kind, h_xid, h_path, h_data, h_flags, h_version, hsl, hsm⟩ := hE
  obtain ⟨kind, xid, path, data, acl, flags, version, watch⟩ := x
  simp only at h_kind h_xid h_path h_data h_flags h_version hacl
  have hlay : oper1F.lay ⟨kind, xid, path, data, acl, flags, version, watch⟩ = sev (zz kind) ++ (sev (zz xid) ++ (sev path.size ++ (path.data.toList ++ (sev data.size ++ (data.data.toList ++ ((listF aclF).lay acl ++ (sev (zz flags) ++ (sev (zz version) ++ [if watch then 1 else 0])))))))) := by simp only [oper1F, isoF, seqF, lay_num, lay_text, lay_flag, List.append_assoc]
  rw [hlay] at hl ⊢
  clear hlay
  obtain ⟨L0, hL0⟩ : ∃ l : List UInt8, sev (zz kind) ++ sev (zz xid) = l := ⟨_, rfl⟩
  have K0 := Lib.hid (show ∀ (g : Nat) (W : World), W.heap[g]? = some (.cells #[.int .i64 kind, .int .i64 xid] 3 (0, 0)) → Calls Tryz.prog 22 #[.slice (some ⟨g, 0, none⟩) 2 2] W (OldStr W L0) from fun g W hb => by rw [← hL0]; exact refnums2 kind xid g W hb h_kind h_xid)
  obtain ⟨L1, hL1⟩ : ∃ l : List UInt8, sev path.size ++ path.data.toList = l := ⟨_, rfl⟩
  have K1 := Lib.hid (show ∀ W, Calls Tryz.prog 24 #[.string path] W (OldStr W L1) from fun W => by rw [← hL1]; exact reftext_any _ W (by unfold Str at h_path; omega))
  obtain ⟨L2, hL2⟩ : ∃ l : List UInt8, sev data.size ++ data.data.toList = l := ⟨_, rfl⟩
  have K2 := Lib.hid (show ∀ W, Calls Tryz.prog 24 #[.string data] W (OldStr W L2) from fun W => by rw [← hL2]; exact reftext_any _ W (by unfold Str at h_data; omega))
  obtain ⟨L3, hL3⟩ : ∃ l : List UInt8, (listF aclF).lay acl = l := ⟨_, rfl⟩
  have K3 := Lib.hid (show ∀ W, Old w W → Calls Tryz.prog 102 #[vacl] W (OldStr W L3) from fun W h => by
    rw [← hL3]
    exact refacls_any acl vacl ok W (hacl.keep aclE_ok h (disj_none _)) (by simp only [List.length_append] at hl; omega))
  obtain ⟨L4, hL4⟩ : ∃ l : List UInt8, sev (zz flags) ++ sev (zz version) = l := ⟨_, rfl⟩
  have K4 := Lib.hid (show ∀ (g : Nat) (W : World), W.heap[g]? = some (.cells #[.int .i64 flags, .int .i64 version] 3 (0, 0)) → Calls Tryz.prog 22 #[.slice (some ⟨g, 0, none⟩) 2 2] W (OldStr W L4) from fun g W hb => by rw [← hL4]; exact refnums2 flags version g W hb h_flags h_version)
  obtain ⟨L5, hL5⟩ : ∃ l : List UInt8, [if watch then 1 else 0] = l := ⟨_, rfl⟩
  have K5 := Lib.hid (show ∀ W, Calls Tryz.prog 103 #[.bool watch] W (OldStr W L5) from fun W => by rw [← hL5]; exact refflag_any _ W)
  have hfin : sev (zz kind) ++ (sev (zz xid) ++ (sev path.size ++ (path.data.toList ++ (sev data.size ++ (data.data.toList ++ ((listF aclF).lay acl ++ (sev (zz flags) ++ (sev (zz version) ++ [if watch then 1 else 0])))))))) = L0 ++ (L1 ++ (L2 ++ (L3 ++ (L4 ++ L5)))) := by
    rw [← hL0, ← hL1, ← hL2, ← hL3, ← hL4, ← hL5]
    simp only [List.append_assoc]
  rw [hfin] at hl ⊢
  simp only [List.length_append] at hl
  clear hfin hL0 hL1 hL2 hL3 hL4 hL5
  have q0 : ∀ W, Sem.run Tryz.prog (Op.stringOp .add ⟨(L0).toArray⟩ ⟨(L1).toArray⟩) W = .ok (.string ⟨(L0 ++ L1).toArray⟩) W := fun W => by
    rw [add_str _ _ _ (by omega) W]
  have q1 : ∀ W, Sem.run Tryz.prog (Op.stringOp .add ⟨(L0 ++ L1).toArray⟩ ⟨(L2).toArray⟩) W = .ok (.string ⟨(L0 ++ (L1 ++ L2)).toArray⟩) W := fun W => by
    rw [add_str _ _ _ (by simp only [List.length_append]; omega) W] <;> simp only [List.append_assoc]
  have q2 : ∀ W, Sem.run Tryz.prog (Op.stringOp .add ⟨(L0 ++ (L1 ++ L2)).toArray⟩ ⟨(L3).toArray⟩) W = .ok (.string ⟨(L0 ++ (L1 ++ (L2 ++ L3))).toArray⟩) W := fun W => by
    rw [add_str _ _ _ (by simp only [List.length_append]; omega) W] <;> simp only [List.append_assoc]
  have q3 : ∀ W, Sem.run Tryz.prog (Op.stringOp .add ⟨(L0 ++ (L1 ++ (L2 ++ L3))).toArray⟩ ⟨(L4).toArray⟩) W = .ok (.string ⟨(L0 ++ (L1 ++ (L2 ++ (L3 ++ L4)))).toArray⟩) W := fun W => by
    rw [add_str _ _ _ (by simp only [List.length_append]; omega) W] <;> simp only [List.append_assoc]
  have q4 : ∀ W, Sem.run Tryz.prog (Op.stringOp .add ⟨(L0 ++ (L1 ++ (L2 ++ (L3 ++ L4)))).toArray⟩ ⟨(L5).toArray⟩) W = .ok (.string ⟨(L0 ++ (L1 ++ (L2 ++ (L3 ++ (L4 ++ L5))))).toArray⟩) W := fun W => by
    rw [add_str _ _ _ (by simp only [List.length_append]; omega) W] <;> simp only [List.append_assoc]
  clear hl hacl
  have hb := heap_alloc_new w (.cells #[.int .i64 kind, .int .i64 xid, .string path, .string data, vacl, .int .i64 flags, .int .i64 version, .bool watch, vsubs, varmed] 28)
  have hO0 : Old w (w.alloc (.cells #[.int .i64 kind, .int .i64 xid, .string path, .string data, vacl, .int .i64 flags, .int .i64 version, .bool watch, vsubs, varmed] 28)) := (Old.refl w).make _
  have c0 : (w.alloc (.cells #[.int .i64 kind, .int .i64 xid, .string path, .string data, vacl, .int .i64 flags, .int .i64 version, .bool watch, vsubs, varmed] 28)).cell? ⟨w.heap.size, 0, none⟩ = some (.int .i64 kind) := cell_of_row _ _ 0 _ _ _ hb
  have c1 : (w.alloc (.cells #[.int .i64 kind, .int .i64 xid, .string path, .string data, vacl, .int .i64 flags, .int .i64 version, .bool watch, vsubs, varmed] 28)).cell? ⟨w.heap.size, 1, none⟩ = some (.int .i64 xid) := cell_of_row _ _ 1 _ _ _ hb
  have c2 : (w.alloc (.cells #[.int .i64 kind, .int .i64 xid, .string path, .string data, vacl, .int .i64 flags, .int .i64 version, .bool watch, vsubs, varmed] 28)).cell? ⟨w.heap.size, 2, none⟩ = some (.string path) := cell_of_row _ _ 2 _ _ _ hb
  have c3 : (w.alloc (.cells #[.int .i64 kind, .int .i64 xid, .string path, .string data, vacl, .int .i64 flags, .int .i64 version, .bool watch, vsubs, varmed] 28)).cell? ⟨w.heap.size, 3, none⟩ = some (.string data) := cell_of_row _ _ 3 _ _ _ hb
  have c4 : (w.alloc (.cells #[.int .i64 kind, .int .i64 xid, .string path, .string data, vacl, .int .i64 flags, .int .i64 version, .bool watch, vsubs, varmed] 28)).cell? ⟨w.heap.size, 4, none⟩ = some (vacl) := cell_of_row _ _ 4 _ _ _ hb
  have c5 : (w.alloc (.cells #[.int .i64 kind, .int .i64 xid, .string path, .string data, vacl, .int .i64 flags, .int .i64 version, .bool watch, vsubs, varmed] 28)).cell? ⟨w.heap.size, 5, none⟩ = some (.int .i64 flags) := cell_of_row _ _ 5 _ _ _ hb
  have c6 : (w.alloc (.cells #[.int .i64 kind, .int .i64 xid, .string path, .string data, vacl, .int .i64 flags, .int .i64 version, .bool watch, vsubs, varmed] 28)).cell? ⟨w.heap.size, 6, none⟩ = some (.int .i64 version) := cell_of_row _ _ 6 _ _ _ hb
  have c7 : (w.alloc (.cells #[.int .i64 kind, .int .i64 xid, .string path, .string data, vacl, .int .i64 flags, .int .i64 version, .bool watch, vsubs, varmed] 28)).cell? ⟨w.heap.size, 7, none⟩ = some (.bool watch) := cell_of_row _ _ 7 _ _ _ hb
  clear h_kind
  clear h_xid
  clear h_path
  clear h_data
  clear h_flags
  clear h_version
  generalize hw1 : w.alloc (.cells #[.int .i64 kind, .int .i64 xid, .string path, .string data, vacl, .int .i64 flags, .int .i64 version, .bool watch, vsubs, varmed] 28) = w1 at hO0 c0 c1 c2 c3 c4 c5 c6 c7
  clear hb
  have HW := Lib.hid hw1; clear hw1
  have HO0 := Lib.hid hO0; clear hO0
  have C0 := Lib.hid c0; clear c0
  have C1 := Lib.hid c1; clear c1
  have C2 := Lib.hid c2; clear c2
  have C3 := Lib.hid c3; clear c3
  have C4 := Lib.hid c4; clear c4
  have C5 := Lib.hid c5; clear c5
  have C6 := Lib.hid c6; clear c6
  have C7 := Lib.hid c7; clear c7
  go_enter Tryz.func64, Tryz.ntmps64
  go_upto_region 1 with fail
  rw [HW.out]
  have hO0 := HO0.out
  have c0 := C0.out; clear C0
  have c1 := C1.out; clear C1
  have c2 := C2.out; clear C2
  have c3 := C3.out; clear C3
  have c4 := C4.out; clear C4
  have c5 := C5.out; clear C5
  have c6 := C6.out; clear C6
  have c7 := C7.out; clear C7
  clear HW HO0
  go_region_held3 (fun w' => w'.cell? ⟨w.heap.size, 0, none⟩ = some (.int .i64 kind) ∧ w'.cell? ⟨w.heap.size, 1, none⟩ = some (.int .i64 xid) ∧ w'.cell? ⟨w.heap.size, 2, none⟩ = some (.string path) ∧ w'.cell? ⟨w.heap.size, 3, none⟩ = some (.string data) ∧ w'.cell? ⟨w.heap.size, 4, none⟩ = some (vacl) ∧ w'.cell? ⟨w.heap.size, 5, none⟩ = some (.int .i64 flags) ∧ w'.cell? ⟨w.heap.size, 6, none⟩ = some (.int .i64 version) ∧ w'.cell? ⟨w.heap.size, 7, none⟩ = some (.bool watch) ∧ Old w w')
    (((try go_split_ands); (try dsimp only); (try simp only [World.cell?_drew] at *); (repeat' apply And.intro) <;> (with_reducible first | assumption | exact Old.drew (by assumption) | exact Old.make (by assumption) _ | exact Old.drew (Old.make (by assumption) _) | exact Old.drew (Old.make (Old.undrew (by assumption)) _) | exact Old.cell ((Old.refl _).make _) (by assumption) | fail)))
    (first
      | (go_at_call 103; have _t := T5; go_split_ands; refine (K5.out _).mono ?_; rintro e w9 ⟨rfl, hO9⟩; have hP9 : Old w w9 := Old.none (by assumption) hO9; have d0 : w9.cell? ⟨w.heap.size, 0, none⟩ = some (.int .i64 kind) := Old.cell hO9 (by assumption); have d1 : w9.cell? ⟨w.heap.size, 1, none⟩ = some (.int .i64 xid) := Old.cell hO9 (by assumption); have d2 : w9.cell? ⟨w.heap.size, 2, none⟩ = some (.string path) := Old.cell hO9 (by assumption); have d3 : w9.cell? ⟨w.heap.size, 3, none⟩ = some (.string data) := Old.cell hO9 (by assumption); have d4 : w9.cell? ⟨w.heap.size, 4, none⟩ = some (vacl) := Old.cell hO9 (by assumption); have d5 : w9.cell? ⟨w.heap.size, 5, none⟩ = some (.int .i64 flags) := Old.cell hO9 (by assumption); have d6 : w9.cell? ⟨w.heap.size, 6, none⟩ = some (.int .i64 version) := Old.cell hO9 (by assumption); have d7 : w9.cell? ⟨w.heap.size, 7, none⟩ = some (.bool watch) := Old.cell hO9 (by assumption); have hQ9 := Stp.mk hO9; clear hO9; have T6 := True.intro)
      | (go_at_call 22; have _t := T4; go_split_ands; refine (K4.out _ _ ?_).mono ?_; (focus ((repeat (with_reducible first | exact new_drew _ _ | exact heap_alloc_new _ _ | exact new_drew2 _ _ _ | exact new_make2 _ _ _ | refine carry_alloc ?_ | refine carry_make ?_ | (apply Stp.carry; (focus (assumption; done))))); done)); rintro e w9 ⟨rfl, hO9⟩; have hP9 : Old w w9 := Old.none (by assumption) hO9; have d0 : w9.cell? ⟨w.heap.size, 0, none⟩ = some (.int .i64 kind) := Old.cell hO9 (by assumption); have d1 : w9.cell? ⟨w.heap.size, 1, none⟩ = some (.int .i64 xid) := Old.cell hO9 (by assumption); have d2 : w9.cell? ⟨w.heap.size, 2, none⟩ = some (.string path) := Old.cell hO9 (by assumption); have d3 : w9.cell? ⟨w.heap.size, 3, none⟩ = some (.string data) := Old.cell hO9 (by assumption); have d4 : w9.cell? ⟨w.heap.size, 4, none⟩ = some (vacl) := Old.cell hO9 (by assumption); have d5 : w9.cell? ⟨w.heap.size, 5, none⟩ = some (.int .i64 flags) := Old.cell hO9 (by assumption); have d6 : w9.cell? ⟨w.heap.size, 6, none⟩ = some (.int .i64 version) := Old.cell hO9 (by assumption); have d7 : w9.cell? ⟨w.heap.size, 7, none⟩ = some (.bool watch) := Old.cell hO9 (by assumption); have hQ9 := Stp.mk hO9; clear hO9; have T5 := True.intro)
      | (go_at_call 102; have _t := T3; go_split_ands; refine (K3.out _ (by assumption)).mono ?_; rintro e w9 ⟨rfl, hO9⟩; have hP9 : Old w w9 := Old.none (by assumption) hO9; have d0 : w9.cell? ⟨w.heap.size, 0, none⟩ = some (.int .i64 kind) := Old.cell hO9 (by assumption); have d1 : w9.cell? ⟨w.heap.size, 1, none⟩ = some (.int .i64 xid) := Old.cell hO9 (by assumption); have d2 : w9.cell? ⟨w.heap.size, 2, none⟩ = some (.string path) := Old.cell hO9 (by assumption); have d3 : w9.cell? ⟨w.heap.size, 3, none⟩ = some (.string data) := Old.cell hO9 (by assumption); have d4 : w9.cell? ⟨w.heap.size, 4, none⟩ = some (vacl) := Old.cell hO9 (by assumption); have d5 : w9.cell? ⟨w.heap.size, 5, none⟩ = some (.int .i64 flags) := Old.cell hO9 (by assumption); have d6 : w9.cell? ⟨w.heap.size, 6, none⟩ = some (.int .i64 version) := Old.cell hO9 (by assumption); have d7 : w9.cell? ⟨w.heap.size, 7, none⟩ = some (.bool watch) := Old.cell hO9 (by assumption); have hQ9 := Stp.mk hO9; clear hO9; have T4 := True.intro)
      | (go_at_call 24; have _t := T2; go_split_ands; refine (K2.out _).mono ?_; rintro e w9 ⟨rfl, hO9⟩; have hP9 : Old w w9 := Old.none (by assumption) hO9; have d0 : w9.cell? ⟨w.heap.size, 0, none⟩ = some (.int .i64 kind) := Old.cell hO9 (by assumption); have d1 : w9.cell? ⟨w.heap.size, 1, none⟩ = some (.int .i64 xid) := Old.cell hO9 (by assumption); have d2 : w9.cell? ⟨w.heap.size, 2, none⟩ = some (.string path) := Old.cell hO9 (by assumption); have d3 : w9.cell? ⟨w.heap.size, 3, none⟩ = some (.string data) := Old.cell hO9 (by assumption); have d4 : w9.cell? ⟨w.heap.size, 4, none⟩ = some (vacl) := Old.cell hO9 (by assumption); have d5 : w9.cell? ⟨w.heap.size, 5, none⟩ = some (.int .i64 flags) := Old.cell hO9 (by assumption); have d6 : w9.cell? ⟨w.heap.size, 6, none⟩ = some (.int .i64 version) := Old.cell hO9 (by assumption); have d7 : w9.cell? ⟨w.heap.size, 7, none⟩ = some (.bool watch) := Old.cell hO9 (by assumption); have hQ9 := Stp.mk hO9; clear hO9; have T3 := True.intro)
      | (go_at_call 24; have _t := T1; go_split_ands; refine (K1.out _).mono ?_; rintro e w9 ⟨rfl, hO9⟩; have hP9 : Old w w9 := Old.none (by assumption) hO9; have d0 : w9.cell? ⟨w.heap.size, 0, none⟩ = some (.int .i64 kind) := Old.cell hO9 (by assumption); have d1 : w9.cell? ⟨w.heap.size, 1, none⟩ = some (.int .i64 xid) := Old.cell hO9 (by assumption); have d2 : w9.cell? ⟨w.heap.size, 2, none⟩ = some (.string path) := Old.cell hO9 (by assumption); have d3 : w9.cell? ⟨w.heap.size, 3, none⟩ = some (.string data) := Old.cell hO9 (by assumption); have d4 : w9.cell? ⟨w.heap.size, 4, none⟩ = some (vacl) := Old.cell hO9 (by assumption); have d5 : w9.cell? ⟨w.heap.size, 5, none⟩ = some (.int .i64 flags) := Old.cell hO9 (by assumption); have d6 : w9.cell? ⟨w.heap.size, 6, none⟩ = some (.int .i64 version) := Old.cell hO9 (by assumption); have d7 : w9.cell? ⟨w.heap.size, 7, none⟩ = some (.bool watch) := Old.cell hO9 (by assumption); have hQ9 := Stp.mk hO9; clear hO9; have T2 := True.intro)
      | (go_at_call 22; go_split_ands; refine (K0.out _ _ ?_).mono ?_; (focus ((repeat (with_reducible first | exact new_drew _ _ | exact heap_alloc_new _ _ | exact new_drew2 _ _ _ | exact new_make2 _ _ _ | refine carry_alloc ?_ | refine carry_make ?_ | (apply Stp.carry; (focus (assumption; done))))); done)); rintro e w9 ⟨rfl, hO9⟩; have hP9 : Old w w9 := Old.none (by assumption) hO9; have d0 : w9.cell? ⟨w.heap.size, 0, none⟩ = some (.int .i64 kind) := Old.cell hO9 (by assumption); have d1 : w9.cell? ⟨w.heap.size, 1, none⟩ = some (.int .i64 xid) := Old.cell hO9 (by assumption); have d2 : w9.cell? ⟨w.heap.size, 2, none⟩ = some (.string path) := Old.cell hO9 (by assumption); have d3 : w9.cell? ⟨w.heap.size, 3, none⟩ = some (.string data) := Old.cell hO9 (by assumption); have d4 : w9.cell? ⟨w.heap.size, 4, none⟩ = some (vacl) := Old.cell hO9 (by assumption); have d5 : w9.cell? ⟨w.heap.size, 5, none⟩ = some (.int .i64 flags) := Old.cell hO9 (by assumption); have d6 : w9.cell? ⟨w.heap.size, 6, none⟩ = some (.int .i64 version) := Old.cell hO9 (by assumption); have d7 : w9.cell? ⟨w.heap.size, 7, none⟩ = some (.bool watch) := Old.cell hO9 (by assumption); have hQ9 := Stp.mk hO9; clear hO9; have T1 := True.intro))
  all_goals go_wp2_with fail
  all_goals go_ret
  all_goals exact ⟨rfl, by assumption⟩

end Go.Proofs.YtpmemcpfoapjmaaGreat
