/- The document's own answers of layer 2: an entry, laid. arboretumlaw02.Entry: any bytes, read by both, are laid as the same; what came out is written over. An entry inside a message: where it lies among the message's bytes; a list cut short. LentEntry: an entry whose lists are its own, with something more behind each. -/
import Derived.Test.YtpmemcpfoapjmaaQ11
import Derived.Test.YtpmemcpfoapjmaaQ08
import Derived.Deep.RegionHeld3
import Derived.Deep.DeepCutAuto
import Derived.WalkSpells
import Derived.Outline
import Derived.Test.YtpmemcpfoapjmaaQ06
import Derived.Test.YtpmemcpfoapjmaaQ07
import Derived.Test.YtpmemcpfoapjmaaQ09
import Derived.Test.YtpmemcpfoapjmaaQ04
import Derived.Test.YtpmemcpfoapjmaaQ03
import Derived.Deep.RegionLaw
namespace Go.Proofs.Ytpmemcpfoapjmaa
open Go.ChangeShapes Go.WideShapes Go.ChangeAt Go.RowKit
set_option linter.unusedVariables false

set_option maxRecDepth 100000 in
set_option maxHeartbeats 2000000 in
theorem refput_entry (x : Entry) (cs : List Value) (ok : Nat → Prop) (w : World) (hE : entryE w ok cs x) (hl : (entryF.lay x).length ≤ 1000000000000000) :
    Calls Try.prog 8 #[.agg cs.toArray] w (OldStr w (entryF.lay x)) := by
  obtain ⟨ct, rfl, hT, h0, h1, h2⟩ := hE
  obtain ⟨z0, z1, z2, t⟩ := x
  simp only at hT h0 h1 h2
  obtain ⟨v0, v1, v2, v3, v4, v5, v6, v7, rfl⟩ := split_txn (txnE_flat hT).1
  have hlay : entryF.lay ⟨z0, z1, z2, t⟩ = (sev (zz z0) ++ (sev (zz z1) ++ sev (zz z2))) ++ txnF.lay t := by simp only [entryF, isoF, seqF, lay_num, List.append_assoc]
  rw [hlay] at hl ⊢
  rw [List.length_append] at hl
  have KT := Lib.hid (show ∀ W, Old w W → Calls Try.prog 17 #[.agg #[v0, v1, v2, v3, v4, v5, v6, v7]] W (OldStr W (txnF.lay t)) from fun W h => refput_txn t _ ok W (txnE_ok.keep hT h (disj_none _)) (by omega))
  have KN := Lib.hid (show ∀ (g : Nat) (W : World), W.heap[g]? = some (.cells #[.int .i64 z0, .int .i64 z1, .int .i64 z2] 3 (0, 0)) → Calls Try.prog 16 #[.slice (some ⟨g, 0, none⟩) 3 3] W (OldStr W (sev (zz z0) ++ (sev (zz z1) ++ sev (zz z2)))) from fun g W hb => refnums3 z0 z1 z2 g W hb h0 h1 h2)
  obtain ⟨L0, hL0⟩ : ∃ l : List UInt8, sev (zz z0) ++ (sev (zz z1) ++ sev (zz z2)) = l := ⟨_, rfl⟩
  obtain ⟨L1, hL1⟩ : ∃ l : List UInt8, txnF.lay t = l := ⟨_, rfl⟩
  rw [hL0] at KN hl ⊢
  rw [hL1] at KT hl ⊢
  have q0 : ∀ W, Sem.run Try.prog (Op.stringOp .add ⟨L0.toArray⟩ ⟨L1.toArray⟩) W = .ok (.string ⟨(L0 ++ L1).toArray⟩) W := fun W => add_str _ _ _ hl W
  clear hL0 hL1 hlay hl hT h0 h1 h2
  have hO0 : Old w (w.alloc (.cells #[.int .i64 z0, .int .i64 z1, .int .i64 z2, v0, v1, v2, v3, v4, v5, v6, v7] 28)) := (Old.refl w).make _
  have hb := heap_alloc_new w (.cells #[.int .i64 z0, .int .i64 z1, .int .i64 z2, v0, v1, v2, v3, v4, v5, v6, v7] 28)
  have c0 : (w.alloc (.cells #[.int .i64 z0, .int .i64 z1, .int .i64 z2, v0, v1, v2, v3, v4, v5, v6, v7] 28)).cell? ⟨w.heap.size, 0, none⟩ = some (.int .i64 z0) := cell_of_row _ _ 0 _ _ _ hb
  have c1 : (w.alloc (.cells #[.int .i64 z0, .int .i64 z1, .int .i64 z2, v0, v1, v2, v3, v4, v5, v6, v7] 28)).cell? ⟨w.heap.size, 1, none⟩ = some (.int .i64 z1) := cell_of_row _ _ 1 _ _ _ hb
  have c2 : (w.alloc (.cells #[.int .i64 z0, .int .i64 z1, .int .i64 z2, v0, v1, v2, v3, v4, v5, v6, v7] 28)).cell? ⟨w.heap.size, 2, none⟩ = some (.int .i64 z2) := cell_of_row _ _ 2 _ _ _ hb
  have c3 : (w.alloc (.cells #[.int .i64 z0, .int .i64 z1, .int .i64 z2, v0, v1, v2, v3, v4, v5, v6, v7] 28)).cell? ⟨w.heap.size, 3, none⟩ = some (v0) := cell_of_row _ _ 3 _ _ _ hb
  have c4 : (w.alloc (.cells #[.int .i64 z0, .int .i64 z1, .int .i64 z2, v0, v1, v2, v3, v4, v5, v6, v7] 28)).cell? ⟨w.heap.size, 4, none⟩ = some (v1) := cell_of_row _ _ 4 _ _ _ hb
  have c5 : (w.alloc (.cells #[.int .i64 z0, .int .i64 z1, .int .i64 z2, v0, v1, v2, v3, v4, v5, v6, v7] 28)).cell? ⟨w.heap.size, 5, none⟩ = some (v2) := cell_of_row _ _ 5 _ _ _ hb
  have c6 : (w.alloc (.cells #[.int .i64 z0, .int .i64 z1, .int .i64 z2, v0, v1, v2, v3, v4, v5, v6, v7] 28)).cell? ⟨w.heap.size, 6, none⟩ = some (v3) := cell_of_row _ _ 6 _ _ _ hb
  have c7 : (w.alloc (.cells #[.int .i64 z0, .int .i64 z1, .int .i64 z2, v0, v1, v2, v3, v4, v5, v6, v7] 28)).cell? ⟨w.heap.size, 7, none⟩ = some (v4) := cell_of_row _ _ 7 _ _ _ hb
  have c8 : (w.alloc (.cells #[.int .i64 z0, .int .i64 z1, .int .i64 z2, v0, v1, v2, v3, v4, v5, v6, v7] 28)).cell? ⟨w.heap.size, 8, none⟩ = some (v5) := cell_of_row _ _ 8 _ _ _ hb
  have c9 : (w.alloc (.cells #[.int .i64 z0, .int .i64 z1, .int .i64 z2, v0, v1, v2, v3, v4, v5, v6, v7] 28)).cell? ⟨w.heap.size, 9, none⟩ = some (v6) := cell_of_row _ _ 9 _ _ _ hb
  have c10 : (w.alloc (.cells #[.int .i64 z0, .int .i64 z1, .int .i64 z2, v0, v1, v2, v3, v4, v5, v6, v7] 28)).cell? ⟨w.heap.size, 10, none⟩ = some (v7) := cell_of_row _ _ 10 _ _ _ hb
  generalize hw1 : w.alloc (.cells #[.int .i64 z0, .int .i64 z1, .int .i64 z2, v0, v1, v2, v3, v4, v5, v6, v7] 28) = w1 at hO0 c0 c1 c2 c3 c4 c5 c6 c7 c8 c9 c10
  clear hb
  have HW := Lib.hid hw1; clear hw1
  have HO0 := Lib.hid hO0; clear hO0
  have C0 := Lib.hid c0; clear c0
  have C1 := Lib.hid c1; clear c1
  have C2 := Lib.hid c2; clear c2
  have C3 := Lib.hid c3; clear c3
  have C4 := Lib.hid c4; clear c4
  have C5 := Lib.hid c5; clear c5
  have C6 := Lib.hid c6; clear c6
  have C7 := Lib.hid c7; clear c7
  have C8 := Lib.hid c8; clear c8
  have C9 := Lib.hid c9; clear c9
  have C10 := Lib.hid c10; clear c10
  go_enter Try.func8, Try.ntmps8
  go_upto_region 1 with fail
  rw [HW.out]
  have hO0 := HO0.out; clear HO0 HW
  have c0 := C0.out; clear C0
  have c1 := C1.out; clear C1
  have c2 := C2.out; clear C2
  have c3 := C3.out; clear C3
  have c4 := C4.out; clear C4
  have c5 := C5.out; clear C5
  have c6 := C6.out; clear C6
  have c7 := C7.out; clear C7
  have c8 := C8.out; clear C8
  have c9 := C9.out; clear C9
  have c10 := C10.out; clear C10
  go_region_held3 (fun w' => w'.cell? ⟨w.heap.size, 0, none⟩ = some (.int .i64 z0) ∧ w'.cell? ⟨w.heap.size, 1, none⟩ = some (.int .i64 z1) ∧ w'.cell? ⟨w.heap.size, 2, none⟩ = some (.int .i64 z2) ∧ w'.cell? ⟨w.heap.size, 3, none⟩ = some (v0) ∧ w'.cell? ⟨w.heap.size, 4, none⟩ = some (v1) ∧ w'.cell? ⟨w.heap.size, 5, none⟩ = some (v2) ∧ w'.cell? ⟨w.heap.size, 6, none⟩ = some (v3) ∧ w'.cell? ⟨w.heap.size, 7, none⟩ = some (v4) ∧ w'.cell? ⟨w.heap.size, 8, none⟩ = some (v5) ∧ w'.cell? ⟨w.heap.size, 9, none⟩ = some (v6) ∧ w'.cell? ⟨w.heap.size, 10, none⟩ = some (v7) ∧ Old w w')
    (((try go_split_ands); (try dsimp only); (try simp only [World.cell?_drew] at *); (repeat' apply And.intro) <;> (with_reducible first | assumption | exact Old.drew (by assumption) | exact Old.make (by assumption) _ | exact Old.drew (Old.make (by assumption) _) | exact Old.drew (Old.make (Old.undrew (by assumption)) _) | exact Old.cell ((Old.refl _).make _) (by assumption) | fail)))
    (first
      | (go_at_call 17; go_split_ands; refine (KT.out _ (by assumption)).mono ?_; rintro e w9 ⟨rfl, hO9⟩; have hP9 : Old w w9 := Old.none (by assumption) hO9; have d0 : w9.cell? ⟨w.heap.size, 0, none⟩ = some (.int .i64 z0) := Old.cell hO9 (by assumption); have d1 : w9.cell? ⟨w.heap.size, 1, none⟩ = some (.int .i64 z1) := Old.cell hO9 (by assumption); have d2 : w9.cell? ⟨w.heap.size, 2, none⟩ = some (.int .i64 z2) := Old.cell hO9 (by assumption); have d3 : w9.cell? ⟨w.heap.size, 3, none⟩ = some (v0) := Old.cell hO9 (by assumption); have d4 : w9.cell? ⟨w.heap.size, 4, none⟩ = some (v1) := Old.cell hO9 (by assumption); have d5 : w9.cell? ⟨w.heap.size, 5, none⟩ = some (v2) := Old.cell hO9 (by assumption); have d6 : w9.cell? ⟨w.heap.size, 6, none⟩ = some (v3) := Old.cell hO9 (by assumption); have d7 : w9.cell? ⟨w.heap.size, 7, none⟩ = some (v4) := Old.cell hO9 (by assumption); have d8 : w9.cell? ⟨w.heap.size, 8, none⟩ = some (v5) := Old.cell hO9 (by assumption); have d9 : w9.cell? ⟨w.heap.size, 9, none⟩ = some (v6) := Old.cell hO9 (by assumption); have d10 : w9.cell? ⟨w.heap.size, 10, none⟩ = some (v7) := Old.cell hO9 (by assumption); have hQ9 := Stp.mk hO9; clear hO9)
      | (go_at_call 16; go_split_ands; refine (KN.out _ _ ?_).mono ?_; (focus ((repeat (with_reducible first | exact new_drew _ _ | exact heap_alloc_new _ _ | exact new_drew2 _ _ _ | exact new_make2 _ _ _ | refine carry_alloc ?_ | refine carry_make ?_ | (apply Stp.carry; (focus (assumption; done))))); done)); rintro e w9 ⟨rfl, hO9⟩; have hP9 : Old w w9 := Old.none (by assumption) hO9; have d0 : w9.cell? ⟨w.heap.size, 0, none⟩ = some (.int .i64 z0) := Old.cell hO9 (by assumption); have d1 : w9.cell? ⟨w.heap.size, 1, none⟩ = some (.int .i64 z1) := Old.cell hO9 (by assumption); have d2 : w9.cell? ⟨w.heap.size, 2, none⟩ = some (.int .i64 z2) := Old.cell hO9 (by assumption); have d3 : w9.cell? ⟨w.heap.size, 3, none⟩ = some (v0) := Old.cell hO9 (by assumption); have d4 : w9.cell? ⟨w.heap.size, 4, none⟩ = some (v1) := Old.cell hO9 (by assumption); have d5 : w9.cell? ⟨w.heap.size, 5, none⟩ = some (v2) := Old.cell hO9 (by assumption); have d6 : w9.cell? ⟨w.heap.size, 6, none⟩ = some (v3) := Old.cell hO9 (by assumption); have d7 : w9.cell? ⟨w.heap.size, 7, none⟩ = some (v4) := Old.cell hO9 (by assumption); have d8 : w9.cell? ⟨w.heap.size, 8, none⟩ = some (v5) := Old.cell hO9 (by assumption); have d9 : w9.cell? ⟨w.heap.size, 9, none⟩ = some (v6) := Old.cell hO9 (by assumption); have d10 : w9.cell? ⟨w.heap.size, 10, none⟩ = some (v7) := Old.cell hO9 (by assumption); have hQ9 := Stp.mk hO9; clear hO9))
  all_goals go_wp2_with fail
  all_goals go_ret
  all_goals exact ⟨rfl, by assumption⟩
end Go.Proofs.Ytpmemcpfoapjmaa

namespace Go.Proofs.Ytpmemcpfoapjmaa
open Go.ChangeShapes Go.WideShapes Go.ChangeAt Go.RowKit
set_option linter.unusedVariables false

theorem entry_fits {x : Entry} (h : entryF.fits x) : x.txn.part.acl.length ≤ 256 ∧ x.txn.subs.length ≤ 256 := by
  obtain ⟨_, _, _, h4⟩ := (h : numF.fits x.zxid ∧ numF.fits x.session ∧ numF.fits x.xid ∧ txnF.fits x.txn)
  obtain ⟨h5, h6⟩ := (h4 : partF.fits x.txn.part ∧ (listF partF).fits x.txn.subs)
  obtain ⟨_, _, _, h7, _⟩ := (h5 : numF.fits x.txn.part.kind ∧ (textF 4096).fits x.txn.part.path ∧ (textF 4096).fits x.txn.part.data ∧ (listF aclF).fits x.txn.part.acl ∧ numF.fits x.txn.part.owner ∧ numF.fits x.txn.part.number ∧ numF.fits x.txn.part.err)
  exact ⟨h7.1, h6.1⟩
theorem both_entry (s : ByteArray) (hs : s.size ≤ 140737488355328) : ∃ (y : Entry) (e : Int), (entryF.lay y).length ≤ 1000000000000000 ∧ (y.txn.part.acl.length ≤ 256 ∧ y.txn.subs.length ≤ 256) ∧
    (∀ W : World, Calls Try.prog 19 #[.string s] W fun en w' => ∃ cs : List Value, en = .returned (.tuple #[.agg cs.toArray, .int .i64 e]) ∧ Old W w' ∧ entryE w' (New W) cs y) ∧
    (∀ W : World, Calls Try.prog 18 #[.string s] W fun en w' => ∃ cs : List Value, en = .returned (.tuple #[.agg cs.toArray, .int .i64 e]) ∧ Old W w' ∧ entryE w' (New W) cs y) := by
  refine ⟨(entryF.read s).getD zEntry, errOf (entryF.read s), ?_, ?_, fun W => (GetEntry_any s W (by unfold maxLen; omega)).mono fun en w' ⟨cs, he, hO, hE⟩ => ⟨cs, he, hO, hE⟩, fun W => (refget_entry s W hs).mono fun en w' ⟨cs, he, hO, hE⟩ => ⟨cs, he, hO, hE⟩⟩
  · cases h : entryF.read s with
    | none => show (entryF.lay zEntry).length ≤ _; decide
    | some x => rw [show (some x).getD zEntry = x from rfl, lay_len entryF_ok h]; omega
  · cases h : entryF.read s with
    | none => exact ⟨by decide, by decide⟩
    | some x => exact entry_fits (Fmt.read_some entryF_ok h).2

set_option maxRecDepth 100000 in
set_option maxHeartbeats 2000000 in
theorem law_entry (s : ByteArray) (w : World) (hs : s.size ≤ 140737488355328) : Calls Try.prog 9 #[.string s] w fun e w' => e = .returned (.bool true) ∧ Old w w' := by
  have HSZ := Lib.hid (show (Try.prog.info? 28).map (·.size) = some 11 by kernel_rfl)
  obtain ⟨y, e, hlay, hfit, pa, px⟩ := both_entry s hs
  obtain ⟨l, hl⟩ : ∃ l, entryF.lay y = l := ⟨_, rfl⟩
  have PA := Lib.hid pa; clear pa
  have PX := Lib.hid px; clear px
  have HFIT := Lib.hid hfit; clear hfit
  have PL := Lib.hid (show ∀ (cs : List Value) (ok : Nat → Prop) (W : World), entryE W ok cs y → Calls Try.prog 8 #[.agg cs.toArray] W (OldStr W l) from fun cs ok W hE => by rw [← hl]; exact refput_entry y cs ok W hE hlay)
  clear hl hlay
  go_enter Try.func9, Try.ntmps9
  go_wp2_with fail
  refine (PX.out _).mono ?_
  rintro en w1 ⟨cx, rfl, hO1, hEx⟩
  obtain ⟨xA, xAn, xAc, xS, xSn, xSc, rfl⟩ := entryE_cells hEx
  have hA1 : Old w1 (w1.alloc (.cells ([.int .i64 y.zxid, .int .i64 y.session, .int .i64 y.xid, .int .i64 y.txn.part.kind, .string y.txn.part.path, .string y.txn.part.data, .slice xA xAn xAc, .int .i64 y.txn.part.owner, .int .i64 y.txn.part.number, .int .i64 y.txn.part.err, .slice xS xSn xSc] : List Value).toArray 28)) := (Old.refl _).make _
  have HX := Lib.hid (entryE_ok.keep hEx hA1 (disj_none _))
  have HBX := Lib.hid (heap_alloc_new w1 (.cells ([.int .i64 y.zxid, .int .i64 y.session, .int .i64 y.xid, .int .i64 y.txn.part.kind, .string y.txn.part.path, .string y.txn.part.data, .slice xA xAn xAc, .int .i64 y.txn.part.owner, .int .i64 y.txn.part.number, .int .i64 y.txn.part.err, .slice xS xSn xSc] : List Value).toArray 28))
  have HO1 := Lib.hid (hO1.none hA1)
  have hpos : 0 < (w1.alloc (.cells ([.int .i64 y.zxid, .int .i64 y.session, .int .i64 y.xid, .int .i64 y.txn.part.kind, .string y.txn.part.path, .string y.txn.part.data, .slice xA xAn xAc, .int .i64 y.txn.part.owner, .int .i64 y.txn.part.number, .int .i64 y.txn.part.err, .slice xS xSn xSc] : List Value).toArray 28)).heap.size := by simp
  clear hEx hO1 hA1
  go_wp2_with (refine wpList_store_new w1 rfl 28 _ _ rfl _ [.int .i64 y.zxid, .int .i64 y.session, .int .i64 y.xid, .int .i64 y.txn.part.kind, .string y.txn.part.path, .string y.txn.part.data, .slice xA xAn xAc, .int .i64 y.txn.part.owner, .int .i64 y.txn.part.number, .int .i64 y.txn.part.err, .slice xS xSn xSc] rfl rfl HSZ.out rfl (by simp [Value.oneCell']) ?_)
  generalize w1.alloc (.cells ([.int .i64 y.zxid, .int .i64 y.session, .int .i64 y.xid, .int .i64 y.txn.part.kind, .string y.txn.part.path, .string y.txn.part.data, .slice xA xAn xAc, .int .i64 y.txn.part.owner, .int .i64 y.txn.part.number, .int .i64 y.txn.part.err, .slice xS xSn xSc] : List Value).toArray 28) = W1 at HX HBX HO1 hpos ⊢
  go_loopw [5] (fun iv wr => ∃ t : Nat, iv = .int .i64 (t : Nat) ∧ t ≤ 2 ∧ Old W1 wr) (fun iv _ => 2 - (intOf iv).toNat)
  case atStart => exact ⟨0, rfl, by omega, Old.refl _⟩
  case round =>
    obtain ⟨t, rfl, ht, hOr⟩ := hrel
    by_cases hlt : t < 2
    · have htl : (t : Int) < 2 := by omega
      go_wp2_with fail
      refine (PA.out _).mono ?_
      rintro en w2 ⟨ca, rfl, hO2, hEa⟩
      obtain ⟨aA, aAn, aAc, aS, aSn, aSc, rfl⟩ := entryE_cells hEa
      have hA2 : Old w2 (w2.alloc (.cells ([.int .i64 y.zxid, .int .i64 y.session, .int .i64 y.xid, .int .i64 y.txn.part.kind, .string y.txn.part.path, .string y.txn.part.data, .slice aA aAn aAc, .int .i64 y.txn.part.owner, .int .i64 y.txn.part.number, .int .i64 y.txn.part.err, .slice aS aSn aSc] : List Value).toArray 28)) := (Old.refl _).make _
      have HEA := Lib.hid (entryE_ok.keep hEa hA2 (disj_none _))
      have HBA := Lib.hid (heap_alloc_new w2 (.cells ([.int .i64 y.zxid, .int .i64 y.session, .int .i64 y.xid, .int .i64 y.txn.part.kind, .string y.txn.part.path, .string y.txn.part.data, .slice aA aAn aAc, .int .i64 y.txn.part.owner, .int .i64 y.txn.part.number, .int .i64 y.txn.part.err, .slice aS aSn aSc] : List Value).toArray 28))
      have hO3 : Old wr (w2.alloc (.cells ([.int .i64 y.zxid, .int .i64 y.session, .int .i64 y.xid, .int .i64 y.txn.part.kind, .string y.txn.part.path, .string y.txn.part.data, .slice aA aAn aAc, .int .i64 y.txn.part.owner, .int .i64 y.txn.part.number, .int .i64 y.txn.part.err, .slice aS aSn aSc] : List Value).toArray 28)) := hO2.none hA2
      have HO3 := Lib.hid hO3
      have HX3 := Lib.hid (entryE_ok.keep HX.out (hOr.none hO3) (disj_none _))
      have HBX3 := Lib.hid (((hOr.none hO3).block _ (lt_of_block HBX.out) id).trans HBX.out)
      have HPOS := Lib.hid (show 0 < wr.heap.size from Nat.lt_of_lt_of_le hpos hOr.size)
      have HOR := Lib.hid hOr
      clear hEa hO2 hA2 hO3 hOr
      go_upto_region 6 with (refine wpList_store_new w2 rfl 28 _ _ rfl _ [.int .i64 y.zxid, .int .i64 y.session, .int .i64 y.xid, .int .i64 y.txn.part.kind, .string y.txn.part.path, .string y.txn.part.data, .slice aA aAn aAc, .int .i64 y.txn.part.owner, .int .i64 y.txn.part.number, .int .i64 y.txn.part.err, .slice aS aSn aSc] rfl rfl HSZ.out rfl (by simp [Value.oneCell']) ?_)
      generalize w2.alloc (.cells ([.int .i64 y.zxid, .int .i64 y.session, .int .i64 y.xid, .int .i64 y.txn.part.kind, .string y.txn.part.path, .string y.txn.part.data, .slice aA aAn aAc, .int .i64 y.txn.part.owner, .int .i64 y.txn.part.number, .int .i64 y.txn.part.err, .slice aS aSn aSc] : List Value).toArray 28) = W2 at HEA HBA HO3 HX3 HBX3 ⊢
      have HSS := Lib.hid (show ∀ w', Old W2 w' → w'.cell? ⟨w2.heap.size, 0, none⟩ = some (.int .i64 y.zxid) ∧ w'.cell? ⟨w2.heap.size, 1, none⟩ = some (.int .i64 y.session) ∧ w'.cell? ⟨w2.heap.size, 2, none⟩ = some (.int .i64 y.xid) ∧ w'.cell? ⟨w2.heap.size, 3, none⟩ = some (.int .i64 y.txn.part.kind) ∧ w'.cell? ⟨w2.heap.size, 4, none⟩ = some (.string y.txn.part.path) ∧ w'.cell? ⟨w2.heap.size, 5, none⟩ = some (.string y.txn.part.data) ∧ w'.cell? ⟨w2.heap.size, 6, none⟩ = some (.slice aA aAn aAc) ∧ w'.cell? ⟨w2.heap.size, 7, none⟩ = some (.int .i64 y.txn.part.owner) ∧ w'.cell? ⟨w2.heap.size, 8, none⟩ = some (.int .i64 y.txn.part.number) ∧ w'.cell? ⟨w2.heap.size, 9, none⟩ = some (.int .i64 y.txn.part.err) ∧ w'.cell? ⟨w2.heap.size, 10, none⟩ = some (.slice aS aSn aSc) ∧ w'.cell? ⟨w1.heap.size, 0, none⟩ = some (.int .i64 y.zxid) ∧ w'.cell? ⟨w1.heap.size, 1, none⟩ = some (.int .i64 y.session) ∧ w'.cell? ⟨w1.heap.size, 2, none⟩ = some (.int .i64 y.xid) ∧ w'.cell? ⟨w1.heap.size, 3, none⟩ = some (.int .i64 y.txn.part.kind) ∧ w'.cell? ⟨w1.heap.size, 4, none⟩ = some (.string y.txn.part.path) ∧ w'.cell? ⟨w1.heap.size, 5, none⟩ = some (.string y.txn.part.data) ∧ w'.cell? ⟨w1.heap.size, 6, none⟩ = some (.slice xA xAn xAc) ∧ w'.cell? ⟨w1.heap.size, 7, none⟩ = some (.int .i64 y.txn.part.owner) ∧ w'.cell? ⟨w1.heap.size, 8, none⟩ = some (.int .i64 y.txn.part.number) ∧ w'.cell? ⟨w1.heap.size, 9, none⟩ = some (.int .i64 y.txn.part.err) ∧ w'.cell? ⟨w1.heap.size, 10, none⟩ = some (.slice xS xSn xSc) ∧ Old W2 w' from fun w' hO => by
        have ha := fun i v hv => cell_of_heap (i := i) (v := v) ((hO.block _ (lt_of_block HBA.out) id).trans HBA.out) hv
        have hx := fun i v hv => cell_of_heap (i := i) (v := v) ((hO.block _ (lt_of_block HBX3.out) id).trans HBX3.out) hv
        exact ⟨ha 0 _ rfl, ha 1 _ rfl, ha 2 _ rfl, ha 3 _ rfl, ha 4 _ rfl, ha 5 _ rfl, ha 6 _ rfl, ha 7 _ rfl, ha 8 _ rfl, ha 9 _ rfl, ha 10 _ rfl, hx 0 _ rfl, hx 1 _ rfl, hx 2 _ rfl, hx 3 _ rfl, hx 4 _ rfl, hx 5 _ rfl, hx 6 _ rfl, hx 7 _ rfl, hx 8 _ rfl, hx 9 _ rfl, hx 10 _ rfl, hO⟩)
      have KA := Lib.hid (fun W (h : Old W2 W) => PL.out [.int .i64 y.zxid, .int .i64 y.session, .int .i64 y.xid, .int .i64 y.txn.part.kind, .string y.txn.part.path, .string y.txn.part.data, .slice aA aAn aAc, .int .i64 y.txn.part.owner, .int .i64 y.txn.part.number, .int .i64 y.txn.part.err, .slice aS aSn aSc] _ W (entryE_ok.keep HEA.out h (disj_none _)))
      have KX := Lib.hid (fun W (h : Old W2 W) => PL.out [.int .i64 y.zxid, .int .i64 y.session, .int .i64 y.xid, .int .i64 y.txn.part.kind, .string y.txn.part.path, .string y.txn.part.data, .slice xA xAn xAc, .int .i64 y.txn.part.owner, .int .i64 y.txn.part.number, .int .i64 y.txn.part.err, .slice xS xSn xSc] _ W (entryE_ok.keep HX3.out h (disj_none _)))
      go_cut [31] (fun v wx => v = .bool false ∧ Old W2 wx)
      case first =>
        go_region_held3 (fun w' => w'.cell? ⟨w2.heap.size, 0, none⟩ = some (.int .i64 y.zxid) ∧ w'.cell? ⟨w2.heap.size, 1, none⟩ = some (.int .i64 y.session) ∧ w'.cell? ⟨w2.heap.size, 2, none⟩ = some (.int .i64 y.xid) ∧ w'.cell? ⟨w2.heap.size, 3, none⟩ = some (.int .i64 y.txn.part.kind) ∧ w'.cell? ⟨w2.heap.size, 4, none⟩ = some (.string y.txn.part.path) ∧ w'.cell? ⟨w2.heap.size, 5, none⟩ = some (.string y.txn.part.data) ∧ w'.cell? ⟨w2.heap.size, 6, none⟩ = some (.slice aA aAn aAc) ∧ w'.cell? ⟨w2.heap.size, 7, none⟩ = some (.int .i64 y.txn.part.owner) ∧ w'.cell? ⟨w2.heap.size, 8, none⟩ = some (.int .i64 y.txn.part.number) ∧ w'.cell? ⟨w2.heap.size, 9, none⟩ = some (.int .i64 y.txn.part.err) ∧ w'.cell? ⟨w2.heap.size, 10, none⟩ = some (.slice aS aSn aSc) ∧ w'.cell? ⟨w1.heap.size, 0, none⟩ = some (.int .i64 y.zxid) ∧ w'.cell? ⟨w1.heap.size, 1, none⟩ = some (.int .i64 y.session) ∧ w'.cell? ⟨w1.heap.size, 2, none⟩ = some (.int .i64 y.xid) ∧ w'.cell? ⟨w1.heap.size, 3, none⟩ = some (.int .i64 y.txn.part.kind) ∧ w'.cell? ⟨w1.heap.size, 4, none⟩ = some (.string y.txn.part.path) ∧ w'.cell? ⟨w1.heap.size, 5, none⟩ = some (.string y.txn.part.data) ∧ w'.cell? ⟨w1.heap.size, 6, none⟩ = some (.slice xA xAn xAc) ∧ w'.cell? ⟨w1.heap.size, 7, none⟩ = some (.int .i64 y.txn.part.owner) ∧ w'.cell? ⟨w1.heap.size, 8, none⟩ = some (.int .i64 y.txn.part.number) ∧ w'.cell? ⟨w1.heap.size, 9, none⟩ = some (.int .i64 y.txn.part.err) ∧ w'.cell? ⟨w1.heap.size, 10, none⟩ = some (.slice xS xSn xSc) ∧ Old W2 w')
          (((try dsimp only); first | exact HSS.out _ (Old.drew (Old.refl _)) | exact HSS.out _ (by assumption) | exact HSS.out _ (Old.drew (by assumption))))
          (first
            | (go_at_call 8; go_split_ands; (with_reducible refine (KA.out _ (by first | assumption | exact Old.drew (Old.refl _))).mono ?_); rintro en w9 ⟨rfl, hO9⟩; have hP9 : Old W2 w9 := Old.none (by first | assumption | exact Old.drew (Old.refl _)) hO9; clear hO9)
            | (go_at_call 8; go_split_ands; (with_reducible refine (KX.out _ (by first | assumption | exact Old.drew (Old.refl _))).mono ?_); rintro en w9 ⟨rfl, hO9⟩; have hP9 : Old W2 w9 := Old.none (by first | assumption | exact Old.drew (Old.refl _)) hO9; clear hO9))
        all_goals go_wp2_with fail
        all_goals go_meet
        all_goals exact ⟨rfl, by assumption⟩
      case rest =>
      obtain ⟨rfl, hOc⟩ := hcut
      have HBC := Lib.hid (range_row ((hOc.block _ (lt_of_block HBA.out) id).trans HBA.out))
      have hOr2 : Old wr wc := HO3.out.none hOc
      have HOV := Lib.hid (over_entry y [.int .i64 y.zxid, .int .i64 y.session, .int .i64 y.xid, .int .i64 y.txn.part.kind, .string y.txn.part.path, .string y.txn.part.data, .slice aA aAn aAc, .int .i64 y.txn.part.owner, .int .i64 y.txn.part.number, .int .i64 y.txn.part.err, .slice aS aSn aSc] (New wr) wr.heap.size wc (entryE_ok.keep HEA.out hOc (disj_none _)) (fun h => by have h' : wr.heap.size ≤ 0 := h; have := HPOS.out; omega) (fun k hk => hk) hOr2.size HFIT.out.1 HFIT.out.2)
      have HFIN := Lib.hid (show ∀ wq, Kept (Mid wr.heap.size wc.heap.size) wc wq → Old W1 wq from fun wq hq => HOR.out.none (hOr2.step hq (fun k hk => hk.1)))
      have HLT := Lib.hid hlt
      clear HSS KA KX HX3 HBX3 HEA HBA HO3 hOc hOr2 HOR
      go_wp2_with (refine wpList_load_mid rfl 28 (.tmp 6) rfl w2.heap.size 0 rfl [.int .i64 y.zxid, .int .i64 y.session, .int .i64 y.xid, .int .i64 y.txn.part.kind, .string y.txn.part.path, .string y.txn.part.data, .slice aA aAn aAc, .int .i64 y.txn.part.owner, .int .i64 y.txn.part.number, .int .i64 y.txn.part.err, .slice aS aSn aSc] _ HBC.out Try.underlying28 rfl HSZ.out ?_)
      refine HOV.out.mono ?_
      rintro en w5 ⟨rfl, hk5⟩
      have HO5 := Lib.hid (HFIN.out _ hk5)
      clear hk5 HOV HFIN
      go_wp2_with fail
      go_roundw
      case rel => exact ⟨t + 1, by go_num, HLT.out, HO5.out⟩
      case measure => have h := HLT.out; simp [intOf]; omega
    · have htl : ¬ (t : Int) < 2 := by omega
      have HE := Lib.hid (HO1.out.none hOr)
      clear hOr
      go_wp2_with fail
      go_ret
      exact ⟨rfl, HE.out⟩
end Go.Proofs.Ytpmemcpfoapjmaa

namespace Go.Proofs.Ytpmemcpfoapjmaa
open Go.ChangeShapes Go.WideShapes Go.ChangeAt Go.RowKit
set_option linter.unusedVariables false

theorem layN_app {α : Type} (f : Fmt α) (l r : List α) : layN f (l ++ r) = layN f l ++ layN f r := by simp [layN]
theorem layN_takel {α : Type} (f : Fmt α) (l : List α) (n : Nat) : (layN f (l.take n)).length ≤ (layN f l).length := by
  have h : layN f l = layN f (l.take n) ++ layN f (l.drop n) := by rw [← layN_app, List.take_append_drop]
  rw [h, List.length_append]; omega

theorem message_split' (y : Message) : ∃ a b, 0 < b.length ∧ ∀ l, messageF.lay (withEntries y l) = a ++ (sev l.length ++ (layN entryF l ++ b)) := by
  refine ⟨sev (zz y.kind) ++ (sev (zz y.epoch) ++ (sev (zz y.zxid) ++ (sev (zz y.number) ++ (sev (zz y.session) ++ ((listF numF).lay y.marks ++ (textF 65536).lay y.data))))), reqF.lay y.request ++ (listF (textF 4096)).lay y.ids, ?_, fun l => by
    simp only [messageF, isoF, seqF, listF, numF, withEntries, List.append_assoc]⟩
  have h := sev_length_pos (zz y.request.op.kind)
  obtain ⟨r, e⟩ : ∃ r, reqF.lay y.request = sev (zz y.request.op.kind) ++ r := ⟨_, by simp only [reqF, isoF, seqF, oper1F, numF, List.append_assoc]; rfl⟩
  rw [e, List.length_append, List.length_append]; omega

/-- where the last entry lies -/
structure At (t s : List UInt8) (p : Nat) : Prop where
  room : p + 1 + s.length ≤ t.length
  eq : (t.drop p).take s.length = s

theorem inside_at (y : Message) (l : List Entry) (x : Entry) : ∃ p, At (messageF.lay (withEntries y (l ++ [x]))) (entryF.lay x) p := by
  obtain ⟨a, b, hb, h⟩ := message_split' y
  refine ⟨(a ++ (sev (l ++ [x]).length ++ layN entryF l)).length, ?_, ?_⟩
  · rw [h, layN_app]
    simp only [List.length_append, layN, List.flatMap_cons, List.flatMap_nil, List.append_nil]
    omega
  · have e : messageF.lay (withEntries y (l ++ [x])) = (a ++ (sev (l ++ [x]).length ++ layN entryF l)) ++ (entryF.lay x ++ b) := by
      rw [h, layN_app]
      simp only [layN, List.flatMap_cons, List.flatMap_nil, List.append_nil, List.append_assoc]
    rw [e, List.drop_left, List.take_left]

theorem inside_len (y : Message) (x : Entry) (n : Nat) (hn : n ≤ 100) : (messageF.lay (withEntries y (y.entries.take n ++ [x]))).length ≤ (messageF.lay y).length + (entryF.lay x).length + 10 := by
  obtain ⟨a, b, hb, h⟩ := message_split' y
  have h0 := h y.entries
  rw [withEntries_self] at h0
  rw [h, h0, layN_app]
  have h1 := layN_takel entryF y.entries n
  have h2 := sev_length_u64 (n := (y.entries.take n ++ [x]).length) (by simp; omega)
  simp only [List.length_append, layN, List.flatMap_cons, List.flatMap_nil, List.append_nil] at h1 h2 ⊢
  omega

theorem at_str {s t : ByteArray} {p : Nat} (h : At t.data.toList s.data.toList p) : t.extract p (p + s.size) = s := by
  apply str_eq
  rw [Lib.extract_data]
  have := h.eq
  rw [str_len] at this
  simpa using this

theorem ListR.take {α : Type} {E : CellsOf α} {w : World} {ok : Nat → Prop} {sz : Nat} {A : Option Addr} {n c : Nat} {l : List α} (h : ListR E w ok sz (.slice A n c) l) (k : Nat) (hk : k ≤ n) : ListR E w ok sz (.slice A k c) (l.take k) := by
  obtain ⟨rows, ⟨A', c', hv, hc, hm, hat⟩, hlen, hel⟩ := h
  simp only [Value.slice.injEq] at hv
  obtain ⟨rfl, rfl, rfl⟩ := hv
  refine ⟨rows.take k, ⟨A, c, by simp; omega, by simp; omega, hm, ?_⟩, by simp [hlen], fun i hi hi' => ?_⟩
  · rcases hat with h0 | ⟨g, off, hA, hok, hg, hcell⟩
    · exact Or.inl ⟨by simp [h0.1], h0.2⟩
    · refine Or.inr ⟨g, off, hA, ⟨hok.1, fun k' hk' => hok.2.1 k' (Nat.lt_of_lt_of_le hk' (Nat.mul_le_mul_right _ (by simp; omega))), hok.2.2⟩, hg, fun i hi => ?_⟩
      have hi2 : i < rows.length := by simp at hi; omega
      have := hcell i hi2
      rw [List.getElem_take]
      exact this
  · rw [List.getElem_take, List.getElem_take]
    exact hel i (by simp at hi; omega) (by simp at hi'; omega)
end Go.Proofs.Ytpmemcpfoapjmaa

namespace Go.Proofs.Ytpmemcpfoapjmaa
open Go.ChangeShapes Go.WideShapes Go.ChangeAt Go.RowKit
set_option linter.unusedVariables false

def acl77 : Acl := ⟨77, ⟨#[]⟩⟩
def part77 : Part := ⟨77, ⟨#[]⟩, ⟨#[]⟩, [], 0, 0, 0⟩
theorem i64_77 : I64 77 := by unfold I64; omega
theorem acl77_at (w : World) (ok : Nat → Prop) : aclE w ok [.int .i64 77, .string ⟨#[]⟩] acl77 := ⟨rfl, i64_77, str_empty⟩
theorem part77_at (w : World) (ok : Nat → Prop) : partE w ok [.int .i64 77, .string ⟨#[]⟩, .string ⟨#[]⟩, .slice none 0 0, .int .i64 0, .int .i64 0, .int .i64 0, .slice none 0 0] part77 :=
  ⟨_, _, rfl, ListR.nil _ _ _ _, i64_77, str_empty, str_empty, i64_zero, i64_zero, i64_zero, ⟨_, _, _, rfl⟩⟩

/-- a list and one row more, in a block of its own -/
structure More {α : Type} (E : CellsOf α) (base : Nat) (ok : Nat → Prop) (w : World) (T : TypeId) (sz g n c : Nat) (ys : List α) (y : α) : Prop where
  len : ys.length = n
  acc : AccO E base ok w T sz (.slice (some ⟨g, 0, none⟩) (n + 1) c) (ys ++ [y])
  room : n + 1 ≤ c
  max : c ≤ maxLen
theorem More.of {α : Type} {E : CellsOf α} {base : Nat} {ok : Nat → Prop} {w : World} {T : TypeId} {sz : Nat} {v : Value} {ys : List α} {y : α} (h : AccO E base ok w T sz v (ys ++ [y])) : ∃ g c, v = .slice (some ⟨g, 0, none⟩) (ys.length + 1) c ∧ More E base ok w T sz g ys.length c ys y := by
  obtain ⟨rows, h1, h2, h3, h4⟩ := id h
  rcases h1.2 with ⟨_, hn⟩ | ⟨g, cap, cur, rfl, hb, hh, hnc, hcm, hcs, htake⟩
  · simp at hn
  · simp only [List.length_append, List.length_cons, List.length_nil, Nat.zero_add] at hnc
    have hv : Value.slice (some ⟨g, 0, none⟩) (ys ++ [y]).length cap = Value.slice (some ⟨g, 0, none⟩) (ys.length + 1) cap := by simp
    exact ⟨g, cap, hv, rfl, by rw [hv] at h; exact h, hnc, hcm⟩
section
variable {α : Type} {E : CellsOf α} {base : Nat} {ok : Nat → Prop} {w w' : World} {T : TypeId} {sz g n c : Nat} {ys : List α} {y : α}
theorem More.keep (hE : E.Ok) (h : More E base ok w T sz g n c ys y) {S : Nat → Prop} (hk : Kept S w w') (hb : ∀ k, base ≤ k → ¬ S k) (hd : Disj ok S) : More E base ok w' T sz g n c ys y := ⟨h.len, h.acc.keep hE hk hb hd, h.room, h.max⟩
theorem More.keepTo (hE : E.Ok) (h : More E base ok w T sz g n c ys y) {S : Nat → Prop} (hk : Kept S w w') (hg : ¬ S g) (hd : Disj ok S) : More E base ok w' T sz g n c ys y := by
  obtain ⟨rows, h1, h2, h3, h4⟩ := h.acc
  refine ⟨h.len, ⟨rows, ⟨h1.1, ?_⟩, h2, h3, fun i hi hi' => hE.keep (h4 i hi hi') hk hd⟩, h.room, h.max⟩
  rcases h1.2 with ⟨hv, _⟩ | ⟨g', cap, cur, hv, hb, hh, r⟩
  · simp at hv
  · have hg' : g = g' := by simp only [Value.slice.injEq, Option.some.injEq, Addr.mk.injEq, and_true] at hv; exact hv.1
    exact Or.inr ⟨g', cap, cur, hv, hb, by rw [hk.block g' (lt_of_block hh) (by rw [← hg']; exact hg)]; exact hh, r⟩
theorem More.low (h : More E base ok w T sz g n c ys y) {b : Nat} (hb : b ≤ base) : More E b ok w T sz g n c ys y := by
  obtain ⟨rows, h1, h2, h3, h4⟩ := h.acc
  refine ⟨h.len, ⟨rows, ⟨h1.1, ?_⟩, h2, h3, h4⟩, h.room, h.max⟩
  rcases h1.2 with h5 | ⟨g', cap, cur, hv, hb', r⟩
  · exact Or.inl h5
  · exact Or.inr ⟨g', cap, cur, hv, Nat.le_trans hb hb', r⟩
theorem More.blk (h : More E base ok w T sz g n c ys y) : base ≤ g ∧ ∃ cur : Array Value, w.heap[g]? = some (.cells cur T (0, 0)) ∧ cur.size = c * sz := by
  obtain ⟨rows, h1, h2, h3, h4⟩ := h.acc
  rcases h1.2 with ⟨hv, _⟩ | ⟨g', cap, cur, hv, hb, hh, hnc, hcm, hcs, htake⟩
  · simp at hv
  · simp only [Value.slice.injEq, Option.some.injEq, Addr.mk.injEq, and_true] at hv
    obtain ⟨rfl, _, rfl⟩ := hv
    exact ⟨hb, cur, hh, hcs⟩
theorem More.lt (h : More E base ok w T sz g n c ys y) : g < w.heap.size := by
  obtain ⟨_, cur, hh, _⟩ := h.blk
  exact lt_of_block hh
theorem More.list (hE : E.Ok) (h : More E base ok w T sz g n c ys y) (hT : TyOf sz T := by unfold TyOf; decide) : ListR E w (fun k => ok k ∨ base ≤ k) sz (.slice (some ⟨g, 0, none⟩) n c) ys := by
  have h1 := (h.acc.list hE hT).take n (by omega)
  rwa [show (ys ++ [y]).take n = ys from by rw [← h.len]; exact List.take_left] at h1
theorem More.there (h : More E base ok w T sz g n c ys y) {i : Nat} (hi : i ≤ n) : w.there g (i * sz) sz := by
  obtain ⟨_, cur, hh, hz⟩ := h.blk
  have hr := h.room
  intro j hj
  have hm : (i + 1) * sz ≤ c * sz := Nat.mul_le_mul_right _ (by omega)
  rw [Nat.add_mul, Nat.one_mul] at hm
  have hlt : i * sz + j < cur.size := by omega
  refine ⟨?_, by simp [World.frozen?, hh]⟩
  rw [cell_of_row w g (i * sz + j) cur T (0, 0) hh, Array.getElem?_eq_getElem hlt]; rfl
/-- the first cell of the row behind the list -/
theorem More.behind (h : More E base ok w T sz g n c ys y) {cs : List Value} (hy : ∀ w ok cs', E w ok cs' y → cs'[0]? = cs[0]?) {u : Value} (hu : cs[0]? = some u) (hsz : 0 < sz) : w.cell? ⟨g, n * sz, none⟩ = some u := by
  obtain ⟨rows, h1, h2, h3, h4⟩ := h.acc
  have hn : rows.length = n + 1 := by rw [h2]; simp [h.len]
  have hl : ∀ r ∈ rows, r.length = sz := fun r hr => (h3 r hr).1
  have he := h4 n (by simp [h.len]) (by omega)
  have hyn : (ys ++ [y])[n]'(by simp [h.len]) = y := by
    rw [List.getElem_append_right (by rw [h.len]; omega)]
    simp [h.len]
  rw [hyn] at he
  have h0 := hy _ _ _ he
  rw [hu] at h0
  obtain ⟨hj, hv⟩ := List.getElem?_eq_some_iff.1 h0
  have hc := World.ownsRow.cells h1 (g := g) rfl (n * sz + 0) _ (flatten_get rows n 0 (by omega) hl hj)
  rw [Addr.add_mid, Nat.zero_add, Nat.add_zero, hv] at hc
  exact hc
end

theorem ListR.size_le' {α : Type} {E : CellsOf α} {w : World} {ok : Nat → Prop} {sz : Nat} {A : Option Addr} {n c : Nat} {l : List α} (h : ListR E w ok sz (.slice A n c) l) : l.length = n := by
  obtain ⟨rows, ⟨A', c', hv, _⟩, hlen, _⟩ := h
  simp only [Value.slice.injEq] at hv
  rw [hv.2.1, hlen]
theorem ListR.cap {α : Type} {E : CellsOf α} {w : World} {ok : Nat → Prop} {sz : Nat} {A : Option Addr} {n c : Nat} {l : List α} (h : ListR E w ok sz (.slice A n c) l) : n ≤ c ∧ c ≤ maxLen := by
  obtain ⟨rows, ⟨A', c', hv, h1, h2, _⟩, hlen, _⟩ := h
  simp only [Value.slice.injEq] at hv
  obtain ⟨rfl, rfl, rfl⟩ := hv
  exact ⟨h1, h2⟩
theorem set_one (w : World) (b i : Nat) (v : Value) : Kept (fun j => j = b) w (w.setCell ⟨b, i, none⟩ v) := Kept.setCell (S := fun j => j = b) (Kept.refl _ w) (a := ⟨b, i, none⟩) (Or.inl rfl) v
/-- what LentEntry answers: the cells of an entry whose lists are its own -/
structure LentAt (base : Nat) (ok : Nat → Prop) (w : World) (x : Entry) (cs : List Value) (ga ca gs c : Nat) : Prop where
  cells : cs = [.int .i64 x.zxid, .int .i64 x.session, .int .i64 x.xid, .int .i64 x.txn.part.kind, .string x.txn.part.path, .string x.txn.part.data, .slice (some ⟨ga, 0, none⟩) x.txn.part.acl.length ca, .int .i64 x.txn.part.owner, .int .i64 x.txn.part.number, .int .i64 x.txn.part.err, .slice (some ⟨gs, 0, none⟩) x.txn.subs.length c]
  acl : More aclE base ok w 47 2 ga x.txn.part.acl.length ca x.txn.part.acl acl77
  subs : More partE base ok w 26 8 gs x.txn.subs.length c x.txn.subs part77

set_option maxRecDepth 100000 in
set_option maxHeartbeats 4000000 in
theorem lent_entry (x : Entry) (cs : List Value) (ok : Nat → Prop) (w : World) (hE : entryE w ok cs x) (hi : In w ok) (hn1 : x.txn.part.acl.length ≤ 20000000) (hn2 : x.txn.subs.length ≤ 20000000) :
    Calls Try.prog 5 #[.agg cs.toArray] w fun e w' => ∃ cs' ga ca gs c, e = .returned (.agg cs'.toArray) ∧ Old w w' ∧ LentAt w.heap.size ok w' x cs' ga ca gs c := by
  have HSZ := Lib.hid (show (Try.prog.info? 28).map (·.size) = some 11 by kernel_rfl)
  obtain ⟨ct, rfl, ⟨vs, ⟨va, rfl, hA, hp⟩, hS⟩, hj⟩ := hE
  obtain ⟨Aa, na, ca0, rfl⟩ := hA.shape
  obtain ⟨As, ns, c0, rfl⟩ := hS.shape
  have hlA := hA.size_le'
  have hlS := hS.size_le'
  obtain ⟨z0, z1, z2, ⟨⟨k0, p0, d0, acl, o0, m0, r0⟩, subs⟩⟩ := x
  simp only at hA hS hlA hlS hn1 hn2 hp hj ⊢
  obtain ⟨i0, hi0, hz0, hz1, hz2⟩ := info_parts info_acl
  obtain ⟨i1, hi1, hy0, hy1, hy2⟩ := info_parts info_part
  have HI0 := Lib.hid (And.intro hi0 (And.intro hz0 (And.intro hz1 hz2)))
  have HI1 := Lib.hid (And.intro hi1 (And.intro hy0 (And.intro hy1 hy2)))
  clear hi0 hz0 hz1 hz2 hi1 hy0 hy1 hy2
  obtain ⟨hnA, hcA⟩ := hA.cap
  obtain ⟨hnS, hcS⟩ := hS.cap
  unfold maxLen at hcA hcS
  have HA := Lib.hid hA; clear hA
  have HS := Lib.hid hS; clear hS
  have HIN := Lib.hid hi; clear hi
  go_enter Try.func5, Try.ntmps5
  go_upto_region 1 with fail
  have hb0 : ((w.alloc (.cells ([.int .i64 z0, .int .i64 z1, .int .i64 z2, .int .i64 k0, .string p0, .string d0, .slice Aa na ca0, .int .i64 o0, .int .i64 m0, .int .i64 r0, .slice As ns c0] : List Value).toArray 28)).alloc (.cells ([.int .i64 0, .int .i64 0, .int .i64 0, .int .i64 0, .string ⟨#[]⟩, .string ⟨#[]⟩, .slice none 0 0, .int .i64 0, .int .i64 0, .int .i64 0, .slice none 0 0] : List Value).toArray 28)).heap[w.heap.size]? = some (.cells ([.int .i64 z0, .int .i64 z1, .int .i64 z2, .int .i64 k0, .string p0, .string d0, .slice Aa na ca0, .int .i64 o0, .int .i64 m0, .int .i64 r0, .slice As ns c0] : List Value).toArray 28 (0, 0)) := by
    rw [((Old.refl (w.alloc (.cells ([.int .i64 z0, .int .i64 z1, .int .i64 z2, .int .i64 k0, .string p0, .string d0, .slice Aa na ca0, .int .i64 o0, .int .i64 m0, .int .i64 r0, .slice As ns c0] : List Value).toArray 28))).make _).block _ (by simp) id]; exact heap_alloc_new w _
  have hb1 : ((w.alloc (.cells ([.int .i64 z0, .int .i64 z1, .int .i64 z2, .int .i64 k0, .string p0, .string d0, .slice Aa na ca0, .int .i64 o0, .int .i64 m0, .int .i64 r0, .slice As ns c0] : List Value).toArray 28)).alloc (.cells ([.int .i64 0, .int .i64 0, .int .i64 0, .int .i64 0, .string ⟨#[]⟩, .string ⟨#[]⟩, .slice none 0 0, .int .i64 0, .int .i64 0, .int .i64 0, .slice none 0 0] : List Value).toArray 28)).heap[w.heap.size + 1]? = some (.cells ([.int .i64 0, .int .i64 0, .int .i64 0, .int .i64 0, .string ⟨#[]⟩, .string ⟨#[]⟩, .slice none 0 0, .int .i64 0, .int .i64 0, .int .i64 0, .slice none 0 0] : List Value).toArray 28 (0, 0)) := by
    have h := heap_alloc_new (w.alloc (.cells ([.int .i64 z0, .int .i64 z1, .int .i64 z2, .int .i64 k0, .string p0, .string d0, .slice Aa na ca0, .int .i64 o0, .int .i64 m0, .int .i64 r0, .slice As ns c0] : List Value).toArray 28)) (.cells ([.int .i64 0, .int .i64 0, .int .i64 0, .int .i64 0, .string ⟨#[]⟩, .string ⟨#[]⟩, .slice none 0 0, .int .i64 0, .int .i64 0, .int .i64 0, .slice none 0 0] : List Value).toArray 28)
    rwa [show (w.alloc (.cells ([.int .i64 z0, .int .i64 z1, .int .i64 z2, .int .i64 k0, .string p0, .string d0, .slice Aa na ca0, .int .i64 o0, .int .i64 m0, .int .i64 r0, .slice As ns c0] : List Value).toArray 28)).heap.size = w.heap.size + 1 from by simp] at h
  have hO0 : Old w ((w.alloc (.cells ([.int .i64 z0, .int .i64 z1, .int .i64 z2, .int .i64 k0, .string p0, .string d0, .slice Aa na ca0, .int .i64 o0, .int .i64 m0, .int .i64 r0, .slice As ns c0] : List Value).toArray 28)).alloc (.cells ([.int .i64 0, .int .i64 0, .int .i64 0, .int .i64 0, .string ⟨#[]⟩, .string ⟨#[]⟩, .slice none 0 0, .int .i64 0, .int .i64 0, .int .i64 0, .slice none 0 0] : List Value).toArray 28)) := ((Old.refl w).make _).make _
  have hsz0 : w.heap.size + 2 ≤ ((w.alloc (.cells ([.int .i64 z0, .int .i64 z1, .int .i64 z2, .int .i64 k0, .string p0, .string d0, .slice Aa na ca0, .int .i64 o0, .int .i64 m0, .int .i64 r0, .slice As ns c0] : List Value).toArray 28)).alloc (.cells ([.int .i64 0, .int .i64 0, .int .i64 0, .int .i64 0, .string ⟨#[]⟩, .string ⟨#[]⟩, .slice none 0 0, .int .i64 0, .int .i64 0, .int .i64 0, .slice none 0 0] : List Value).toArray 28)).heap.size := by simp
  generalize (w.alloc (.cells ([.int .i64 z0, .int .i64 z1, .int .i64 z2, .int .i64 k0, .string p0, .string d0, .slice Aa na ca0, .int .i64 o0, .int .i64 m0, .int .i64 r0, .slice As ns c0] : List Value).toArray 28)).alloc (.cells ([.int .i64 0, .int .i64 0, .int .i64 0, .int .i64 0, .string ⟨#[]⟩, .string ⟨#[]⟩, .slice none 0 0, .int .i64 0, .int .i64 0, .int .i64 0, .slice none 0 0] : List Value).toArray 28) = w5 at hb0 hb1 hO0 hsz0 ⊢
  have HB0 := Lib.hid hb0
  have HB1 := Lib.hid hb1
  have HO0 := Lib.hid hO0
  have HA5 := Lib.hid (ListR.keep aclE_ok HA.out hO0 (disj_none _))
  have HS5 := Lib.hid (ListR.keep partE_ok HS.out hO0 (disj_none _))
  have HIN5 := Lib.hid (show ∀ k, ok k → k < w5.heap.size from fun k hk => by have := HIN.out k hk; omega)
  have c6 : w5.cell? ⟨w.heap.size, 6, none⟩ = some (.slice Aa na ca0) := cell_of_heap hb0 rfl
  have f6 : w5.frozen? ⟨w.heap.size, 6, none⟩ = false := by simp [World.frozen?, hb0]
  have n6 : ∀ o, (w5.alloc o).cell? ⟨w.heap.size, 6, none⟩ = some (.slice Aa na ca0) := fun o => Old.cell ((Old.refl w5).make o) c6
  clear hb0 hb1 hO0 HA HS
  go_cut [] (fun wx => ∃ ga ca, More aclE w5.heap.size ok wx 47 2 ga na ca acl acl77 ∧ wx.heap[w.heap.size]? = some (.cells ([.int .i64 z0, .int .i64 z1, .int .i64 z2, .int .i64 k0, .string p0, .string d0, .slice (some ⟨ga, 0, none⟩) na ca, .int .i64 o0, .int .i64 m0, .int .i64 r0, .slice As ns c0] : List Value).toArray 28 (0, 0)) ∧ Kept (fun j => j = w.heap.size) w5 wx)
  case first =>
    go_region_law ((first
      | (refine step_one_more (w5 := w5) aclE_ok h27 (by first | exact Old.refl _ | exact Old.drew (Old.refl _) | exact Old.make (Old.refl _) _ | exact Old.drew (Old.make (Old.refl _) _) | exact Old.make (Old.drew (Old.refl _)) _) (by first | assumption | exact Old.drew (by assumption) | exact Old.make (by assumption) _ | exact Old.drew (Old.make (by assumption) _)) HIN5.out hP27 (by first | exact heap_alloc_new _ _ | exact (hk27.block _ (by simp) id).trans (heap_alloc_new _ _)) (acl77_at _ _) ⟨rfl, by simp [Value.oneCell']⟩ (by rfl) _ _ 22 (by rfl) (by rfl) (by rfl) i0 _ Try.underlying22 HI0.out.1 HI0.out.2.1 HI0.out.2.2.1 HI0.out.2.2.2 rfl (by decide) (by unfold maxLen; omega) (by omega) ?_; intro v30 w30 h30 hP30; obtain ⟨ga, ca, rfl, hmo⟩ := More.of h30; have hnc : na ≤ ca := (by have := hmo.room; omega); have c6 : w30.cell? ⟨w.heap.size, 6, none⟩ = some (.slice Aa na ca0) := cell_of_heap ((hP30.block _ (by omega) id).trans HB0.out) rfl; have f6 : w30.frozen? ⟨w.heap.size, 6, none⟩ = false := by simp [World.frozen?, (hP30.block _ (by omega) id).trans HB0.out])
      | (refine step_nil_list (w5 := w5) aclE_ok HA5.out (by first | exact Old.refl _ | exact Old.drew (Old.refl _) | exact Old.make (Old.refl _) _ | exact Old.drew (Old.make (Old.refl _) _) | exact Old.make (Old.drew (Old.refl _)) _) (fun h => aclE_flat h) (by rfl) _ _ 22 (by rfl) (by rfl) (by rfl) 47 i0 _ Try.underlying22 HI0.out.1 HI0.out.2.1 HI0.out.2.2.1 HI0.out.2.2.2 rfl (by decide) (by unfold maxLen; omega) (by omega) ?_; intro v27 w27 h27 hk27 hP27; have c6 : w27.cell? ⟨w.heap.size, 6, none⟩ = some (.slice Aa na ca0) := cell_of_heap ((hP27.block _ (by omega) id).trans HB0.out) rfl; have n6 : ∀ o, (w27.alloc o).cell? ⟨w.heap.size, 6, none⟩ = some (.slice Aa na ca0) := (fun o => Old.cell ((Old.refl w27).make o) c6))))
    all_goals go_wp2_with fail
    all_goals go_meet
    all_goals
      rw [hlA] at hmo
      refine ⟨ga, ca, hmo.keep aclE_ok (set_one w30 w.heap.size 6 _) (fun j hj hj' => by have hj2 : j = w.heap.size := hj'; omega) (fun j hj hj' => by have hj2 : j = w.heap.size := hj'; have := HIN.out j hj; omega), ?_, (Kept.mono hP30 (fun _ _ f => f.elim)).trans (set_one w30 w.heap.size 6 _)⟩
      rw [setCell_row ((hP30.block _ (by omega) id).trans HB0.out)]
      exact setRow_heap _ _ _ _ _ _ ((hP30.block _ (by omega) id).trans HB0.out)
  case rest =>
  obtain ⟨ga, ca, hmo, hb0, hKc⟩ := hcut
  have hzc : w5.heap.size ≤ wc.heap.size := hKc.size
  have hb1 : wc.heap[w.heap.size + 1]? = some (.cells ([.int .i64 0, .int .i64 0, .int .i64 0, .int .i64 0, .string ⟨#[]⟩, .string ⟨#[]⟩, .slice none 0 0, .int .i64 0, .int .i64 0, .int .i64 0, .slice none 0 0] : List Value).toArray 28 (0, 0)) := (hKc.block _ (by omega) (by omega)).trans HB1.out
  have hSc : ListR partE wc ok 8 (.slice As ns c0) subs := ListR.keep partE_ok HS5.out hKc (fun j hj hj' => by have hj2 : j = w.heap.size := hj'; have := HIN.out j hj; omega)
  have hOc : Old w wc := HO0.out.step hKc (fun k hk => by have hk' : k = w.heap.size := hk; omega)
  obtain ⟨v3, w3, hr3, hA3, hk3⟩ := run_append_nil_list (P := Try.prog) partE_ok hSc (fun h => partE_flat h) 24 24 26 i1 _ Try.underlying24 HI1.out.1 HI1.out.2.1 HI1.out.2.2.1 HI1.out.2.2.2 rfl (by decide) (by unfold maxLen; omega) (by omega) wc.heap.size (Nat.le_refl _)
  obtain ⟨A3, c3, rfl, hc3, hm3⟩ := hA3.shape
  have hkA : Old w3 (w3.alloc (.cells ([.int .i64 77, .string ⟨#[]⟩, .string ⟨#[]⟩, .slice none 0 0, .int .i64 0, .int .i64 0, .int .i64 0, .slice none 0 0] : List Value).toArray 26)) := (Kept.refl _ w3).alloc _
  have hz3 : wc.heap.size ≤ w3.heap.size := hk3.size
  obtain ⟨v4, w4, hr4, hA4, hk4⟩ := run_append_one_more (P := Try.prog) partE_ok (hA3.keep partE_ok hkA (fun _ _ f => f) (disj_none _)) (fun k hk => by have := HIN.out k hk; omega) (range_new w3 [.int .i64 77, .string ⟨#[]⟩, .string ⟨#[]⟩, .slice none 0 0, .int .i64 0, .int .i64 0, .int .i64 0, .slice none 0 0] 26) (part77_at _ _) ⟨rfl, by simp [Value.oneCell']⟩ (c := 1) 24 24 i1 _ Try.underlying24 HI1.out.1 HI1.out.2.1 HI1.out.2.2.1 HI1.out.2.2.2 rfl (by decide) (by unfold maxLen; omega) (by omega) (Nat.le_trans hz3 hkA.size)
  obtain ⟨gs, c, rfl, hmS⟩ := More.of hA4
  rw [hlS] at hr3 hr4 hmS hc3
  have hk34 : Old wc w3 := hk3
  have hK4 : Kept (fun k => wc.heap.size ≤ k) wc w4 := Kept.trans' ((hk34.none hkA).mono (fun _ _ f => f.elim)) hk4 (fun _ _ h => h)
  have hmA4 := hmo.keepTo aclE_ok hK4 (fun hs => by have h1 := hmo.lt; have h2 : wc.heap.size ≤ ga := hs; omega) (fun j hj hj' => by have h2 : wc.heap.size ≤ j := hj'; have := HIN.out j hj; omega)
  have hb04 := (hK4.block _ (by omega) (by omega)).trans hb0
  have hb14 := (hK4.block _ (by omega) (by omega)).trans hb1
  have hO4 : Old w w4 := hOc.step hK4 (fun k hk => by have hk' : wc.heap.size ≤ k := hk; omega)
  have c10 : wc.cell? ⟨w.heap.size, 10, none⟩ = some (.slice As ns c0) := cell_of_heap hb0 rfl
  have hnc : ns ≤ c := by have := hmS.room; omega
  have hcm : c ≤ 9223372036854775807 := by have := hmS.max; unfold maxLen at this; omega
  have HR3 := Lib.hid hr3
  have HR4 := Lib.hid hr4
  have HB04 := Lib.hid hb04
  have HB14 := Lib.hid hb14
  have HMA := Lib.hid hmA4
  have HMS := Lib.hid hmS
  have HO4 := Lib.hid hO4
  have HSL := Lib.hid (show (Try.prog.info? 24).map (·.size) = some 1 by kernel_rfl)
  obtain ⟨w6, hw6⟩ : ∃ u, w4.setRow w.heap.size ([.int .i64 z0, .int .i64 z1, .int .i64 z2, .int .i64 k0, .string p0, .string d0, .slice (some ⟨ga, 0, none⟩) na ca, .int .i64 o0, .int .i64 m0, .int .i64 r0, .slice (some ⟨gs, 0, none⟩) ns c] : List Value).toArray = u := ⟨_, rfl⟩
  have hk6 : Kept (fun j => j = w.heap.size) w4 w6 := by rw [← hw6]; exact setRow_kept _ _ _
  have HB06 := Lib.hid (show w6.heap[w.heap.size]? = some (.cells ([.int .i64 z0, .int .i64 z1, .int .i64 z2, .int .i64 k0, .string p0, .string d0, .slice (some ⟨ga, 0, none⟩) na ca, .int .i64 o0, .int .i64 m0, .int .i64 r0, .slice (some ⟨gs, 0, none⟩) ns c] : List Value).toArray 28 (0, 0)) by rw [← hw6]; exact setRow_heap _ _ _ _ _ _ hb04)
  have HB16 := Lib.hid ((hk6.block _ (lt_of_block hb14) (by omega)).trans hb14)
  have HRG := Lib.hid (range_row HB06.out)
  have HW6 := Lib.hid hw6
  have hO6 : Old w w6 := hO4.step hk6 (fun k hk => by have hk' : k = w.heap.size := hk; omega)
  have hd6 : Disj ok (fun j => j = w.heap.size) := fun j hj hj' => by have hj2 : j = w.heap.size := hj'; have := HIN.out j hj; omega
  have hmA6 := hmA4.keepTo aclE_ok hk6 (by have := hmA4.blk.1; omega) hd6
  have hmS6 := hmS.keepTo partE_ok hk6 (by have := hmS.blk.1; omega) hd6
  have HMA6 := Lib.hid hmA6
  have HMS6 := Lib.hid hmS6
  have HO6 := Lib.hid hO6
  clear hw6 hk6 hO6 hmA6 hmS6 hd6
  clear hmo hb0 hb1 hKc hSc hOc hr3 hA3 hk3 hkA hr4 hA4 hk4 hmS hk34 hK4 hmA4 hb04 hb14 hO4 c6 f6 n6 HA5 HS5 HB0 HB1 hp hj
  go_wp2_with (first
    | (refine wpList_append_run rfl _ _ 24 rfl (.slice none 0 0) (.slice As ns c0) (by rfl) (by rfl) (.slice A3 ns c3) w3 HR3.out ?_)
    | (refine wpList_one rfl 24 26 (.tmp 24) rfl (.agg ([.int .i64 77, .string ⟨#[]⟩, .string ⟨#[]⟩, .slice none 0 0, .int .i64 0, .int .i64 0, .int .i64 0, .slice none 0 0] : List Value).toArray) [.int .i64 77, .string ⟨#[]⟩, .string ⟨#[]⟩, .slice none 0 0, .int .i64 0, .int .i64 0, .int .i64 0, .slice none 0 0] rfl rfl i1 _ Try.underlying24 HI1.out.1 HI1.out.2.1 HI1.out.2.2.1 (by decide) (by decide) ?_)
    | (refine wpList_append_run rfl (.tmp 23) (.tmp 25) 24 rfl (.slice A3 ns c3) (.slice (some ⟨w3.heap.size, 0, none⟩) 1 1) (by rfl) (by rfl) (.slice (some ⟨gs, 0, none⟩) (ns + 1) c) w4 HR4.out ?_)
    | (refine wpList_store_to rfl 24 (.tmp 31) (.tmp 29) rfl w.heap.size 10 (.slice (some ⟨gs, 0, none⟩) ns c) rfl rfl rfl [.int .i64 z0, .int .i64 z1, .int .i64 z2, .int .i64 k0, .string p0, .string d0, .slice (some ⟨ga, 0, none⟩) na ca, .int .i64 o0, .int .i64 m0, .int .i64 r0, .slice As ns c0] 28 HB04.out (by simp) HSL.out _ rfl w6 HW6.out ?_)
    | (refine wpList_load_mid rfl 28 (.tmp 1) rfl w.heap.size 0 rfl [.int .i64 z0, .int .i64 z1, .int .i64 z2, .int .i64 k0, .string p0, .string d0, .slice (some ⟨ga, 0, none⟩) na ca, .int .i64 o0, .int .i64 m0, .int .i64 r0, .slice (some ⟨gs, 0, none⟩) ns c] _ HRG.out Try.underlying28 rfl HSZ.out ?_)
    | (refine wpList_store_row _ rfl 28 (.tmp 2) (.tmp 32) rfl (w.heap.size + 1) _ [.int .i64 z0, .int .i64 z1, .int .i64 z2, .int .i64 k0, .string p0, .string d0, .slice (some ⟨ga, 0, none⟩) na ca, .int .i64 o0, .int .i64 m0, .int .i64 r0, .slice (some ⟨gs, 0, none⟩) ns c] rfl rfl HB16.out HSZ.out rfl (by simp [Value.oneCell']) ?_))
  have hrow := setRow_heap w6 (w.heap.size + 1) _ ([.int .i64 z0, .int .i64 z1, .int .i64 z2, .int .i64 k0, .string p0, .string d0, .slice (some ⟨ga, 0, none⟩) na ca, .int .i64 o0, .int .i64 m0, .int .i64 r0, .slice (some ⟨gs, 0, none⟩) ns c] : List Value).toArray _ _ HB16.out
  have hload := run_loadVar_row (P := Try.prog) _ (w.heap.size + 1) 28 28 _ (0, 0) _ hrow Try.underlying28 rfl HSZ.out
  have hk7 := setRow_kept w6 (w.heap.size + 1) ([.int .i64 z0, .int .i64 z1, .int .i64 z2, .int .i64 k0, .string p0, .string d0, .slice (some ⟨ga, 0, none⟩) na ca, .int .i64 o0, .int .i64 m0, .int .i64 r0, .slice (some ⟨gs, 0, none⟩) ns c] : List Value).toArray
  have hd7 : Disj ok (fun j => j = w.heap.size + 1) := fun j hj hj' => by have hj2 : j = w.heap.size + 1 := hj'; have := HIN.out j hj; omega
  have hb7 := HMA6.out.blk.1
  have hb8 := HMS6.out.blk.1
  refine ret_cell 2 28 (w.heap.size + 1) _ Try.results5 rfl hload rfl ⟨_, ga, ca, gs, c, rfl, HO6.out.step hk7 (fun k hk => by have hk' : k = w.heap.size + 1 := hk; omega), ⟨by simp only [hlA, hlS], ?_, ?_⟩⟩
  · simp only [hlA]
    exact (HMA6.out.keepTo aclE_ok hk7 (by omega) hd7).low (by omega)
  · simp only [hlS]
    exact (HMS6.out.keepTo partE_ok hk7 (by omega) hd7).low (by omega)
end Go.Proofs.Ytpmemcpfoapjmaa
