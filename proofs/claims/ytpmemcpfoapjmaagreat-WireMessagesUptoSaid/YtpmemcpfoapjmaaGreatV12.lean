/- The document's own answers of layer 2: an entry, laid. KeptEntry: what was lent is as it was; its owner writes all over then. Lists of entries whose lists are their own. WireMessages: lengths, and the lists of a message that is lent. -/
import Derived.Test.YtpmemcpfoapjmaaGreatV11
import Derived.Test.YtpmemcpfoapjmaaGreatV06
import Derived.Deep.RegionHeld3
import Derived.IntWalk
import Derived.Test.YtpmemcpfoapjmaaGreatV10
namespace Go.Proofs.YtpmemcpfoapjmaaGreat
open Go.ChangeShapes Go.WideShapes Go.ChangeAt Go.RowKit
set_option linter.unusedVariables false

set_option maxRecDepth 100000 in
set_option maxHeartbeats 2000000 in
theorem refput_entry (x : Entry) (cs : List Value) (ok : Nat → Prop) (w : World) (hE : entryE w ok cs x) (hl : (entryF.lay x).length ≤ 1000000000000000) :
    Calls Tryz.prog 21 #[.agg cs.toArray] w (OldStr w (entryF.lay x)) := by
  obtain ⟨ct, rfl, hT, h0, h1, h2⟩ := hE
  obtain ⟨z0, z1, z2, t⟩ := x
  simp only at hT h0 h1 h2
  obtain ⟨v0, v1, v2, v3, v4, v5, v6, v7, rfl⟩ := split_txn (txnE_flat hT).1
  have hlay : entryF.lay ⟨z0, z1, z2, t⟩ = (sev (zz z0) ++ (sev (zz z1) ++ sev (zz z2))) ++ txnF.lay t := by simp only [entryF, isoF, seqF, lay_num, List.append_assoc]
  rw [hlay] at hl ⊢
  rw [List.length_append] at hl
  have KT := Lib.hid (show ∀ W, Old w W → Calls Tryz.prog 61 #[.agg #[v0, v1, v2, v3, v4, v5, v6, v7]] W (OldStr W (txnF.lay t)) from fun W h => refput_txn t _ ok W (txnE_ok.keep hT h (disj_none _)) (by omega))
  have KN := Lib.hid (show ∀ (g : Nat) (W : World), W.heap[g]? = some (.cells #[.int .i64 z0, .int .i64 z1, .int .i64 z2] 3 (0, 0)) → Calls Tryz.prog 22 #[.slice (some ⟨g, 0, none⟩) 3 3] W (OldStr W (sev (zz z0) ++ (sev (zz z1) ++ sev (zz z2)))) from fun g W hb => refnums3 z0 z1 z2 g W hb h0 h1 h2)
  obtain ⟨L0, hL0⟩ : ∃ l : List UInt8, sev (zz z0) ++ (sev (zz z1) ++ sev (zz z2)) = l := ⟨_, rfl⟩
  obtain ⟨L1, hL1⟩ : ∃ l : List UInt8, txnF.lay t = l := ⟨_, rfl⟩
  rw [hL0] at KN hl ⊢
  rw [hL1] at KT hl ⊢
  have q0 : ∀ W, Sem.run Tryz.prog (Op.stringOp .add ⟨L0.toArray⟩ ⟨L1.toArray⟩) W = .ok (.string ⟨(L0 ++ L1).toArray⟩) W := fun W => add_str _ _ _ hl W
  clear hL0 hL1 hlay hl hT h0 h1 h2
  have hO0 : Old w (w.alloc (.cells #[.int .i64 z0, .int .i64 z1, .int .i64 z2, v0, v1, v2, v3, v4, v5, v6, v7] 38)) := (Old.refl w).make _
  have hb := heap_alloc_new w (.cells #[.int .i64 z0, .int .i64 z1, .int .i64 z2, v0, v1, v2, v3, v4, v5, v6, v7] 38)
  have c0 : (w.alloc (.cells #[.int .i64 z0, .int .i64 z1, .int .i64 z2, v0, v1, v2, v3, v4, v5, v6, v7] 38)).cell? ⟨w.heap.size, 0, none⟩ = some (.int .i64 z0) := cell_of_row _ _ 0 _ _ _ hb
  have c1 : (w.alloc (.cells #[.int .i64 z0, .int .i64 z1, .int .i64 z2, v0, v1, v2, v3, v4, v5, v6, v7] 38)).cell? ⟨w.heap.size, 1, none⟩ = some (.int .i64 z1) := cell_of_row _ _ 1 _ _ _ hb
  have c2 : (w.alloc (.cells #[.int .i64 z0, .int .i64 z1, .int .i64 z2, v0, v1, v2, v3, v4, v5, v6, v7] 38)).cell? ⟨w.heap.size, 2, none⟩ = some (.int .i64 z2) := cell_of_row _ _ 2 _ _ _ hb
  have c3 : (w.alloc (.cells #[.int .i64 z0, .int .i64 z1, .int .i64 z2, v0, v1, v2, v3, v4, v5, v6, v7] 38)).cell? ⟨w.heap.size, 3, none⟩ = some (v0) := cell_of_row _ _ 3 _ _ _ hb
  have c4 : (w.alloc (.cells #[.int .i64 z0, .int .i64 z1, .int .i64 z2, v0, v1, v2, v3, v4, v5, v6, v7] 38)).cell? ⟨w.heap.size, 4, none⟩ = some (v1) := cell_of_row _ _ 4 _ _ _ hb
  have c5 : (w.alloc (.cells #[.int .i64 z0, .int .i64 z1, .int .i64 z2, v0, v1, v2, v3, v4, v5, v6, v7] 38)).cell? ⟨w.heap.size, 5, none⟩ = some (v2) := cell_of_row _ _ 5 _ _ _ hb
  have c6 : (w.alloc (.cells #[.int .i64 z0, .int .i64 z1, .int .i64 z2, v0, v1, v2, v3, v4, v5, v6, v7] 38)).cell? ⟨w.heap.size, 6, none⟩ = some (v3) := cell_of_row _ _ 6 _ _ _ hb
  have c7 : (w.alloc (.cells #[.int .i64 z0, .int .i64 z1, .int .i64 z2, v0, v1, v2, v3, v4, v5, v6, v7] 38)).cell? ⟨w.heap.size, 7, none⟩ = some (v4) := cell_of_row _ _ 7 _ _ _ hb
  have c8 : (w.alloc (.cells #[.int .i64 z0, .int .i64 z1, .int .i64 z2, v0, v1, v2, v3, v4, v5, v6, v7] 38)).cell? ⟨w.heap.size, 8, none⟩ = some (v5) := cell_of_row _ _ 8 _ _ _ hb
  have c9 : (w.alloc (.cells #[.int .i64 z0, .int .i64 z1, .int .i64 z2, v0, v1, v2, v3, v4, v5, v6, v7] 38)).cell? ⟨w.heap.size, 9, none⟩ = some (v6) := cell_of_row _ _ 9 _ _ _ hb
  have c10 : (w.alloc (.cells #[.int .i64 z0, .int .i64 z1, .int .i64 z2, v0, v1, v2, v3, v4, v5, v6, v7] 38)).cell? ⟨w.heap.size, 10, none⟩ = some (v7) := cell_of_row _ _ 10 _ _ _ hb
  generalize hw1 : w.alloc (.cells #[.int .i64 z0, .int .i64 z1, .int .i64 z2, v0, v1, v2, v3, v4, v5, v6, v7] 38) = w1 at hO0 c0 c1 c2 c3 c4 c5 c6 c7 c8 c9 c10
  clear hb
  have HW := Lib.hid hw1; clear hw1
  have HO0 := Lib.hid hO0; clear hO0
  have C0 := Lib.hid c0; clear c0
  have C1 := Lib.hid c1; clear c1
  have C2 := Lib.hid c2; clear c2
  have C3 := Lib.hid c3; clear c3
  have C4 := Lib.hid c4; clear c4
  have C5 := Lib.hid c5; clear c5
  have C6 := Lib.hid c6; clear c6
  have C7 := Lib.hid c7; clear c7
  have C8 := Lib.hid c8; clear c8
  have C9 := Lib.hid c9; clear c9
  have C10 := Lib.hid c10; clear c10
  go_enter Tryz.func21, Tryz.ntmps21
  go_upto_region 1 with fail
  rw [HW.out]
  have hO0 := HO0.out; clear HO0 HW
  have c0 := C0.out; clear C0
  have c1 := C1.out; clear C1
  have c2 := C2.out; clear C2
  have c3 := C3.out; clear C3
  have c4 := C4.out; clear C4
  have c5 := C5.out; clear C5
  have c6 := C6.out; clear C6
  have c7 := C7.out; clear C7
  have c8 := C8.out; clear C8
  have c9 := C9.out; clear C9
  have c10 := C10.out; clear C10
  go_region_held3 (fun w' => w'.cell? ⟨w.heap.size, 0, none⟩ = some (.int .i64 z0) ∧ w'.cell? ⟨w.heap.size, 1, none⟩ = some (.int .i64 z1) ∧ w'.cell? ⟨w.heap.size, 2, none⟩ = some (.int .i64 z2) ∧ w'.cell? ⟨w.heap.size, 3, none⟩ = some (v0) ∧ w'.cell? ⟨w.heap.size, 4, none⟩ = some (v1) ∧ w'.cell? ⟨w.heap.size, 5, none⟩ = some (v2) ∧ w'.cell? ⟨w.heap.size, 6, none⟩ = some (v3) ∧ w'.cell? ⟨w.heap.size, 7, none⟩ = some (v4) ∧ w'.cell? ⟨w.heap.size, 8, none⟩ = some (v5) ∧ w'.cell? ⟨w.heap.size, 9, none⟩ = some (v6) ∧ w'.cell? ⟨w.heap.size, 10, none⟩ = some (v7) ∧ Old w w')
    (((try go_split_ands); (try dsimp only); (try simp only [World.cell?_drew] at *); (repeat' apply And.intro) <;> (with_reducible first | assumption | exact Old.drew (by assumption) | exact Old.make (by assumption) _ | exact Old.drew (Old.make (by assumption) _) | exact Old.drew (Old.make (Old.undrew (by assumption)) _) | exact Old.cell ((Old.refl _).make _) (by assumption) | fail)))
    (first
      | (go_at_call 61; go_split_ands; refine (KT.out _ (by assumption)).mono ?_; rintro e w9 ⟨rfl, hO9⟩; have hP9 : Old w w9 := Old.none (by assumption) hO9; have d0 : w9.cell? ⟨w.heap.size, 0, none⟩ = some (.int .i64 z0) := Old.cell hO9 (by assumption); have d1 : w9.cell? ⟨w.heap.size, 1, none⟩ = some (.int .i64 z1) := Old.cell hO9 (by assumption); have d2 : w9.cell? ⟨w.heap.size, 2, none⟩ = some (.int .i64 z2) := Old.cell hO9 (by assumption); have d3 : w9.cell? ⟨w.heap.size, 3, none⟩ = some (v0) := Old.cell hO9 (by assumption); have d4 : w9.cell? ⟨w.heap.size, 4, none⟩ = some (v1) := Old.cell hO9 (by assumption); have d5 : w9.cell? ⟨w.heap.size, 5, none⟩ = some (v2) := Old.cell hO9 (by assumption); have d6 : w9.cell? ⟨w.heap.size, 6, none⟩ = some (v3) := Old.cell hO9 (by assumption); have d7 : w9.cell? ⟨w.heap.size, 7, none⟩ = some (v4) := Old.cell hO9 (by assumption); have d8 : w9.cell? ⟨w.heap.size, 8, none⟩ = some (v5) := Old.cell hO9 (by assumption); have d9 : w9.cell? ⟨w.heap.size, 9, none⟩ = some (v6) := Old.cell hO9 (by assumption); have d10 : w9.cell? ⟨w.heap.size, 10, none⟩ = some (v7) := Old.cell hO9 (by assumption); have hQ9 := Stp.mk hO9; clear hO9)
      | (go_at_call 22; go_split_ands; refine (KN.out _ _ ?_).mono ?_; (focus ((repeat (with_reducible first | exact new_drew _ _ | exact heap_alloc_new _ _ | exact new_drew2 _ _ _ | exact new_make2 _ _ _ | refine carry_alloc ?_ | refine carry_make ?_ | (apply Stp.carry; (focus (assumption; done))))); done)); rintro e w9 ⟨rfl, hO9⟩; have hP9 : Old w w9 := Old.none (by assumption) hO9; have d0 : w9.cell? ⟨w.heap.size, 0, none⟩ = some (.int .i64 z0) := Old.cell hO9 (by assumption); have d1 : w9.cell? ⟨w.heap.size, 1, none⟩ = some (.int .i64 z1) := Old.cell hO9 (by assumption); have d2 : w9.cell? ⟨w.heap.size, 2, none⟩ = some (.int .i64 z2) := Old.cell hO9 (by assumption); have d3 : w9.cell? ⟨w.heap.size, 3, none⟩ = some (v0) := Old.cell hO9 (by assumption); have d4 : w9.cell? ⟨w.heap.size, 4, none⟩ = some (v1) := Old.cell hO9 (by assumption); have d5 : w9.cell? ⟨w.heap.size, 5, none⟩ = some (v2) := Old.cell hO9 (by assumption); have d6 : w9.cell? ⟨w.heap.size, 6, none⟩ = some (v3) := Old.cell hO9 (by assumption); have d7 : w9.cell? ⟨w.heap.size, 7, none⟩ = some (v4) := Old.cell hO9 (by assumption); have d8 : w9.cell? ⟨w.heap.size, 8, none⟩ = some (v5) := Old.cell hO9 (by assumption); have d9 : w9.cell? ⟨w.heap.size, 9, none⟩ = some (v6) := Old.cell hO9 (by assumption); have d10 : w9.cell? ⟨w.heap.size, 10, none⟩ = some (v7) := Old.cell hO9 (by assumption); have hQ9 := Stp.mk hO9; clear hO9))
  all_goals go_wp2_with fail
  all_goals go_ret
  all_goals exact ⟨rfl, by assumption⟩
end Go.Proofs.YtpmemcpfoapjmaaGreat

namespace Go.Proofs.YtpmemcpfoapjmaaGreat
open Go.ChangeShapes Go.WideShapes Go.ChangeAt Go.RowKit
set_option linter.unusedVariables false

theorem lent_E {base : Nat} {ok : Nat → Prop} {w : World} {x : Entry} {co ce : List Value} {ga ca gs c : Nat} (hL : LentAt base ok w x co ga ca gs c) (hE : entryE w ok ce x) : entryE w (fun k => ok k ∨ base ≤ k) co x := by
  obtain ⟨ct, rfl, ⟨vs, ⟨va, rfl, hA, h1, h2, h3, h4, h5, h6, h7⟩, hS⟩, hj⟩ := hE
  exact ⟨_, hL.cells, ⟨_, ⟨_, rfl, hL.acl.list aclE_ok, h1, h2, h3, h4, h5, h6, ⟨_, _, _, rfl⟩⟩, hL.subs.list partE_ok⟩, hj⟩
/-- a block of that type and size -/
def Blk (w : World) (g : Nat) (T : TypeId) (n : Nat) : Prop := ∃ cur : Array Value, w.heap[g]? = some (.cells cur T (0, 0)) ∧ cur.size = n
theorem Blk.set {w : World} {g : Nat} {T : TypeId} {n : Nat} (h : Blk w g T n) (b o : Nat) (vs : List Value) : Blk (w.setCells b o vs) g T n := by
  obtain ⟨cur, h1, h2⟩ := h
  obtain ⟨cur', h3, h4⟩ := setCells_block w b o vs h1
  exact ⟨cur', h3, by rw [h4, h2]⟩
theorem Blk.there {w : World} {g : Nat} {T : TypeId} {c sz : Nat} (h : Blk w g T (c * sz)) {i : Nat} (hi : i < c) : w.there g (i * sz) sz := by
  obtain ⟨cur, hh, hz⟩ := h
  intro j hj
  have hm : (i + 1) * sz ≤ c * sz := Nat.mul_le_mul_right _ hi
  rw [Nat.add_mul, Nat.one_mul] at hm
  have hlt : i * sz + j < cur.size := by omega
  refine ⟨?_, by simp [World.frozen?, hh]⟩
  rw [cell_of_row w g (i * sz + j) cur T (0, 0) hh, Array.getElem?_eq_getElem hlt]; rfl
def Two (a b : Nat) : Nat → Prop := fun j => j = a ∨ j = b
theorem Two.set {w w' : World} {a b g o : Nat} {vs : List Value} (h : Kept (Two a b) w w') (hg : Two a b g) : Kept (Two a b) w (w'.setCells g o vs) :=
  h.trans ((setCells_kept w' g o vs).mono (fun k _ hk => by have hk' : k = g := hk; subst hk'; exact hg))

set_option maxRecDepth 100000 in
set_option maxHeartbeats 4000000 in
theorem kept_entry (x : Entry) (co ce : List Value) (ok : Nat → Prop) (base : Nat) (w : World) (ga ca gs c : Nat) (hL : LentAt base ok w x co ga ca gs c) (hE : entryE w ok ce x) (hlay : (entryF.lay x).length ≤ 1000000000000000) (hn1 : x.txn.part.acl.length ≤ 20000000) (hn2 : x.txn.subs.length ≤ 20000000) :
    Calls Tryz.prog 8 #[.agg co.toArray, .agg ce.toArray] w fun e w' => e = .returned (.bool true) ∧ Kept (Two ga gs) w w' := by
  have HSA := Lib.hid (show (Tryz.prog.info? 56).map (·.size) = some 2 by kernel_rfl)
  have HST := Lib.hid (show (Tryz.prog.info? 36).map (·.size) = some 8 by kernel_rfl)
  have hEo := lent_E hL hE
  obtain ⟨l, hl⟩ : ∃ l, entryF.lay x = l := ⟨_, rfl⟩
  have hPO : ∀ W, Old w W → Calls Tryz.prog 21 #[.agg co.toArray] W (OldStr W l) := fun W h => by rw [← hl]; exact refput_entry x co _ W (entryE_ok.keep hEo h (disj_none _)) hlay
  have hPE : ∀ W, Old w W → Calls Tryz.prog 21 #[.agg ce.toArray] W (OldStr W l) := fun W h => by rw [← hl]; exact refput_entry x ce _ W (entryE_ok.keep hE h (disj_none _)) hlay
  have h77a := hL.acl.behind (cs := [.int .i64 77, .string ⟨#[]⟩]) (fun w ok cs' h => by rw [h.1]; rfl) rfl (by decide)
  have h77s := hL.subs.behind (cs := [.int .i64 77, .string ⟨#[]⟩]) (fun w ok cs' h => by obtain ⟨_, _, rfl, _⟩ := h; rfl) rfl (by decide)
  have hra := hL.acl.room
  have hrs := hL.subs.room
  have hma := hL.acl.max
  have hms := hL.subs.max
  have hba : Blk w ga 56 (ca * 2) := hL.acl.blk.2
  have hbs : Blk w gs 36 (c * 8) := hL.subs.blk.2
  have hco := hL.cells
  clear hL hEo hl hlay
  obtain ⟨ct, rfl, ⟨vs, ⟨va, rfl, hA, hp⟩, hS⟩, hj⟩ := hE
  obtain ⟨Aa, na, ca0, rfl⟩ := hA.shape
  obtain ⟨As, ns, c0, rfl⟩ := hS.shape
  have hlA := hA.size_le'
  have hlS := hS.size_le'
  clear hA hS hp hj
  obtain ⟨z0, z1, z2, ⟨⟨k0, p0, d0, acl, o0, m0, r0⟩, subs⟩⟩ := x
  dsimp only at hco hlA hlS hn1 hn2 hra hrs h77a h77s hPE ⊢
  rw [hlA] at hco hn1 hra h77a
  rw [hlS] at hco hn2 hrs h77s
  clear hlA hlS acl subs
  subst hco
  unfold maxLen at hma hms
  have KO := Lib.hid hPO; clear hPO
  have KE := Lib.hid hPE; clear hPE
  have H77A := Lib.hid h77a; clear h77a
  have H77S := Lib.hid h77s; clear h77s
  have HBA := Lib.hid hba; clear hba
  have HBS := Lib.hid hbs; clear hbs
  go_enter Tryz.func8, Tryz.ntmps8
  have hb0 : ((w.alloc (.cells ([.int .i64 z0, .int .i64 z1, .int .i64 z2, .int .i64 k0, .string p0, .string d0, .slice (some ⟨ga, 0, none⟩) na ca, .int .i64 o0, .int .i64 m0, .int .i64 r0, .slice (some ⟨gs, 0, none⟩) ns c] : List Value).toArray 38)).alloc (.cells ([.int .i64 z0, .int .i64 z1, .int .i64 z2, .int .i64 k0, .string p0, .string d0, .slice Aa na ca0, .int .i64 o0, .int .i64 m0, .int .i64 r0, .slice As ns c0] : List Value).toArray 38)).heap[w.heap.size]? = some (.cells ([.int .i64 z0, .int .i64 z1, .int .i64 z2, .int .i64 k0, .string p0, .string d0, .slice (some ⟨ga, 0, none⟩) na ca, .int .i64 o0, .int .i64 m0, .int .i64 r0, .slice (some ⟨gs, 0, none⟩) ns c] : List Value).toArray 38 (0, 0)) := by
    rw [((Old.refl (w.alloc (.cells ([.int .i64 z0, .int .i64 z1, .int .i64 z2, .int .i64 k0, .string p0, .string d0, .slice (some ⟨ga, 0, none⟩) na ca, .int .i64 o0, .int .i64 m0, .int .i64 r0, .slice (some ⟨gs, 0, none⟩) ns c] : List Value).toArray 38))).make _).block _ (by simp) id]; exact heap_alloc_new w _
  have hb1 : ((w.alloc (.cells ([.int .i64 z0, .int .i64 z1, .int .i64 z2, .int .i64 k0, .string p0, .string d0, .slice (some ⟨ga, 0, none⟩) na ca, .int .i64 o0, .int .i64 m0, .int .i64 r0, .slice (some ⟨gs, 0, none⟩) ns c] : List Value).toArray 38)).alloc (.cells ([.int .i64 z0, .int .i64 z1, .int .i64 z2, .int .i64 k0, .string p0, .string d0, .slice Aa na ca0, .int .i64 o0, .int .i64 m0, .int .i64 r0, .slice As ns c0] : List Value).toArray 38)).heap[w.heap.size + 1]? = some (.cells ([.int .i64 z0, .int .i64 z1, .int .i64 z2, .int .i64 k0, .string p0, .string d0, .slice Aa na ca0, .int .i64 o0, .int .i64 m0, .int .i64 r0, .slice As ns c0] : List Value).toArray 38 (0, 0)) := by
    have h := heap_alloc_new (w.alloc (.cells ([.int .i64 z0, .int .i64 z1, .int .i64 z2, .int .i64 k0, .string p0, .string d0, .slice (some ⟨ga, 0, none⟩) na ca, .int .i64 o0, .int .i64 m0, .int .i64 r0, .slice (some ⟨gs, 0, none⟩) ns c] : List Value).toArray 38)) (.cells ([.int .i64 z0, .int .i64 z1, .int .i64 z2, .int .i64 k0, .string p0, .string d0, .slice Aa na ca0, .int .i64 o0, .int .i64 m0, .int .i64 r0, .slice As ns c0] : List Value).toArray 38)
    rwa [show (w.alloc (.cells ([.int .i64 z0, .int .i64 z1, .int .i64 z2, .int .i64 k0, .string p0, .string d0, .slice (some ⟨ga, 0, none⟩) na ca, .int .i64 o0, .int .i64 m0, .int .i64 r0, .slice (some ⟨gs, 0, none⟩) ns c] : List Value).toArray 38)).heap.size = w.heap.size + 1 from by simp] at h
  have hO0 : Old w ((w.alloc (.cells ([.int .i64 z0, .int .i64 z1, .int .i64 z2, .int .i64 k0, .string p0, .string d0, .slice (some ⟨ga, 0, none⟩) na ca, .int .i64 o0, .int .i64 m0, .int .i64 r0, .slice (some ⟨gs, 0, none⟩) ns c] : List Value).toArray 38)).alloc (.cells ([.int .i64 z0, .int .i64 z1, .int .i64 z2, .int .i64 k0, .string p0, .string d0, .slice Aa na ca0, .int .i64 o0, .int .i64 m0, .int .i64 r0, .slice As ns c0] : List Value).toArray 38)) := ((Old.refl w).make _).make _
  have HPRE := Lib.hid (And.intro hb0 (And.intro hb1 hO0))
  clear hb0 hb1 hO0
  go_upto_region 1 with fail
  have hb0 := HPRE.out.1
  have hb1 := HPRE.out.2.1
  have hO0 := HPRE.out.2.2
  clear HPRE
  generalize (w.alloc (.cells ([.int .i64 z0, .int .i64 z1, .int .i64 z2, .int .i64 k0, .string p0, .string d0, .slice (some ⟨ga, 0, none⟩) na ca, .int .i64 o0, .int .i64 m0, .int .i64 r0, .slice (some ⟨gs, 0, none⟩) ns c] : List Value).toArray 38)).alloc (.cells ([.int .i64 z0, .int .i64 z1, .int .i64 z2, .int .i64 k0, .string p0, .string d0, .slice Aa na ca0, .int .i64 o0, .int .i64 m0, .int .i64 r0, .slice As ns c0] : List Value).toArray 38) = w5 at hb0 hb1 hO0 ⊢
  have HSS0 := Lib.hid (show ∀ w', Old w5 w' → w'.cell? ⟨w.heap.size, 0, none⟩ = some (.int .i64 z0) ∧ w'.cell? ⟨w.heap.size, 1, none⟩ = some (.int .i64 z1) ∧ w'.cell? ⟨w.heap.size, 2, none⟩ = some (.int .i64 z2) ∧ w'.cell? ⟨w.heap.size, 3, none⟩ = some (.int .i64 k0) ∧ w'.cell? ⟨w.heap.size, 4, none⟩ = some (.string p0) ∧ w'.cell? ⟨w.heap.size, 5, none⟩ = some (.string d0) ∧ w'.cell? ⟨w.heap.size, 6, none⟩ = some (.slice (some ⟨ga, 0, none⟩) na ca) ∧ w'.cell? ⟨w.heap.size, 7, none⟩ = some (.int .i64 o0) ∧ w'.cell? ⟨w.heap.size, 8, none⟩ = some (.int .i64 m0) ∧ w'.cell? ⟨w.heap.size, 9, none⟩ = some (.int .i64 r0) ∧ w'.cell? ⟨w.heap.size, 10, none⟩ = some (.slice (some ⟨gs, 0, none⟩) ns c) ∧ w'.cell? ⟨w.heap.size + 1, 0, none⟩ = some (.int .i64 z0) ∧ w'.cell? ⟨w.heap.size + 1, 1, none⟩ = some (.int .i64 z1) ∧ w'.cell? ⟨w.heap.size + 1, 2, none⟩ = some (.int .i64 z2) ∧ w'.cell? ⟨w.heap.size + 1, 3, none⟩ = some (.int .i64 k0) ∧ w'.cell? ⟨w.heap.size + 1, 4, none⟩ = some (.string p0) ∧ w'.cell? ⟨w.heap.size + 1, 5, none⟩ = some (.string d0) ∧ w'.cell? ⟨w.heap.size + 1, 6, none⟩ = some (.slice Aa na ca0) ∧ w'.cell? ⟨w.heap.size + 1, 7, none⟩ = some (.int .i64 o0) ∧ w'.cell? ⟨w.heap.size + 1, 8, none⟩ = some (.int .i64 m0) ∧ w'.cell? ⟨w.heap.size + 1, 9, none⟩ = some (.int .i64 r0) ∧ w'.cell? ⟨w.heap.size + 1, 10, none⟩ = some (.slice As ns c0) ∧ w'.cell? ⟨ga, na * 2, none⟩ = some (.int .i64 77) ∧ w'.cell? ⟨gs, ns * 8, none⟩ = some (.int .i64 77) ∧ Old w5 w' from fun w' hO => by
    have ho := fun i v hv => cell_of_heap (i := i) (v := v) ((hO.block _ (lt_of_block hb0) id).trans hb0) hv
    have he := fun i v hv => cell_of_heap (i := i) (v := v) ((hO.block _ (lt_of_block hb1) id).trans hb1) hv
    have h1 := Old.cell hO (Old.cell hO0 H77A.out)
    have h2 := Old.cell hO (Old.cell hO0 H77S.out)
    exact ⟨ho 0 _ rfl, ho 1 _ rfl, ho 2 _ rfl, ho 3 _ rfl, ho 4 _ rfl, ho 5 _ rfl, ho 6 _ rfl, ho 7 _ rfl, ho 8 _ rfl, ho 9 _ rfl, ho 10 _ rfl, he 0 _ rfl, he 1 _ rfl, he 2 _ rfl, he 3 _ rfl, he 4 _ rfl, he 5 _ rfl, he 6 _ rfl, he 7 _ rfl, he 8 _ rfl, he 9 _ rfl, he 10 _ rfl, h1, h2, hO⟩)
  have KO5 := Lib.hid (fun W (h : Old w5 W) => KO.out W (hO0.none h))
  have KE5 := Lib.hid (show ∀ W, Old w5 W → Calls Tryz.prog 21 #[.agg ([.int .i64 z0, .int .i64 z1, .int .i64 z2, .int .i64 k0, .string p0, .string d0, .slice Aa na ca0, .int .i64 o0, .int .i64 m0, .int .i64 r0, .slice As ns c0] : List Value).toArray] W (OldStr W l) from fun W h => KE.out W (hO0.none h))
  have HB0 := Lib.hid hb0
  have HB1 := Lib.hid hb1
  have HO0 := Lib.hid hO0
  have e6 : w5.cell? ⟨w.heap.size + 1, 6, none⟩ = some (.slice Aa na ca0) := cell_of_heap hb1 rfl
  have e10 : w5.cell? ⟨w.heap.size + 1, 10, none⟩ = some (.slice As ns c0) := cell_of_heap hb1 rfl
  clear hb0 hb1 hO0 KO KE
  go_upto_region 3 with fail
  clear e6 e10
  go_cut [7] (fun v wx => v = .bool true ∧ Old w5 wx)
  case first =>
    have hsl1 : (na : Int) + 1 ≤ (ca : Int) := by omega
    have hsl2 : (ns : Int) + 1 ≤ (c : Int) := by omega
    have hsl3 : (0 : Int) ≤ (na : Int) + 1 := by omega
    have hsl4 : (0 : Int) ≤ (ns : Int) + 1 := by omega
    have hsl5 : (na : Int) < (na : Int) + 1 := by omega
    have hsl6 : (ns : Int) < (ns : Int) + 1 := by omega
    have hsl7 : (0 : Int) ≤ (na : Int) := by omega
    have hsl8 : (0 : Int) ≤ (ns : Int) := by omega
    have hx1 := IntWalk.i64_in ((na : Int) + 1) (by omega)
    have hx2 := IntWalk.i64_in ((ns : Int) + 1) (by omega)
    have hy1 : ((na : Int) + 1).toNat = na + 1 := by omega
    have hy2 : ((ns : Int) + 1).toNat = ns + 1 := by omega
    go_region_held3 (fun w' => w'.cell? ⟨w.heap.size, 0, none⟩ = some (.int .i64 z0) ∧ w'.cell? ⟨w.heap.size, 1, none⟩ = some (.int .i64 z1) ∧ w'.cell? ⟨w.heap.size, 2, none⟩ = some (.int .i64 z2) ∧ w'.cell? ⟨w.heap.size, 3, none⟩ = some (.int .i64 k0) ∧ w'.cell? ⟨w.heap.size, 4, none⟩ = some (.string p0) ∧ w'.cell? ⟨w.heap.size, 5, none⟩ = some (.string d0) ∧ w'.cell? ⟨w.heap.size, 6, none⟩ = some (.slice (some ⟨ga, 0, none⟩) na ca) ∧ w'.cell? ⟨w.heap.size, 7, none⟩ = some (.int .i64 o0) ∧ w'.cell? ⟨w.heap.size, 8, none⟩ = some (.int .i64 m0) ∧ w'.cell? ⟨w.heap.size, 9, none⟩ = some (.int .i64 r0) ∧ w'.cell? ⟨w.heap.size, 10, none⟩ = some (.slice (some ⟨gs, 0, none⟩) ns c) ∧ w'.cell? ⟨w.heap.size + 1, 0, none⟩ = some (.int .i64 z0) ∧ w'.cell? ⟨w.heap.size + 1, 1, none⟩ = some (.int .i64 z1) ∧ w'.cell? ⟨w.heap.size + 1, 2, none⟩ = some (.int .i64 z2) ∧ w'.cell? ⟨w.heap.size + 1, 3, none⟩ = some (.int .i64 k0) ∧ w'.cell? ⟨w.heap.size + 1, 4, none⟩ = some (.string p0) ∧ w'.cell? ⟨w.heap.size + 1, 5, none⟩ = some (.string d0) ∧ w'.cell? ⟨w.heap.size + 1, 6, none⟩ = some (.slice Aa na ca0) ∧ w'.cell? ⟨w.heap.size + 1, 7, none⟩ = some (.int .i64 o0) ∧ w'.cell? ⟨w.heap.size + 1, 8, none⟩ = some (.int .i64 m0) ∧ w'.cell? ⟨w.heap.size + 1, 9, none⟩ = some (.int .i64 r0) ∧ w'.cell? ⟨w.heap.size + 1, 10, none⟩ = some (.slice As ns c0) ∧ w'.cell? ⟨ga, na * 2, none⟩ = some (.int .i64 77) ∧ w'.cell? ⟨gs, ns * 8, none⟩ = some (.int .i64 77) ∧ Old w5 w')
      (((try dsimp only); first | exact HSS0.out _ (Old.drew (Old.refl _)) | exact HSS0.out _ (by assumption) | exact HSS0.out _ (Old.drew (by assumption))))
      (first
        | (go_at_call 21; go_split_ands; (with_reducible refine (KO5.out _ (by first | assumption | exact Old.drew (Old.refl _))).mono ?_); rintro en w9 ⟨rfl, hO9⟩; have hP9 : Old w5 w9 := Old.none (by first | assumption | exact Old.drew (Old.refl _)) hO9; clear hO9)
        | (go_at_call 21; go_split_ands; (with_reducible refine (KE5.out _ (by first | assumption | exact Old.drew (Old.refl _))).mono ?_); rintro en w9 ⟨rfl, hO9⟩; have hP9 : Old w5 w9 := Old.none (by first | assumption | exact Old.drew (Old.refl _)) hO9; clear hO9))
    all_goals go_wp2_with fail
    all_goals go_meet
    all_goals exact ⟨rfl, by assumption⟩
  case rest =>
  obtain ⟨rfl, hOc⟩ := hcut
  have hOw : Old w wc := HO0.out.none hOc
  have hbc0 := (hOc.block _ (lt_of_block HB0.out) id).trans HB0.out
  have hga : ga < w.heap.size := by obtain ⟨cur, h, _⟩ := HBA.out; exact lt_of_block h
  have hgs : gs < w.heap.size := by obtain ⟨cur, h, _⟩ := HBS.out; exact lt_of_block h
  have hbac : Blk wc ga 56 (ca * 2) := by obtain ⟨cur, h, h2⟩ := HBA.out; exact ⟨cur, (hOw.block _ (lt_of_block h) id).trans h, h2⟩
  have hbsc : Blk wc gs 36 (c * 8) := by obtain ⟨cur, h, h2⟩ := HBS.out; exact ⟨cur, (hOw.block _ (lt_of_block h) id).trans h, h2⟩
  have HBQ := Lib.hid (show ∀ wq, Kept (Two ga gs) wc wq → wq.heap[w.heap.size]? = some (.cells ([.int .i64 z0, .int .i64 z1, .int .i64 z2, .int .i64 k0, .string p0, .string d0, .slice (some ⟨ga, 0, none⟩) na ca, .int .i64 o0, .int .i64 m0, .int .i64 r0, .slice (some ⟨gs, 0, none⟩) ns c] : List Value).toArray 38 (0, 0)) from fun wq hq => (hq.block _ (lt_of_block hbc0) (fun hs => by rcases hs with hs | hs <;> omega)).trans hbc0)
  have HFIN := Lib.hid (show ∀ wq, Kept (Two ga gs) wc wq → Kept (Two ga gs) w wq from fun wq hq => (Kept.mono hOw (fun _ _ f => f.elim)).trans hq)
  have HAC := Lib.hid hbac
  have HSC := Lib.hid hbsc
  clear HSS0 KO5 KE5 HB0 HB1 HO0 hOc hOw hbc0 hbac hbsc H77A H77S HBA HBS
  go_wp2_with fail
  go_loopw [8] (fun iv wq => ∃ i : Nat, iv = .int .i64 (i : Nat) ∧ i ≤ na + 1 ∧ Kept (Two ga gs) wc wq ∧ Blk wq ga 56 (ca * 2) ∧ Blk wq gs 36 (c * 8)) (fun iv _ => na + 1 - (intOf iv).toNat)
  case atStart => exact ⟨0, rfl, Nat.zero_le _, Kept.refl _ _, HAC.out, HSC.out⟩
  case round =>
    obtain ⟨i, rfl, hi, hKq, hqa, hqs⟩ := hrel
    have cq := cell_of_heap (i := 6) (v := .slice (some ⟨ga, 0, none⟩) na ca) (HBQ.out _ hKq) rfl
    by_cases hlt : i < na + 1
    · have hkl : (i : Int) < (na : Int) + 1 := by omega
      have hsl : (na : Int) + 1 ≤ (ca : Int) := by omega
      have HT := Lib.hid (hqa.there (show i < ca by omega))
      have HLT := Lib.hid hlt
      obtain ⟨wn, hwn⟩ : ∃ u, World.setCells wr ga (i * 2) [.int .i64 (-1), .string ⟨#[111, 118, 101, 114]⟩] = u := ⟨_, rfl⟩
      have HWN := Lib.hid hwn; clear hwn
      have HONE := Lib.hid (show ∀ v ∈ ([.int .i64 (-1), .string ⟨#[111, 118, 101, 114]⟩] : List Value), v.oneCell' = true by simp [Value.oneCell'])
      have HK1 := Lib.hid (Two.set (o := i * 2) (vs := [.int .i64 (-1), .string ⟨#[111, 118, 101, 114]⟩]) hKq (Or.inl rfl))
      have HA1 := Lib.hid (hqa.set ga (i * 2) [.int .i64 (-1), .string ⟨#[111, 118, 101, 114]⟩])
      have HS1 := Lib.hid (hqs.set ga (i * 2) [.int .i64 (-1), .string ⟨#[111, 118, 101, 114]⟩])
      clear hKq hqa hqs
      go_wp2_with (refine wpList_store_over rfl 56 (.tmp 63) (.tmp 62) rfl ga (i * 2) [.int .i64 (-1), .string ⟨#[111, 118, 101, 114]⟩] 2 rfl rfl HT.out rfl HSA.out HONE.out wn HWN.out ?_)
      go_roundw
      case rel => rw [← HWN.out]; exact ⟨i + 1, by go_num, HLT.out, HK1.out, HA1.out, HS1.out⟩
      case measure => have h := HLT.out; simp [intOf]; omega
    · have hkl : ¬ (i : Int) < (na : Int) + 1 := by omega
      have HK2 := Lib.hid hKq
      have HS2 := Lib.hid hqs
      clear hKq hqa hqs
      go_wp2_with fail
      clear cq hkl
      go_loopw [9] (fun iv wq => ∃ i : Nat, iv = .int .i64 (i : Nat) ∧ i ≤ ns + 1 ∧ Kept (Two ga gs) wc wq ∧ Blk wq gs 36 (c * 8)) (fun iv _ => ns + 1 - (intOf iv).toNat)
      case atStart => exact ⟨0, rfl, Nat.zero_le _, HK2.out, HS2.out⟩
      case round =>
        obtain ⟨k, rfl, hk, hKq, hqs⟩ := hrel
        have cq := cell_of_heap (i := 10) (v := .slice (some ⟨gs, 0, none⟩) ns c) (HBQ.out _ hKq) rfl
        by_cases hlk : k < ns + 1
        · have hkl : (k : Int) < (ns : Int) + 1 := by omega
          have hsl : (ns : Int) + 1 ≤ (c : Int) := by omega
          have HT := Lib.hid (hqs.there (show k < c by omega))
          have HLT := Lib.hid hlk
          obtain ⟨wn, hwn⟩ : ∃ u, World.setCells wr gs (k * 8) [.int .i64 (-1), .string ⟨#[]⟩, .string ⟨#[]⟩, .slice none 0 0, .int .i64 0, .int .i64 0, .int .i64 0, .slice none 0 0] = u := ⟨_, rfl⟩
          have HWN := Lib.hid hwn; clear hwn
          have HONE := Lib.hid (show ∀ v ∈ ([.int .i64 (-1), .string ⟨#[]⟩, .string ⟨#[]⟩, .slice none 0 0, .int .i64 0, .int .i64 0, .int .i64 0, .slice none 0 0] : List Value), v.oneCell' = true by simp [Value.oneCell'])
          have HK1 := Lib.hid (Two.set (o := k * 8) (vs := [.int .i64 (-1), .string ⟨#[]⟩, .string ⟨#[]⟩, .slice none 0 0, .int .i64 0, .int .i64 0, .int .i64 0, .slice none 0 0]) hKq (Or.inr rfl))
          have HS1 := Lib.hid (hqs.set gs (k * 8) [.int .i64 (-1), .string ⟨#[]⟩, .string ⟨#[]⟩, .slice none 0 0, .int .i64 0, .int .i64 0, .int .i64 0, .slice none 0 0])
          clear hKq hqs
          go_wp2_with (refine wpList_store_over rfl 36 (.tmp 78) (.tmp 77) rfl gs (k * 8) [.int .i64 (-1), .string ⟨#[]⟩, .string ⟨#[]⟩, .slice none 0 0, .int .i64 0, .int .i64 0, .int .i64 0, .slice none 0 0] 8 rfl rfl HT.out rfl HST.out HONE.out wn HWN.out ?_)
          go_roundw
          case rel => rw [← HWN.out]; exact ⟨k + 1, by go_num, HLT.out, HK1.out, HS1.out⟩
          case measure => have h := HLT.out; simp [intOf]; omega
        · have hkl : ¬ (k : Int) < (ns : Int) + 1 := by omega
          have HK3 := Lib.hid (HFIN.out _ hKq)
          clear hKq hqs
          go_wp2_with fail
          go_ret
          exact ⟨rfl, HK3.out⟩
end Go.Proofs.YtpmemcpfoapjmaaGreat

namespace Go.Proofs.YtpmemcpfoapjmaaGreat
open Go.ChangeShapes Go.WideShapes Go.ChangeAt Go.RowKit
set_option linter.unusedVariables false

/-- the block that a row's cell k points to -/
def blkOf (r : List Value) (k : Nat) : Nat :=
  match r[k]? with
  | some (.slice (some a) _ _) => a.block
  | _ => 0
/-- the row of an entry whose lists are its own -/
def LRow (base : Nat) (ok : Nat → Prop) (w : World) (r : List Value) (x : Entry) : Prop := ∃ ca c, LentAt base ok w x r (blkOf r 6) ca (blkOf r 10) c
def ApartR (r r' : List Value) : Prop := blkOf r 6 ≠ blkOf r' 6 ∧ blkOf r 10 ≠ blkOf r' 10
theorem LentAt.row {base : Nat} {ok : Nat → Prop} {w : World} {x : Entry} {cs : List Value} {ga ca gs c : Nat} (h : LentAt base ok w x cs ga ca gs c) : LRow base ok w cs x := by
  have h6 : blkOf cs 6 = ga := by rw [h.cells]; rfl
  have h10 : blkOf cs 10 = gs := by rw [h.cells]; rfl
  exact ⟨ca, c, by rw [h6, h10]; exact h⟩
theorem LentAt.keepTo {base : Nat} {ok : Nat → Prop} {w w' : World} {x : Entry} {cs : List Value} {ga ca gs c : Nat} (h : LentAt base ok w x cs ga ca gs c) {S : Nat → Prop} (hk : Kept S w w') (ha : ¬ S ga) (hs : ¬ S gs) (hd : Disj ok S) : LentAt base ok w' x cs ga ca gs c :=
  ⟨h.cells, h.acl.keepTo aclE_ok hk ha hd, h.subs.keepTo partE_ok hk hs hd⟩
theorem LentAt.low {base : Nat} {ok : Nat → Prop} {w : World} {x : Entry} {cs : List Value} {ga ca gs c : Nat} (h : LentAt base ok w x cs ga ca gs c) {b : Nat} (hb : b ≤ base) : LentAt b ok w x cs ga ca gs c :=
  ⟨h.cells, h.acl.low hb, h.subs.low hb⟩
theorem LRow.keepTo {base : Nat} {ok : Nat → Prop} {w w' : World} {x : Entry} {cs : List Value} (h : LRow base ok w cs x) {S : Nat → Prop} (hk : Kept S w w') (ha : ¬ S (blkOf cs 6)) (hs : ¬ S (blkOf cs 10)) (hd : Disj ok S) : LRow base ok w' cs x := by
  obtain ⟨ca, c, h⟩ := h
  exact ⟨ca, c, h.keepTo hk ha hs hd⟩
theorem LRow.flat {base : Nat} {ok : Nat → Prop} {w : World} {x : Entry} {cs : List Value} (h : LRow base ok w cs x) : Flat 11 cs := by
  obtain ⟨ca, c, h⟩ := h
  rw [h.cells]
  exact ⟨rfl, by simp [Value.oneCell']⟩
theorem LRow.lt {base : Nat} {ok : Nat → Prop} {w : World} {x : Entry} {cs : List Value} (h : LRow base ok w cs x) : (base ≤ blkOf cs 6 ∧ blkOf cs 6 < w.heap.size) ∧ (base ≤ blkOf cs 10 ∧ blkOf cs 10 < w.heap.size) := by
  obtain ⟨ca, c, h⟩ := h
  exact ⟨⟨h.acl.blk.1, h.acl.lt⟩, ⟨h.subs.blk.1, h.subs.lt⟩⟩
theorem acl_entry' : 56 ≠ (38 : Nat) := by decide
theorem txn_entry' : 36 ≠ (38 : Nat) := by decide
theorem blk_type {w : World} {g g' : Nat} {cur cur' : Array Value} {T T' : TypeId} (hT : T ≠ T') (h : w.heap[g]? = some (.cells cur T (0, 0))) (h' : w.heap[g']? = some (.cells cur' T' (0, 0))) : g ≠ g' := by
  rintro rfl
  rw [h] at h'
  simp only [Option.some.injEq, Obj.cells.injEq] at h'
  exact hT h'.2.1
/-- a row's lists lie elsewhere than an array of entries -/
theorem LRow.apart {base : Nat} {ok : Nat → Prop} {w : World} {x : Entry} {cs : List Value} (h : LRow base ok w cs x) {g : Nat} {cur : Array Value} (hg : w.heap[g]? = some (.cells cur 38 (0, 0))) : blkOf cs 6 ≠ g ∧ blkOf cs 10 ≠ g := by
  obtain ⟨ca, c, h⟩ := h
  obtain ⟨_, c1, h1, _⟩ := h.acl.blk
  obtain ⟨_, c2, h2, _⟩ := h.subs.blk
  exact ⟨blk_type acl_entry' h1 hg, blk_type txn_entry' h2 hg⟩

/-- acc owns the rows, each of whose lists are its own from number k on; behind them stand more rows -/
structure Lents (base : Nat) (ok : Nat → Prop) (w : World) (acc : Value) (k : Nat) (ys : List Entry) (rows more : List (List Value)) : Prop where
  own : w.ownsRow base 38 11 acc (ys.length + more.length) (rows ++ more).flatten
  len : rows.length = ys.length
  flat : ∀ r ∈ rows ++ more, Flat 11 r
  at_ : ∀ i (h : i < ys.length) (h' : i < rows.length), k ≤ i → LRow base ok w rows[i] ys[i]
  apart : rows.Pairwise ApartR

theorem Lents.nil (base : Nat) (ok : Nat → Prop) (w : World) : Lents base ok w (.slice none 0 0) 0 [] [] [] :=
  ⟨by simpa using World.ownsRow_nil w base _ 11, rfl, by simp, fun i h => absurd h (by simp), List.Pairwise.nil⟩
section
variable {base : Nat} {ok : Nat → Prop} {w w' : World} {acc : Value} {k : Nat} {ys : List Entry} {rows more : List (List Value)}
theorem Lents.block (h : Lents base ok w acc k ys rows more) : acc.ownBlock = none ∨ ∃ g cur, acc.ownBlock = some g ∧ base ≤ g ∧ w.heap[g]? = some (.cells cur 38 (0, 0)) := by
  rcases h.own.2 with ⟨rfl, _⟩ | ⟨g, cap, cur, rfl, hb, hh, _⟩
  · exact Or.inl rfl
  · exact Or.inr ⟨g, cur, rfl, hb, hh⟩
theorem Lents.keep (h : Lents base ok w acc k ys rows more) {S : Nat → Prop} (hk : Kept S w w') (hb : ∀ j, base ≤ j → ¬ S j) (hd : Disj ok S) : Lents base ok w' acc k ys rows more :=
  ⟨ownsRow_kept h.own hk hb, h.len, h.flat, fun i hi hi' hki => (h.at_ i hi hi' hki).keepTo hk (hb _ (h.at_ i hi hi' hki).lt.1.1) (hb _ (h.at_ i hi hi' hki).lt.2.1) hd, h.apart⟩
theorem Lents.old (h : Lents base ok w acc k ys rows more) (hk : Old w w') : Lents base ok w' acc k ys rows more := h.keep hk (fun _ _ f => f) (disj_none _)
theorem Lents.shape (h : Lents base ok w acc k ys rows more) : ∃ A c, acc = .slice A (ys.length + more.length) c ∧ ys.length + more.length ≤ c ∧ c ≤ maxLen := by
  rcases h.own.2 with ⟨rfl, hn⟩ | ⟨g, cap, cur, rfl, hb, hh, hnc, hcm, hcs, htake⟩
  · exact ⟨none, 0, by rw [hn], by omega, by unfold maxLen; omega⟩
  · exact ⟨_, cap, rfl, hnc, hcm⟩
/-- an entry more, its lists made since -/
theorem Lents.push {P : Program} {W0 W : World} {bytes : Nat} (h : Lents base ok W0 acc 0 ys rows []) (hO : Old W0 W) (hb : base ≤ W0.heap.size) (hok : ∀ k, ok k → k < base) {B c : Nat} {cs : List Value} {y : Entry} {ga ca gs cc : Nat} (hL : LentAt W0.heap.size ok W y cs ga ca gs cc)
    (hB : W.heap[B]? = some (.cells cs.toArray 38 (0, 0)))
    (t ty : TypeId) (i : TypeInfo) (z : Value) (ht : P.underlying t = some (.slice 38)) (hi : P.info? 38 = some i) (hz : i.zero = some z) (hsize : i.size = 11) (hby : i.bytes = bytes) (hzs : z.cells.size = 11)
    (hm : ys.length + 1 ≤ maxLen) (hbytes : (ys.length + 1) * bytes ≤ 140737488355328) :
    ∃ v' w', (Builtin.append_ #[t, t] ty #[acc, .slice (some ⟨B, 0, none⟩) 1 c]).run P W = .ok v' w' ∧ Lents base ok w' v' 0 (ys ++ [y]) (rows ++ [cs]) [] ∧ Kept (fun k => some k = acc.ownBlock) W w' := by
  have hWO := h.old hO
  have hrow := hL.row
  have hfl := hrow.flat
  have hown : W.ownsRow base 38 11 acc ys.length rows.flatten := by simpa using hWO.own
  obtain ⟨v', w', hr, o1, o2, o3⟩ := run_append_apart (P := P) W base t ty _ i z 11 bytes ht hi hz hsize hby hzs (by decide) acc ys.length rows.flatten hown ⟨B, 0, none⟩ 1 c cs (by rw [hfl.1])
    (fun j u hu => by rw [Addr.add_mid]; exact range_row hB j u hu) hfl.2 hm hbytes (Nat.le_trans hb hO.size)
  have hk : Kept (fun k => some k = acc.ownBlock) W w' := Kept.of_grownBy o2
  have hd : Disj ok (fun k => some k = acc.ownBlock) := fun k hk1 hk2 => by
    have h1 := hok k hk1
    have h2 := (hown.lt k hk2.symm).1
    omega
  have hap : ∀ (r : List Value) (x : Entry) (b : Nat), LRow b ok W r x → LRow b ok w' r x := fun r x b hr => by
    rcases hWO.block with h0 | ⟨g, cur, h0, hbg, hh⟩
    · exact hr.keepTo hk (by rw [h0]; simp) (by rw [h0]; simp) hd
    · have ha := hr.apart hh
      exact hr.keepTo hk (by rw [h0]; simpa using ha.1) (by rw [h0]; simpa using ha.2) hd
  refine ⟨v', w', hr, ⟨by simpa using o1, by simp [h.len], ?_, ?_, ?_⟩, hk⟩
  · intro r hr
    rw [List.append_nil] at hr
    rcases List.mem_append.1 hr with hr | hr
    · exact h.flat r (by simpa using hr)
    · rw [List.mem_singleton.1 hr]; exact hfl
  · intro j hj hj' _
    by_cases hlt : j < ys.length
    · have h1 := hap _ _ _ (hWO.at_ j hlt (by rw [h.len]; exact hlt) (Nat.zero_le _))
      rw [List.getElem_append_left (by rw [h.len]; exact hlt), List.getElem_append_left hlt]
      exact h1
    · have hj3 : j = ys.length := by simp at hj; omega
      subst hj3
      obtain ⟨ca', c', h1⟩ := hap _ _ _ hrow
      have h2 := (h1.low hb).row
      rw [List.getElem_append_right (by rw [h.len]; exact Nat.le_refl _), List.getElem_append_right (Nat.le_refl _)]
      simp only [h.len, Nat.sub_self, List.getElem_cons_zero]
      exact h2
  · rw [List.pairwise_append]
    refine ⟨h.apart, List.pairwise_singleton _ _, fun r hr r' hr' => ?_⟩
    rw [List.mem_singleton.1 hr']
    obtain ⟨j, hj, rfl⟩ := List.mem_iff_getElem.1 hr
    have h1 := (h.at_ j (by rw [← h.len]; exact hj) hj (Nat.zero_le _)).lt
    have h2 := hrow.lt
    exact ⟨by omega, by omega⟩
/-- one row more behind the entries -/
theorem Lents.behind {P : Program} {bytes : Nat} (h : Lents base ok w acc 0 ys rows []) (hb : base ≤ w.heap.size) (hok : ∀ k, ok k → k < base) {B c : Nat} {cs : List Value} (hfl : Flat 11 cs)
    (hB : w.heap[B]? = some (.cells cs.toArray 38 (0, 0)))
    (t ty : TypeId) (i : TypeInfo) (z : Value) (ht : P.underlying t = some (.slice 38)) (hi : P.info? 38 = some i) (hz : i.zero = some z) (hsize : i.size = 11) (hby : i.bytes = bytes) (hzs : z.cells.size = 11)
    (hm : ys.length + 1 ≤ maxLen) (hbytes : (ys.length + 1) * bytes ≤ 140737488355328) :
    ∃ v' w', (Builtin.append_ #[t, t] ty #[acc, .slice (some ⟨B, 0, none⟩) 1 c]).run P w = .ok v' w' ∧ Lents base ok w' v' 0 ys rows [cs] ∧ Kept (fun k => some k = acc.ownBlock) w w' := by
  have hown : w.ownsRow base 38 11 acc ys.length rows.flatten := by simpa using h.own
  obtain ⟨v', w', hr, o1, o2, o3⟩ := run_append_apart (P := P) w base t ty _ i z 11 bytes ht hi hz hsize hby hzs (by decide) acc ys.length rows.flatten hown ⟨B, 0, none⟩ 1 c cs (by rw [hfl.1])
    (fun j u hu => by rw [Addr.add_mid]; exact range_row hB j u hu) hfl.2 hm hbytes hb
  have hk : Kept (fun k => some k = acc.ownBlock) w w' := Kept.of_grownBy o2
  have hd : Disj ok (fun k => some k = acc.ownBlock) := fun k hk1 hk2 => by
    have h1 := hok k hk1
    have h2 := (hown.lt k hk2.symm).1
    omega
  refine ⟨v', w', hr, ⟨by simpa using o1, h.len, ?_, ?_, h.apart⟩, hk⟩
  · intro r hr
    rcases List.mem_append.1 hr with hr | hr
    · exact h.flat r (by simpa using hr)
    · rw [List.mem_singleton.1 hr]; exact hfl
  · intro j hj hj' hk0
    have h1 := h.at_ j hj hj' hk0
    rcases h.block with h0 | ⟨g, cur, h0, hbg, hh⟩
    · exact h1.keepTo hk (by rw [h0]; simp) (by rw [h0]; simp) hd
    · have ha := h1.apart hh
      exact h1.keepTo hk (by rw [h0]; simpa using ha.1) (by rw [h0]; simpa using ha.2) hd
/-- the row at i -/
theorem Lents.range (h : Lents base ok w acc k ys rows more) {g n c : Nat} (hacc : acc = .slice (some ⟨g, 0, none⟩) n c) {i : Nat} (hi : i < (rows ++ more).length) : w.rangeAt g (i * 11) (rows ++ more)[i] := by
  intro j v hv
  have hl : ∀ r ∈ rows ++ more, r.length = 11 := fun r hr => (h.flat r hr).1
  obtain ⟨hj, rfl⟩ := List.getElem?_eq_some_iff.1 hv
  have := World.ownsRow.cells h.own (g := g) (by rw [hacc]; rfl) (i * 11 + j) _ (flatten_get (rows ++ more) i j hi hl hj)
  rw [Addr.add_mid, Nat.zero_add] at this
  exact this
/-- what was lent at number k is written over -/
theorem Lents.step (h : Lents base ok w acc k ys rows more) (hk : k < rows.length) (hok : ∀ k, ok k → k < base) (hK : Kept (Two (blkOf rows[k] 6) (blkOf rows[k] 10)) w w') : Lents base ok w' acc (k + 1) ys rows more := by
  have hky : k < ys.length := by rw [← h.len]; exact hk
  have hr := h.at_ k hky hk (Nat.le_refl _)
  have hlt := hr.lt
  have hd : Disj ok (Two (blkOf rows[k] 6) (blkOf rows[k] 10)) := fun j hj hj' => by
    have := hok j hj
    rcases hj' with hj' | hj' <;> omega
  refine ⟨?_, h.len, h.flat, ?_, h.apart⟩
  · rcases h.own with ⟨h1, ⟨rfl, hn⟩ | ⟨g, cap, cur, rfl, hb, hh, rest⟩⟩
    · exact ⟨h1, Or.inl ⟨rfl, hn⟩⟩
    · have ha := hr.apart hh
      refine ⟨h1, Or.inr ⟨g, cap, cur, rfl, hb, ?_, rest⟩⟩
      rw [hK.block g (lt_of_block hh) (fun hs => by rcases hs with hs | hs <;> omega)]
      exact hh
  · intro i hi hi' hki
    have h1 := h.at_ i hi hi' (by omega)
    have hap := List.pairwise_iff_getElem.1 h.apart k i hk hi' (by omega)
    have hx := h1
    obtain ⟨ca1, c1, hx1⟩ := hx
    obtain ⟨ca2, c2, hx2⟩ := hr
    obtain ⟨_, u1, a1, _⟩ := hx1.acl.blk
    obtain ⟨_, u2, a2, _⟩ := hx1.subs.blk
    obtain ⟨_, u3, a3, _⟩ := hx2.acl.blk
    obtain ⟨_, u4, a4, _⟩ := hx2.subs.blk
    have e1 := types_apart a4 a1
    have e2 := types_apart a2 a3
    exact h1.keepTo hK (fun hs => by rcases hs with hs | hs; exact hap.1 hs.symm; exact e1 hs.symm) (fun hs => by rcases hs with hs | hs; exact e2 hs; exact hap.2 hs.symm) hd
end
end Go.Proofs.YtpmemcpfoapjmaaGreat

namespace Go.Proofs.YtpmemcpfoapjmaaGreat
open Go.ChangeShapes Go.WideShapes Go.ChangeAt Go.RowKit
set_option linter.unusedVariables false

theorem layN_num {α : Type} (f : Fmt α) (hp : ∀ a, 0 < (f.lay a).length) (l : List α) : l.length ≤ (layN f l).length := by
  induction l with
  | nil => simp
  | cons a l ih =>
    have h : layN f (a :: l) = f.lay a ++ layN f l := by simp [layN]
    rw [h, List.length_append, List.length_cons]
    have := hp a
    omega
theorem layN_mem {α : Type} (f : Fmt α) (l : List α) : ∀ a ∈ l, (f.lay a).length ≤ (layN f l).length := by
  induction l with
  | nil => simp
  | cons a l ih =>
    have h : layN f (a :: l) = f.lay a ++ layN f l := by simp [layN]
    intro b hb
    rw [h, List.length_append]
    rcases List.mem_cons.1 hb with rfl | hb
    · omega
    · have := ih b hb
      omega
theorem num_pos (a : Int) : 0 < (numF.lay a).length := sev_length_pos (zz a)
theorem acl_pos' (a : Acl) : 0 < (aclF.lay a).length := by
  have h : aclF.lay a = sev (zz a.perms) ++ (textF 4096).lay a.id := rfl
  rw [h, List.length_append]
  have := sev_length_pos (zz a.perms)
  omega
theorem part_pos' (p : Part) : 0 < (partF.lay p).length := by
  obtain ⟨r, h⟩ : ∃ r, partF.lay p = sev (zz p.kind) ++ r := ⟨_, rfl⟩
  rw [h, List.length_append]
  have := sev_length_pos (zz p.kind)
  omega
theorem entry_pos (x : Entry) : 0 < (entryF.lay x).length := by
  obtain ⟨r, h⟩ : ∃ r, entryF.lay x = sev (zz x.zxid) ++ r := ⟨_, rfl⟩
  rw [h, List.length_append]
  have := sev_length_pos (zz x.zxid)
  omega
theorem entry_lens' (x : Entry) : x.txn.part.acl.length ≤ (entryF.lay x).length ∧ x.txn.subs.length ≤ (entryF.lay x).length := by
  have h : entryF.lay x = sev (zz x.zxid) ++ (sev (zz x.session) ++ (sev (zz x.xid) ++ (partF.lay x.txn.part ++ (listF partF).lay x.txn.subs))) := rfl
  have h2 : partF.lay x.txn.part = sev (zz x.txn.part.kind) ++ ((textF 4096).lay x.txn.part.path ++ ((textF 4096).lay x.txn.part.data ++ ((listF aclF).lay x.txn.part.acl ++ (sev (zz x.txn.part.owner) ++ (sev (zz x.txn.part.number) ++ sev (zz x.txn.part.err)))))) := rfl
  have h3 : (listF aclF).lay x.txn.part.acl = sev x.txn.part.acl.length ++ layN aclF x.txn.part.acl := rfl
  have h4 : (listF partF).lay x.txn.subs = sev x.txn.subs.length ++ layN partF x.txn.subs := rfl
  have h5 := layN_num aclF acl_pos' x.txn.part.acl
  have h6 := layN_num partF part_pos' x.txn.subs
  rw [h, h2, h3, h4]
  simp only [List.length_append]
  omega
theorem msg_lens (m : Message) : m.marks.length ≤ (messageF.lay m).length ∧ m.entries.length ≤ (messageF.lay m).length ∧ ∀ e ∈ m.entries, (entryF.lay e).length ≤ (messageF.lay m).length := by
  have h : messageF.lay m = sev (zz m.kind) ++ (sev (zz m.epoch) ++ (sev (zz m.zxid) ++ (sev (zz m.number) ++ (sev (zz m.session) ++ ((listF numF).lay m.marks ++ ((textF 65536).lay m.data ++ ((listF entryF).lay m.entries ++ (reqF.lay m.request ++ (listF (textF 4096)).lay m.ids)))))))) := rfl
  have h3 : (listF numF).lay m.marks = sev m.marks.length ++ layN numF m.marks := rfl
  have h4 : (listF entryF).lay m.entries = sev m.entries.length ++ layN entryF m.entries := rfl
  have h5 := layN_num numF num_pos m.marks
  have h6 := layN_num entryF entry_pos m.entries
  have h7 := layN_mem entryF m.entries
  rw [h, h3, h4]
  simp only [List.length_append]
  exact ⟨by omega, by omega, fun e he => by have := h7 e he; omega⟩
theorem msg_marks {w : World} {ok : Nat → Prop} {cs : List Value} {z : Message} (h : messageE w ok cs z) : ∃ v, cs[5]? = some v ∧ ListR intE w ok 1 v z.marks := by
  obtain ⟨a, b, c, d, rfl, h0, h1, h2, h3, hp⟩ := h
  exact ⟨a, rfl, h0⟩
theorem messageE_marks {w : World} {ok ok' : Nat → Prop} {cs : List Value} {y : Message} {v : Value} (h : messageE w ok cs y) (hm : ∀ k, k < w.heap.size → ok k → ok' k) (hl : ListR intE w ok' 1 v y.marks) : messageE w ok' (cs.set 5 v) y := by
  obtain ⟨a, b, c, d, rfl, h0, h1, h2, h3, hp⟩ := h
  exact ⟨v, b, c, d, rfl, hl, h1.mono entryE_ok hm, reqE_ok.mono h2 hm, h3.mono textE_ok hm, hp⟩
theorem messageE_ents {w : World} {ok ok' : Nat → Prop} {cs : List Value} {y : Message} {v : Value} (h : messageE w ok cs y) (hm : ∀ k, k < w.heap.size → ok k → ok' k) (hl : ListR entryE w ok' 11 v y.entries) : messageE w ok' (cs.set 7 v) y := by
  have := messageE_set h hm hl
  rwa [withEntries_self] at this

def entry77 : Entry := ⟨77, 0, 0, ⟨⟨0, ⟨#[]⟩, ⟨#[]⟩, [], 0, 0, 0⟩, []⟩⟩
def cells77 : List Value := [.int .i64 77, .int .i64 0, .int .i64 0, .int .i64 0, .string ⟨#[]⟩, .string ⟨#[]⟩, .slice none 0 0, .int .i64 0, .int .i64 0, .int .i64 0, .slice none 0 0]
theorem entry77_at (w : World) (ok : Nat → Prop) : entryE w ok cells77 entry77 :=
  ⟨_, rfl, ⟨_, ⟨_, rfl, ListR.nil _ _ _ _, i64_zero, str_empty, str_empty, i64_zero, i64_zero, i64_zero, ⟨_, _, _, rfl⟩⟩, ListR.nil _ _ _ _⟩, i64_77, i64_zero, i64_zero⟩
theorem cells77_flat : Flat 11 cells77 := ⟨rfl, by simp [cells77, Value.oneCell']⟩
/-- the entries of a message's list, each in its row -/
theorem list_rows {w : World} {ok : Nat → Prop} {v : Value} {l : List Entry} (h : ListR entryE w ok 11 v l) : ∀ i (hi : i < l.length), ∃ r, entryE w ok r l[i] := by
  obtain ⟨rows, _, hlen, hel⟩ := h
  exact fun i hi => ⟨_, hel i hi (by omega)⟩
theorem Lents.more {base : Nat} {ok : Nat → Prop} {w : World} {acc v0 : Value} {ys : List Entry} {rows : List (List Value)} (h : Lents base ok w acc 0 ys rows [cells77]) (h0 : ListR entryE w ok 11 v0 ys) :
    ∃ g c, acc = .slice (some ⟨g, 0, none⟩) (ys.length + 1) c ∧ More entryE base (fun k => ok k ∨ base ≤ k) w 38 11 g ys.length c ys entry77 := by
  apply More.of
  refine ⟨rows ++ [cells77], by simpa using h.own, by simp [h.len], h.flat, fun i hi hi' => ?_⟩
  by_cases hlt : i < ys.length
  · obtain ⟨r, hr⟩ := list_rows h0 i hlt
    obtain ⟨ca, c, hL⟩ := h.at_ i hlt (by rw [h.len]; exact hlt) (Nat.zero_le _)
    rw [List.getElem_append_left (by rw [h.len]; exact hlt), List.getElem_append_left hlt]
    exact lent_E hL hr
  · have hj3 : i = ys.length := by simp at hi; omega
    subst hj3
    rw [List.getElem_append_right (by rw [h.len]; exact Nat.le_refl _), List.getElem_append_right (Nat.le_refl _)]
    simp only [h.len, Nat.sub_self, List.getElem_cons_zero]
    exact entry77_at _ _
/-- the entry at number k, where its own list lends it -/
theorem Lents.kept {base : Nat} {ok : Nat → Prop} {w : World} {acc : Value} {k : Nat} {ys : List Entry} {rows more : List (List Value)} (h : Lents base ok w acc k ys rows more) (hk : k < ys.length) (hk' : k < rows.length) (hok : ∀ k, ok k → k < base) {ce : List Value} (hE : entryE w ok ce ys[k])
    (hlay : (entryF.lay ys[k]).length ≤ 20000000) :
    Calls Tryz.prog 8 #[.agg (rows[k]).toArray, .agg ce.toArray] w fun e w' => e = .returned (.bool true) ∧ Lents base ok w' acc (k + 1) ys rows more ∧ Kept (fun j => base ≤ j) w w' := by
  have hl := entry_lens' ys[k]
  obtain ⟨ca, c, hL⟩ := h.at_ k hk hk' (Nat.le_refl _)
  refine (kept_entry ys[k] rows[k] ce ok base w _ ca _ c hL hE (by omega) (by omega) (by omega)).mono ?_
  rintro e w' ⟨rfl, hK⟩
  refine ⟨rfl, h.step hk' hok hK, hK.mono fun j _ hj => ?_⟩
  have h1 := hL.acl.blk.1
  have h2 := hL.subs.blk.1
  rcases hj with hj | hj <;> omega
/-- one row more behind the entries, at a step -/
theorem step_behind {P : Program} {base bytes : Nat} {ok : Nat → Prop} {wA W : World} {acc : Value} {ys : List Entry} {rows : List (List Value)} (h : Lents base ok wA acc 0 ys rows []) (hO : Old wA W) (hb : base ≤ wA.heap.size) (hok : ∀ k, ok k → k < base)
    {B c : Nat} (hB : W.heap[B]? = some (.cells cells77.toArray 38 (0, 0)))
    {ops : Array Oper} {o : Oper} {a : Act} {K : Act → World → Prop} {Q : Exit → Act → World → Prop} {F : Prop} (hgd : o.guard = none) (s x : Operand) (t : TypeId)
    (ho : o.op = .call { callee := .builtin .append, args := #[s, x], argTypes := #[t, t] }) (hs : a.eval s = acc) (hx : a.eval x = .slice (some ⟨B, 0, none⟩) 1 c)
    (i : TypeInfo) (z : Value) (ht : P.underlying t = some (.slice 38)) (hi : P.info? 38 = some i) (hz : i.zero = some z) (hsize : i.size = 11) (hby : i.bytes = bytes) (hzs : z.cells.size = 11)
    (hm : ys.length + 1 ≤ maxLen) (hbytes : (ys.length + 1) * bytes ≤ 140737488355328)
    (hh : ∀ v' w', Lents base ok w' v' 0 ys rows [cells77] → Kept (fun j => base ≤ j) wA w' → K (a.put o.dst v') w') : if Region.wanted o (yielded ops a.tmps) = true then Oper.wp P o a W K Q else F := by
  obtain ⟨v', w', hr, h1, h2⟩ := (h.old hO).behind (P := P) (Nat.le_trans hb hO.size) hok cells77_flat hB t o.type i z ht hi hz hsize hby hzs hm hbytes
  have hown := (h.old hO).own.lt
  exact step_append_run hgd s x t ho _ _ hs hx v' w' hr (hh v' w' h1 ((o_keptS hO).trans (h2.mono fun j _ hj => (hown j hj.symm).1)))

theorem Lents.form {base : Nat} {ok : Nat → Prop} {w : World} {acc : Value} {k : Nat} {ys : List Entry} {rows : List (List Value)} {r : List Value} (h : Lents base ok w acc k ys rows [r]) : ∃ g c, acc = .slice (some ⟨g, 0, none⟩) (ys.length + 1) c ∧ ys.length + 1 ≤ c ∧ c ≤ maxLen ∧ base ≤ g ∧ g < w.heap.size := by
  rcases h.own.2 with ⟨_, hn⟩ | ⟨g, cap, cur, rfl, hb, hh, hnc, hcm, hcs, htake⟩
  · simp at hn
  · exact ⟨g, cap, rfl, hnc, hcm, hb, lt_of_block hh⟩
theorem k_set {w w' : World} {b g i : Nat} {v : Value} (h : Kept (fun j => b ≤ j ∨ j = g) w w') : Kept (fun j => b ≤ j ∨ j = g) w (w'.setCell ⟨g, i, none⟩ v) := Kept.setCell h (a := ⟨g, i, none⟩) (Or.inl (Or.inr rfl)) v
theorem Lents.keepBox {base : Nat} {ok : Nat → Prop} {w w' : World} {acc : Value} {k : Nat} {ys : List Entry} {rows more : List (List Value)} (h : Lents base ok w acc k ys rows more) {g : Nat} (hg : g < base) (hok : ∀ k, ok k → k < base) (hgo : ¬ ok g) {c : Array Value} {T : TypeId} (hb : w.heap[g]? = some (.cells c T (0, 0))) (hK : Kept (fun j => j = g) w w') : Lents base ok w' acc k ys rows more :=
  h.keep hK (fun j hj hj' => by have h2 : j = g := hj'; omega) (fun j hj hj' => by have h2 : j = g := hj'; exact hgo (h2 ▸ hj))
end Go.Proofs.YtpmemcpfoapjmaaGreat
