/- WireRequests holds, of an argument of bulk at most 1048576: any request is laid as the document lays it, and read again as the document reads it (W1, W2). Condition: the argument is of bulk at most 1048576. -/
import Derived.Test.YtngcfnffbggniaaRtreq
import Derived.Test.YtngcfnffbggniaaIreq
import Derived.Outline
import Derived.Test.YtngcfnffbggniaaRreq
import Derived.Test.YtngcfnffbggniaaGot
import Derived.Test.YtngcfnffbggniaaOver
import Derived.Deep.RegionHeld3
import Derived.Deep.DeepCutAuto
import Derived.WalkSpells
import Derived.Test.YtngcfnffbggniaaWawake
import Derived.Test.YtngcfnffbggniaaRows
import Derived.Test.YtngcfnffbggniaaOpen
import Derived.WalkKit
import Derived.ProofKit
import Derived.OpenShut
import Derived.JoinedCond
import Derived.ChangeOld
import Derived.Below
namespace Go.Proofs.Ytngcfnffbggniaa
open Go.ChangeShapes Go.WideShapes Go.ChangeAt Go.RowKit
set_option linter.unusedVariables false

set_option maxRecDepth 100000 in
set_option maxHeartbeats 1600000 in
theorem refget_req (s : ByteArray) (w : World) (hs : s.size ≤ 140737488355328) :
    Calls Try.prog 44 #[.string s] w (TakenPost reqE zReq w (reqF.read s)) := by
  have HSZ := Lib.hid (show (Try.prog.info? 38).map (·.size) = some 10 by kernel_rfl)
  obtain ⟨x, q, e, g1⟩ : ∃ aa qq ee, reqF.get s.data.toList 0 0 = (aa, qq, ee) := ⟨_, _, _, eta3 _⟩
  have hread : reqF.read s = if rEndE s.data.toList.length q e = 0 then some x else none := by unfold Fmt.read; rw [g1]
  rw [str_len] at hread
  generalize reqF.read s = ro at hread ⊢
  have HREAD := Lib.hid hread; clear hread
  have KE := Lib.hid (fend_of s q e)
  have HE0 := Lib.hid (show rEndE s.size q e = 0 → e = 0 from fun h => (rEndE_zero h).1)
  generalize hr : rEndE s.size q e = r at HREAD KE HE0
  clear hr
  have hW : FAt ((w.alloc (.cells ([.int .i64 0, .int .i64 0, .string ⟨#[]⟩, .string ⟨#[]⟩, .slice none 0 0, .int .i64 0, .int .i64 0, .bool false, .slice none 0 0, .slice none 0 0] : List Value).toArray 38)).alloc (.cells #[.string s, .int .i64 0, .int .i64 0] 116)) (w.heap.size + 1) s 0 0 := by
    have h := fresh_reader (w.alloc (.cells ([.int .i64 0, .int .i64 0, .string ⟨#[]⟩, .string ⟨#[]⟩, .slice none 0 0, .int .i64 0, .int .i64 0, .bool false, .slice none 0 0, .slice none 0 0] : List Value).toArray 38)) s hs
    rwa [show (w.alloc (.cells ([.int .i64 0, .int .i64 0, .string ⟨#[]⟩, .string ⟨#[]⟩, .slice none 0 0, .int .i64 0, .int .i64 0, .bool false, .slice none 0 0, .slice none 0 0] : List Value).toArray 38)).heap.size = w.heap.size + 1 from by simp] at h
  have hb0 : ((w.alloc (.cells ([.int .i64 0, .int .i64 0, .string ⟨#[]⟩, .string ⟨#[]⟩, .slice none 0 0, .int .i64 0, .int .i64 0, .bool false, .slice none 0 0, .slice none 0 0] : List Value).toArray 38)).alloc (.cells #[.string s, .int .i64 0, .int .i64 0] 116)).heap[w.heap.size]? = some (.cells ([.int .i64 0, .int .i64 0, .string ⟨#[]⟩, .string ⟨#[]⟩, .slice none 0 0, .int .i64 0, .int .i64 0, .bool false, .slice none 0 0, .slice none 0 0] : List Value).toArray 38 (0, 0)) := by
    rw [((Old.refl (w.alloc (.cells ([.int .i64 0, .int .i64 0, .string ⟨#[]⟩, .string ⟨#[]⟩, .slice none 0 0, .int .i64 0, .int .i64 0, .bool false, .slice none 0 0, .slice none 0 0] : List Value).toArray 38))).make _).block _ (by simp) id]; exact heap_alloc_new w _
  have hO0 : Old w ((w.alloc (.cells ([.int .i64 0, .int .i64 0, .string ⟨#[]⟩, .string ⟨#[]⟩, .slice none 0 0, .int .i64 0, .int .i64 0, .bool false, .slice none 0 0, .slice none 0 0] : List Value).toArray 38)).alloc (.cells #[.string s, .int .i64 0, .int .i64 0] 116)) := ((Old.refl w).make _).make _
  have hs0 : w.heap.size + 2 ≤ ((w.alloc (.cells ([.int .i64 0, .int .i64 0, .string ⟨#[]⟩, .string ⟨#[]⟩, .slice none 0 0, .int .i64 0, .int .i64 0, .bool false, .slice none 0 0, .slice none 0 0] : List Value).toArray 38)).alloc (.cells #[.string s, .int .i64 0, .int .i64 0] 116)).heap.size := by simp
  have K1 := Lib.hid (reftake_req _ _ s 0 0 0 hW (fun _ => rfl) g1)
  have HB := Lib.hid hb0; clear hb0
  have HO := Lib.hid hO0; clear hO0
  have HS0 := Lib.hid hs0; clear hs0
  clear hW g1
  go_enter Try.func44, Try.ntmps44
  go_wp2_with fail
  refine K1.out.mono ?_
  rintro en w0 ⟨cs, p0, rfl, hfl, hnl, hE0, hF0, hp0, hk0⟩
  have hA : Kept (fun _ => False) w0 (w0.alloc (.cells cs.toArray 38)) := (Kept.refl _ w0).alloc _
  have hz0 := Nat.le_trans HS0.out hk0.size
  have hbr : w0.heap[w.heap.size]? = some (.cells ([.int .i64 0, .int .i64 0, .string ⟨#[]⟩, .string ⟨#[]⟩, .slice none 0 0, .int .i64 0, .int .i64 0, .bool false, .slice none 0 0, .slice none 0 0] : List Value).toArray 38 (0, 0)) := (hk0.block _ (lt_of_block HB.out) (fun h => by have h' : w.heap.size = w.heap.size + 1 := h; omega)).trans HB.out
  have hbr1 := (hA.block _ (lt_of_block hbr) id).trans hbr
  have hO1 : Old w w0 := HO.out.step hk0 (fun k h => by have h' : k = w.heap.size + 1 := h; omega)
  have hO2 := hO1.none hA
  have hF1 := hF0.keep hA id
  have hbox := heap_alloc_new w0 (.cells cs.toArray 38)
  have hE1 : WkE e reqE (w0.alloc (.cells cs.toArray 38)) (fun j => w.heap.size + 2 ≤ j ∧ j ≠ w0.heap.size) cs x :=
    (WkE_ok reqE_ok).keep ((WkE_ok reqE_ok).mono hE0 (fun j hj hj' => ⟨Nat.le_trans HS0.out hj', by omega⟩)) hA (disj_none _)
  have HFL := Lib.hid hfl
  have HP0 := Lib.hid hp0
  clear hk0 hbr hO1 hF0 hE0 hfl hp0 hnl hA K1 HB HO HS0
  go_wp2_with (refine wpList_store_new w0 rfl 38 _ _ rfl _ cs rfl rfl (by rw [HFL.out.1]; exact HSZ.out) HFL.out.1.symm HFL.out.2 ?_)
  refine (KE.out _ _ _ hF1 HP0.out).mono ?_
  rintro en wz ⟨pz, rfl, hFz, hpz, hkz⟩
  have HBX := Lib.hid ((hkz.block _ (lt_of_block hbox) (fun h => by have h' : w0.heap.size = w.heap.size + 1 := h; omega)).trans hbox)
  have HRES := Lib.hid ((hkz.block _ (lt_of_block hbr1) (fun h => by have h' : w.heap.size = w.heap.size + 1 := h; omega)).trans hbr1)
  have HOZ := Lib.hid (hO2.step hkz (fun k h => by have h' : k = w.heap.size + 1 := h; omega))
  have HEZ := Lib.hid ((WkE_ok reqE_ok).keep hE1 hkz (fun j hj hs => by have := hj.1; have hs' : j = w.heap.size + 1 := hs; omega))
  clear hkz hpz hFz hF1 hbox hbr1 hO2 hE1 HP0 KE
  by_cases h0 : r = 0
  · have hrd : ro = some x := by rw [HREAD.out, if_pos h0]
    have HRD := Lib.hid hrd; clear hrd
    have HEE := Lib.hid (HE0.out h0)
    have h0' : ((r : Nat) : Int) = 0 := by omega
    generalize ((r : Nat) : Int) = ri at h0'
    subst h0'
    clear h0 HREAD HE0
    have HRG := Lib.hid (range_row HBX.out)
    have HSE2 := Lib.hid (info_len HSZ.out HFL.out.1)
    go_wp2_with (first
      | (refine wpList_load_mid rfl 38 (.tmp 5) rfl w0.heap.size 0 rfl cs _ HRG.out Try.underlying38 rfl HSE2.out ?_)
      | (refine wpList_store_row _ rfl 38 (.tmp 2) (.tmp 15) rfl w.heap.size _ cs rfl rfl HRES.out HSE2.out HFL.out.1.symm HFL.out.2 ?_))
    have hrow := setRow_heap wz w.heap.size _ cs.toArray _ _ HRES.out
    have hload := run_loadVar_row (P := Try.prog) _ w.heap.size 38 38 _ (0, 0) _ hrow Try.underlying38 rfl (by rw [List.size_toArray]; exact HSE2.out)
    refine ret_cell_tmp 2 38 3 w.heap.size _ _ Try.results44 rfl rfl hload rfl ⟨_, by rw [HRD.out]; rfl, old_setRow HOZ.out _, ?_⟩
    rw [HRD.out]
    exact reqE_ok.mono (reqE_ok.keep (HEZ.out HEE.out) (setRow_kept wz w.heap.size cs.toArray) (fun j hj hs => by have := hj.1; have hs' : j = w.heap.size := hs; omega)) (fun j _ hj => by have := hj.1; unfold New; omega)
  · have hrd : ro = none := by rw [HREAD.out, if_neg h0]
    have HRD := Lib.hid hrd; clear hrd
    have h0' : ¬ ((r : Nat) : Int) = 0 := by omega
    generalize ((r : Nat) : Int) = ri at h0'
    clear h0 HREAD HE0
    go_wp2_with (refine wpList_store_row _ rfl 38 _ _ rfl w.heap.size _ [.int .i64 0, .int .i64 0, .string ⟨#[]⟩, .string ⟨#[]⟩, .slice none 0 0, .int .i64 0, .int .i64 0, .bool false, .slice none 0 0, .slice none 0 0] rfl rfl HRES.out HSZ.out rfl (by simp [Value.oneCell']) ?_)
    have hrow := setRow_heap wz w.heap.size _ ([.int .i64 0, .int .i64 0, .string ⟨#[]⟩, .string ⟨#[]⟩, .slice none 0 0, .int .i64 0, .int .i64 0, .bool false, .slice none 0 0, .slice none 0 0] : List Value).toArray _ _ HRES.out
    have hload := run_loadVar_row (P := Try.prog) _ w.heap.size 38 38 _ (0, 0) _ hrow Try.underlying38 rfl (by rw [List.size_toArray]; exact HSZ.out)
    exact ret_cell_tmp 2 38 3 w.heap.size _ _ Try.results44 rfl rfl hload rfl ⟨_, by rw [HRD.out]; rfl, old_setRow HOZ.out _, by rw [HRD.out]; exact zReq_at _ _⟩
end Go.Proofs.Ytngcfnffbggniaa

namespace Go.Proofs.Ytngcfnffbggniaa
open Go.ChangeShapes Go.WideShapes Go.ChangeAt Go.RowKit
set_option linter.unusedVariables false

theorem both_req (s : ByteArray) (hs : s.size ≤ 140737488355328) : ∃ (y : Req) (e : Int), (reqF.lay y).length ≤ 1000000000000000 ∧
    (∀ W : World, Calls Try.prog 45 #[.string s] W fun en w' => ∃ cs : List Value, en = .returned (.tuple #[.agg cs.toArray, .int .i64 e]) ∧ Old W w' ∧ reqE w' (New W) cs y) ∧
    (∀ W : World, Calls Try.prog 44 #[.string s] W fun en w' => ∃ cs : List Value, en = .returned (.tuple #[.agg cs.toArray, .int .i64 e]) ∧ Old W w' ∧ reqE w' (New W) cs y) := by
  refine ⟨(reqF.read s).getD zReq, errOf (reqF.read s), ?_, fun W => (GetRequest_any s W (by unfold maxLen; omega)).mono fun en w' ⟨cs, he, hO, hE⟩ => ⟨cs, he, hO, hE⟩, fun W => (refget_req s W hs).mono fun en w' ⟨cs, he, hO, hE⟩ => ⟨cs, he, hO, hE⟩⟩
  cases h : reqF.read s with
  | none => show (reqF.lay zReq).length ≤ _; decide
  | some x => rw [show (some x).getD zReq = x from rfl, lay_len reqF_ok h]; omega

/-- where its lists lie -/
theorem req_th {w : World} {ok : Nat → Prop} {y : Req} {cs : List Value} (h : reqE w ok cs y) {base : Nat} (hb : ∀ k, ok k → base ≤ k) {aA : Option Addr} {aAn aAc : Nat} {aS : Option Addr} {aSn aSc : Nat} {aR : Option Addr} {aRn aRc : Nat} (hcs : cs = [.int .i64 y.op.kind, .int .i64 y.op.xid, .string y.op.path, .string y.op.data, .slice aA aAn aAc, .int .i64 y.op.flags, .int .i64 y.op.version, .bool y.op.watch, .slice aS aSn aSc, .slice aR aRn aRc]) :
    ThL w base w.heap.size 5 (.slice aR aRn aRc) ∧ ThL w base w.heap.size 10 (.slice aS aSn aSc) ∧ ThL w base w.heap.size 2 (.slice aA aAn aAc) := by
  obtain ⟨vs1, vs2, ⟨va, hcl, hA, _⟩, hS, hR⟩ := h
  rw [hcs] at hcl
  simp only [List.cons.injEq, and_true] at hcl
  obtain ⟨_, _, _, _, rfl, _, _, _, rfl, rfl⟩ := hcl
  exact ⟨hR.th hb, hS.th hb, hA.th hb⟩

set_option maxRecDepth 100000 in
set_option maxHeartbeats 1000000 in
theorem law_req (s : ByteArray) (w : World) (hs : s.size ≤ 140737488355328) : Calls Try.prog 17 #[.string s] w fun e w' => e = .returned (.bool true) ∧ Old w w' := by
  have HSZ := Lib.hid (show (Try.prog.info? 38).map (·.size) = some 10 by kernel_rfl)
  have HSR := Lib.hid (show (Try.prog.info? 83).map (·.size) = some 5 by kernel_rfl)
  have HSS := Lib.hid (show (Try.prog.info? 38).map (·.size) = some 10 by kernel_rfl)
  have HSA := Lib.hid (show (Try.prog.info? 73).map (·.size) = some 2 by kernel_rfl)
  obtain ⟨y, e, hlay, pa, px⟩ := both_req s hs
  obtain ⟨l, hl⟩ : ∃ l, reqF.lay y = l := ⟨_, rfl⟩
  have PA := Lib.hid pa; clear pa
  have PX := Lib.hid px; clear px
  have PL := Lib.hid (show ∀ (cs : List Value) (ok : Nat → Prop) (W : World), reqE W ok cs y → Calls Try.prog 16 #[.agg cs.toArray] W (OldStr W l) from fun cs ok W hE => by rw [← hl]; exact refput_req y cs ok W hE hlay)
  clear hl hlay
  go_enter Try.func17, Try.ntmps17
  go_wp2_with fail
  refine (PX.out _).mono ?_
  rintro en w1 ⟨cx, rfl, hO1, hEx⟩
  obtain ⟨xA, xAn, xAc, xS, xSn, xSc, xR, xRn, xRc, rfl⟩ := reqE_cells hEx
  have hA1 : Old w1 (w1.alloc (.cells ([.int .i64 y.op.kind, .int .i64 y.op.xid, .string y.op.path, .string y.op.data, .slice xA xAn xAc, .int .i64 y.op.flags, .int .i64 y.op.version, .bool y.op.watch, .slice xS xSn xSc, .slice xR xRn xRc] : List Value).toArray 38)) := (Old.refl _).make _
  have HX := Lib.hid (reqE_ok.keep hEx hA1 (disj_none _))
  have HBX := Lib.hid (heap_alloc_new w1 (.cells ([.int .i64 y.op.kind, .int .i64 y.op.xid, .string y.op.path, .string y.op.data, .slice xA xAn xAc, .int .i64 y.op.flags, .int .i64 y.op.version, .bool y.op.watch, .slice xS xSn xSc, .slice xR xRn xRc] : List Value).toArray 38))
  have HO1 := Lib.hid (hO1.none hA1)
  clear hEx hO1 hA1
  go_wp2_with (refine wpList_store_new w1 rfl 38 _ _ rfl _ [.int .i64 y.op.kind, .int .i64 y.op.xid, .string y.op.path, .string y.op.data, .slice xA xAn xAc, .int .i64 y.op.flags, .int .i64 y.op.version, .bool y.op.watch, .slice xS xSn xSc, .slice xR xRn xRc] rfl rfl HSZ.out rfl (by simp [Value.oneCell']) ?_)
  generalize w1.alloc (.cells ([.int .i64 y.op.kind, .int .i64 y.op.xid, .string y.op.path, .string y.op.data, .slice xA xAn xAc, .int .i64 y.op.flags, .int .i64 y.op.version, .bool y.op.watch, .slice xS xSn xSc, .slice xR xRn xRc] : List Value).toArray 38) = W1 at HX HBX HO1 ⊢
  go_loopw [5] (fun iv wr => ∃ t : Nat, iv = .int .i64 (t : Nat) ∧ t ≤ 2 ∧ Old W1 wr) (fun iv _ => 2 - (intOf iv).toNat)
  case atStart => exact ⟨0, rfl, by omega, Old.refl _⟩
  case round =>
    obtain ⟨t, rfl, ht, hOr⟩ := hrel
    by_cases hlt : t < 2
    · have htl : (t : Int) < 2 := by omega
      go_wp2_with fail
      refine (PA.out _).mono ?_
      rintro en w2 ⟨ca, rfl, hO2, hEa⟩
      obtain ⟨aA, aAn, aAc, aS, aSn, aSc, aR, aRn, aRc, rfl⟩ := reqE_cells hEa
      have hA2 : Old w2 (w2.alloc (.cells ([.int .i64 y.op.kind, .int .i64 y.op.xid, .string y.op.path, .string y.op.data, .slice aA aAn aAc, .int .i64 y.op.flags, .int .i64 y.op.version, .bool y.op.watch, .slice aS aSn aSc, .slice aR aRn aRc] : List Value).toArray 38)) := (Old.refl _).make _
      have HEA := Lib.hid (reqE_ok.keep hEa hA2 (disj_none _))
      have HTH := Lib.hid (req_th hEa (base := wr.heap.size) (fun k hk => hk) rfl)
      have HBA := Lib.hid (heap_alloc_new w2 (.cells ([.int .i64 y.op.kind, .int .i64 y.op.xid, .string y.op.path, .string y.op.data, .slice aA aAn aAc, .int .i64 y.op.flags, .int .i64 y.op.version, .bool y.op.watch, .slice aS aSn aSc, .slice aR aRn aRc] : List Value).toArray 38))
      have hO3 : Old wr (w2.alloc (.cells ([.int .i64 y.op.kind, .int .i64 y.op.xid, .string y.op.path, .string y.op.data, .slice aA aAn aAc, .int .i64 y.op.flags, .int .i64 y.op.version, .bool y.op.watch, .slice aS aSn aSc, .slice aR aRn aRc] : List Value).toArray 38)) := hO2.none hA2
      have HO3 := Lib.hid hO3
      have HA2 := Lib.hid hA2
      have HX3 := Lib.hid (reqE_ok.keep HX.out (hOr.none hO3) (disj_none _))
      have HBX3 := Lib.hid (((hOr.none hO3).block _ (lt_of_block HBX.out) id).trans HBX.out)
      have HZ2 := Lib.hid hO2.size
      have HOR := Lib.hid hOr
      have hsz : w2.heap.size + 1 ≤ (w2.alloc (.cells ([.int .i64 y.op.kind, .int .i64 y.op.xid, .string y.op.path, .string y.op.data, .slice aA aAn aAc, .int .i64 y.op.flags, .int .i64 y.op.version, .bool y.op.watch, .slice aS aSn aSc, .slice aR aRn aRc] : List Value).toArray 38)).heap.size := by simp
      clear hEa hO2 hA2 hO3 hOr
      go_upto_region 6 with (refine wpList_store_new w2 rfl 38 _ _ rfl _ [.int .i64 y.op.kind, .int .i64 y.op.xid, .string y.op.path, .string y.op.data, .slice aA aAn aAc, .int .i64 y.op.flags, .int .i64 y.op.version, .bool y.op.watch, .slice aS aSn aSc, .slice aR aRn aRc] rfl rfl HSZ.out rfl (by simp [Value.oneCell']) ?_)
      generalize w2.alloc (.cells ([.int .i64 y.op.kind, .int .i64 y.op.xid, .string y.op.path, .string y.op.data, .slice aA aAn aAc, .int .i64 y.op.flags, .int .i64 y.op.version, .bool y.op.watch, .slice aS aSn aSc, .slice aR aRn aRc] : List Value).toArray 38) = W2 at HEA HBA HO3 HX3 HBX3 HA2 hsz ⊢
      have HSS := Lib.hid (show ∀ w', Old W2 w' → w'.cell? ⟨w2.heap.size, 0, none⟩ = some (.int .i64 y.op.kind) ∧ w'.cell? ⟨w2.heap.size, 1, none⟩ = some (.int .i64 y.op.xid) ∧ w'.cell? ⟨w2.heap.size, 2, none⟩ = some (.string y.op.path) ∧ w'.cell? ⟨w2.heap.size, 3, none⟩ = some (.string y.op.data) ∧ w'.cell? ⟨w2.heap.size, 4, none⟩ = some (.slice aA aAn aAc) ∧ w'.cell? ⟨w2.heap.size, 5, none⟩ = some (.int .i64 y.op.flags) ∧ w'.cell? ⟨w2.heap.size, 6, none⟩ = some (.int .i64 y.op.version) ∧ w'.cell? ⟨w2.heap.size, 7, none⟩ = some (.bool y.op.watch) ∧ w'.cell? ⟨w2.heap.size, 8, none⟩ = some (.slice aS aSn aSc) ∧ w'.cell? ⟨w2.heap.size, 9, none⟩ = some (.slice aR aRn aRc) ∧ w'.cell? ⟨w1.heap.size, 0, none⟩ = some (.int .i64 y.op.kind) ∧ w'.cell? ⟨w1.heap.size, 1, none⟩ = some (.int .i64 y.op.xid) ∧ w'.cell? ⟨w1.heap.size, 2, none⟩ = some (.string y.op.path) ∧ w'.cell? ⟨w1.heap.size, 3, none⟩ = some (.string y.op.data) ∧ w'.cell? ⟨w1.heap.size, 4, none⟩ = some (.slice xA xAn xAc) ∧ w'.cell? ⟨w1.heap.size, 5, none⟩ = some (.int .i64 y.op.flags) ∧ w'.cell? ⟨w1.heap.size, 6, none⟩ = some (.int .i64 y.op.version) ∧ w'.cell? ⟨w1.heap.size, 7, none⟩ = some (.bool y.op.watch) ∧ w'.cell? ⟨w1.heap.size, 8, none⟩ = some (.slice xS xSn xSc) ∧ w'.cell? ⟨w1.heap.size, 9, none⟩ = some (.slice xR xRn xRc) ∧ Old W2 w' from fun w' hO => by
        have ha := fun i v hv => cell_of_heap (i := i) (v := v) ((hO.block _ (lt_of_block HBA.out) id).trans HBA.out) hv
        have hx := fun i v hv => cell_of_heap (i := i) (v := v) ((hO.block _ (lt_of_block HBX3.out) id).trans HBX3.out) hv
        exact ⟨ha 0 _ rfl, ha 1 _ rfl, ha 2 _ rfl, ha 3 _ rfl, ha 4 _ rfl, ha 5 _ rfl, ha 6 _ rfl, ha 7 _ rfl, ha 8 _ rfl, ha 9 _ rfl, hx 0 _ rfl, hx 1 _ rfl, hx 2 _ rfl, hx 3 _ rfl, hx 4 _ rfl, hx 5 _ rfl, hx 6 _ rfl, hx 7 _ rfl, hx 8 _ rfl, hx 9 _ rfl, hO⟩)
      have KA := Lib.hid (fun W (h : Old W2 W) => PL.out [.int .i64 y.op.kind, .int .i64 y.op.xid, .string y.op.path, .string y.op.data, .slice aA aAn aAc, .int .i64 y.op.flags, .int .i64 y.op.version, .bool y.op.watch, .slice aS aSn aSc, .slice aR aRn aRc] _ W (reqE_ok.keep HEA.out h (disj_none _)))
      have KX := Lib.hid (fun W (h : Old W2 W) => PL.out [.int .i64 y.op.kind, .int .i64 y.op.xid, .string y.op.path, .string y.op.data, .slice xA xAn xAc, .int .i64 y.op.flags, .int .i64 y.op.version, .bool y.op.watch, .slice xS xSn xSc, .slice xR xRn xRc] _ W (reqE_ok.keep HX3.out h (disj_none _)))
      go_cut [34] (fun v wx => v = .bool false ∧ Old W2 wx)
      case first =>
        go_region_held3 (fun w' => w'.cell? ⟨w2.heap.size, 0, none⟩ = some (.int .i64 y.op.kind) ∧ w'.cell? ⟨w2.heap.size, 1, none⟩ = some (.int .i64 y.op.xid) ∧ w'.cell? ⟨w2.heap.size, 2, none⟩ = some (.string y.op.path) ∧ w'.cell? ⟨w2.heap.size, 3, none⟩ = some (.string y.op.data) ∧ w'.cell? ⟨w2.heap.size, 4, none⟩ = some (.slice aA aAn aAc) ∧ w'.cell? ⟨w2.heap.size, 5, none⟩ = some (.int .i64 y.op.flags) ∧ w'.cell? ⟨w2.heap.size, 6, none⟩ = some (.int .i64 y.op.version) ∧ w'.cell? ⟨w2.heap.size, 7, none⟩ = some (.bool y.op.watch) ∧ w'.cell? ⟨w2.heap.size, 8, none⟩ = some (.slice aS aSn aSc) ∧ w'.cell? ⟨w2.heap.size, 9, none⟩ = some (.slice aR aRn aRc) ∧ w'.cell? ⟨w1.heap.size, 0, none⟩ = some (.int .i64 y.op.kind) ∧ w'.cell? ⟨w1.heap.size, 1, none⟩ = some (.int .i64 y.op.xid) ∧ w'.cell? ⟨w1.heap.size, 2, none⟩ = some (.string y.op.path) ∧ w'.cell? ⟨w1.heap.size, 3, none⟩ = some (.string y.op.data) ∧ w'.cell? ⟨w1.heap.size, 4, none⟩ = some (.slice xA xAn xAc) ∧ w'.cell? ⟨w1.heap.size, 5, none⟩ = some (.int .i64 y.op.flags) ∧ w'.cell? ⟨w1.heap.size, 6, none⟩ = some (.int .i64 y.op.version) ∧ w'.cell? ⟨w1.heap.size, 7, none⟩ = some (.bool y.op.watch) ∧ w'.cell? ⟨w1.heap.size, 8, none⟩ = some (.slice xS xSn xSc) ∧ w'.cell? ⟨w1.heap.size, 9, none⟩ = some (.slice xR xRn xRc) ∧ Old W2 w')
          (((try dsimp only); first | exact HSS.out _ (Old.drew (Old.refl _)) | exact HSS.out _ (by assumption) | exact HSS.out _ (Old.drew (by assumption))))
          (first
            | (go_at_call 16; go_split_ands; (with_reducible refine (KA.out _ (by first | assumption | exact Old.drew (Old.refl _))).mono ?_); rintro en w9 ⟨rfl, hO9⟩; have hP9 : Old W2 w9 := Old.none (by first | assumption | exact Old.drew (Old.refl _)) hO9; clear hO9)
            | (go_at_call 16; go_split_ands; (with_reducible refine (KX.out _ (by first | assumption | exact Old.drew (Old.refl _))).mono ?_); rintro en w9 ⟨rfl, hO9⟩; have hP9 : Old W2 w9 := Old.none (by first | assumption | exact Old.drew (Old.refl _)) hO9; clear hO9))
        all_goals go_wp2_with fail
        all_goals go_meet
        all_goals exact ⟨rfl, by assumption⟩
      case rest =>
      obtain ⟨rfl, hOc⟩ := hcut
      have hth := HTH.out
      have HBC := Lib.hid ((hOc.block _ (lt_of_block HBA.out) id).trans HBA.out)
      have hOr2 : Old wr wc := HO3.out.none hOc
      have hzc : w2.heap.size + 1 ≤ wc.heap.size := Nat.le_trans hsz hOc.size
      obtain ⟨bz, hbz⟩ : ∃ b, wr.heap.size = b := ⟨_, rfl⟩
      have HFIN := Lib.hid (show ∀ wq, Kept (Mid bz w2.heap.size) wc wq → Old W1 wq from fun wq hq => HOR.out.none (hOr2.step hq (fun k hk => by rw [hbz]; exact hk.1)))
      rw [hbz] at hth
      have HTR := Lib.hid ((hth.1.keep HA2.out (fun _ _ _ f => f) (Nat.le_refl _)).keep hOc (fun _ _ _ f => f) (by omega))
      have HTS := Lib.hid ((hth.2.1.keep HA2.out (fun _ _ _ f => f) (Nat.le_refl _)).keep hOc (fun _ _ _ f => f) (by omega))
      have HTA := Lib.hid ((hth.2.2.keep HA2.out (fun _ _ _ f => f) (Nat.le_refl _)).keep hOc (fun _ _ _ f => f) (by omega))
      clear HSS KA KX HX3 HBX3 HEA HBA HTH hth HO3 hOc hOr2 HA2 hbz HOR HZ2
      go_wp2_with fail
      go_loopw [8] (fun iv wq => ∃ k : Nat, iv = .int .i64 (k : Nat) ∧ k ≤ aRn ∧ Kept (Mid bz w2.heap.size) wc wq ∧ ThL wq bz w2.heap.size 5 (.slice aR aRn aRc) ∧ ThL wq bz w2.heap.size 10 (.slice aS aSn aSc) ∧ ThL wq bz w2.heap.size 2 (.slice aA aAn aAc)) (fun iv _ => aRn - (intOf iv).toNat)
      case atStart => exact ⟨0, rfl, Nat.zero_le _, Kept.refl _ _, HTR.out, HTS.out, HTA.out⟩
      case round =>
        obtain ⟨k, rfl, hk, hKq, hqR, hqS, hqA⟩ := hrel
        have hbq := (hKq.block _ (lt_of_block HBC.out) (fun hs => by have := hs.2; omega)).trans HBC.out
        have cq := cell_of_heap (i := 9) (v := .slice aR aRn aRc) hbq rfl
        have hln := hqR.len
        unfold maxLen at hln
        clear hbq
        by_cases hlt0 : k < aRn
        · have hkl : (k : Int) < (aRn : Int) := by omega
          obtain ⟨g, off, rfl, hgb, hgt, hth⟩ := hqR.at_ hlt0
          have HT := Lib.hid hth; clear hth
          have HLT := Lib.hid hlt0
          have HQR := Lib.hid (fun o (vs : List Value) => hqR.set g o vs); clear hqR
          have HQS := Lib.hid (fun o (vs : List Value) => hqS.set g o vs); clear hqS
          have HQA := Lib.hid (fun o (vs : List Value) => hqA.set g o vs); clear hqA
          have HKQ := Lib.hid (fun o (vs : List Value) => Mid.set (o := o) (vs := vs) hKq hgb hgt); clear hKq
          obtain ⟨wn, hwn⟩ : ∃ u, World.setCells wr g (off + k * 5) [.int .i64 (-1), .string ⟨#[]⟩, .int .i64 0, .int .i64 0, .int .i64 0] = u := ⟨_, rfl⟩
          have HWN := Lib.hid hwn; clear hwn
          have HONE := Lib.hid (show ∀ v ∈ ([.int .i64 (-1), .string ⟨#[]⟩, .int .i64 0, .int .i64 0, .int .i64 0] : List Value), v.oneCell' = true by simp [Value.oneCell'])
          go_wp2_with (refine wpList_store_over rfl 83 (.tmp 46) (.tmp 45) rfl g (off + k * 5) [.int .i64 (-1), .string ⟨#[]⟩, .int .i64 0, .int .i64 0, .int .i64 0] 5 rfl rfl HT.out rfl HSR.out HONE.out wn HWN.out ?_)
          go_roundw
          case rel => rw [← HWN.out]; exact ⟨k + 1, by go_num, HLT.out, HKQ.out _ _, HQR.out _ _, HQS.out _ _, HQA.out _ _⟩
          case measure => have h := HLT.out; simp [intOf]; omega
        · have hkl : ¬ (k : Int) < (aRn : Int) := by omega
          have HQS1 := Lib.hid hqS
          have HQA1 := Lib.hid hqA
          have HKQ1 := Lib.hid hKq
          clear hKq hqR hqS hqA
          go_wp2_with fail
          clear cq hkl hln hlt0 hk
          go_loopw [9] (fun iv wq => ∃ k : Nat, iv = .int .i64 (k : Nat) ∧ k ≤ aSn ∧ Kept (Mid bz w2.heap.size) wc wq ∧ ThL wq bz w2.heap.size 10 (.slice aS aSn aSc) ∧ ThL wq bz w2.heap.size 2 (.slice aA aAn aAc)) (fun iv _ => aSn - (intOf iv).toNat)
          case atStart => exact ⟨0, rfl, Nat.zero_le _, HKQ1.out, HQS1.out, HQA1.out⟩
          case round =>
            obtain ⟨k, rfl, hk, hKq, hqS, hqA⟩ := hrel
            have hbq := (hKq.block _ (lt_of_block HBC.out) (fun hs => by have := hs.2; omega)).trans HBC.out
            have cq := cell_of_heap (i := 8) (v := .slice aS aSn aSc) hbq rfl
            have hln := hqS.len
            unfold maxLen at hln
            clear hbq
            by_cases hlt1 : k < aSn
            · have hkl : (k : Int) < (aSn : Int) := by omega
              obtain ⟨g, off, rfl, hgb, hgt, hth⟩ := hqS.at_ hlt1
              have HT := Lib.hid hth; clear hth
              have HLT := Lib.hid hlt1
              have HQS := Lib.hid (fun o (vs : List Value) => hqS.set g o vs); clear hqS
              have HQA := Lib.hid (fun o (vs : List Value) => hqA.set g o vs); clear hqA
              have HKQ := Lib.hid (fun o (vs : List Value) => Mid.set (o := o) (vs := vs) hKq hgb hgt); clear hKq
              obtain ⟨wn, hwn⟩ : ∃ u, World.setCells wr g (off + k * 10) [.int .i64 (-1), .int .i64 0, .string ⟨#[]⟩, .string ⟨#[]⟩, .slice none 0 0, .int .i64 0, .int .i64 0, .bool false, .slice none 0 0, .slice none 0 0] = u := ⟨_, rfl⟩
              have HWN := Lib.hid hwn; clear hwn
              have HONE := Lib.hid (show ∀ v ∈ ([.int .i64 (-1), .int .i64 0, .string ⟨#[]⟩, .string ⟨#[]⟩, .slice none 0 0, .int .i64 0, .int .i64 0, .bool false, .slice none 0 0, .slice none 0 0] : List Value), v.oneCell' = true by simp [Value.oneCell'])
              go_wp2_with (refine wpList_store_over rfl 38 (.tmp 58) (.tmp 57) rfl g (off + k * 10) [.int .i64 (-1), .int .i64 0, .string ⟨#[]⟩, .string ⟨#[]⟩, .slice none 0 0, .int .i64 0, .int .i64 0, .bool false, .slice none 0 0, .slice none 0 0] 10 rfl rfl HT.out rfl HSS.out HONE.out wn HWN.out ?_)
              go_roundw
              case rel => rw [← HWN.out]; exact ⟨k + 1, by go_num, HLT.out, HKQ.out _ _, HQS.out _ _, HQA.out _ _⟩
              case measure => have h := HLT.out; simp [intOf]; omega
            · have hkl : ¬ (k : Int) < (aSn : Int) := by omega
              have HQA2 := Lib.hid hqA
              have HKQ2 := Lib.hid hKq
              clear hKq hqS hqA
              go_wp2_with fail
              clear cq hkl hln hlt1 hk
              go_loopw [10] (fun iv wq => ∃ k : Nat, iv = .int .i64 (k : Nat) ∧ k ≤ aAn ∧ Kept (Mid bz w2.heap.size) wc wq ∧ ThL wq bz w2.heap.size 2 (.slice aA aAn aAc)) (fun iv _ => aAn - (intOf iv).toNat)
              case atStart => exact ⟨0, rfl, Nat.zero_le _, HKQ2.out, HQA2.out⟩
              case round =>
                obtain ⟨k, rfl, hk, hKq, hqA⟩ := hrel
                have hbq := (hKq.block _ (lt_of_block HBC.out) (fun hs => by have := hs.2; omega)).trans HBC.out
                have cq := cell_of_heap (i := 4) (v := .slice aA aAn aAc) hbq rfl
                have hln := hqA.len
                unfold maxLen at hln
                clear hbq
                by_cases hlt2 : k < aAn
                · have hkl : (k : Int) < (aAn : Int) := by omega
                  obtain ⟨g, off, rfl, hgb, hgt, hth⟩ := hqA.at_ hlt2
                  have HT := Lib.hid hth; clear hth
                  have HLT := Lib.hid hlt2
                  have HQA := Lib.hid (fun o (vs : List Value) => hqA.set g o vs); clear hqA
                  have HKQ := Lib.hid (fun o (vs : List Value) => Mid.set (o := o) (vs := vs) hKq hgb hgt); clear hKq
                  obtain ⟨wn, hwn⟩ : ∃ u, World.setCells wr g (off + k * 2) [.int .i64 (-1), .string ⟨#[]⟩] = u := ⟨_, rfl⟩
                  have HWN := Lib.hid hwn; clear hwn
                  have HONE := Lib.hid (show ∀ v ∈ ([.int .i64 (-1), .string ⟨#[]⟩] : List Value), v.oneCell' = true by simp [Value.oneCell'])
                  go_wp2_with (refine wpList_store_over rfl 73 (.tmp 70) (.tmp 69) rfl g (off + k * 2) [.int .i64 (-1), .string ⟨#[]⟩] 2 rfl rfl HT.out rfl HSA.out HONE.out wn HWN.out ?_)
                  go_roundw
                  case rel => rw [← HWN.out]; exact ⟨k + 1, by go_num, HLT.out, HKQ.out _ _, HQA.out _ _⟩
                  case measure => have h := HLT.out; simp [intOf]; omega
                · have hkl : ¬ (k : Int) < (aAn : Int) := by omega
                  have HKQ3 := Lib.hid hKq
                  clear hKq hqA
                  go_wp2_with fail
                  go_roundw
                  case rel => exact ⟨t + 1, by go_num, hlt, HFIN.out _ HKQ3.out⟩
                  case measure => simp [intOf]; omega
    · have htl : ¬ (t : Int) < 2 := by omega
      have HE := Lib.hid (HO1.out.none hOr)
      clear hOr
      go_wp2_with fail
      go_ret
      exact ⟨rfl, HE.out⟩
end Go.Proofs.Ytngcfnffbggniaa

namespace Go.Proofs.Ytngcfnffbggniaa.wireRequests
open Go.ChangeShapes Go.WideShapes Go.ChangeAt Go.RowKit
set_option linter.unusedVariables false

set_option maxRecDepth 100000 in
set_option maxHeartbeats 1600000 in
theorem walk0 (x : Req) (cs : List Value) (ok : Nat → Prop) (w : World) (hE : reqE w ok cs x) (hi : In w ok) (hx : (reqF.lay x).length ≤ 20000000) :
    Calls Try.prog 4 #[.agg cs.toArray] w fun e w' => e = .returned (.bool true) ∧ Old w w' := by
  have HSZ := Lib.hid (show (Try.prog.info? 38).map (·.size) = some 10 by kernel_rfl)
  have HL := Lib.hid (reqE_flat hE).1
  obtain ⟨s, hs⟩ : ∃ s : ByteArray, (⟨(reqF.lay x).toArray⟩ : ByteArray) = s := ⟨_, rfl⟩
  have hsz : s.size = (reqF.lay x).length := by rw [← hs, ← str_len]
  have hs2 : s.size ≤ 20000000 := by omega
  have HS := Lib.hid hs; clear hs hsz
  have HX := Lib.hid hx; clear hx
  have HE := Lib.hid hE; clear hE
  have HI := Lib.hid hi; clear hi
  go_enter Try.func4, Try.ntmps4
  go_wp2_with fail
  refine (wawake_any _).mono ?_
  rintro en w2 ⟨rfl, hO2⟩
  have hb0 : w2.heap[w.heap.size]? = some (.cells cs.toArray 38 (0, 0)) := by
    rw [hO2.block _ (by simp) id]
    exact heap_alloc_new w _
  have hP2 : Old w w2 := ((Old.refl w).alloc _).none hO2
  have hE2 := reqE_ok.keep HE.out hP2 (disj_none _)
  have hi2 := HI.out.kept hP2
  have HE2 := Lib.hid hE2; clear hE2
  have HI2 := Lib.hid hi2; clear hi2
  have HB0 := Lib.hid hb0; clear hb0
  have HP2 := Lib.hid hP2; clear hP2 hO2
  have HR0 := Lib.hid (range_row HB0.out)
  go_wp2_with (refine wpList_load_mid rfl 38 (.tmp 1) rfl w.heap.size 0 rfl cs _ HR0.out Try.underlying38 rfl (by rw [HL.out]; exact HSZ.out) ?_)
  refine (PutRequest_any x _ _ _ HE2.out HI2.out (by have := HX.out; omega)).mono ?_
  rintro en w3 ⟨rfl, hO3⟩
  rw [HS.out]
  have HP3 := Lib.hid (HP2.out.none hO3)
  have HE3 := Lib.hid (reqE_ok.keep HE2.out hO3 (disj_none _))
  have HR3 := Lib.hid (range_row ((hO3.block _ (lt_of_block HB0.out) id).trans HB0.out))
  clear hO3 HP2 HE2 HR0 HB0 HI2
  go_wp2_with (first
    | (refine wpList_load_guarded rfl 38 (.tmp 1) rfl w.heap.size 0 rfl cs _ HR3.out Try.underlying38 rfl (by rw [HL.out]; exact HSZ.out) ?_)
    | (go_at_call 16; refine (refput_req x cs ok _ HE3.out (by have := HX.out; omega)).mono ?_; rintro en w4 ⟨rfl, hO4⟩; rw [HS.out]; have HP4 := Lib.hid (HP3.out.none hO4); clear hO4)
    | (go_at_call 17; refine (law_req s _ (by omega)).mono ?_; rintro en w5 ⟨rfl, hO5⟩; have HP5 := Lib.hid (HP4.out.none hO5); clear hO5))
  go_ret
  exact ⟨rfl, HP5.out⟩
end Go.Proofs.Ytngcfnffbggniaa.wireRequests

namespace Go.Proofs.Ytngcfnffbggniaa.wireRequests
open Go.ChangeShapes Go.WideShapes Go.ChangeAt Go.RowKit
open Go.ChangeMaps (open_string shut_string)
set_option linter.unusedVariables false

theorem own : ownKnob Try.prog.godebug = none := by kernel_rfl
theorem laidOut : laidOutB Try.prog = true := by kernel_rfl

set_option maxRecDepth 100000 in
theorem contract (H : Type) (enc : TypeId × Value → H) (W : World) (base : Nat) (args : Array Value) (ds gs : List (DataW H)) (before : List MemPlace)
    (hval : ∀ (j : Nat) t v, Try.f4.params[j]? = some t → args[j]? = some v → Value.okWide Try.prog W .any base t v)
    (hW : DataW.Whole enc Try.prog Try.f4.params.toList Rows.wireRequestsSpec.vars false W args.toList ds gs before) (hk : Rows.uptoSmall H (ds ++ gs) = true) :
    Calls Try.prog 4 args W fun e W' => ∃ v, e = .returned v ∧ Rows.wireRequestsSpec.post enc Try.prog Try.f4 false true false false W args v W' := by
  have hW' := hW
  obtain ⟨p, q, hA0, hV, rfl, hfz, hnd⟩ := hW
  have hA : DataW.TrodAll enc Try.prog W 0 (fun _ => true) true Try.f4.params.toList args.toList ds p := hA0
  rw [Try.params4] at hA hval
  obtain ⟨v0, vs0, d0, ds0, p0, q0, hargs, rfl, rfl, h0, r0⟩ := trodAll_cons hA
  obtain ⟨rfl, rfl, rfl⟩ := trodAll_nil r0
  obtain rfl : args = #[v0] := by cases args; simp_all
  obtain ⟨rfl, rfl⟩ := trodVars_none hV
  have k0 := h0
  have lt0 : ∀ x ∈ p0, x.block < W.heap.size := by obtain ⟨m, hm⟩ := k0; exact DataW.trod_lt m _ _ _ hm
  obtain ⟨ce, rfl, hce⟩ := okWide_struct Try.underlying38 (hval 0 38 v0 rfl rfl)
  have hb : Rows.uptoBulkAll ([d0] ++ []) ≤ 1048576 := of_decide_eq_true hk
  simp only [List.append_nil, Rows.uptoBulkAll] at hb
  obtain ⟨m0, hm0⟩ := h0
  obtain ⟨x, hE, hx, _⟩ := opens_req (fun _ => rfl) _ _ _ hm0 (by simp only; omega) (fun b o hm => hfz b o (by simpa using hm))
  clear hA0 hk
  simp only [List.append_nil] at hW'
  refine (walk0 x ce.toList (Old1 W) W hE (fun k hk => hk) (by simp only at hx; omega)).mono fun e W' ⟨he, hO⟩ => ?_
  subst he
  have bel := hO.below
  exact ⟨_, rfl, _, _, _, [], _, [], hW', trodAll_mk1 (shut_bool Try.underlying4 _), (trodAll_cons_mk (Below.trod laidOut (by kernel_rfl) (of_decide_eq_true (by kernel_rfl)) k0 bel lt0) trodAll_mk0), rfl, bel.frame _, fun h => by cases h⟩

set_option maxRecDepth 100000 in
theorem lifted (os : Os) (started : os.Started) (H : Type) (enc : TypeId × Value → H) (F : Stop.Interp) :
    ReturnsInHanded {} Try.checked os 4 .any ((Rows.OpenSpec.upto Rows.wireRequestsSpec).pre6 enc Try.prog Try.f4 Rows.wireRequestsUptoRow.domain false) (((Rows.OpenSpec.upto Rows.wireRequestsSpec).at F).post enc Try.prog Try.f4 false true false false) := by
  refine returnsInHanded_of_cond (C := Try.checked) (s := Rows.OpenSpec.upto Rows.wireRequestsSpec) (k := Rows.uptoSmall) rfl own started (by kernel_rfl) Try.func4
    (OpenSpec.witness (enc := enc) (C := Try.checked) (s := Rows.OpenSpec.upto Rows.wireRequestsSpec) (k := Rows.uptoSmall) rfl false ⟨#[], #[(.agg #[.int .i64 0, .int .i64 0, .string .empty, .string .empty, .slice none 0 0, .int .i64 0, .int .i64 0, .bool false, .slice none 0 0, .slice none 0 0])], []⟩ 8 (by kernel_rfl) (by kernel_rfl) (by kernel_rfl)
      (x := ([.agg [.lit (.int .i64 0), .lit (.int .i64 0), .lit (.string []), .lit (.string []), .nil, .lit (.int .i64 0), .lit (.int .i64 0), .lit (.bool false), .nil, .nil]], [], [])) (by kernel_rfl) rfl (by kernel_rfl)) ?_
  intro W base args ds gs before hval hW _ hk _
  exact contract H enc W base args ds gs before hval hW hk

/-- the given statement -/
theorem proved : Rows.WireRequestsUptoSaid :=
  OpenClaim.holds_of_cond 4 Try.f4 rfl rfl rfl rfl rfl rfl rfl ⟨rfl, rfl, rfl, rfl, rfl⟩ rfl rfl rfl rfl rfl (by kernel_rfl) Try.func4 (by kernel_rfl)
    (of_decide_eq_true (by kernel_rfl)) (by unfold Func.isWrapper; first | (rw [if_pos (by decide +kernel)]; kernel_rfl) | (rw [if_neg (by decide +kernel)]; exact ⟨rfl, rfl⟩))
    (fun os started H enc _ F => lifted os started H enc F)
#print axioms proved
end Go.Proofs.Ytngcfnffbggniaa.wireRequests
