/- arboretumlaw02.Message: any bytes, read by both, are laid as the same; what came out is written over. -/
import Derived.Test.YtpmemcpfoapjmaaGreatV13
import Derived.Test.YtpmemcpfoapjmaaGreatV21
import Derived.Test.YtpmemcpfoapjmaaGreatV22
import Derived.Test.YtpmemcpfoapjmaaGreatV23
import Derived.Test.YtpmemcpfoapjmaaGreatV06
import Derived.Deep.RegionHeld3
import Derived.Deep.DeepCutAuto
import Derived.WalkSpells
import Derived.Outline
namespace Go.Proofs.YtpmemcpfoapjmaaGreat
open Go.ChangeShapes Go.WideShapes Go.ChangeAt Go.RowKit
set_option linter.unusedVariables false

theorem msg_fits {x : Message} (h : messageF.fits x) : ∀ e ∈ x.entries, e.txn.part.acl.length ≤ 256 ∧ e.txn.subs.length ≤ 256 :=
  fun e he => entry_fits (message_fits (y := x) (l := x.entries) (by rw [withEntries_self]; exact h) e he)
theorem both_message (s : ByteArray) (hs : s.size ≤ 140737488355328) : ∃ (y : Message) (e : Int), (messageF.lay y).length ≤ 1000000000000000 ∧ (∀ e ∈ y.entries, e.txn.part.acl.length ≤ 256 ∧ e.txn.subs.length ≤ 256) ∧
    (∀ W : World, Calls Tryz.prog 28 #[.string s] W fun en w' => ∃ cs : List Value, en = .returned (.tuple #[.agg cs.toArray, .int .i64 e]) ∧ Old W w' ∧ messageE w' (New W) cs y) ∧
    (∀ W : World, Calls Tryz.prog 27 #[.string s] W fun en w' => ∃ cs : List Value, en = .returned (.tuple #[.agg cs.toArray, .int .i64 e]) ∧ Old W w' ∧ messageE w' (New W) cs y) := by
  refine ⟨(messageF.read s).getD zMessage, errOf (messageF.read s), ?_, ?_, fun W => (GetMessage_any s W (by unfold maxLen; omega)).mono fun en w' ⟨cs, he, hO, hE⟩ => ⟨cs, he, hO, hE⟩, fun W => (refget_message s W hs).mono fun en w' ⟨cs, he, hO, hE⟩ => ⟨cs, he, hO, hE⟩⟩
  · cases h : messageF.read s with
    | none => show (messageF.lay zMessage).length ≤ _; decide
    | some x => rw [show (some x).getD zMessage = x from rfl, lay_len messageF_ok h]; omega
  · cases h : messageF.read s with
    | none => exact fun e he => by simp [zMessage] at he
    | some x => exact msg_fits (Fmt.read_some messageF_ok h).2

set_option maxRecDepth 100000 in
set_option maxHeartbeats 4000000 in
theorem law_message (s : ByteArray) (w : World) (hs : s.size ≤ 140737488355328) : Calls Tryz.prog 10 #[.string s] w fun e w' => e = .returned (.bool true) ∧ Old w w' := by
  have HSZ := Lib.hid (show (Tryz.prog.info? 31).map (·.size) = some 19 by kernel_rfl)
  have HSE := Lib.hid (show (Tryz.prog.info? 38).map (·.size) = some 11 by kernel_rfl)
  have HSI := Lib.hid (show (Tryz.prog.info? 3).map (·.size) = some 1 by kernel_rfl)
  have HST := Lib.hid (show (Tryz.prog.info? 9).map (·.size) = some 1 by kernel_rfl)
  obtain ⟨y, e, hlay, hfit, pa, px⟩ := both_message s hs
  obtain ⟨l, hl⟩ : ∃ l, messageF.lay y = l := ⟨_, rfl⟩
  have PA := Lib.hid pa; clear pa
  have PX := Lib.hid px; clear px
  have HFIT := Lib.hid hfit; clear hfit
  have PL := Lib.hid (show ∀ (cs : List Value) (ok : Nat → Prop) (W : World), messageE W ok cs y → Calls Tryz.prog 9 #[.agg cs.toArray] W (OldStr W l) from fun cs ok W hE => by rw [← hl]; exact refput_message y cs ok W hE hlay)
  clear hl hlay
  go_enter Tryz.func10, Tryz.ntmps10
  go_wp2_with fail
  refine (PX.out _).mono ?_
  rintro en w1 ⟨cx, rfl, hO1, hEx⟩
  obtain ⟨xM, xMn, xMc, xE, xEn, xEc, xA, xAn, xAc, xS, xSn, xSc, xR, xRn, xRc, xI, xIn, xIc, rfl⟩ := messageE_cells hEx
  have hA1 : Old w1 (w1.alloc (.cells ([.int .i64 y.kind, .int .i64 y.epoch, .int .i64 y.zxid, .int .i64 y.number, .int .i64 y.session, .slice xM xMn xMc, .string y.data, .slice xE xEn xEc, .int .i64 y.request.op.kind, .int .i64 y.request.op.xid, .string y.request.op.path, .string y.request.op.data, .slice xA xAn xAc, .int .i64 y.request.op.flags, .int .i64 y.request.op.version, .bool y.request.op.watch, .slice xS xSn xSc, .slice xR xRn xRc, .slice xI xIn xIc] : List Value).toArray 31)) := (Old.refl _).make _
  have HX := Lib.hid (messageE_ok.keep hEx hA1 (disj_none _))
  have HBX := Lib.hid (heap_alloc_new w1 (.cells ([.int .i64 y.kind, .int .i64 y.epoch, .int .i64 y.zxid, .int .i64 y.number, .int .i64 y.session, .slice xM xMn xMc, .string y.data, .slice xE xEn xEc, .int .i64 y.request.op.kind, .int .i64 y.request.op.xid, .string y.request.op.path, .string y.request.op.data, .slice xA xAn xAc, .int .i64 y.request.op.flags, .int .i64 y.request.op.version, .bool y.request.op.watch, .slice xS xSn xSc, .slice xR xRn xRc, .slice xI xIn xIc] : List Value).toArray 31))
  have HO1 := Lib.hid (hO1.none hA1)
  have hpos : 0 < (w1.alloc (.cells ([.int .i64 y.kind, .int .i64 y.epoch, .int .i64 y.zxid, .int .i64 y.number, .int .i64 y.session, .slice xM xMn xMc, .string y.data, .slice xE xEn xEc, .int .i64 y.request.op.kind, .int .i64 y.request.op.xid, .string y.request.op.path, .string y.request.op.data, .slice xA xAn xAc, .int .i64 y.request.op.flags, .int .i64 y.request.op.version, .bool y.request.op.watch, .slice xS xSn xSc, .slice xR xRn xRc, .slice xI xIn xIc] : List Value).toArray 31)).heap.size := by simp
  clear hEx hO1 hA1
  go_wp2_with (refine wpList_store_new w1 rfl 31 _ _ rfl _ [.int .i64 y.kind, .int .i64 y.epoch, .int .i64 y.zxid, .int .i64 y.number, .int .i64 y.session, .slice xM xMn xMc, .string y.data, .slice xE xEn xEc, .int .i64 y.request.op.kind, .int .i64 y.request.op.xid, .string y.request.op.path, .string y.request.op.data, .slice xA xAn xAc, .int .i64 y.request.op.flags, .int .i64 y.request.op.version, .bool y.request.op.watch, .slice xS xSn xSc, .slice xR xRn xRc, .slice xI xIn xIc] rfl rfl HSZ.out rfl (by simp [Value.oneCell']) ?_)
  generalize w1.alloc (.cells ([.int .i64 y.kind, .int .i64 y.epoch, .int .i64 y.zxid, .int .i64 y.number, .int .i64 y.session, .slice xM xMn xMc, .string y.data, .slice xE xEn xEc, .int .i64 y.request.op.kind, .int .i64 y.request.op.xid, .string y.request.op.path, .string y.request.op.data, .slice xA xAn xAc, .int .i64 y.request.op.flags, .int .i64 y.request.op.version, .bool y.request.op.watch, .slice xS xSn xSc, .slice xR xRn xRc, .slice xI xIn xIc] : List Value).toArray 31) = W1 at HX HBX HO1 hpos ⊢
  go_loopw [5] (fun iv wr => ∃ t : Nat, iv = .int .i64 (t : Nat) ∧ t ≤ 2 ∧ Old W1 wr) (fun iv _ => 2 - (intOf iv).toNat)
  case atStart => exact ⟨0, rfl, by omega, Old.refl _⟩
  case round =>
    obtain ⟨t, rfl, ht, hOr⟩ := hrel
    by_cases hlt : t < 2
    · have htl : (t : Int) < 2 := by omega
      go_wp2_with fail
      refine (PA.out _).mono ?_
      rintro en w2 ⟨ca, rfl, hO2, hEa⟩
      obtain ⟨aM, aMn, aMc, aE, aEn, aEc, aA, aAn, aAc, aS, aSn, aSc, aR, aRn, aRc, aI, aIn, aIc, rfl⟩ := messageE_cells hEa
      have hpw : 0 < wr.heap.size := Nat.lt_of_lt_of_le hpos hOr.size
      obtain ⟨vm, ve, vi, h5, h7, h18, hmo⟩ := msg_ok hEa (base := wr.heap.size) (fun h => by have h' : wr.heap.size ≤ 0 := h; omega) (fun k hk => hk) HFIT.out
      obtain rfl : vm = .slice aM aMn aMc := (Option.some.inj h5).symm
      obtain rfl : ve = .slice aE aEn aEc := (Option.some.inj h7).symm
      obtain rfl : vi = .slice aI aIn aIc := (Option.some.inj h18).symm
      have hA2 : Old w2 (w2.alloc (.cells ([.int .i64 y.kind, .int .i64 y.epoch, .int .i64 y.zxid, .int .i64 y.number, .int .i64 y.session, .slice aM aMn aMc, .string y.data, .slice aE aEn aEc, .int .i64 y.request.op.kind, .int .i64 y.request.op.xid, .string y.request.op.path, .string y.request.op.data, .slice aA aAn aAc, .int .i64 y.request.op.flags, .int .i64 y.request.op.version, .bool y.request.op.watch, .slice aS aSn aSc, .slice aR aRn aRc, .slice aI aIn aIc] : List Value).toArray 31)) := (Old.refl _).make _
      have HMO := Lib.hid (hmo.old hA2)
      have HEA := Lib.hid (messageE_ok.keep hEa hA2 (disj_none _))
      have HBA := Lib.hid (heap_alloc_new w2 (.cells ([.int .i64 y.kind, .int .i64 y.epoch, .int .i64 y.zxid, .int .i64 y.number, .int .i64 y.session, .slice aM aMn aMc, .string y.data, .slice aE aEn aEc, .int .i64 y.request.op.kind, .int .i64 y.request.op.xid, .string y.request.op.path, .string y.request.op.data, .slice aA aAn aAc, .int .i64 y.request.op.flags, .int .i64 y.request.op.version, .bool y.request.op.watch, .slice aS aSn aSc, .slice aR aRn aRc, .slice aI aIn aIc] : List Value).toArray 31))
      have hO3 : Old wr (w2.alloc (.cells ([.int .i64 y.kind, .int .i64 y.epoch, .int .i64 y.zxid, .int .i64 y.number, .int .i64 y.session, .slice aM aMn aMc, .string y.data, .slice aE aEn aEc, .int .i64 y.request.op.kind, .int .i64 y.request.op.xid, .string y.request.op.path, .string y.request.op.data, .slice aA aAn aAc, .int .i64 y.request.op.flags, .int .i64 y.request.op.version, .bool y.request.op.watch, .slice aS aSn aSc, .slice aR aRn aRc, .slice aI aIn aIc] : List Value).toArray 31)) := hO2.none hA2
      have HO3 := Lib.hid hO3
      have HX3 := Lib.hid (messageE_ok.keep HX.out (hOr.none hO3) (disj_none _))
      have HBX3 := Lib.hid (((hOr.none hO3).block _ (lt_of_block HBX.out) id).trans HBX.out)
      have HOR := Lib.hid hOr
      have hsz : w2.heap.size + 1 ≤ (w2.alloc (.cells ([.int .i64 y.kind, .int .i64 y.epoch, .int .i64 y.zxid, .int .i64 y.number, .int .i64 y.session, .slice aM aMn aMc, .string y.data, .slice aE aEn aEc, .int .i64 y.request.op.kind, .int .i64 y.request.op.xid, .string y.request.op.path, .string y.request.op.data, .slice aA aAn aAc, .int .i64 y.request.op.flags, .int .i64 y.request.op.version, .bool y.request.op.watch, .slice aS aSn aSc, .slice aR aRn aRc, .slice aI aIn aIc] : List Value).toArray 31)).heap.size := by simp
      clear hEa hO2 hA2 hO3 hOr hmo h5 h7 h18
      go_upto_region 6 with (refine wpList_store_new w2 rfl 31 _ _ rfl _ [.int .i64 y.kind, .int .i64 y.epoch, .int .i64 y.zxid, .int .i64 y.number, .int .i64 y.session, .slice aM aMn aMc, .string y.data, .slice aE aEn aEc, .int .i64 y.request.op.kind, .int .i64 y.request.op.xid, .string y.request.op.path, .string y.request.op.data, .slice aA aAn aAc, .int .i64 y.request.op.flags, .int .i64 y.request.op.version, .bool y.request.op.watch, .slice aS aSn aSc, .slice aR aRn aRc, .slice aI aIn aIc] rfl rfl HSZ.out rfl (by simp [Value.oneCell']) ?_)
      generalize w2.alloc (.cells ([.int .i64 y.kind, .int .i64 y.epoch, .int .i64 y.zxid, .int .i64 y.number, .int .i64 y.session, .slice aM aMn aMc, .string y.data, .slice aE aEn aEc, .int .i64 y.request.op.kind, .int .i64 y.request.op.xid, .string y.request.op.path, .string y.request.op.data, .slice aA aAn aAc, .int .i64 y.request.op.flags, .int .i64 y.request.op.version, .bool y.request.op.watch, .slice aS aSn aSc, .slice aR aRn aRc, .slice aI aIn aIc] : List Value).toArray 31) = W2 at HEA HBA HO3 HX3 HBX3 HMO hsz ⊢
      have HSS := Lib.hid (show ∀ w', Old W2 w' → w'.rangeAt w2.heap.size 0 [.int .i64 y.kind, .int .i64 y.epoch, .int .i64 y.zxid, .int .i64 y.number, .int .i64 y.session, .slice aM aMn aMc, .string y.data, .slice aE aEn aEc, .int .i64 y.request.op.kind, .int .i64 y.request.op.xid, .string y.request.op.path, .string y.request.op.data, .slice aA aAn aAc, .int .i64 y.request.op.flags, .int .i64 y.request.op.version, .bool y.request.op.watch, .slice aS aSn aSc, .slice aR aRn aRc, .slice aI aIn aIc] ∧ w'.rangeAt w1.heap.size 0 [.int .i64 y.kind, .int .i64 y.epoch, .int .i64 y.zxid, .int .i64 y.number, .int .i64 y.session, .slice xM xMn xMc, .string y.data, .slice xE xEn xEc, .int .i64 y.request.op.kind, .int .i64 y.request.op.xid, .string y.request.op.path, .string y.request.op.data, .slice xA xAn xAc, .int .i64 y.request.op.flags, .int .i64 y.request.op.version, .bool y.request.op.watch, .slice xS xSn xSc, .slice xR xRn xRc, .slice xI xIn xIc] ∧ Old W2 w' from fun w' hO => ⟨range_row ((hO.block _ (lt_of_block HBA.out) id).trans HBA.out), range_row ((hO.block _ (lt_of_block HBX3.out) id).trans HBX3.out), hO⟩)
      have KA := Lib.hid (fun W (h : Old W2 W) => PL.out [.int .i64 y.kind, .int .i64 y.epoch, .int .i64 y.zxid, .int .i64 y.number, .int .i64 y.session, .slice aM aMn aMc, .string y.data, .slice aE aEn aEc, .int .i64 y.request.op.kind, .int .i64 y.request.op.xid, .string y.request.op.path, .string y.request.op.data, .slice aA aAn aAc, .int .i64 y.request.op.flags, .int .i64 y.request.op.version, .bool y.request.op.watch, .slice aS aSn aSc, .slice aR aRn aRc, .slice aI aIn aIc] _ W (messageE_ok.keep HEA.out h (disj_none _)))
      have KX := Lib.hid (fun W (h : Old W2 W) => PL.out [.int .i64 y.kind, .int .i64 y.epoch, .int .i64 y.zxid, .int .i64 y.number, .int .i64 y.session, .slice xM xMn xMc, .string y.data, .slice xE xEn xEc, .int .i64 y.request.op.kind, .int .i64 y.request.op.xid, .string y.request.op.path, .string y.request.op.data, .slice xA xAn xAc, .int .i64 y.request.op.flags, .int .i64 y.request.op.version, .bool y.request.op.watch, .slice xS xSn xSc, .slice xR xRn xRc, .slice xI xIn xIc] _ W (messageE_ok.keep HX3.out h (disj_none _)))
      go_cut [34] (fun v wx => v = .bool false ∧ Old W2 wx)
      case first =>
        refine wp_region_held_drew (S := fun w' : World => w'.rangeAt w2.heap.size 0 [.int .i64 y.kind, .int .i64 y.epoch, .int .i64 y.zxid, .int .i64 y.number, .int .i64 y.session, .slice aM aMn aMc, .string y.data, .slice aE aEn aEc, .int .i64 y.request.op.kind, .int .i64 y.request.op.xid, .string y.request.op.path, .string y.request.op.data, .slice aA aAn aAc, .int .i64 y.request.op.flags, .int .i64 y.request.op.version, .bool y.request.op.watch, .slice aS aSn aSc, .slice aR aRn aRc, .slice aI aIn aIc] ∧ w'.rangeAt w1.heap.size 0 [.int .i64 y.kind, .int .i64 y.epoch, .int .i64 y.zxid, .int .i64 y.number, .int .i64 y.session, .slice xM xMn xMc, .string y.data, .slice xE xEn xEc, .int .i64 y.request.op.kind, .int .i64 y.request.op.xid, .string y.request.op.path, .string y.request.op.data, .slice xA xAn xAc, .int .i64 y.request.op.flags, .int .i64 y.request.op.version, .bool y.request.op.watch, .slice xS xSn xSc, .slice xR xRn xRc, .slice xI xIn xIc] ∧ Old W2 w') (by kernel_rfl) (HSS.out _ (Old.drew (Old.refl _))) (fun hHeld => ?_)
        refine wpAnyH_take (i := 0) (oi := ⟨some 25, .move (.tmp 7), 33, "law.go:170", #[], none⟩) (v := .int .i64 e) rfl (by kernel_rfl) (by kernel_rfl) (by kernel_rfl) (fun _ _ _ h => h) (Or.inl ⟨by rfl, ?_⟩) hHeld ?_
        · intro ws hSw; (try dsimp only at hSw); go_simp
        (try simp only [Act.put, List.setIfInBounds_toArray, List.set_cons_zero, List.set_cons_succ])
        refine wpAnyH_take (i := 1) (oi := ⟨some 26, .move (.tmp 4), 33, "law.go:170", #[], none⟩) (v := .int .i64 e) rfl (by kernel_rfl) (by kernel_rfl) (by kernel_rfl) (fun _ _ _ h => h) (Or.inl ⟨by rfl, ?_⟩) hHeld ?_
        · intro ws hSw; (try dsimp only at hSw); go_simp
        (try simp only [Act.put, List.setIfInBounds_toArray, List.set_cons_zero, List.set_cons_succ])
        refine wpAnyH_take (i := 2) (oi := ⟨some 27, .binOp .neq 33 (.tmp 25) (.tmp 26) 33, 4, "law.go:170", #[⟨0, .data⟩, ⟨1, .data⟩], none⟩) (v := .bool false) rfl (by kernel_rfl) (by kernel_rfl) (by kernel_rfl) (fun _ _ _ h => h) (Or.inl ⟨by rfl, ?_⟩) hHeld ?_
        · intro ws hSw; (try dsimp only at hSw); go_simp
        (try simp only [Act.put, List.setIfInBounds_toArray, List.set_cons_zero, List.set_cons_succ])
        refine wpAnyH_take (i := 3) (oi := ⟨some 28, .move (.tmp 27), 4, "law.go:170", #[⟨2, .data⟩], none⟩) (v := .bool false) rfl (by kernel_rfl) (by kernel_rfl) (by kernel_rfl) (fun _ _ _ h => h) (Or.inl ⟨by rfl, ?_⟩) hHeld ?_
        · intro ws hSw; (try dsimp only at hSw); go_simp
        (try simp only [Act.put, List.setIfInBounds_toArray, List.set_cons_zero, List.set_cons_succ])
        refine wpAnyH_take (i := 4) (oi := ⟨some 29, .load 31 (.tmp 6), 31, "law.go:170", #[⟨3, .guard⟩], (some (3, false))⟩) (v := .agg ([.int .i64 y.kind, .int .i64 y.epoch, .int .i64 y.zxid, .int .i64 y.number, .int .i64 y.session, .slice aM aMn aMc, .string y.data, .slice aE aEn aEc, .int .i64 y.request.op.kind, .int .i64 y.request.op.xid, .string y.request.op.path, .string y.request.op.data, .slice aA aAn aAc, .int .i64 y.request.op.flags, .int .i64 y.request.op.version, .bool y.request.op.watch, .slice aS aSn aSc, .slice aR aRn aRc, .slice aI aIn aIc] : List Value).toArray) rfl (by kernel_rfl) (by kernel_rfl) (by kernel_rfl) (fun _ _ _ h => h) (yieldsIf_load_mid (by rfl) 31 (.tmp 6) rfl w2.heap.size 0 rfl [.int .i64 y.kind, .int .i64 y.epoch, .int .i64 y.zxid, .int .i64 y.number, .int .i64 y.session, .slice aM aMn aMc, .string y.data, .slice aE aEn aEc, .int .i64 y.request.op.kind, .int .i64 y.request.op.xid, .string y.request.op.path, .string y.request.op.data, .slice aA aAn aAc, .int .i64 y.request.op.flags, .int .i64 y.request.op.version, .bool y.request.op.watch, .slice aS aSn aSc, .slice aR aRn aRc, .slice aI aIn aIc] _ (fun w h => h.1) Tryz.underlying31 rfl HSZ.out) hHeld ?_
        (try simp only [Act.put, List.setIfInBounds_toArray, List.set_cons_zero, List.set_cons_succ])
        refine wpAnyH_take (i := 6) (oi := ⟨some 31, .load 31 (.tmp 3), 31, "law.go:170", #[⟨3, .guard⟩], (some (3, false))⟩) (v := .agg ([.int .i64 y.kind, .int .i64 y.epoch, .int .i64 y.zxid, .int .i64 y.number, .int .i64 y.session, .slice xM xMn xMc, .string y.data, .slice xE xEn xEc, .int .i64 y.request.op.kind, .int .i64 y.request.op.xid, .string y.request.op.path, .string y.request.op.data, .slice xA xAn xAc, .int .i64 y.request.op.flags, .int .i64 y.request.op.version, .bool y.request.op.watch, .slice xS xSn xSc, .slice xR xRn xRc, .slice xI xIn xIc] : List Value).toArray) rfl (by kernel_rfl) (by kernel_rfl) (by kernel_rfl) (fun _ _ _ h => h) (yieldsIf_load_mid (by rfl) 31 (.tmp 3) rfl w1.heap.size 0 rfl [.int .i64 y.kind, .int .i64 y.epoch, .int .i64 y.zxid, .int .i64 y.number, .int .i64 y.session, .slice xM xMn xMc, .string y.data, .slice xE xEn xEc, .int .i64 y.request.op.kind, .int .i64 y.request.op.xid, .string y.request.op.path, .string y.request.op.data, .slice xA xAn xAc, .int .i64 y.request.op.flags, .int .i64 y.request.op.version, .bool y.request.op.watch, .slice xS xSn xSc, .slice xR xRn xRc, .slice xI xIn xIc] _ (fun w h => h.2.1) Tryz.underlying31 rfl HSZ.out) hHeld ?_
        (try simp only [Act.put, List.setIfInBounds_toArray, List.set_cons_zero, List.set_cons_succ])
        refine wpAnyH_ready (rs := [5]) (by kernel_rfl) (by simp) ?_
        refine AllReadyH.cons (o := ⟨some 30, .call { callee := .value (.func 9), args := #[.tmp 29], argTypes := #[31] }, 9, "law.go:170", #[⟨4, .data⟩, ⟨3, .chain⟩, ⟨3, .guard⟩], (some (3, false))⟩) rfl (fun K hK => ?_) AllReadyH.nil
        go_simp
        refine (KA.out _ (Old.drew (Old.refl _))).mono ?_
        rintro en w91 ⟨rfl, hO9⟩
        have hP1 : Old W2 w91 := Old.none (Old.drew (Old.refl _)) hO9
        clear hO9
        go_wp2_with fail
        refine hK.out _ _ (HSS.out _ hP1) (fun hHeldA => ?_)
        clear hK K
        (try simp only [Act.put, List.setIfInBounds_toArray, List.set_cons_zero, List.set_cons_succ])
        refine wpAnyH_ready (rs := [7]) (by kernel_rfl) (by simp) ?_
        refine AllReadyH.cons (o := ⟨some 32, .call { callee := .value (.func 9), args := #[.tmp 31], argTypes := #[31] }, 9, "law.go:170", #[⟨6, .data⟩, ⟨5, .chain⟩, ⟨3, .guard⟩], (some (3, false))⟩) rfl (fun K hK => ?_) AllReadyH.nil
        go_simp
        refine (KX.out _ hP1).mono ?_
        rintro en w92 ⟨rfl, hO9⟩
        have hP2 : Old W2 w92 := Old.none hP1 hO9
        clear hO9
        go_wp2_with fail
        refine hK.out _ _ (HSS.out _ hP2) (fun hHeldB => ?_)
        clear hK K
        (try simp only [Act.put, List.setIfInBounds_toArray, List.set_cons_zero, List.set_cons_succ])
        refine wpAnyH_take (i := 8) (oi := ⟨some 33, .binOp .neq 9 (.tmp 30) (.tmp 32) 9, 4, "law.go:170", #[⟨5, .data⟩, ⟨7, .data⟩, ⟨3, .guard⟩], (some (3, false))⟩) (v := .bool false) rfl (by kernel_rfl) (by kernel_rfl) (by kernel_rfl) (fun _ _ _ h => h) (Or.inl ⟨by rfl, ?_⟩) hHeldB ?_
        · intro ws hSw; (try dsimp only at hSw); go_simp
        (try simp only [Act.put, List.setIfInBounds_toArray, List.set_cons_zero, List.set_cons_succ])
        refine wpAnyH_take (i := 9) (oi := ⟨some 34, .pick (.tmp 28) (.const (.bool true)) (.tmp 33), 4, "law.go:170", #[⟨3, .data⟩, ⟨8, .data⟩], none⟩) (v := .bool false) rfl (by kernel_rfl) (by kernel_rfl) (by kernel_rfl) (fun _ _ _ h => h) (Or.inl ⟨by rfl, ?_⟩) hHeldB ?_
        · intro ws hSw; (try dsimp only at hSw); go_simp
        (try simp only [Act.put, List.setIfInBounds_toArray, List.set_cons_zero, List.set_cons_succ])
        refine wpAnyH_done (by kernel_rfl) ?_ _
        go_wp2_with fail
        go_meet
        exact ⟨rfl, hP2⟩
      case rest =>
      obtain ⟨rfl, hOc⟩ := hcut
      -- RESTMARK
      have HBC := Lib.hid ((hOc.block _ (lt_of_block HBA.out) id).trans HBA.out)
      have hOr2 : Old wr wc := HO3.out.none hOc
      have hzc : w2.heap.size + 1 ≤ wc.heap.size := Nat.le_trans hsz hOc.size
      have hmc := HMO.out.old hOc
      obtain ⟨bz, hbz⟩ : ∃ b, wr.heap.size = b := ⟨_, rfl⟩
      have HFIN := Lib.hid (show ∀ wq, Kept (Mid bz w2.heap.size) wc wq → Old W1 wq from fun wq hq => HOR.out.none (hOr2.step hq (fun k hk => by rw [hbz]; exact hk.1)))
      rw [hbz] at hmc
      have HMC := Lib.hid hmc
      have HLT := Lib.hid hlt
      clear HSS KA KX HX3 HBX3 HEA HBA HO3 hOc hOr2 HMO hbz HOR hmc hlt
      have HBQ := Lib.hid (show ∀ wq, Kept (Mid bz w2.heap.size) wc wq → wq.heap[w2.heap.size]? = some (.cells ([.int .i64 y.kind, .int .i64 y.epoch, .int .i64 y.zxid, .int .i64 y.number, .int .i64 y.session, .slice aM aMn aMc, .string y.data, .slice aE aEn aEc, .int .i64 y.request.op.kind, .int .i64 y.request.op.xid, .string y.request.op.path, .string y.request.op.data, .slice aA aAn aAc, .int .i64 y.request.op.flags, .int .i64 y.request.op.version, .bool y.request.op.watch, .slice aS aSn aSc, .slice aR aRn aRc, .slice aI aIn aIc] : List Value).toArray 31 (0, 0)) from fun wq hq => (hq.block _ (lt_of_block HBC.out) (fun hs => by have := hs.2; omega)).trans HBC.out)
      go_wp2_with fail
      go_loopw [8] (fun iv wq => ∃ k : Nat, iv = .int .i64 (k : Nat) ∧ k ≤ aMn ∧ Kept (Mid bz w2.heap.size) wc wq ∧ MsgOk wq bz w2.heap.size (.slice aM aMn aMc) (.slice aE aEn aEc) (.slice aI aIn aIc) 0) (fun iv _ => aMn - (intOf iv).toNat)
      case atStart => exact ⟨0, rfl, Nat.zero_le _, Kept.refl _ _, HMC.out⟩
      case round =>
        obtain ⟨k, rfl, hk, hKq, hmq⟩ := hrel
        have cq := cell_of_heap (i := 5) (v := .slice aM aMn aMc) (HBQ.out _ hKq) rfl
        have hln := hmq.marks.len
        unfold maxLen at hln
        by_cases hlk : k < aMn
        · have hkl : (k : Int) < (aMn : Int) := by omega
          obtain ⟨g, rfl, hth, hsf⟩ := hmq.marks.at_ hlk
          have HT := Lib.hid hth
          have HLK := Lib.hid hlk
          obtain ⟨wn, hwn⟩ : ∃ u, World.setCells wr g k [.int .i64 (-1)] = u := ⟨_, rfl⟩
          have HWN := Lib.hid hwn; clear hwn
          have HS := Lib.hid (hsf [.int .i64 (-1)])
          have HKQ := Lib.hid hKq
          have HMQ := Lib.hid hmq
          clear hth hsf hKq hmq
          go_wp2_with (refine wpList_store_cell rfl 3 (.tmp 45) _ rfl g k (.int .i64 (-1)) rfl rfl rfl HT.out HSI.out wn HWN.out ?_)
          go_roundw
          case rel => rw [← HWN.out]; exact ⟨k + 1, by go_num, HLK.out, HKQ.out.trans HS.out.kept, HMQ.out.soft HS.out⟩
          case measure => have h := HLK.out; simp [intOf]; omega
        · have hkl : ¬ (k : Int) < (aMn : Int) := by omega
          have HKQ1 := Lib.hid hKq
          have HMQ1 := Lib.hid hmq
          clear hKq hmq
          go_wp2_with fail
          clear cq hkl hln hlk hk
          go_loopw [9] (fun iv wq => ∃ k : Nat, iv = .int .i64 (k : Nat) ∧ k ≤ aEn ∧ Kept (Mid bz w2.heap.size) wc wq ∧ MsgOk wq bz w2.heap.size (.slice aM aMn aMc) (.slice aE aEn aEc) (.slice aI aIn aIc) k) (fun iv _ => aEn - (intOf iv).toNat)
          case atStart => exact ⟨0, rfl, Nat.zero_le _, HKQ1.out, HMQ1.out⟩
          case round =>
            obtain ⟨i, rfl, hk, hKq, hmq⟩ := hrel
            have cq := cell_of_heap (i := 7) (v := .slice aE aEn aEc) (HBQ.out _ hKq) rfl
            have hln := hmq.ents.len
            unfold maxLen at hln
            by_cases hlk : i < aEn
            · have hkl : (i : Int) < (aEn : Int) := by omega
              obtain ⟨g, rfl, hgb, hgt, _, _⟩ := hmq.ents.at_ hlk
              obtain ⟨v0, v1, v2, v3, v4, v5, Aa, na, ca, v7, v8, v9, As, ns, c', hr, hov, hn1, hn2⟩ := hmq.rows g aEn aEc rfl i (Nat.le_refl _) hlk
              have HR := Lib.hid hr
              have HOV := Lib.hid (over_cells v0 v1 v2 v3 v4 v5 v7 v8 v9 Aa na ca As ns c' bz w2.heap.size wr hov (by have := hKq.size; omega) hn1 hn2)
              have HLK := Lib.hid hlk
              have HKQ := Lib.hid hKq
              have HMQ := Lib.hid hmq
              clear hr hov hKq hmq hn1 hn2
              go_wp2_with (refine wpList_load_mid rfl 38 (.tmp 56) rfl g (i * 11) rfl [v0, v1, v2, v3, v4, v5, .slice Aa na ca, v7, v8, v9, .slice As ns c'] _ HR.out Tryz.underlying38 rfl HSE.out ?_)
              refine HOV.out.mono ?_
              rintro en w5 ⟨rfl, hs5⟩
              have hm5 := HMQ.out.soft hs5
              have hK5 := HKQ.out.trans hs5.kept
              have cq5 := cell_of_heap (i := 7) (v := .slice (some ⟨g, 0, none⟩) aEn aEc) (HBQ.out _ hK5) rfl
              obtain ⟨g', hg', _, _, hth, cur, hcur⟩ := hm5.ents.at_ HLK.out
              simp only [Option.some.injEq, Addr.mk.injEq, and_true] at hg'
              subst hg'
              have HT := Lib.hid hth
              obtain ⟨wn, hwn⟩ : ∃ u, World.setCells w5 g (i * 11) [.int .i64 (-1), .int .i64 0, .int .i64 0, .int .i64 0, .string ⟨#[]⟩, .string ⟨#[]⟩, .slice none 0 0, .int .i64 0, .int .i64 0, .int .i64 0, .slice none 0 0] = u := ⟨_, rfl⟩
              have HWN := Lib.hid hwn; clear hwn
              have HONE := Lib.hid (show ∀ v ∈ ([.int .i64 (-1), .int .i64 0, .int .i64 0, .int .i64 0, .string ⟨#[]⟩, .string ⟨#[]⟩, .slice none 0 0, .int .i64 0, .int .i64 0, .int .i64 0, .slice none 0 0] : List Value), v.oneCell' = true by simp [Value.oneCell'])
              have HM6 := Lib.hid (hm5.row hcur [.int .i64 (-1), .int .i64 0, .int .i64 0, .int .i64 0, .string ⟨#[]⟩, .string ⟨#[]⟩, .slice none 0 0, .int .i64 0, .int .i64 0, .int .i64 0, .slice none 0 0] rfl)
              have HK6 := Lib.hid (Mid.set (o := i * 11) (vs := [.int .i64 (-1), .int .i64 0, .int .i64 0, .int .i64 0, .string ⟨#[]⟩, .string ⟨#[]⟩, .slice none 0 0, .int .i64 0, .int .i64 0, .int .i64 0, .slice none 0 0]) hK5 hgb hgt)
              clear hm5 hK5 hth hcur HOV HR HMQ HKQ hs5
              go_wp2_with (refine wpList_store_over rfl 38 (.tmp 63) (.tmp 62) rfl g (i * 11) [.int .i64 (-1), .int .i64 0, .int .i64 0, .int .i64 0, .string ⟨#[]⟩, .string ⟨#[]⟩, .slice none 0 0, .int .i64 0, .int .i64 0, .int .i64 0, .slice none 0 0] 11 rfl rfl HT.out rfl HSE.out HONE.out wn HWN.out ?_)
              go_roundw
              case rel => rw [← HWN.out]; exact ⟨i + 1, by go_num, HLK.out, HK6.out, HM6.out⟩
              case measure => have h := HLK.out; simp [intOf]; omega
            · have hkl : ¬ (i : Int) < (aEn : Int) := by omega
              have HKQ2 := Lib.hid hKq
              have HMI := Lib.hid hmq.ids
              clear hKq hmq
              go_wp2_with fail
              clear cq hkl hln hlk hk
              go_loopw [10] (fun iv wq => ∃ k : Nat, iv = .int .i64 (k : Nat) ∧ k ≤ aIn ∧ Kept (Mid bz w2.heap.size) wc wq ∧ OwnX wq bz w2.heap.size (.slice aI aIn aIc)) (fun iv _ => aIn - (intOf iv).toNat)
              case atStart => exact ⟨0, rfl, Nat.zero_le _, HKQ2.out, HMI.out⟩
              case round =>
                obtain ⟨k, rfl, hk, hKq, hmq⟩ := hrel
                have cq := cell_of_heap (i := 18) (v := .slice aI aIn aIc) (HBQ.out _ hKq) rfl
                have hln := hmq.len
                unfold maxLen at hln
                by_cases hlk : k < aIn
                · have hkl : (k : Int) < (aIn : Int) := by omega
                  obtain ⟨g, rfl, hth, hsf⟩ := hmq.at_ hlk
                  have HT := Lib.hid hth
                  have HLK := Lib.hid hlk
                  obtain ⟨wn, hwn⟩ : ∃ u, World.setCells wr g k [.string ⟨#[111, 118, 101, 114]⟩] = u := ⟨_, rfl⟩
                  have HWN := Lib.hid hwn; clear hwn
                  have HS := Lib.hid (hsf [.string ⟨#[111, 118, 101, 114]⟩])
                  have HKQ := Lib.hid hKq
                  have HMQ := Lib.hid hmq
                  clear hth hsf hKq hmq
                  go_wp2_with (refine wpList_store_cell rfl 9 (.tmp 74) _ rfl g k (.string ⟨#[111, 118, 101, 114]⟩) rfl rfl rfl HT.out HST.out wn HWN.out ?_)
                  go_roundw
                  case rel => rw [← HWN.out]; exact ⟨k + 1, by go_num, HLK.out, HKQ.out.trans HS.out.kept, HMQ.out.soft HS.out⟩
                  case measure => have h := HLK.out; simp [intOf]; omega
                · have hkl : ¬ (k : Int) < (aIn : Int) := by omega
                  have HKQ3 := Lib.hid hKq
                  clear hKq hmq
                  go_wp2_with fail
                  go_roundw
                  case rel => exact ⟨t + 1, by go_num, HLT.out, HFIN.out _ HKQ3.out⟩
                  case measure => have h := HLT.out; simp [intOf]; omega
    · have htl : ¬ (t : Int) < 2 := by omega
      have HE := Lib.hid (HO1.out.none hOr)
      clear hOr
      go_wp2_with fail
      go_ret
      exact ⟨rfl, HE.out⟩
end Go.Proofs.YtpmemcpfoapjmaaGreat
