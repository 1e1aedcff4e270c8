/- arboretum/arboretumlaw02.Request: any bytes, read by both, are laid as the same; what came out may be written over. -/
import Derived.Test.YtpmemcpfoapjmaaGreatQ15
import Derived.Test.YtpmemcpfoapjmaaGreatQ17
import Derived.Test.YtpmemcpfoapjmaaGreatQ06
import Derived.Test.YtpmemcpfoapjmaaGreatQ03
import Derived.Deep.RegionHeld3
import Derived.Deep.DeepCutAuto
import Derived.WalkSpells
import Derived.Outline
namespace Go.Proofs.YtpmemcpfoapjmaaGreat
open Go.ChangeShapes Go.WideShapes Go.ChangeAt Go.RowKit
set_option linter.unusedVariables false

theorem both_req (s : ByteArray) (hs : s.size ≤ 140737488355328) : ∃ (y : Req) (e : Int), (reqF.lay y).length ≤ 1000000000000000 ∧
    (∀ W : World, Calls Tryz.prog 33 #[.string s] W fun en w' => ∃ cs : List Value, en = .returned (.tuple #[.agg cs.toArray, .int .i64 e]) ∧ Old W w' ∧ reqE w' (New W) cs y) ∧
    (∀ W : World, Calls Tryz.prog 32 #[.string s] W fun en w' => ∃ cs : List Value, en = .returned (.tuple #[.agg cs.toArray, .int .i64 e]) ∧ Old W w' ∧ reqE w' (New W) cs y) := by
  refine ⟨(reqF.read s).getD zReq, errOf (reqF.read s), ?_, fun W => (GetRequest_any s W (by unfold maxLen; omega)).mono fun en w' ⟨cs, he, hO, hE⟩ => ⟨cs, he, hO, hE⟩, fun W => (refget_req s W hs).mono fun en w' ⟨cs, he, hO, hE⟩ => ⟨cs, he, hO, hE⟩⟩
  cases h : reqF.read s with
  | none => show (reqF.lay zReq).length ≤ _; decide
  | some x => rw [show (some x).getD zReq = x from rfl, lay_len reqF_ok h]; omega

/-- where its lists lie -/
theorem req_th {w : World} {ok : Nat → Prop} {y : Req} {cs : List Value} (h : reqE w ok cs y) {base : Nat} (hb : ∀ k, ok k → base ≤ k) {aA : Option Addr} {aAn aAc : Nat} {aS : Option Addr} {aSn aSc : Nat} {aR : Option Addr} {aRn aRc : Nat} (hcs : cs = [.int .i64 y.op.kind, .int .i64 y.op.xid, .string y.op.path, .string y.op.data, .slice aA aAn aAc, .int .i64 y.op.flags, .int .i64 y.op.version, .bool y.op.watch, .slice aS aSn aSc, .slice aR aRn aRc]) :
    ThL w base w.heap.size 5 (.slice aR aRn aRc) ∧ ThL w base w.heap.size 10 (.slice aS aSn aSc) ∧ ThL w base w.heap.size 2 (.slice aA aAn aAc) := by
  obtain ⟨vs1, vs2, ⟨va, hcl, hA, _⟩, hS, hR⟩ := h
  rw [hcs] at hcl
  simp only [List.cons.injEq, and_true] at hcl
  obtain ⟨_, _, _, _, rfl, _, _, _, rfl, rfl⟩ := hcl
  exact ⟨hR.th hb, hS.th hb, hA.th hb⟩

set_option maxRecDepth 100000 in
set_option maxHeartbeats 1000000 in
theorem law_req (s : ByteArray) (w : World) (hs : s.size ≤ 140737488355328) : Calls Tryz.prog 12 #[.string s] w fun e w' => e = .returned (.bool true) ∧ Old w w' := by
  have HSZ := Lib.hid (show (Tryz.prog.info? 28).map (·.size) = some 10 by kernel_rfl)
  have HSR := Lib.hid (show (Tryz.prog.info? 73).map (·.size) = some 5 by kernel_rfl)
  have HSS := Lib.hid (show (Tryz.prog.info? 28).map (·.size) = some 10 by kernel_rfl)
  have HSA := Lib.hid (show (Tryz.prog.info? 56).map (·.size) = some 2 by kernel_rfl)
  obtain ⟨y, e, hlay, pa, px⟩ := both_req s hs
  obtain ⟨l, hl⟩ : ∃ l, reqF.lay y = l := ⟨_, rfl⟩
  have PA := Lib.hid pa; clear pa
  have PX := Lib.hid px; clear px
  have PL := Lib.hid (show ∀ (cs : List Value) (ok : Nat → Prop) (W : World), reqE W ok cs y → Calls Tryz.prog 25 #[.agg cs.toArray] W (OldStr W l) from fun cs ok W hE => by rw [← hl]; exact refput_req y cs ok W hE hlay)
  clear hl hlay
  go_enter Tryz.func12, Tryz.ntmps12
  go_wp2_with fail
  refine (PX.out _).mono ?_
  rintro en w1 ⟨cx, rfl, hO1, hEx⟩
  obtain ⟨xA, xAn, xAc, xS, xSn, xSc, xR, xRn, xRc, rfl⟩ := reqE_cells hEx
  have hA1 : Old w1 (w1.alloc (.cells ([.int .i64 y.op.kind, .int .i64 y.op.xid, .string y.op.path, .string y.op.data, .slice xA xAn xAc, .int .i64 y.op.flags, .int .i64 y.op.version, .bool y.op.watch, .slice xS xSn xSc, .slice xR xRn xRc] : List Value).toArray 28)) := (Old.refl _).make _
  have HX := Lib.hid (reqE_ok.keep hEx hA1 (disj_none _))
  have HBX := Lib.hid (heap_alloc_new w1 (.cells ([.int .i64 y.op.kind, .int .i64 y.op.xid, .string y.op.path, .string y.op.data, .slice xA xAn xAc, .int .i64 y.op.flags, .int .i64 y.op.version, .bool y.op.watch, .slice xS xSn xSc, .slice xR xRn xRc] : List Value).toArray 28))
  have HO1 := Lib.hid (hO1.none hA1)
  clear hEx hO1 hA1
  go_wp2_with (refine wpList_store_new w1 rfl 28 _ _ rfl _ [.int .i64 y.op.kind, .int .i64 y.op.xid, .string y.op.path, .string y.op.data, .slice xA xAn xAc, .int .i64 y.op.flags, .int .i64 y.op.version, .bool y.op.watch, .slice xS xSn xSc, .slice xR xRn xRc] rfl rfl HSZ.out rfl (by simp [Value.oneCell']) ?_)
  generalize w1.alloc (.cells ([.int .i64 y.op.kind, .int .i64 y.op.xid, .string y.op.path, .string y.op.data, .slice xA xAn xAc, .int .i64 y.op.flags, .int .i64 y.op.version, .bool y.op.watch, .slice xS xSn xSc, .slice xR xRn xRc] : List Value).toArray 28) = W1 at HX HBX HO1 ⊢
  go_loopw [5] (fun iv wr => ∃ t : Nat, iv = .int .i64 (t : Nat) ∧ t ≤ 2 ∧ Old W1 wr) (fun iv _ => 2 - (intOf iv).toNat)
  case atStart => exact ⟨0, rfl, by omega, Old.refl _⟩
  case round =>
    obtain ⟨t, rfl, ht, hOr⟩ := hrel
    by_cases hlt : t < 2
    · have htl : (t : Int) < 2 := by omega
      go_wp2_with fail
      refine (PA.out _).mono ?_
      rintro en w2 ⟨ca, rfl, hO2, hEa⟩
      obtain ⟨aA, aAn, aAc, aS, aSn, aSc, aR, aRn, aRc, rfl⟩ := reqE_cells hEa
      have hA2 : Old w2 (w2.alloc (.cells ([.int .i64 y.op.kind, .int .i64 y.op.xid, .string y.op.path, .string y.op.data, .slice aA aAn aAc, .int .i64 y.op.flags, .int .i64 y.op.version, .bool y.op.watch, .slice aS aSn aSc, .slice aR aRn aRc] : List Value).toArray 28)) := (Old.refl _).make _
      have HEA := Lib.hid (reqE_ok.keep hEa hA2 (disj_none _))
      have HTH := Lib.hid (req_th hEa (base := wr.heap.size) (fun k hk => hk) rfl)
      have HBA := Lib.hid (heap_alloc_new w2 (.cells ([.int .i64 y.op.kind, .int .i64 y.op.xid, .string y.op.path, .string y.op.data, .slice aA aAn aAc, .int .i64 y.op.flags, .int .i64 y.op.version, .bool y.op.watch, .slice aS aSn aSc, .slice aR aRn aRc] : List Value).toArray 28))
      have hO3 : Old wr (w2.alloc (.cells ([.int .i64 y.op.kind, .int .i64 y.op.xid, .string y.op.path, .string y.op.data, .slice aA aAn aAc, .int .i64 y.op.flags, .int .i64 y.op.version, .bool y.op.watch, .slice aS aSn aSc, .slice aR aRn aRc] : List Value).toArray 28)) := hO2.none hA2
      have HO3 := Lib.hid hO3
      have HA2 := Lib.hid hA2
      have HX3 := Lib.hid (reqE_ok.keep HX.out (hOr.none hO3) (disj_none _))
      have HBX3 := Lib.hid (((hOr.none hO3).block _ (lt_of_block HBX.out) id).trans HBX.out)
      have HZ2 := Lib.hid hO2.size
      have HOR := Lib.hid hOr
      have hsz : w2.heap.size + 1 ≤ (w2.alloc (.cells ([.int .i64 y.op.kind, .int .i64 y.op.xid, .string y.op.path, .string y.op.data, .slice aA aAn aAc, .int .i64 y.op.flags, .int .i64 y.op.version, .bool y.op.watch, .slice aS aSn aSc, .slice aR aRn aRc] : List Value).toArray 28)).heap.size := by simp
      clear hEa hO2 hA2 hO3 hOr
      go_upto_region 6 with (refine wpList_store_new w2 rfl 28 _ _ rfl _ [.int .i64 y.op.kind, .int .i64 y.op.xid, .string y.op.path, .string y.op.data, .slice aA aAn aAc, .int .i64 y.op.flags, .int .i64 y.op.version, .bool y.op.watch, .slice aS aSn aSc, .slice aR aRn aRc] rfl rfl HSZ.out rfl (by simp [Value.oneCell']) ?_)
      generalize w2.alloc (.cells ([.int .i64 y.op.kind, .int .i64 y.op.xid, .string y.op.path, .string y.op.data, .slice aA aAn aAc, .int .i64 y.op.flags, .int .i64 y.op.version, .bool y.op.watch, .slice aS aSn aSc, .slice aR aRn aRc] : List Value).toArray 28) = W2 at HEA HBA HO3 HX3 HBX3 HA2 hsz ⊢
      have HSS := Lib.hid (show ∀ w', Old W2 w' → w'.cell? ⟨w2.heap.size, 0, none⟩ = some (.int .i64 y.op.kind) ∧ w'.cell? ⟨w2.heap.size, 1, none⟩ = some (.int .i64 y.op.xid) ∧ w'.cell? ⟨w2.heap.size, 2, none⟩ = some (.string y.op.path) ∧ w'.cell? ⟨w2.heap.size, 3, none⟩ = some (.string y.op.data) ∧ w'.cell? ⟨w2.heap.size, 4, none⟩ = some (.slice aA aAn aAc) ∧ w'.cell? ⟨w2.heap.size, 5, none⟩ = some (.int .i64 y.op.flags) ∧ w'.cell? ⟨w2.heap.size, 6, none⟩ = some (.int .i64 y.op.version) ∧ w'.cell? ⟨w2.heap.size, 7, none⟩ = some (.bool y.op.watch) ∧ w'.cell? ⟨w2.heap.size, 8, none⟩ = some (.slice aS aSn aSc) ∧ w'.cell? ⟨w2.heap.size, 9, none⟩ = some (.slice aR aRn aRc) ∧ w'.cell? ⟨w1.heap.size, 0, none⟩ = some (.int .i64 y.op.kind) ∧ w'.cell? ⟨w1.heap.size, 1, none⟩ = some (.int .i64 y.op.xid) ∧ w'.cell? ⟨w1.heap.size, 2, none⟩ = some (.string y.op.path) ∧ w'.cell? ⟨w1.heap.size, 3, none⟩ = some (.string y.op.data) ∧ w'.cell? ⟨w1.heap.size, 4, none⟩ = some (.slice xA xAn xAc) ∧ w'.cell? ⟨w1.heap.size, 5, none⟩ = some (.int .i64 y.op.flags) ∧ w'.cell? ⟨w1.heap.size, 6, none⟩ = some (.int .i64 y.op.version) ∧ w'.cell? ⟨w1.heap.size, 7, none⟩ = some (.bool y.op.watch) ∧ w'.cell? ⟨w1.heap.size, 8, none⟩ = some (.slice xS xSn xSc) ∧ w'.cell? ⟨w1.heap.size, 9, none⟩ = some (.slice xR xRn xRc) ∧ Old W2 w' from fun w' hO => by
        have ha := fun i v hv => cell_of_heap (i := i) (v := v) ((hO.block _ (lt_of_block HBA.out) id).trans HBA.out) hv
        have hx := fun i v hv => cell_of_heap (i := i) (v := v) ((hO.block _ (lt_of_block HBX3.out) id).trans HBX3.out) hv
        exact ⟨ha 0 _ rfl, ha 1 _ rfl, ha 2 _ rfl, ha 3 _ rfl, ha 4 _ rfl, ha 5 _ rfl, ha 6 _ rfl, ha 7 _ rfl, ha 8 _ rfl, ha 9 _ rfl, hx 0 _ rfl, hx 1 _ rfl, hx 2 _ rfl, hx 3 _ rfl, hx 4 _ rfl, hx 5 _ rfl, hx 6 _ rfl, hx 7 _ rfl, hx 8 _ rfl, hx 9 _ rfl, hO⟩)
      have KA := Lib.hid (fun W (h : Old W2 W) => PL.out [.int .i64 y.op.kind, .int .i64 y.op.xid, .string y.op.path, .string y.op.data, .slice aA aAn aAc, .int .i64 y.op.flags, .int .i64 y.op.version, .bool y.op.watch, .slice aS aSn aSc, .slice aR aRn aRc] _ W (reqE_ok.keep HEA.out h (disj_none _)))
      have KX := Lib.hid (fun W (h : Old W2 W) => PL.out [.int .i64 y.op.kind, .int .i64 y.op.xid, .string y.op.path, .string y.op.data, .slice xA xAn xAc, .int .i64 y.op.flags, .int .i64 y.op.version, .bool y.op.watch, .slice xS xSn xSc, .slice xR xRn xRc] _ W (reqE_ok.keep HX3.out h (disj_none _)))
      go_cut [34] (fun v wx => v = .bool false ∧ Old W2 wx)
      case first =>
        go_region_held3 (fun w' => w'.cell? ⟨w2.heap.size, 0, none⟩ = some (.int .i64 y.op.kind) ∧ w'.cell? ⟨w2.heap.size, 1, none⟩ = some (.int .i64 y.op.xid) ∧ w'.cell? ⟨w2.heap.size, 2, none⟩ = some (.string y.op.path) ∧ w'.cell? ⟨w2.heap.size, 3, none⟩ = some (.string y.op.data) ∧ w'.cell? ⟨w2.heap.size, 4, none⟩ = some (.slice aA aAn aAc) ∧ w'.cell? ⟨w2.heap.size, 5, none⟩ = some (.int .i64 y.op.flags) ∧ w'.cell? ⟨w2.heap.size, 6, none⟩ = some (.int .i64 y.op.version) ∧ w'.cell? ⟨w2.heap.size, 7, none⟩ = some (.bool y.op.watch) ∧ w'.cell? ⟨w2.heap.size, 8, none⟩ = some (.slice aS aSn aSc) ∧ w'.cell? ⟨w2.heap.size, 9, none⟩ = some (.slice aR aRn aRc) ∧ w'.cell? ⟨w1.heap.size, 0, none⟩ = some (.int .i64 y.op.kind) ∧ w'.cell? ⟨w1.heap.size, 1, none⟩ = some (.int .i64 y.op.xid) ∧ w'.cell? ⟨w1.heap.size, 2, none⟩ = some (.string y.op.path) ∧ w'.cell? ⟨w1.heap.size, 3, none⟩ = some (.string y.op.data) ∧ w'.cell? ⟨w1.heap.size, 4, none⟩ = some (.slice xA xAn xAc) ∧ w'.cell? ⟨w1.heap.size, 5, none⟩ = some (.int .i64 y.op.flags) ∧ w'.cell? ⟨w1.heap.size, 6, none⟩ = some (.int .i64 y.op.version) ∧ w'.cell? ⟨w1.heap.size, 7, none⟩ = some (.bool y.op.watch) ∧ w'.cell? ⟨w1.heap.size, 8, none⟩ = some (.slice xS xSn xSc) ∧ w'.cell? ⟨w1.heap.size, 9, none⟩ = some (.slice xR xRn xRc) ∧ Old W2 w')
          (((try dsimp only); first | exact HSS.out _ (Old.drew (Old.refl _)) | exact HSS.out _ (by assumption) | exact HSS.out _ (Old.drew (by assumption))))
          (first
            | (go_at_call 25; go_split_ands; (with_reducible refine (KA.out _ (by first | assumption | exact Old.drew (Old.refl _))).mono ?_); rintro en w9 ⟨rfl, hO9⟩; have hP9 : Old W2 w9 := Old.none (by first | assumption | exact Old.drew (Old.refl _)) hO9; clear hO9)
            | (go_at_call 25; go_split_ands; (with_reducible refine (KX.out _ (by first | assumption | exact Old.drew (Old.refl _))).mono ?_); rintro en w9 ⟨rfl, hO9⟩; have hP9 : Old W2 w9 := Old.none (by first | assumption | exact Old.drew (Old.refl _)) hO9; clear hO9))
        all_goals go_wp2_with fail
        all_goals go_meet
        all_goals exact ⟨rfl, by assumption⟩
      case rest =>
      obtain ⟨rfl, hOc⟩ := hcut
      have hth := HTH.out
      have HBC := Lib.hid ((hOc.block _ (lt_of_block HBA.out) id).trans HBA.out)
      have hOr2 : Old wr wc := HO3.out.none hOc
      have hzc : w2.heap.size + 1 ≤ wc.heap.size := Nat.le_trans hsz hOc.size
      obtain ⟨bz, hbz⟩ : ∃ b, wr.heap.size = b := ⟨_, rfl⟩
      have HFIN := Lib.hid (show ∀ wq, Kept (Mid bz w2.heap.size) wc wq → Old W1 wq from fun wq hq => HOR.out.none (hOr2.step hq (fun k hk => by rw [hbz]; exact hk.1)))
      rw [hbz] at hth
      have HTR := Lib.hid ((hth.1.keep HA2.out (fun _ _ _ f => f) (Nat.le_refl _)).keep hOc (fun _ _ _ f => f) (by omega))
      have HTS := Lib.hid ((hth.2.1.keep HA2.out (fun _ _ _ f => f) (Nat.le_refl _)).keep hOc (fun _ _ _ f => f) (by omega))
      have HTA := Lib.hid ((hth.2.2.keep HA2.out (fun _ _ _ f => f) (Nat.le_refl _)).keep hOc (fun _ _ _ f => f) (by omega))
      clear HSS KA KX HX3 HBX3 HEA HBA HTH hth HO3 hOc hOr2 HA2 hbz HOR HZ2
      go_wp2_with fail
      go_loopw [8] (fun iv wq => ∃ k : Nat, iv = .int .i64 (k : Nat) ∧ k ≤ aRn ∧ Kept (Mid bz w2.heap.size) wc wq ∧ ThL wq bz w2.heap.size 5 (.slice aR aRn aRc) ∧ ThL wq bz w2.heap.size 10 (.slice aS aSn aSc) ∧ ThL wq bz w2.heap.size 2 (.slice aA aAn aAc)) (fun iv _ => aRn - (intOf iv).toNat)
      case atStart => exact ⟨0, rfl, Nat.zero_le _, Kept.refl _ _, HTR.out, HTS.out, HTA.out⟩
      case round =>
        obtain ⟨k, rfl, hk, hKq, hqR, hqS, hqA⟩ := hrel
        have hbq := (hKq.block _ (lt_of_block HBC.out) (fun hs => by have := hs.2; omega)).trans HBC.out
        have cq := cell_of_heap (i := 9) (v := .slice aR aRn aRc) hbq rfl
        have hln := hqR.len
        unfold maxLen at hln
        clear hbq
        by_cases hlt0 : k < aRn
        · have hkl : (k : Int) < (aRn : Int) := by omega
          obtain ⟨g, off, rfl, hgb, hgt, hth⟩ := hqR.at_ hlt0
          have HT := Lib.hid hth; clear hth
          have HLT := Lib.hid hlt0
          have HQR := Lib.hid (fun o (vs : List Value) => hqR.set g o vs); clear hqR
          have HQS := Lib.hid (fun o (vs : List Value) => hqS.set g o vs); clear hqS
          have HQA := Lib.hid (fun o (vs : List Value) => hqA.set g o vs); clear hqA
          have HKQ := Lib.hid (fun o (vs : List Value) => Mid.set (o := o) (vs := vs) hKq hgb hgt); clear hKq
          obtain ⟨wn, hwn⟩ : ∃ u, World.setCells wr g (off + k * 5) [.int .i64 (-1), .string ⟨#[]⟩, .int .i64 0, .int .i64 0, .int .i64 0] = u := ⟨_, rfl⟩
          have HWN := Lib.hid hwn; clear hwn
          have HONE := Lib.hid (show ∀ v ∈ ([.int .i64 (-1), .string ⟨#[]⟩, .int .i64 0, .int .i64 0, .int .i64 0] : List Value), v.oneCell' = true by simp [Value.oneCell'])
          go_wp2_with (refine wpList_store_over rfl 73 (.tmp 46) (.tmp 45) rfl g (off + k * 5) [.int .i64 (-1), .string ⟨#[]⟩, .int .i64 0, .int .i64 0, .int .i64 0] 5 rfl rfl HT.out rfl HSR.out HONE.out wn HWN.out ?_)
          go_roundw
          case rel => rw [← HWN.out]; exact ⟨k + 1, by go_num, HLT.out, HKQ.out _ _, HQR.out _ _, HQS.out _ _, HQA.out _ _⟩
          case measure => have h := HLT.out; simp [intOf]; omega
        · have hkl : ¬ (k : Int) < (aRn : Int) := by omega
          have HQS1 := Lib.hid hqS
          have HQA1 := Lib.hid hqA
          have HKQ1 := Lib.hid hKq
          clear hKq hqR hqS hqA
          go_wp2_with fail
          clear cq hkl hln hlt0 hk
          go_loopw [9] (fun iv wq => ∃ k : Nat, iv = .int .i64 (k : Nat) ∧ k ≤ aSn ∧ Kept (Mid bz w2.heap.size) wc wq ∧ ThL wq bz w2.heap.size 10 (.slice aS aSn aSc) ∧ ThL wq bz w2.heap.size 2 (.slice aA aAn aAc)) (fun iv _ => aSn - (intOf iv).toNat)
          case atStart => exact ⟨0, rfl, Nat.zero_le _, HKQ1.out, HQS1.out, HQA1.out⟩
          case round =>
            obtain ⟨k, rfl, hk, hKq, hqS, hqA⟩ := hrel
            have hbq := (hKq.block _ (lt_of_block HBC.out) (fun hs => by have := hs.2; omega)).trans HBC.out
            have cq := cell_of_heap (i := 8) (v := .slice aS aSn aSc) hbq rfl
            have hln := hqS.len
            unfold maxLen at hln
            clear hbq
            by_cases hlt1 : k < aSn
            · have hkl : (k : Int) < (aSn : Int) := by omega
              obtain ⟨g, off, rfl, hgb, hgt, hth⟩ := hqS.at_ hlt1
              have HT := Lib.hid hth; clear hth
              have HLT := Lib.hid hlt1
              have HQS := Lib.hid (fun o (vs : List Value) => hqS.set g o vs); clear hqS
              have HQA := Lib.hid (fun o (vs : List Value) => hqA.set g o vs); clear hqA
              have HKQ := Lib.hid (fun o (vs : List Value) => Mid.set (o := o) (vs := vs) hKq hgb hgt); clear hKq
              obtain ⟨wn, hwn⟩ : ∃ u, World.setCells wr g (off + k * 10) [.int .i64 (-1), .int .i64 0, .string ⟨#[]⟩, .string ⟨#[]⟩, .slice none 0 0, .int .i64 0, .int .i64 0, .bool false, .slice none 0 0, .slice none 0 0] = u := ⟨_, rfl⟩
              have HWN := Lib.hid hwn; clear hwn
              have HONE := Lib.hid (show ∀ v ∈ ([.int .i64 (-1), .int .i64 0, .string ⟨#[]⟩, .string ⟨#[]⟩, .slice none 0 0, .int .i64 0, .int .i64 0, .bool false, .slice none 0 0, .slice none 0 0] : List Value), v.oneCell' = true by simp [Value.oneCell'])
              go_wp2_with (refine wpList_store_over rfl 28 (.tmp 58) (.tmp 57) rfl g (off + k * 10) [.int .i64 (-1), .int .i64 0, .string ⟨#[]⟩, .string ⟨#[]⟩, .slice none 0 0, .int .i64 0, .int .i64 0, .bool false, .slice none 0 0, .slice none 0 0] 10 rfl rfl HT.out rfl HSS.out HONE.out wn HWN.out ?_)
              go_roundw
              case rel => rw [← HWN.out]; exact ⟨k + 1, by go_num, HLT.out, HKQ.out _ _, HQS.out _ _, HQA.out _ _⟩
              case measure => have h := HLT.out; simp [intOf]; omega
            · have hkl : ¬ (k : Int) < (aSn : Int) := by omega
              have HQA2 := Lib.hid hqA
              have HKQ2 := Lib.hid hKq
              clear hKq hqS hqA
              go_wp2_with fail
              clear cq hkl hln hlt1 hk
              go_loopw [10] (fun iv wq => ∃ k : Nat, iv = .int .i64 (k : Nat) ∧ k ≤ aAn ∧ Kept (Mid bz w2.heap.size) wc wq ∧ ThL wq bz w2.heap.size 2 (.slice aA aAn aAc)) (fun iv _ => aAn - (intOf iv).toNat)
              case atStart => exact ⟨0, rfl, Nat.zero_le _, HKQ2.out, HQA2.out⟩
              case round =>
                obtain ⟨k, rfl, hk, hKq, hqA⟩ := hrel
                have hbq := (hKq.block _ (lt_of_block HBC.out) (fun hs => by have := hs.2; omega)).trans HBC.out
                have cq := cell_of_heap (i := 4) (v := .slice aA aAn aAc) hbq rfl
                have hln := hqA.len
                unfold maxLen at hln
                clear hbq
                by_cases hlt2 : k < aAn
                · have hkl : (k : Int) < (aAn : Int) := by omega
                  obtain ⟨g, off, rfl, hgb, hgt, hth⟩ := hqA.at_ hlt2
                  have HT := Lib.hid hth; clear hth
                  have HLT := Lib.hid hlt2
                  have HQA := Lib.hid (fun o (vs : List Value) => hqA.set g o vs); clear hqA
                  have HKQ := Lib.hid (fun o (vs : List Value) => Mid.set (o := o) (vs := vs) hKq hgb hgt); clear hKq
                  obtain ⟨wn, hwn⟩ : ∃ u, World.setCells wr g (off + k * 2) [.int .i64 (-1), .string ⟨#[]⟩] = u := ⟨_, rfl⟩
                  have HWN := Lib.hid hwn; clear hwn
                  have HONE := Lib.hid (show ∀ v ∈ ([.int .i64 (-1), .string ⟨#[]⟩] : List Value), v.oneCell' = true by simp [Value.oneCell'])
                  go_wp2_with (refine wpList_store_over rfl 56 (.tmp 70) (.tmp 69) rfl g (off + k * 2) [.int .i64 (-1), .string ⟨#[]⟩] 2 rfl rfl HT.out rfl HSA.out HONE.out wn HWN.out ?_)
                  go_roundw
                  case rel => rw [← HWN.out]; exact ⟨k + 1, by go_num, HLT.out, HKQ.out _ _, HQA.out _ _⟩
                  case measure => have h := HLT.out; simp [intOf]; omega
                · have hkl : ¬ (k : Int) < (aAn : Int) := by omega
                  have HKQ3 := Lib.hid hKq
                  clear hKq hqA
                  go_wp2_with fail
                  go_roundw
                  case rel => exact ⟨t + 1, by go_num, hlt, HFIN.out _ HKQ3.out⟩
                  case measure => simp [intOf]; omega
    · have htl : ¬ (t : Int) < 2 := by omega
      have HE := Lib.hid (HO1.out.none hOr)
      clear hOr
      go_wp2_with fail
      go_ret
      exact ⟨rfl, HE.out⟩
end Go.Proofs.YtpmemcpfoapjmaaGreat
