/- arboretumlaw02.Entry: any bytes, read by both, are laid as the same; what came out is written over. -/
import Derived.Test.YtpmemcpfoapjmaaGreatV13
import Derived.Test.YtpmemcpfoapjmaaGreatV14
import Derived.Test.YtpmemcpfoapjmaaGreatV12
import Derived.Deep.RegionHeld3
import Derived.Deep.DeepCutAuto
import Derived.WalkSpells
import Derived.Outline
namespace Go.Proofs.YtpmemcpfoapjmaaGreat
open Go.ChangeShapes Go.WideShapes Go.ChangeAt Go.RowKit
set_option linter.unusedVariables false

theorem entry_fits {x : Entry} (h : entryF.fits x) : x.txn.part.acl.length ≤ 256 ∧ x.txn.subs.length ≤ 256 := by
  obtain ⟨_, _, _, h4⟩ := (h : numF.fits x.zxid ∧ numF.fits x.session ∧ numF.fits x.xid ∧ txnF.fits x.txn)
  obtain ⟨h5, h6⟩ := (h4 : partF.fits x.txn.part ∧ (listF partF).fits x.txn.subs)
  obtain ⟨_, _, _, h7, _⟩ := (h5 : numF.fits x.txn.part.kind ∧ (textF 4096).fits x.txn.part.path ∧ (textF 4096).fits x.txn.part.data ∧ (listF aclF).fits x.txn.part.acl ∧ numF.fits x.txn.part.owner ∧ numF.fits x.txn.part.number ∧ numF.fits x.txn.part.err)
  exact ⟨h7.1, h6.1⟩
theorem both_entry (s : ByteArray) (hs : s.size ≤ 140737488355328) : ∃ (y : Entry) (e : Int), (entryF.lay y).length ≤ 1000000000000000 ∧ (y.txn.part.acl.length ≤ 256 ∧ y.txn.subs.length ≤ 256) ∧
    (∀ W : World, Calls Tryz.prog 31 #[.string s] W fun en w' => ∃ cs : List Value, en = .returned (.tuple #[.agg cs.toArray, .int .i64 e]) ∧ Old W w' ∧ entryE w' (New W) cs y) ∧
    (∀ W : World, Calls Tryz.prog 30 #[.string s] W fun en w' => ∃ cs : List Value, en = .returned (.tuple #[.agg cs.toArray, .int .i64 e]) ∧ Old W w' ∧ entryE w' (New W) cs y) := by
  refine ⟨(entryF.read s).getD zEntry, errOf (entryF.read s), ?_, ?_, fun W => (GetEntry_any s W (by unfold maxLen; omega)).mono fun en w' ⟨cs, he, hO, hE⟩ => ⟨cs, he, hO, hE⟩, fun W => (refget_entry s W hs).mono fun en w' ⟨cs, he, hO, hE⟩ => ⟨cs, he, hO, hE⟩⟩
  · cases h : entryF.read s with
    | none => show (entryF.lay zEntry).length ≤ _; decide
    | some x => rw [show (some x).getD zEntry = x from rfl, lay_len entryF_ok h]; omega
  · cases h : entryF.read s with
    | none => exact ⟨by decide, by decide⟩
    | some x => exact entry_fits (Fmt.read_some entryF_ok h).2

set_option maxRecDepth 100000 in
set_option maxHeartbeats 2000000 in
theorem law_entry (s : ByteArray) (w : World) (hs : s.size ≤ 140737488355328) : Calls Tryz.prog 11 #[.string s] w fun e w' => e = .returned (.bool true) ∧ Old w w' := by
  have HSZ := Lib.hid (show (Tryz.prog.info? 38).map (·.size) = some 11 by kernel_rfl)
  obtain ⟨y, e, hlay, hfit, pa, px⟩ := both_entry s hs
  obtain ⟨l, hl⟩ : ∃ l, entryF.lay y = l := ⟨_, rfl⟩
  have PA := Lib.hid pa; clear pa
  have PX := Lib.hid px; clear px
  have HFIT := Lib.hid hfit; clear hfit
  have PL := Lib.hid (show ∀ (cs : List Value) (ok : Nat → Prop) (W : World), entryE W ok cs y → Calls Tryz.prog 21 #[.agg cs.toArray] W (OldStr W l) from fun cs ok W hE => by rw [← hl]; exact refput_entry y cs ok W hE hlay)
  clear hl hlay
  go_enter Tryz.func11, Tryz.ntmps11
  go_wp2_with fail
  refine (PX.out _).mono ?_
  rintro en w1 ⟨cx, rfl, hO1, hEx⟩
  obtain ⟨xA, xAn, xAc, xS, xSn, xSc, rfl⟩ := entryE_cells hEx
  have hA1 : Old w1 (w1.alloc (.cells ([.int .i64 y.zxid, .int .i64 y.session, .int .i64 y.xid, .int .i64 y.txn.part.kind, .string y.txn.part.path, .string y.txn.part.data, .slice xA xAn xAc, .int .i64 y.txn.part.owner, .int .i64 y.txn.part.number, .int .i64 y.txn.part.err, .slice xS xSn xSc] : List Value).toArray 38)) := (Old.refl _).make _
  have HX := Lib.hid (entryE_ok.keep hEx hA1 (disj_none _))
  have HBX := Lib.hid (heap_alloc_new w1 (.cells ([.int .i64 y.zxid, .int .i64 y.session, .int .i64 y.xid, .int .i64 y.txn.part.kind, .string y.txn.part.path, .string y.txn.part.data, .slice xA xAn xAc, .int .i64 y.txn.part.owner, .int .i64 y.txn.part.number, .int .i64 y.txn.part.err, .slice xS xSn xSc] : List Value).toArray 38))
  have HO1 := Lib.hid (hO1.none hA1)
  have hpos : 0 < (w1.alloc (.cells ([.int .i64 y.zxid, .int .i64 y.session, .int .i64 y.xid, .int .i64 y.txn.part.kind, .string y.txn.part.path, .string y.txn.part.data, .slice xA xAn xAc, .int .i64 y.txn.part.owner, .int .i64 y.txn.part.number, .int .i64 y.txn.part.err, .slice xS xSn xSc] : List Value).toArray 38)).heap.size := by simp
  clear hEx hO1 hA1
  go_wp2_with (refine wpList_store_new w1 rfl 38 _ _ rfl _ [.int .i64 y.zxid, .int .i64 y.session, .int .i64 y.xid, .int .i64 y.txn.part.kind, .string y.txn.part.path, .string y.txn.part.data, .slice xA xAn xAc, .int .i64 y.txn.part.owner, .int .i64 y.txn.part.number, .int .i64 y.txn.part.err, .slice xS xSn xSc] rfl rfl HSZ.out rfl (by simp [Value.oneCell']) ?_)
  generalize w1.alloc (.cells ([.int .i64 y.zxid, .int .i64 y.session, .int .i64 y.xid, .int .i64 y.txn.part.kind, .string y.txn.part.path, .string y.txn.part.data, .slice xA xAn xAc, .int .i64 y.txn.part.owner, .int .i64 y.txn.part.number, .int .i64 y.txn.part.err, .slice xS xSn xSc] : List Value).toArray 38) = W1 at HX HBX HO1 hpos ⊢
  go_loopw [5] (fun iv wr => ∃ t : Nat, iv = .int .i64 (t : Nat) ∧ t ≤ 2 ∧ Old W1 wr) (fun iv _ => 2 - (intOf iv).toNat)
  case atStart => exact ⟨0, rfl, by omega, Old.refl _⟩
  case round =>
    obtain ⟨t, rfl, ht, hOr⟩ := hrel
    by_cases hlt : t < 2
    · have htl : (t : Int) < 2 := by omega
      go_wp2_with fail
      refine (PA.out _).mono ?_
      rintro en w2 ⟨ca, rfl, hO2, hEa⟩
      obtain ⟨aA, aAn, aAc, aS, aSn, aSc, rfl⟩ := entryE_cells hEa
      have hA2 : Old w2 (w2.alloc (.cells ([.int .i64 y.zxid, .int .i64 y.session, .int .i64 y.xid, .int .i64 y.txn.part.kind, .string y.txn.part.path, .string y.txn.part.data, .slice aA aAn aAc, .int .i64 y.txn.part.owner, .int .i64 y.txn.part.number, .int .i64 y.txn.part.err, .slice aS aSn aSc] : List Value).toArray 38)) := (Old.refl _).make _
      have HEA := Lib.hid (entryE_ok.keep hEa hA2 (disj_none _))
      have HBA := Lib.hid (heap_alloc_new w2 (.cells ([.int .i64 y.zxid, .int .i64 y.session, .int .i64 y.xid, .int .i64 y.txn.part.kind, .string y.txn.part.path, .string y.txn.part.data, .slice aA aAn aAc, .int .i64 y.txn.part.owner, .int .i64 y.txn.part.number, .int .i64 y.txn.part.err, .slice aS aSn aSc] : List Value).toArray 38))
      have hO3 : Old wr (w2.alloc (.cells ([.int .i64 y.zxid, .int .i64 y.session, .int .i64 y.xid, .int .i64 y.txn.part.kind, .string y.txn.part.path, .string y.txn.part.data, .slice aA aAn aAc, .int .i64 y.txn.part.owner, .int .i64 y.txn.part.number, .int .i64 y.txn.part.err, .slice aS aSn aSc] : List Value).toArray 38)) := hO2.none hA2
      have HO3 := Lib.hid hO3
      have HX3 := Lib.hid (entryE_ok.keep HX.out (hOr.none hO3) (disj_none _))
      have HBX3 := Lib.hid (((hOr.none hO3).block _ (lt_of_block HBX.out) id).trans HBX.out)
      have HPOS := Lib.hid (show 0 < wr.heap.size from Nat.lt_of_lt_of_le hpos hOr.size)
      have HOR := Lib.hid hOr
      clear hEa hO2 hA2 hO3 hOr
      go_upto_region 6 with (refine wpList_store_new w2 rfl 38 _ _ rfl _ [.int .i64 y.zxid, .int .i64 y.session, .int .i64 y.xid, .int .i64 y.txn.part.kind, .string y.txn.part.path, .string y.txn.part.data, .slice aA aAn aAc, .int .i64 y.txn.part.owner, .int .i64 y.txn.part.number, .int .i64 y.txn.part.err, .slice aS aSn aSc] rfl rfl HSZ.out rfl (by simp [Value.oneCell']) ?_)
      generalize w2.alloc (.cells ([.int .i64 y.zxid, .int .i64 y.session, .int .i64 y.xid, .int .i64 y.txn.part.kind, .string y.txn.part.path, .string y.txn.part.data, .slice aA aAn aAc, .int .i64 y.txn.part.owner, .int .i64 y.txn.part.number, .int .i64 y.txn.part.err, .slice aS aSn aSc] : List Value).toArray 38) = W2 at HEA HBA HO3 HX3 HBX3 ⊢
      have HSS := Lib.hid (show ∀ w', Old W2 w' → w'.cell? ⟨w2.heap.size, 0, none⟩ = some (.int .i64 y.zxid) ∧ w'.cell? ⟨w2.heap.size, 1, none⟩ = some (.int .i64 y.session) ∧ w'.cell? ⟨w2.heap.size, 2, none⟩ = some (.int .i64 y.xid) ∧ w'.cell? ⟨w2.heap.size, 3, none⟩ = some (.int .i64 y.txn.part.kind) ∧ w'.cell? ⟨w2.heap.size, 4, none⟩ = some (.string y.txn.part.path) ∧ w'.cell? ⟨w2.heap.size, 5, none⟩ = some (.string y.txn.part.data) ∧ w'.cell? ⟨w2.heap.size, 6, none⟩ = some (.slice aA aAn aAc) ∧ w'.cell? ⟨w2.heap.size, 7, none⟩ = some (.int .i64 y.txn.part.owner) ∧ w'.cell? ⟨w2.heap.size, 8, none⟩ = some (.int .i64 y.txn.part.number) ∧ w'.cell? ⟨w2.heap.size, 9, none⟩ = some (.int .i64 y.txn.part.err) ∧ w'.cell? ⟨w2.heap.size, 10, none⟩ = some (.slice aS aSn aSc) ∧ w'.cell? ⟨w1.heap.size, 0, none⟩ = some (.int .i64 y.zxid) ∧ w'.cell? ⟨w1.heap.size, 1, none⟩ = some (.int .i64 y.session) ∧ w'.cell? ⟨w1.heap.size, 2, none⟩ = some (.int .i64 y.xid) ∧ w'.cell? ⟨w1.heap.size, 3, none⟩ = some (.int .i64 y.txn.part.kind) ∧ w'.cell? ⟨w1.heap.size, 4, none⟩ = some (.string y.txn.part.path) ∧ w'.cell? ⟨w1.heap.size, 5, none⟩ = some (.string y.txn.part.data) ∧ w'.cell? ⟨w1.heap.size, 6, none⟩ = some (.slice xA xAn xAc) ∧ w'.cell? ⟨w1.heap.size, 7, none⟩ = some (.int .i64 y.txn.part.owner) ∧ w'.cell? ⟨w1.heap.size, 8, none⟩ = some (.int .i64 y.txn.part.number) ∧ w'.cell? ⟨w1.heap.size, 9, none⟩ = some (.int .i64 y.txn.part.err) ∧ w'.cell? ⟨w1.heap.size, 10, none⟩ = some (.slice xS xSn xSc) ∧ Old W2 w' from fun w' hO => by
        have ha := fun i v hv => cell_of_heap (i := i) (v := v) ((hO.block _ (lt_of_block HBA.out) id).trans HBA.out) hv
        have hx := fun i v hv => cell_of_heap (i := i) (v := v) ((hO.block _ (lt_of_block HBX3.out) id).trans HBX3.out) hv
        exact ⟨ha 0 _ rfl, ha 1 _ rfl, ha 2 _ rfl, ha 3 _ rfl, ha 4 _ rfl, ha 5 _ rfl, ha 6 _ rfl, ha 7 _ rfl, ha 8 _ rfl, ha 9 _ rfl, ha 10 _ rfl, hx 0 _ rfl, hx 1 _ rfl, hx 2 _ rfl, hx 3 _ rfl, hx 4 _ rfl, hx 5 _ rfl, hx 6 _ rfl, hx 7 _ rfl, hx 8 _ rfl, hx 9 _ rfl, hx 10 _ rfl, hO⟩)
      have KA := Lib.hid (fun W (h : Old W2 W) => PL.out [.int .i64 y.zxid, .int .i64 y.session, .int .i64 y.xid, .int .i64 y.txn.part.kind, .string y.txn.part.path, .string y.txn.part.data, .slice aA aAn aAc, .int .i64 y.txn.part.owner, .int .i64 y.txn.part.number, .int .i64 y.txn.part.err, .slice aS aSn aSc] _ W (entryE_ok.keep HEA.out h (disj_none _)))
      have KX := Lib.hid (fun W (h : Old W2 W) => PL.out [.int .i64 y.zxid, .int .i64 y.session, .int .i64 y.xid, .int .i64 y.txn.part.kind, .string y.txn.part.path, .string y.txn.part.data, .slice xA xAn xAc, .int .i64 y.txn.part.owner, .int .i64 y.txn.part.number, .int .i64 y.txn.part.err, .slice xS xSn xSc] _ W (entryE_ok.keep HX3.out h (disj_none _)))
      go_cut [31] (fun v wx => v = .bool false ∧ Old W2 wx)
      case first =>
        go_region_held3 (fun w' => w'.cell? ⟨w2.heap.size, 0, none⟩ = some (.int .i64 y.zxid) ∧ w'.cell? ⟨w2.heap.size, 1, none⟩ = some (.int .i64 y.session) ∧ w'.cell? ⟨w2.heap.size, 2, none⟩ = some (.int .i64 y.xid) ∧ w'.cell? ⟨w2.heap.size, 3, none⟩ = some (.int .i64 y.txn.part.kind) ∧ w'.cell? ⟨w2.heap.size, 4, none⟩ = some (.string y.txn.part.path) ∧ w'.cell? ⟨w2.heap.size, 5, none⟩ = some (.string y.txn.part.data) ∧ w'.cell? ⟨w2.heap.size, 6, none⟩ = some (.slice aA aAn aAc) ∧ w'.cell? ⟨w2.heap.size, 7, none⟩ = some (.int .i64 y.txn.part.owner) ∧ w'.cell? ⟨w2.heap.size, 8, none⟩ = some (.int .i64 y.txn.part.number) ∧ w'.cell? ⟨w2.heap.size, 9, none⟩ = some (.int .i64 y.txn.part.err) ∧ w'.cell? ⟨w2.heap.size, 10, none⟩ = some (.slice aS aSn aSc) ∧ w'.cell? ⟨w1.heap.size, 0, none⟩ = some (.int .i64 y.zxid) ∧ w'.cell? ⟨w1.heap.size, 1, none⟩ = some (.int .i64 y.session) ∧ w'.cell? ⟨w1.heap.size, 2, none⟩ = some (.int .i64 y.xid) ∧ w'.cell? ⟨w1.heap.size, 3, none⟩ = some (.int .i64 y.txn.part.kind) ∧ w'.cell? ⟨w1.heap.size, 4, none⟩ = some (.string y.txn.part.path) ∧ w'.cell? ⟨w1.heap.size, 5, none⟩ = some (.string y.txn.part.data) ∧ w'.cell? ⟨w1.heap.size, 6, none⟩ = some (.slice xA xAn xAc) ∧ w'.cell? ⟨w1.heap.size, 7, none⟩ = some (.int .i64 y.txn.part.owner) ∧ w'.cell? ⟨w1.heap.size, 8, none⟩ = some (.int .i64 y.txn.part.number) ∧ w'.cell? ⟨w1.heap.size, 9, none⟩ = some (.int .i64 y.txn.part.err) ∧ w'.cell? ⟨w1.heap.size, 10, none⟩ = some (.slice xS xSn xSc) ∧ Old W2 w')
          (((try dsimp only); first | exact HSS.out _ (Old.drew (Old.refl _)) | exact HSS.out _ (by assumption) | exact HSS.out _ (Old.drew (by assumption))))
          (first
            | (go_at_call 21; go_split_ands; (with_reducible refine (KA.out _ (by first | assumption | exact Old.drew (Old.refl _))).mono ?_); rintro en w9 ⟨rfl, hO9⟩; have hP9 : Old W2 w9 := Old.none (by first | assumption | exact Old.drew (Old.refl _)) hO9; clear hO9)
            | (go_at_call 21; go_split_ands; (with_reducible refine (KX.out _ (by first | assumption | exact Old.drew (Old.refl _))).mono ?_); rintro en w9 ⟨rfl, hO9⟩; have hP9 : Old W2 w9 := Old.none (by first | assumption | exact Old.drew (Old.refl _)) hO9; clear hO9))
        all_goals go_wp2_with fail
        all_goals go_meet
        all_goals exact ⟨rfl, by assumption⟩
      case rest =>
      obtain ⟨rfl, hOc⟩ := hcut
      have HBC := Lib.hid (range_row ((hOc.block _ (lt_of_block HBA.out) id).trans HBA.out))
      have hOr2 : Old wr wc := HO3.out.none hOc
      have HOV := Lib.hid (over_entry y [.int .i64 y.zxid, .int .i64 y.session, .int .i64 y.xid, .int .i64 y.txn.part.kind, .string y.txn.part.path, .string y.txn.part.data, .slice aA aAn aAc, .int .i64 y.txn.part.owner, .int .i64 y.txn.part.number, .int .i64 y.txn.part.err, .slice aS aSn aSc] (New wr) wr.heap.size wc (entryE_ok.keep HEA.out hOc (disj_none _)) (fun h => by have h' : wr.heap.size ≤ 0 := h; have := HPOS.out; omega) (fun k hk => hk) hOr2.size HFIT.out.1 HFIT.out.2)
      have HFIN := Lib.hid (show ∀ wq, Kept (Mid wr.heap.size wc.heap.size) wc wq → Old W1 wq from fun wq hq => HOR.out.none (hOr2.step hq (fun k hk => hk.1)))
      have HLT := Lib.hid hlt
      clear HSS KA KX HX3 HBX3 HEA HBA HO3 hOc hOr2 HOR
      go_wp2_with (refine wpList_load_mid rfl 38 (.tmp 6) rfl w2.heap.size 0 rfl [.int .i64 y.zxid, .int .i64 y.session, .int .i64 y.xid, .int .i64 y.txn.part.kind, .string y.txn.part.path, .string y.txn.part.data, .slice aA aAn aAc, .int .i64 y.txn.part.owner, .int .i64 y.txn.part.number, .int .i64 y.txn.part.err, .slice aS aSn aSc] _ HBC.out Tryz.underlying38 rfl HSZ.out ?_)
      refine HOV.out.mono ?_
      rintro en w5 ⟨rfl, hk5⟩
      have HO5 := Lib.hid (HFIN.out _ hk5)
      clear hk5 HOV HFIN
      go_wp2_with fail
      go_roundw
      case rel => exact ⟨t + 1, by go_num, HLT.out, HO5.out⟩
      case measure => have h := HLT.out; simp [intOf]; omega
    · have htl : ¬ (t : Int) < 2 := by omega
      have HE := Lib.hid (HO1.out.none hOr)
      clear hOr
      go_wp2_with fail
      go_ret
      exact ⟨rfl, HE.out⟩
end Go.Proofs.YtpmemcpfoapjmaaGreat
