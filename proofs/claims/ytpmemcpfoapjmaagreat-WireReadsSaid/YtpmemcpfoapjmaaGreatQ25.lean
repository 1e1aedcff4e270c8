/- arboretum/arboretumlaw02.Reply: any bytes, read by both, are laid as the same; what came out may be written over. -/
import Derived.Test.YtpmemcpfoapjmaaGreatQ22
import Derived.Test.YtpmemcpfoapjmaaGreatQ21
import Derived.Test.YtpmemcpfoapjmaaGreatQ24
import Derived.Test.YtpmemcpfoapjmaaGreatQ06
import Derived.Test.YtpmemcpfoapjmaaGreatQ03
import Derived.Deep.RegionHeld3
import Derived.Deep.DeepCutAuto
import Derived.WalkSpells
import Derived.Outline
namespace Go.Proofs.YtpmemcpfoapjmaaGreat
open Go.ChangeShapes Go.WideShapes Go.ChangeAt Go.RowKit
set_option linter.unusedVariables false

theorem both_reply (s : ByteArray) (hs : s.size ≤ 140737488355328) : ∃ (y : Reply) (e : Int), (replyF.lay y).length ≤ 1000000000000000 ∧
    (∀ W : World, Calls Tryz.prog 35 #[.string s] W fun en w' => ∃ cs : List Value, en = .returned (.tuple #[.agg cs.toArray, .int .i64 e]) ∧ Old W w' ∧ replyE w' (New W) cs y) ∧
    (∀ W : World, Calls Tryz.prog 34 #[.string s] W fun en w' => ∃ cs : List Value, en = .returned (.tuple #[.agg cs.toArray, .int .i64 e]) ∧ Old W w' ∧ replyE w' (New W) cs y) := by
  refine ⟨(replyF.read s).getD zReply, errOf (replyF.read s), ?_, fun W => (GetReply_any s W (by unfold maxLen; omega)).mono fun en w' ⟨cs, he, hO, hE⟩ => ⟨cs, he, hO, hE⟩, fun W => (refget_reply s W hs).mono fun en w' ⟨cs, he, hO, hE⟩ => ⟨cs, he, hO, hE⟩⟩
  cases h : replyF.read s with
  | none => show (replyF.lay zReply).length ≤ _; decide
  | some x => rw [show (some x).getD zReply = x from rfl, lay_len replyF_ok h]; omega

/-- where its lists lie -/
theorem reply_th {w : World} {ok : Nat → Prop} {y : Reply} {cs : List Value} (h : replyE w ok cs y) {base : Nat} (hb : ∀ k, ok k → base ≤ k) {aA : Option Addr} {aAn aAc : Nat} {aK : Option Addr} {aKn aKc : Nat} {aS : Option Addr} {aSn aSc : Nat} (hcs : cs = [.int .i64 y.ans.xid, .int .i64 y.ans.zxid, .int .i64 y.ans.err, .string y.ans.path, .string y.ans.data, .int .i64 y.ans.stat.czxid, .int .i64 y.ans.stat.mzxid, .int .i64 y.ans.stat.pzxid, .int .i64 y.ans.stat.version, .int .i64 y.ans.stat.cversion, .int .i64 y.ans.stat.aversion, .int .i64 y.ans.stat.owner, .int .i64 y.ans.stat.length, .int .i64 y.ans.stat.kids, .slice aA aAn aAc, .slice aK aKn aKc, .slice aS aSn aSc]) :
    ThL w base w.heap.size 1 (.slice aK aKn aKc) ∧ ThL w base w.heap.size 2 (.slice aA aAn aAc) ∧ ThL w base w.heap.size 17 (.slice aS aSn aSc) := by
  obtain ⟨vs1, ⟨va, vk, hcl, hA, hK, _⟩, hS⟩ := h
  rw [hcs] at hcl
  simp only [List.cons.injEq, and_true] at hcl
  obtain ⟨_, _, _, _, _, _, _, _, _, _, _, _, _, _, rfl, rfl, rfl⟩ := hcl
  exact ⟨hK.th hb, hA.th hb, hS.th hb⟩

set_option maxRecDepth 100000 in
set_option maxHeartbeats 2000000 in
theorem law_reply (s : ByteArray) (w : World) (hs : s.size ≤ 140737488355328) : Calls Tryz.prog 13 #[.string s] w fun e w' => e = .returned (.bool true) ∧ Old w w' := by
  have HSZ := Lib.hid (show (Tryz.prog.info? 78).map (·.size) = some 17 by kernel_rfl)
  have HSK := Lib.hid (show (Tryz.prog.info? 9).map (·.size) = some 1 by kernel_rfl)
  have HSA := Lib.hid (show (Tryz.prog.info? 56).map (·.size) = some 2 by kernel_rfl)
  have HSS := Lib.hid (show (Tryz.prog.info? 78).map (·.size) = some 17 by kernel_rfl)
  obtain ⟨y, e, hlay, pa, px⟩ := both_reply s hs
  obtain ⟨l, hl⟩ : ∃ l, replyF.lay y = l := ⟨_, rfl⟩
  have PA := Lib.hid pa; clear pa
  have PX := Lib.hid px; clear px
  have PL := Lib.hid (show ∀ (cs : List Value) (ok : Nat → Prop) (W : World), replyE W ok cs y → Calls Tryz.prog 36 #[.agg cs.toArray] W (OldStr W l) from fun cs ok W hE => by rw [← hl]; exact refput_reply y cs ok W hE hlay)
  clear hl hlay
  go_enter Tryz.func13, Tryz.ntmps13
  go_wp2_with fail
  refine (PX.out _).mono ?_
  rintro en w1 ⟨cx, rfl, hO1, hEx⟩
  obtain ⟨xA, xAn, xAc, xK, xKn, xKc, xS, xSn, xSc, rfl⟩ := replyE_cells hEx
  have hA1 : Old w1 (w1.alloc (.cells ([.int .i64 y.ans.xid, .int .i64 y.ans.zxid, .int .i64 y.ans.err, .string y.ans.path, .string y.ans.data, .int .i64 y.ans.stat.czxid, .int .i64 y.ans.stat.mzxid, .int .i64 y.ans.stat.pzxid, .int .i64 y.ans.stat.version, .int .i64 y.ans.stat.cversion, .int .i64 y.ans.stat.aversion, .int .i64 y.ans.stat.owner, .int .i64 y.ans.stat.length, .int .i64 y.ans.stat.kids, .slice xA xAn xAc, .slice xK xKn xKc, .slice xS xSn xSc] : List Value).toArray 78)) := (Old.refl _).make _
  have HX := Lib.hid (replyE_ok.keep hEx hA1 (disj_none _))
  have HBX := Lib.hid (heap_alloc_new w1 (.cells ([.int .i64 y.ans.xid, .int .i64 y.ans.zxid, .int .i64 y.ans.err, .string y.ans.path, .string y.ans.data, .int .i64 y.ans.stat.czxid, .int .i64 y.ans.stat.mzxid, .int .i64 y.ans.stat.pzxid, .int .i64 y.ans.stat.version, .int .i64 y.ans.stat.cversion, .int .i64 y.ans.stat.aversion, .int .i64 y.ans.stat.owner, .int .i64 y.ans.stat.length, .int .i64 y.ans.stat.kids, .slice xA xAn xAc, .slice xK xKn xKc, .slice xS xSn xSc] : List Value).toArray 78))
  have HO1 := Lib.hid (hO1.none hA1)
  clear hEx hO1 hA1
  go_wp2_with (refine wpList_store_new w1 rfl 78 _ _ rfl _ [.int .i64 y.ans.xid, .int .i64 y.ans.zxid, .int .i64 y.ans.err, .string y.ans.path, .string y.ans.data, .int .i64 y.ans.stat.czxid, .int .i64 y.ans.stat.mzxid, .int .i64 y.ans.stat.pzxid, .int .i64 y.ans.stat.version, .int .i64 y.ans.stat.cversion, .int .i64 y.ans.stat.aversion, .int .i64 y.ans.stat.owner, .int .i64 y.ans.stat.length, .int .i64 y.ans.stat.kids, .slice xA xAn xAc, .slice xK xKn xKc, .slice xS xSn xSc] rfl rfl HSZ.out rfl (by simp [Value.oneCell']) ?_)
  generalize w1.alloc (.cells ([.int .i64 y.ans.xid, .int .i64 y.ans.zxid, .int .i64 y.ans.err, .string y.ans.path, .string y.ans.data, .int .i64 y.ans.stat.czxid, .int .i64 y.ans.stat.mzxid, .int .i64 y.ans.stat.pzxid, .int .i64 y.ans.stat.version, .int .i64 y.ans.stat.cversion, .int .i64 y.ans.stat.aversion, .int .i64 y.ans.stat.owner, .int .i64 y.ans.stat.length, .int .i64 y.ans.stat.kids, .slice xA xAn xAc, .slice xK xKn xKc, .slice xS xSn xSc] : List Value).toArray 78) = W1 at HX HBX HO1 ⊢
  go_loopw [5] (fun iv wr => ∃ t : Nat, iv = .int .i64 (t : Nat) ∧ t ≤ 2 ∧ Old W1 wr) (fun iv _ => 2 - (intOf iv).toNat)
  case atStart => exact ⟨0, rfl, by omega, Old.refl _⟩
  case round =>
    obtain ⟨t, rfl, ht, hOr⟩ := hrel
    by_cases hlt : t < 2
    · have htl : (t : Int) < 2 := by omega
      go_wp2_with fail
      refine (PA.out _).mono ?_
      rintro en w2 ⟨ca, rfl, hO2, hEa⟩
      obtain ⟨aA, aAn, aAc, aK, aKn, aKc, aS, aSn, aSc, rfl⟩ := replyE_cells hEa
      have hA2 : Old w2 (w2.alloc (.cells ([.int .i64 y.ans.xid, .int .i64 y.ans.zxid, .int .i64 y.ans.err, .string y.ans.path, .string y.ans.data, .int .i64 y.ans.stat.czxid, .int .i64 y.ans.stat.mzxid, .int .i64 y.ans.stat.pzxid, .int .i64 y.ans.stat.version, .int .i64 y.ans.stat.cversion, .int .i64 y.ans.stat.aversion, .int .i64 y.ans.stat.owner, .int .i64 y.ans.stat.length, .int .i64 y.ans.stat.kids, .slice aA aAn aAc, .slice aK aKn aKc, .slice aS aSn aSc] : List Value).toArray 78)) := (Old.refl _).make _
      have HEA := Lib.hid (replyE_ok.keep hEa hA2 (disj_none _))
      have HTH := Lib.hid (reply_th hEa (base := wr.heap.size) (fun k hk => hk) rfl)
      have HBA := Lib.hid (heap_alloc_new w2 (.cells ([.int .i64 y.ans.xid, .int .i64 y.ans.zxid, .int .i64 y.ans.err, .string y.ans.path, .string y.ans.data, .int .i64 y.ans.stat.czxid, .int .i64 y.ans.stat.mzxid, .int .i64 y.ans.stat.pzxid, .int .i64 y.ans.stat.version, .int .i64 y.ans.stat.cversion, .int .i64 y.ans.stat.aversion, .int .i64 y.ans.stat.owner, .int .i64 y.ans.stat.length, .int .i64 y.ans.stat.kids, .slice aA aAn aAc, .slice aK aKn aKc, .slice aS aSn aSc] : List Value).toArray 78))
      have hO3 : Old wr (w2.alloc (.cells ([.int .i64 y.ans.xid, .int .i64 y.ans.zxid, .int .i64 y.ans.err, .string y.ans.path, .string y.ans.data, .int .i64 y.ans.stat.czxid, .int .i64 y.ans.stat.mzxid, .int .i64 y.ans.stat.pzxid, .int .i64 y.ans.stat.version, .int .i64 y.ans.stat.cversion, .int .i64 y.ans.stat.aversion, .int .i64 y.ans.stat.owner, .int .i64 y.ans.stat.length, .int .i64 y.ans.stat.kids, .slice aA aAn aAc, .slice aK aKn aKc, .slice aS aSn aSc] : List Value).toArray 78)) := hO2.none hA2
      have HO3 := Lib.hid hO3
      have HA2 := Lib.hid hA2
      have HX3 := Lib.hid (replyE_ok.keep HX.out (hOr.none hO3) (disj_none _))
      have HBX3 := Lib.hid (((hOr.none hO3).block _ (lt_of_block HBX.out) id).trans HBX.out)
      have HZ2 := Lib.hid hO2.size
      have HOR := Lib.hid hOr
      have hsz : w2.heap.size + 1 ≤ (w2.alloc (.cells ([.int .i64 y.ans.xid, .int .i64 y.ans.zxid, .int .i64 y.ans.err, .string y.ans.path, .string y.ans.data, .int .i64 y.ans.stat.czxid, .int .i64 y.ans.stat.mzxid, .int .i64 y.ans.stat.pzxid, .int .i64 y.ans.stat.version, .int .i64 y.ans.stat.cversion, .int .i64 y.ans.stat.aversion, .int .i64 y.ans.stat.owner, .int .i64 y.ans.stat.length, .int .i64 y.ans.stat.kids, .slice aA aAn aAc, .slice aK aKn aKc, .slice aS aSn aSc] : List Value).toArray 78)).heap.size := by simp
      clear hEa hO2 hA2 hO3 hOr
      go_upto_region 6 with (refine wpList_store_new w2 rfl 78 _ _ rfl _ [.int .i64 y.ans.xid, .int .i64 y.ans.zxid, .int .i64 y.ans.err, .string y.ans.path, .string y.ans.data, .int .i64 y.ans.stat.czxid, .int .i64 y.ans.stat.mzxid, .int .i64 y.ans.stat.pzxid, .int .i64 y.ans.stat.version, .int .i64 y.ans.stat.cversion, .int .i64 y.ans.stat.aversion, .int .i64 y.ans.stat.owner, .int .i64 y.ans.stat.length, .int .i64 y.ans.stat.kids, .slice aA aAn aAc, .slice aK aKn aKc, .slice aS aSn aSc] rfl rfl HSZ.out rfl (by simp [Value.oneCell']) ?_)
      generalize w2.alloc (.cells ([.int .i64 y.ans.xid, .int .i64 y.ans.zxid, .int .i64 y.ans.err, .string y.ans.path, .string y.ans.data, .int .i64 y.ans.stat.czxid, .int .i64 y.ans.stat.mzxid, .int .i64 y.ans.stat.pzxid, .int .i64 y.ans.stat.version, .int .i64 y.ans.stat.cversion, .int .i64 y.ans.stat.aversion, .int .i64 y.ans.stat.owner, .int .i64 y.ans.stat.length, .int .i64 y.ans.stat.kids, .slice aA aAn aAc, .slice aK aKn aKc, .slice aS aSn aSc] : List Value).toArray 78) = W2 at HEA HBA HO3 HX3 HBX3 HA2 hsz ⊢
      have HSS := Lib.hid (show ∀ w', Old W2 w' → w'.cell? ⟨w2.heap.size, 0, none⟩ = some (.int .i64 y.ans.xid) ∧ w'.cell? ⟨w2.heap.size, 1, none⟩ = some (.int .i64 y.ans.zxid) ∧ w'.cell? ⟨w2.heap.size, 2, none⟩ = some (.int .i64 y.ans.err) ∧ w'.cell? ⟨w2.heap.size, 3, none⟩ = some (.string y.ans.path) ∧ w'.cell? ⟨w2.heap.size, 4, none⟩ = some (.string y.ans.data) ∧ w'.cell? ⟨w2.heap.size, 5, none⟩ = some (.int .i64 y.ans.stat.czxid) ∧ w'.cell? ⟨w2.heap.size, 6, none⟩ = some (.int .i64 y.ans.stat.mzxid) ∧ w'.cell? ⟨w2.heap.size, 7, none⟩ = some (.int .i64 y.ans.stat.pzxid) ∧ w'.cell? ⟨w2.heap.size, 8, none⟩ = some (.int .i64 y.ans.stat.version) ∧ w'.cell? ⟨w2.heap.size, 9, none⟩ = some (.int .i64 y.ans.stat.cversion) ∧ w'.cell? ⟨w2.heap.size, 10, none⟩ = some (.int .i64 y.ans.stat.aversion) ∧ w'.cell? ⟨w2.heap.size, 11, none⟩ = some (.int .i64 y.ans.stat.owner) ∧ w'.cell? ⟨w2.heap.size, 12, none⟩ = some (.int .i64 y.ans.stat.length) ∧ w'.cell? ⟨w2.heap.size, 13, none⟩ = some (.int .i64 y.ans.stat.kids) ∧ w'.cell? ⟨w2.heap.size, 14, none⟩ = some (.slice aA aAn aAc) ∧ w'.cell? ⟨w2.heap.size, 15, none⟩ = some (.slice aK aKn aKc) ∧ w'.cell? ⟨w2.heap.size, 16, none⟩ = some (.slice aS aSn aSc) ∧ w'.cell? ⟨w1.heap.size, 0, none⟩ = some (.int .i64 y.ans.xid) ∧ w'.cell? ⟨w1.heap.size, 1, none⟩ = some (.int .i64 y.ans.zxid) ∧ w'.cell? ⟨w1.heap.size, 2, none⟩ = some (.int .i64 y.ans.err) ∧ w'.cell? ⟨w1.heap.size, 3, none⟩ = some (.string y.ans.path) ∧ w'.cell? ⟨w1.heap.size, 4, none⟩ = some (.string y.ans.data) ∧ w'.cell? ⟨w1.heap.size, 5, none⟩ = some (.int .i64 y.ans.stat.czxid) ∧ w'.cell? ⟨w1.heap.size, 6, none⟩ = some (.int .i64 y.ans.stat.mzxid) ∧ w'.cell? ⟨w1.heap.size, 7, none⟩ = some (.int .i64 y.ans.stat.pzxid) ∧ w'.cell? ⟨w1.heap.size, 8, none⟩ = some (.int .i64 y.ans.stat.version) ∧ w'.cell? ⟨w1.heap.size, 9, none⟩ = some (.int .i64 y.ans.stat.cversion) ∧ w'.cell? ⟨w1.heap.size, 10, none⟩ = some (.int .i64 y.ans.stat.aversion) ∧ w'.cell? ⟨w1.heap.size, 11, none⟩ = some (.int .i64 y.ans.stat.owner) ∧ w'.cell? ⟨w1.heap.size, 12, none⟩ = some (.int .i64 y.ans.stat.length) ∧ w'.cell? ⟨w1.heap.size, 13, none⟩ = some (.int .i64 y.ans.stat.kids) ∧ w'.cell? ⟨w1.heap.size, 14, none⟩ = some (.slice xA xAn xAc) ∧ w'.cell? ⟨w1.heap.size, 15, none⟩ = some (.slice xK xKn xKc) ∧ w'.cell? ⟨w1.heap.size, 16, none⟩ = some (.slice xS xSn xSc) ∧ Old W2 w' from fun w' hO => by
        have ha := fun i v hv => cell_of_heap (i := i) (v := v) ((hO.block _ (lt_of_block HBA.out) id).trans HBA.out) hv
        have hx := fun i v hv => cell_of_heap (i := i) (v := v) ((hO.block _ (lt_of_block HBX3.out) id).trans HBX3.out) hv
        exact ⟨ha 0 _ rfl, ha 1 _ rfl, ha 2 _ rfl, ha 3 _ rfl, ha 4 _ rfl, ha 5 _ rfl, ha 6 _ rfl, ha 7 _ rfl, ha 8 _ rfl, ha 9 _ rfl, ha 10 _ rfl, ha 11 _ rfl, ha 12 _ rfl, ha 13 _ rfl, ha 14 _ rfl, ha 15 _ rfl, ha 16 _ rfl, hx 0 _ rfl, hx 1 _ rfl, hx 2 _ rfl, hx 3 _ rfl, hx 4 _ rfl, hx 5 _ rfl, hx 6 _ rfl, hx 7 _ rfl, hx 8 _ rfl, hx 9 _ rfl, hx 10 _ rfl, hx 11 _ rfl, hx 12 _ rfl, hx 13 _ rfl, hx 14 _ rfl, hx 15 _ rfl, hx 16 _ rfl, hO⟩)
      have KA := Lib.hid (fun W (h : Old W2 W) => PL.out [.int .i64 y.ans.xid, .int .i64 y.ans.zxid, .int .i64 y.ans.err, .string y.ans.path, .string y.ans.data, .int .i64 y.ans.stat.czxid, .int .i64 y.ans.stat.mzxid, .int .i64 y.ans.stat.pzxid, .int .i64 y.ans.stat.version, .int .i64 y.ans.stat.cversion, .int .i64 y.ans.stat.aversion, .int .i64 y.ans.stat.owner, .int .i64 y.ans.stat.length, .int .i64 y.ans.stat.kids, .slice aA aAn aAc, .slice aK aKn aKc, .slice aS aSn aSc] _ W (replyE_ok.keep HEA.out h (disj_none _)))
      have KX := Lib.hid (fun W (h : Old W2 W) => PL.out [.int .i64 y.ans.xid, .int .i64 y.ans.zxid, .int .i64 y.ans.err, .string y.ans.path, .string y.ans.data, .int .i64 y.ans.stat.czxid, .int .i64 y.ans.stat.mzxid, .int .i64 y.ans.stat.pzxid, .int .i64 y.ans.stat.version, .int .i64 y.ans.stat.cversion, .int .i64 y.ans.stat.aversion, .int .i64 y.ans.stat.owner, .int .i64 y.ans.stat.length, .int .i64 y.ans.stat.kids, .slice xA xAn xAc, .slice xK xKn xKc, .slice xS xSn xSc] _ W (replyE_ok.keep HX3.out h (disj_none _)))
      go_cut [34] (fun v wx => v = .bool false ∧ Old W2 wx)
      case first =>
        go_region_held3 (fun w' => w'.cell? ⟨w2.heap.size, 0, none⟩ = some (.int .i64 y.ans.xid) ∧ w'.cell? ⟨w2.heap.size, 1, none⟩ = some (.int .i64 y.ans.zxid) ∧ w'.cell? ⟨w2.heap.size, 2, none⟩ = some (.int .i64 y.ans.err) ∧ w'.cell? ⟨w2.heap.size, 3, none⟩ = some (.string y.ans.path) ∧ w'.cell? ⟨w2.heap.size, 4, none⟩ = some (.string y.ans.data) ∧ w'.cell? ⟨w2.heap.size, 5, none⟩ = some (.int .i64 y.ans.stat.czxid) ∧ w'.cell? ⟨w2.heap.size, 6, none⟩ = some (.int .i64 y.ans.stat.mzxid) ∧ w'.cell? ⟨w2.heap.size, 7, none⟩ = some (.int .i64 y.ans.stat.pzxid) ∧ w'.cell? ⟨w2.heap.size, 8, none⟩ = some (.int .i64 y.ans.stat.version) ∧ w'.cell? ⟨w2.heap.size, 9, none⟩ = some (.int .i64 y.ans.stat.cversion) ∧ w'.cell? ⟨w2.heap.size, 10, none⟩ = some (.int .i64 y.ans.stat.aversion) ∧ w'.cell? ⟨w2.heap.size, 11, none⟩ = some (.int .i64 y.ans.stat.owner) ∧ w'.cell? ⟨w2.heap.size, 12, none⟩ = some (.int .i64 y.ans.stat.length) ∧ w'.cell? ⟨w2.heap.size, 13, none⟩ = some (.int .i64 y.ans.stat.kids) ∧ w'.cell? ⟨w2.heap.size, 14, none⟩ = some (.slice aA aAn aAc) ∧ w'.cell? ⟨w2.heap.size, 15, none⟩ = some (.slice aK aKn aKc) ∧ w'.cell? ⟨w2.heap.size, 16, none⟩ = some (.slice aS aSn aSc) ∧ w'.cell? ⟨w1.heap.size, 0, none⟩ = some (.int .i64 y.ans.xid) ∧ w'.cell? ⟨w1.heap.size, 1, none⟩ = some (.int .i64 y.ans.zxid) ∧ w'.cell? ⟨w1.heap.size, 2, none⟩ = some (.int .i64 y.ans.err) ∧ w'.cell? ⟨w1.heap.size, 3, none⟩ = some (.string y.ans.path) ∧ w'.cell? ⟨w1.heap.size, 4, none⟩ = some (.string y.ans.data) ∧ w'.cell? ⟨w1.heap.size, 5, none⟩ = some (.int .i64 y.ans.stat.czxid) ∧ w'.cell? ⟨w1.heap.size, 6, none⟩ = some (.int .i64 y.ans.stat.mzxid) ∧ w'.cell? ⟨w1.heap.size, 7, none⟩ = some (.int .i64 y.ans.stat.pzxid) ∧ w'.cell? ⟨w1.heap.size, 8, none⟩ = some (.int .i64 y.ans.stat.version) ∧ w'.cell? ⟨w1.heap.size, 9, none⟩ = some (.int .i64 y.ans.stat.cversion) ∧ w'.cell? ⟨w1.heap.size, 10, none⟩ = some (.int .i64 y.ans.stat.aversion) ∧ w'.cell? ⟨w1.heap.size, 11, none⟩ = some (.int .i64 y.ans.stat.owner) ∧ w'.cell? ⟨w1.heap.size, 12, none⟩ = some (.int .i64 y.ans.stat.length) ∧ w'.cell? ⟨w1.heap.size, 13, none⟩ = some (.int .i64 y.ans.stat.kids) ∧ w'.cell? ⟨w1.heap.size, 14, none⟩ = some (.slice xA xAn xAc) ∧ w'.cell? ⟨w1.heap.size, 15, none⟩ = some (.slice xK xKn xKc) ∧ w'.cell? ⟨w1.heap.size, 16, none⟩ = some (.slice xS xSn xSc) ∧ Old W2 w')
          (((try dsimp only); first | exact HSS.out _ (Old.drew (Old.refl _)) | exact HSS.out _ (by assumption) | exact HSS.out _ (Old.drew (by assumption))))
          (first
            | (go_at_call 36; go_split_ands; (with_reducible refine (KA.out _ (by first | assumption | exact Old.drew (Old.refl _))).mono ?_); rintro en w9 ⟨rfl, hO9⟩; have hP9 : Old W2 w9 := Old.none (by first | assumption | exact Old.drew (Old.refl _)) hO9; clear hO9)
            | (go_at_call 36; go_split_ands; (with_reducible refine (KX.out _ (by first | assumption | exact Old.drew (Old.refl _))).mono ?_); rintro en w9 ⟨rfl, hO9⟩; have hP9 : Old W2 w9 := Old.none (by first | assumption | exact Old.drew (Old.refl _)) hO9; clear hO9))
        all_goals go_wp2_with fail
        all_goals go_meet
        all_goals exact ⟨rfl, by assumption⟩
      case rest =>
      obtain ⟨rfl, hOc⟩ := hcut
      have hth := HTH.out
      have HBC := Lib.hid ((hOc.block _ (lt_of_block HBA.out) id).trans HBA.out)
      have hOr2 : Old wr wc := HO3.out.none hOc
      have hzc : w2.heap.size + 1 ≤ wc.heap.size := Nat.le_trans hsz hOc.size
      obtain ⟨bz, hbz⟩ : ∃ b, wr.heap.size = b := ⟨_, rfl⟩
      have HFIN := Lib.hid (show ∀ wq, Kept (Mid bz w2.heap.size) wc wq → Old W1 wq from fun wq hq => HOR.out.none (hOr2.step hq (fun k hk => by rw [hbz]; exact hk.1)))
      rw [hbz] at hth
      have HTK := Lib.hid ((hth.1.keep HA2.out (fun _ _ _ f => f) (Nat.le_refl _)).keep hOc (fun _ _ _ f => f) (by omega))
      have HTA := Lib.hid ((hth.2.1.keep HA2.out (fun _ _ _ f => f) (Nat.le_refl _)).keep hOc (fun _ _ _ f => f) (by omega))
      have HTS := Lib.hid ((hth.2.2.keep HA2.out (fun _ _ _ f => f) (Nat.le_refl _)).keep hOc (fun _ _ _ f => f) (by omega))
      clear HSS KA KX HX3 HBX3 HEA HBA HTH hth HO3 hOc hOr2 HA2 hbz HOR HZ2
      go_wp2_with fail
      go_loopw [8] (fun iv wq => ∃ k : Nat, iv = .int .i64 (k : Nat) ∧ k ≤ aKn ∧ Kept (Mid bz w2.heap.size) wc wq ∧ ThL wq bz w2.heap.size 1 (.slice aK aKn aKc) ∧ ThL wq bz w2.heap.size 2 (.slice aA aAn aAc) ∧ ThL wq bz w2.heap.size 17 (.slice aS aSn aSc)) (fun iv _ => aKn - (intOf iv).toNat)
      case atStart => exact ⟨0, rfl, Nat.zero_le _, Kept.refl _ _, HTK.out, HTA.out, HTS.out⟩
      case round =>
        obtain ⟨k, rfl, hk, hKq, hqK, hqA, hqS⟩ := hrel
        have hbq := (hKq.block _ (lt_of_block HBC.out) (fun hs => by have := hs.2; omega)).trans HBC.out
        have cq := cell_of_heap (i := 15) (v := .slice aK aKn aKc) hbq rfl
        have hln := hqK.len
        unfold maxLen at hln
        clear hbq
        by_cases hlt0 : k < aKn
        · have hkl : (k : Int) < (aKn : Int) := by omega
          obtain ⟨g, off, rfl, hgb, hgt, hth⟩ := hqK.at_ hlt0
          have HT := Lib.hid hth; clear hth
          have HLT := Lib.hid hlt0
          have HQK := Lib.hid (fun o (vs : List Value) => hqK.set g o vs); clear hqK
          have HQA := Lib.hid (fun o (vs : List Value) => hqA.set g o vs); clear hqA
          have HQS := Lib.hid (fun o (vs : List Value) => hqS.set g o vs); clear hqS
          have HKQ := Lib.hid (fun o (vs : List Value) => Mid.set (o := o) (vs := vs) hKq hgb hgt); clear hKq
          obtain ⟨wn, hwn⟩ : ∃ u, World.setCells wr g (off + k) [.string ⟨#[111, 118, 101, 114]⟩] = u := ⟨_, rfl⟩
          have HWN := Lib.hid hwn; clear hwn
          replace HT : Hid (wr.there g (off + k) 1) := Lib.hid (by have := HT.out; rwa [Nat.mul_one] at this)
          go_wp2_with (refine wpList_store_cell rfl 9 (.tmp 45) _ rfl g (off + k) (.string ⟨#[111, 118, 101, 114]⟩) rfl rfl rfl HT.out HSK.out wn HWN.out ?_)
          go_roundw
          case rel => rw [← HWN.out]; exact ⟨k + 1, by go_num, HLT.out, HKQ.out _ _, HQK.out _ _, HQA.out _ _, HQS.out _ _⟩
          case measure => have h := HLT.out; simp [intOf]; omega
        · have hkl : ¬ (k : Int) < (aKn : Int) := by omega
          have HQA1 := Lib.hid hqA
          have HQS1 := Lib.hid hqS
          have HKQ1 := Lib.hid hKq
          clear hKq hqK hqA hqS
          go_wp2_with fail
          clear cq hkl hln hlt0 hk
          go_loopw [9] (fun iv wq => ∃ k : Nat, iv = .int .i64 (k : Nat) ∧ k ≤ aAn ∧ Kept (Mid bz w2.heap.size) wc wq ∧ ThL wq bz w2.heap.size 2 (.slice aA aAn aAc) ∧ ThL wq bz w2.heap.size 17 (.slice aS aSn aSc)) (fun iv _ => aAn - (intOf iv).toNat)
          case atStart => exact ⟨0, rfl, Nat.zero_le _, HKQ1.out, HQA1.out, HQS1.out⟩
          case round =>
            obtain ⟨k, rfl, hk, hKq, hqA, hqS⟩ := hrel
            have hbq := (hKq.block _ (lt_of_block HBC.out) (fun hs => by have := hs.2; omega)).trans HBC.out
            have cq := cell_of_heap (i := 14) (v := .slice aA aAn aAc) hbq rfl
            have hln := hqA.len
            unfold maxLen at hln
            clear hbq
            by_cases hlt1 : k < aAn
            · have hkl : (k : Int) < (aAn : Int) := by omega
              obtain ⟨g, off, rfl, hgb, hgt, hth⟩ := hqA.at_ hlt1
              have HT := Lib.hid hth; clear hth
              have HLT := Lib.hid hlt1
              have HQA := Lib.hid (fun o (vs : List Value) => hqA.set g o vs); clear hqA
              have HQS := Lib.hid (fun o (vs : List Value) => hqS.set g o vs); clear hqS
              have HKQ := Lib.hid (fun o (vs : List Value) => Mid.set (o := o) (vs := vs) hKq hgb hgt); clear hKq
              obtain ⟨wn, hwn⟩ : ∃ u, World.setCells wr g (off + k * 2) [.int .i64 (-1), .string ⟨#[]⟩] = u := ⟨_, rfl⟩
              have HWN := Lib.hid hwn; clear hwn
              have HONE := Lib.hid (show ∀ v ∈ ([.int .i64 (-1), .string ⟨#[]⟩] : List Value), v.oneCell' = true by simp [Value.oneCell'])
              go_wp2_with (refine wpList_store_over rfl 56 (.tmp 57) (.tmp 56) rfl g (off + k * 2) [.int .i64 (-1), .string ⟨#[]⟩] 2 rfl rfl HT.out rfl HSA.out HONE.out wn HWN.out ?_)
              go_roundw
              case rel => rw [← HWN.out]; exact ⟨k + 1, by go_num, HLT.out, HKQ.out _ _, HQA.out _ _, HQS.out _ _⟩
              case measure => have h := HLT.out; simp [intOf]; omega
            · have hkl : ¬ (k : Int) < (aAn : Int) := by omega
              have HQS2 := Lib.hid hqS
              have HKQ2 := Lib.hid hKq
              clear hKq hqA hqS
              go_wp2_with fail
              clear cq hkl hln hlt1 hk
              go_loopw [10] (fun iv wq => ∃ k : Nat, iv = .int .i64 (k : Nat) ∧ k ≤ aSn ∧ Kept (Mid bz w2.heap.size) wc wq ∧ ThL wq bz w2.heap.size 17 (.slice aS aSn aSc)) (fun iv _ => aSn - (intOf iv).toNat)
              case atStart => exact ⟨0, rfl, Nat.zero_le _, HKQ2.out, HQS2.out⟩
              case round =>
                obtain ⟨k, rfl, hk, hKq, hqS⟩ := hrel
                have hbq := (hKq.block _ (lt_of_block HBC.out) (fun hs => by have := hs.2; omega)).trans HBC.out
                have cq := cell_of_heap (i := 16) (v := .slice aS aSn aSc) hbq rfl
                have hln := hqS.len
                unfold maxLen at hln
                clear hbq
                by_cases hlt2 : k < aSn
                · have hkl : (k : Int) < (aSn : Int) := by omega
                  obtain ⟨g, off, rfl, hgb, hgt, hth⟩ := hqS.at_ hlt2
                  have HT := Lib.hid hth; clear hth
                  have HLT := Lib.hid hlt2
                  have HQS := Lib.hid (fun o (vs : List Value) => hqS.set g o vs); clear hqS
                  have HKQ := Lib.hid (fun o (vs : List Value) => Mid.set (o := o) (vs := vs) hKq hgb hgt); clear hKq
                  obtain ⟨wn, hwn⟩ : ∃ u, World.setCells wr g (off + k * 17) [.int .i64 (-1), .int .i64 0, .int .i64 0, .string ⟨#[]⟩, .string ⟨#[]⟩, .int .i64 0, .int .i64 0, .int .i64 0, .int .i64 0, .int .i64 0, .int .i64 0, .int .i64 0, .int .i64 0, .int .i64 0, .slice none 0 0, .slice none 0 0, .slice none 0 0] = u := ⟨_, rfl⟩
                  have HWN := Lib.hid hwn; clear hwn
                  have HONE := Lib.hid (show ∀ v ∈ ([.int .i64 (-1), .int .i64 0, .int .i64 0, .string ⟨#[]⟩, .string ⟨#[]⟩, .int .i64 0, .int .i64 0, .int .i64 0, .int .i64 0, .int .i64 0, .int .i64 0, .int .i64 0, .int .i64 0, .int .i64 0, .slice none 0 0, .slice none 0 0, .slice none 0 0] : List Value), v.oneCell' = true by simp [Value.oneCell'])
                  go_wp2_with (refine wpList_store_over rfl 78 (.tmp 69) (.tmp 68) rfl g (off + k * 17) [.int .i64 (-1), .int .i64 0, .int .i64 0, .string ⟨#[]⟩, .string ⟨#[]⟩, .int .i64 0, .int .i64 0, .int .i64 0, .int .i64 0, .int .i64 0, .int .i64 0, .int .i64 0, .int .i64 0, .int .i64 0, .slice none 0 0, .slice none 0 0, .slice none 0 0] 17 rfl rfl HT.out rfl HSS.out HONE.out wn HWN.out ?_)
                  go_roundw
                  case rel => rw [← HWN.out]; exact ⟨k + 1, by go_num, HLT.out, HKQ.out _ _, HQS.out _ _⟩
                  case measure => have h := HLT.out; simp [intOf]; omega
                · have hkl : ¬ (k : Int) < (aSn : Int) := by omega
                  have HKQ3 := Lib.hid hKq
                  clear hKq hqS
                  go_wp2_with fail
                  go_roundw
                  case rel => exact ⟨t + 1, by go_num, hlt, HFIN.out _ HKQ3.out⟩
                  case measure => simp [intOf]; omega
    · have htl : ¬ (t : Int) < 2 := by omega
      have HE := Lib.hid (HO1.out.none hOr)
      clear hOr
      go_wp2_with fail
      go_ret
      exact ⟨rfl, HE.out⟩
end Go.Proofs.YtpmemcpfoapjmaaGreat
