/- WalOpens holds: whatever two mark sectors and whatever area lie on a disk of 16 sectors, Open finds there the log that the document reads there, or none, and tells its records and numbers (A2). No condition. -/
import Derived.Test.YtmfngbgdmlnlcaaRows
import Derived.Test.YtmfngbgdmlnlcaaJuh
import Derived.WalkKit
import Derived.ProofKit
import Derived.OpenShut
import Derived.ShutString
import Derived.ChangeOld
import Derived.Below
import Derived.Deep.Grids
import Derived.Deep.Slices
import Derived.SizedLaws
import Derived.Deep.DeepCutAuto
namespace Go.Proofs.Ytmfngbgdmlnlcaa.walOpens
open Go.ChangeShapes Go.WideShapes Go.ChangeAt Go.RowKit
open Go.ChangeMaps (open_string shut_string)
set_option linter.unusedVariables false
set_option linter.unusedSimpArgs false
theorem strs_of {H : Type} {enc : TypeId × Value → H} {w : World} {base : Nat} {held : Bool} {spare : Nat → Bool} {fuel : Nat} {a : Option Addr} {len cap : Nat} {x : DataW H × List MemPlace} (hsp : ∀ b, spare b = true)
    (h : DataW.trod enc Try.prog w base spare held fuel 22 [.slice a len cap] = some x) : ∃ l : List ByteArray, l.length = len ∧ TsAt w (fun k => k < w.heap.size) (.slice a len cap) l ∧ (∀ s ∈ l, s.size ≤ maxLen) ∧ len ≤ maxLen := by
  rcases Go.ChangeShapes.open_strings Try.underlying22 Try.underlying9 (by kernel_rfl) h with ⟨hc, _⟩ | ⟨a', len', cap', ss, hc, hb, hl, hm, hlen, hx, hi, hsz⟩
  · simp at hc
    obtain ⟨rfl, rfl, rfl⟩ := hc
    exact ⟨[], rfl, ⟨⟨none, 0, rfl, fun i h => absurd h (by simp)⟩⟩, by simp, Nat.zero_le _⟩
  · simp at hc
    obtain ⟨rfl, rfl, rfl⟩ := hc
    rw [hsp, if_pos rfl] at hlen
    have hil : (ss.take len).length = len := by rw [List.length_take]; omega
    refine ⟨ss.take len, hil, ⟨⟨_, _, by rw [hil], fun i hi2 => ?_⟩⟩, fun s hs => hsz s (List.mem_of_mem_take hs), by omega⟩
    have hin : i < ss.length := by omega
    have hs := hi i hin
    obtain ⟨b, off, spot⟩ := a'
    have hspot : spot = none := by simpa [Addr.add] using World.cell?_spot (hi 0 (by omega))
    subst hspot
    rw [show (⟨b, off, none⟩ : Addr).add i = ⟨b, off + i, none⟩ by unfold Addr.add; split <;> simp_all] at hs
    refine ⟨b, off, rfl, World.block_lt_of_cell? w _ hs, ?_⟩
    rw [hs, List.getElem_take, List.getD, List.getElem?_eq_getElem hin]; rfl
/-- both disks, k sectors written on each -/
structure Wr (k : Nat) (d : DSt) (r : RSt) : Prop where
  dn : d.n = 16
  rn : r.n = 16
  S : ∀ i, i < 16 → d.S i = r.L i
  dead : d.dead = false
  left : d.left = 0
  acts : d.acts = k
  N : r.N = k
  At : r.At = 0
  gone : r.Gone = false
theorem Wr.next {k : Nat} {d : DSt} {r : RSt} (h : Wr k d r) (hk : k < 16) {s : List UInt8} (hs : s.length = 64) : (writeD d (k : Int) s).2 = 0 ∧ (writeR r (k : Int) s).2 = 0 ∧ Wr (k + 1) (writeD d (k : Int) s).1 (writeR r (k : Int) s).1 := by
  obtain ⟨w1, _, w3, w4, w5, w6⟩ := writeD_in (s := s) (by rw [h.dn]; exact hk) hs h.dead
  obtain ⟨w7, w8⟩ := w5 h.left
  have ea : actR r = { r with N := r.N + 1 } := by unfold actR; rw [if_neg (by rw [h.At]; omega)]
  have eh : hasR r (k : Int) = true := (hasR_iff r _).2 ⟨by omega, by rw [h.rn]; omega⟩
  have er : writeR r (k : Int) s = ({ actR r with L := upd r.L k s, Pend := upd r.Pend k true }, 0) := by
    unfold writeR
    rw [if_neg (by simp [h.gone]), if_neg (by simp [eh, hs]), ea]
    simp [h.gone]
  refine ⟨by rw [w4, w8]; rfl, by rw [er], ?_⟩
  rw [er]
  refine ⟨by rw [w3]; exact h.dn, by rw [ea]; exact h.rn, fun i hi => ?_, w8, w7, by rw [w6, h.acts], by rw [ea]; show r.N + 1 = k + 1; rw [h.N], by rw [ea]; exact h.At, by rw [ea]; exact h.gone⟩
  rw [w1]
  show upd d.S k s i = upd r.L k s i
  by_cases e : i = k
  · subst e; rw [upd_same, upd_same]
  · rw [upd_other _ _ _ e, upd_other _ _ _ e]; exact h.S i hi
structure LwRel (w w2 : World) (db sb mb : Nat) (q : RB4) (iv : Value) (wr : World) : Prop where
  ex : ∃ (k nn : Nat) (d : DSt) (r : RSt), k ≤ 16 ∧ iv = .int .i64 k ∧ Wr k d r ∧ DAt wr db sb mb nn d ∧ RfAt wr q r ∧ Kept (fun j => DB db sb mb j ∨ XB q j) w2 wr
set_option maxRecDepth 100000 in
set_option maxHeartbeats 4000000 in
theorem walk (ma : Option Addr) (mcap : Nat) (ms : List ByteArray) (area : ByteArray) (w : World) (hm : TsAt w (fun k => k < w.heap.size) (.slice ma ms.length mcap) ms) (hz : ∀ s ∈ ms, s.size ≤ maxLen) (hml : ms.length ≤ maxLen) (ha : area.size ≤ maxLen) :
    Calls Try.prog 3 #[.slice ma ms.length mcap, .string area] w fun e w' => e = .returned (.bool true) ∧ Below w.heap.size w w' := by
  unfold maxLen at hz hml ha
  have HM := Lib.hid hm
  have HZ := Lib.hid hz
  have HAW := Lib.hid (awake_any w)
  clear hm hz
  go_enter Try.func3, Try.ntmps3
  go_wp2_with fail
  refine HAW.out.mono ?_
  rintro e w0 ⟨rfl, hk0⟩
  have HK0 := Lib.hid hk0
  clear hk0
  go_wp2_with fail
  refine (wnew_any _ 16 (by decide) (by decide)).mono ?_
  rintro e w1 ⟨db, sb, mb, nn, rfl, hD, hDB, hk1⟩
  have HK1 := Lib.hid (HK0.out.trans hk1)
  have HD1 := Lib.hid hD
  have HDB : Hid (∀ k, DB db sb mb k → w.heap.size ≤ k) := Lib.hid (fun k hk => Nat.le_trans HK0.out.size (hDB k hk))
  clear hD hDB hk1
  go_wp2_with fail
  refine (xnew_any _ 16).mono ?_
  rintro e w2 (⟨_, _, q, rfl, hR, hXB, hk2⟩ | ⟨hbad, _⟩)
  rotate_left
  · omega
  have HK2 := Lib.hid (HK1.out.trans hk2)
  have HD2 := Lib.hid (HD1.out.kept hk2 (fun _ _ f => f))
  have HR2 := Lib.hid hR
  have HXB : Hid (∀ k, XB q k → w.heap.size ≤ k ∧ ¬ DB db sb mb k) := Lib.hid (fun k hk => ⟨Nat.le_trans HK1.out.size (hXB k hk), fun hb => by have := HD1.out.inn k hb; have := hXB k hk; omega⟩)
  have HW0 : Hid (Wr 0 (newD 16) ⟨Int.toNat 16, fun _ => zeros, fun _ => zeros, fun _ => false, 0, 0, false⟩) := Lib.hid ⟨rfl, rfl, fun _ _ => rfl, rfl, rfl, rfl, rfl, rfl, rfl⟩
  clear hR hXB hk2 HK1 HD1 HAW HK0
  go_wp2_with fail
  go_loopw [10] (fun iv wr => LwRel w w2 db sb mb q iv wr) (fun iv _ => 16 - (Go.RowKit.intOf iv).toNat)
  case atStart => exact ⟨0, _, _, _, Nat.zero_le _, rfl, HW0.out, HD2.out, HR2.out, Kept.refl _ _⟩
  case round =>
    obtain ⟨k, nn', d, r, hk, rfl, hwr, hD, hR, hkp⟩ := hrel.ex
    clear hrel HW0 HD2 HR2
    have HWR := Lib.hid hwr
    have HD := Lib.hid hD
    have HR := Lib.hid hR
    have HKP := Lib.hid hkp
    have HFARM : Hid (∀ j, j < w.heap.size → ¬ (DB db sb mb j ∨ XB q j)) := Lib.hid (fun j hj h => h.elim (fun h => by have := HDB.out j h; omega) (fun h => by have := (HXB.out j h).1; omega))
    have HKW : Hid (Below w.heap.size w wr) := Lib.hid ⟨hkp.os.trans HK2.out.os, hkp.tape.trans HK2.out.tape, hkp.output.trans HK2.out.output, Nat.le_trans HK2.out.size hkp.size, fun j hj => (hkp.block j (Nat.lt_of_lt_of_le hj HK2.out.size) (HFARM.out j hj)).trans (HK2.out.block j hj id)⟩
    clear hwr hD hR hkp
    by_cases hlt : k < 16
    · have HMW : Hid (TsAt wr (fun k => k < w.heap.size) (.slice ma ms.length mcap) ms) := Lib.hid (HM.out.kept (X := fun j => w.heap.size ≤ j) ⟨HKW.out.os, HKW.out.tape, HKW.out.output, HKW.out.size, fun j hj _ => HKW.out.block j hj⟩ (fun j hj hle => by have hle : w.heap.size ≤ j := hle; omega))
      have HNX : Hid (∀ t : ByteArray, t.size = 64 → (writeD d (k : Int) t.data.toList).2 = 0 ∧ (writeR r (k : Int) t.data.toList).2 = 0 ∧ Wr (k + 1) (writeD d (k : Int) t.data.toList).1 (writeR r (k : Int) t.data.toList).1) := Lib.hid (fun t ht => HWR.out.next hlt (by rw [list_size]; exact ht))
      rcases (show (k < 2 ∧ k < ms.length) ∨ (k < 2 ∧ ¬ k < ms.length) ∨ (2 ≤ k ∧ 64 * (k - 2) < area.size) ∨ (2 ≤ k ∧ ¬ 64 * (k - 2) < area.size) by omega) with ⟨q1, q2⟩ | ⟨q1, q2⟩ | ⟨q1, q2⟩ | ⟨q1, q2⟩
      · obtain ⟨_, g, off, rfl, _, hcell⟩ := HMW.out.at_ q2
        obtain ⟨t0, ht0⟩ : ∃ t0, ms[k] = t0 := ⟨_, rfl⟩
        have htz : t0.size ≤ 9223372036854775807 := by rw [← ht0]; exact HZ.out _ (List.getElem_mem q2)
        rw [ht0] at hcell
        have HZ0 := Lib.hid htz
        clear ht0
        go_upto_region 14 with (fail)
        obtain ⟨c, hc⟩ : ∃ c : Nat, min (t0.size : Int) 64 = (c : Int) := ⟨min t0.size 64, by omega⟩
        have hc64 : c ≤ 64 := by omega
        have hct : c ≤ t0.size := by omega
        have hcut := fun V => cut_run V t0 hct
        obtain ⟨t1, ht1⟩ : ∃ t1 : ByteArray, t0.extract 0 c = t1 := ⟨_, rfl⟩
        have hs1 : t1.size = c := by rw [← ht1, ← list_size, ext_list]; simp [list_size]; omega
        rw [ht1] at hcut
        have HS1 := Lib.hid hs1
        obtain ⟨z, hz9⟩ : ∃ z : Nat, (64 : Int) - (t1.size : Int) = (z : Int) := ⟨64 - c, by omega⟩
        have hzb : z ≤ 64 := by omega
        have hmk := fun V => make_bytes V z (by omega)
        have hcv := fun V => conv_k V z
        obtain ⟨zb, hzb2⟩ : ∃ zb : ByteArray, (⟨(List.replicate z 0).toArray⟩ : ByteArray) = zb := ⟨_, rfl⟩
        have hzs : zb.size = z := by rw [← hzb2]; exact List.length_replicate
        rw [hzb2] at hcv
        obtain ⟨cz, hcz⟩ : ∃ cz, (secL (List.replicate z 0)).toArray = cz := ⟨_, rfl⟩
        rw [hcz] at hmk hcv
        obtain ⟨t2, ht2⟩ : ∃ t2 : ByteArray, t1 ++ zb = t2 := ⟨_, rfl⟩
        have hcat : ∀ W, Sem.run Try.prog (Op.stringOp .add t1 zb) W = .ok (.string t2) W := fun W => by rw [run_string_add_sum W _ _ (by omega), ht2]
        have h64 : t2.size = 64 := by rw [← ht2, ByteArray.size_append]; omega
        obtain ⟨y1, y2, y3⟩ := HNX.out t2 h64
        have Y3 := Lib.hid y3
        have HWD := Lib.hid (fun V (hk9 : Kept (fun _ => False) wr V) => by have := write_any (HD.out.kept hk9 (fun _ _ f => f)) (k : Int) t2 (by have := HWR.out.acts; omega); rw [show writeD d (k : Int) t2.data.toList = ((writeD d (k : Int) t2.data.toList).1, 0) from Prod.ext rfl y1] at this; exact this)
        have HWX := Lib.hid (fun V (hv : RfAt V q r) => by have := xwrite_any hv (k : Int) t2 (by have := HWR.out.N; omega); rw [y2] at this; exact this)
        have hk9 : Kept (fun _ => False) wr (wr.alloc (.cells cz 5)) := (Kept.refl _ wr).alloc _
        have HK9 := Lib.hid hk9
        clear hk9 y1 y2 y3 ht1 hs1 hzb2 hzs hcz ht2 h64 hc64
        go_wp2_with fail
        refine (HWD.out _ HK9.out).mono ?_
        rintro e w5 ⟨rfl, ⟨nn5, hd5⟩, hk5⟩
        have HD5 := Lib.hid hd5
        have HR5 : Hid (RfAt w5 q r) := Lib.hid ((HR.out.kept HK9.out (fun _ _ f => f)).kept hk5 (fun j hx hb => (HXB.out j hx).2 hb))
        have HK5 : Hid (Kept (fun j => DB db sb mb j ∨ XB q j) w2 w5) := Lib.hid ((HKP.out.trans (HK9.out.mono (fun _ _ f => f.elim))).trans (hk5.mono (fun j _ h => .inl h)))
        clear hd5 hk5
        go_wp2_with fail
        refine (HWX.out _ HR5.out).mono ?_
        rintro e w6 ⟨rfl, hr6, hk6⟩
        have HR6 := Lib.hid hr6
        have HD6 := Lib.hid (HD5.out.kept hk6 (fun j hb hx => (HXB.out j hx).2 hb))
        have HK6 := Lib.hid (HK5.out.trans (hk6.mono (fun j _ h => .inr h)))
        clear hr6 hk6
        go_wp2_with fail
        go_roundw
        case rel => exact ⟨k + 1, _, _, _, by omega, by go_num, Y3.out, HD6.out, HR6.out, HK6.out⟩
        case measure => simp [Go.RowKit.intOf]; omega
      · have q3 : (ms.length : Int) ≤ (k : Int) := by omega
        go_upto_region 14 with (fail)
        obtain ⟨t0, ht0⟩ : ∃ t0 : ByteArray, (⟨#[]⟩ : ByteArray) = t0 := ⟨_, rfl⟩
        have htz : t0.size ≤ 9223372036854775807 := by rw [← ht0]; decide
        rw [ht0]
        clear ht0
        obtain ⟨c, hc⟩ : ∃ c : Nat, min (t0.size : Int) 64 = (c : Int) := ⟨min t0.size 64, by omega⟩
        have hc64 : c ≤ 64 := by omega
        have hct : c ≤ t0.size := by omega
        have hcut := fun V => cut_run V t0 hct
        obtain ⟨t1, ht1⟩ : ∃ t1 : ByteArray, t0.extract 0 c = t1 := ⟨_, rfl⟩
        have hs1 : t1.size = c := by rw [← ht1, ← list_size, ext_list]; simp [list_size]; omega
        rw [ht1] at hcut
        have HS1 := Lib.hid hs1
        obtain ⟨z, hz9⟩ : ∃ z : Nat, (64 : Int) - (t1.size : Int) = (z : Int) := ⟨64 - c, by omega⟩
        have hzb : z ≤ 64 := by omega
        have hmk := fun V => make_bytes V z (by omega)
        have hcv := fun V => conv_k V z
        obtain ⟨zb, hzb2⟩ : ∃ zb : ByteArray, (⟨(List.replicate z 0).toArray⟩ : ByteArray) = zb := ⟨_, rfl⟩
        have hzs : zb.size = z := by rw [← hzb2]; exact List.length_replicate
        rw [hzb2] at hcv
        obtain ⟨cz, hcz⟩ : ∃ cz, (secL (List.replicate z 0)).toArray = cz := ⟨_, rfl⟩
        rw [hcz] at hmk hcv
        obtain ⟨t2, ht2⟩ : ∃ t2 : ByteArray, t1 ++ zb = t2 := ⟨_, rfl⟩
        have hcat : ∀ W, Sem.run Try.prog (Op.stringOp .add t1 zb) W = .ok (.string t2) W := fun W => by rw [run_string_add_sum W _ _ (by omega), ht2]
        have h64 : t2.size = 64 := by rw [← ht2, ByteArray.size_append]; omega
        obtain ⟨y1, y2, y3⟩ := HNX.out t2 h64
        have Y3 := Lib.hid y3
        have HWD := Lib.hid (fun V (hk9 : Kept (fun _ => False) wr V) => by have := write_any (HD.out.kept hk9 (fun _ _ f => f)) (k : Int) t2 (by have := HWR.out.acts; omega); rw [show writeD d (k : Int) t2.data.toList = ((writeD d (k : Int) t2.data.toList).1, 0) from Prod.ext rfl y1] at this; exact this)
        have HWX := Lib.hid (fun V (hv : RfAt V q r) => by have := xwrite_any hv (k : Int) t2 (by have := HWR.out.N; omega); rw [y2] at this; exact this)
        have hk9 : Kept (fun _ => False) wr (wr.alloc (.cells cz 5)) := (Kept.refl _ wr).alloc _
        have HK9 := Lib.hid hk9
        clear hk9 y1 y2 y3 ht1 hs1 hzb2 hzs hcz ht2 h64 hc64
        go_wp2_with fail
        refine (HWD.out _ HK9.out).mono ?_
        rintro e w5 ⟨rfl, ⟨nn5, hd5⟩, hk5⟩
        have HD5 := Lib.hid hd5
        have HR5 : Hid (RfAt w5 q r) := Lib.hid ((HR.out.kept HK9.out (fun _ _ f => f)).kept hk5 (fun j hx hb => (HXB.out j hx).2 hb))
        have HK5 : Hid (Kept (fun j => DB db sb mb j ∨ XB q j) w2 w5) := Lib.hid ((HKP.out.trans (HK9.out.mono (fun _ _ f => f.elim))).trans (hk5.mono (fun j _ h => .inl h)))
        clear hd5 hk5
        go_wp2_with fail
        refine (HWX.out _ HR5.out).mono ?_
        rintro e w6 ⟨rfl, hr6, hk6⟩
        have HR6 := Lib.hid hr6
        have HD6 := Lib.hid (HD5.out.kept hk6 (fun j hb hx => (HXB.out j hx).2 hb))
        have HK6 := Lib.hid (HK5.out.trans (hk6.mono (fun j _ h => .inr h)))
        clear hr6 hk6
        go_wp2_with fail
        go_roundw
        case rel => exact ⟨k + 1, _, _, _, by omega, by go_num, Y3.out, HD6.out, HR6.out, HK6.out⟩
        case measure => simp [Go.RowKit.intOf]; omega
      · obtain ⟨lo, hlo⟩ : ∃ lo : Nat, 64 * ((k : Int) - 2) = (lo : Int) := ⟨64 * (k - 2), by omega⟩
        obtain ⟨hi, hhi⟩ : ∃ hi : Nat, min (area.size : Int) (64 * ((k : Int) - 1)) = (hi : Int) := ⟨min area.size (64 * (k - 1)), by omega⟩
        have hlt1 : (lo : Int) < (area.size : Int) := by omega
        have q3 : (2 : Int) ≤ (k : Int) := by omega
        have hmid := fun V => mid_run V area (i := lo) (j := hi) (by omega) (by omega)
        obtain ⟨t0, ht0⟩ : ∃ t0, area.extract lo hi = t0 := ⟨_, rfl⟩
        have htz : t0.size ≤ 9223372036854775807 := by rw [← ht0, ByteArray.size_extract]; omega
        rw [ht0] at hmid
        clear ht0
        go_upto_region 14 with (fail)
        clear hlo hhi hmid
        obtain ⟨c, hc⟩ : ∃ c : Nat, min (t0.size : Int) 64 = (c : Int) := ⟨min t0.size 64, by omega⟩
        have hc64 : c ≤ 64 := by omega
        have hct : c ≤ t0.size := by omega
        have hcut := fun V => cut_run V t0 hct
        obtain ⟨t1, ht1⟩ : ∃ t1 : ByteArray, t0.extract 0 c = t1 := ⟨_, rfl⟩
        have hs1 : t1.size = c := by rw [← ht1, ← list_size, ext_list]; simp [list_size]; omega
        rw [ht1] at hcut
        have HS1 := Lib.hid hs1
        obtain ⟨z, hz9⟩ : ∃ z : Nat, (64 : Int) - (t1.size : Int) = (z : Int) := ⟨64 - c, by omega⟩
        have hzb : z ≤ 64 := by omega
        have hmk := fun V => make_bytes V z (by omega)
        have hcv := fun V => conv_k V z
        obtain ⟨zb, hzb2⟩ : ∃ zb : ByteArray, (⟨(List.replicate z 0).toArray⟩ : ByteArray) = zb := ⟨_, rfl⟩
        have hzs : zb.size = z := by rw [← hzb2]; exact List.length_replicate
        rw [hzb2] at hcv
        obtain ⟨cz, hcz⟩ : ∃ cz, (secL (List.replicate z 0)).toArray = cz := ⟨_, rfl⟩
        rw [hcz] at hmk hcv
        obtain ⟨t2, ht2⟩ : ∃ t2 : ByteArray, t1 ++ zb = t2 := ⟨_, rfl⟩
        have hcat : ∀ W, Sem.run Try.prog (Op.stringOp .add t1 zb) W = .ok (.string t2) W := fun W => by rw [run_string_add_sum W _ _ (by omega), ht2]
        have h64 : t2.size = 64 := by rw [← ht2, ByteArray.size_append]; omega
        obtain ⟨y1, y2, y3⟩ := HNX.out t2 h64
        have Y3 := Lib.hid y3
        have HWD := Lib.hid (fun V (hk9 : Kept (fun _ => False) wr V) => by have := write_any (HD.out.kept hk9 (fun _ _ f => f)) (k : Int) t2 (by have := HWR.out.acts; omega); rw [show writeD d (k : Int) t2.data.toList = ((writeD d (k : Int) t2.data.toList).1, 0) from Prod.ext rfl y1] at this; exact this)
        have HWX := Lib.hid (fun V (hv : RfAt V q r) => by have := xwrite_any hv (k : Int) t2 (by have := HWR.out.N; omega); rw [y2] at this; exact this)
        have hk9 : Kept (fun _ => False) wr (wr.alloc (.cells cz 5)) := (Kept.refl _ wr).alloc _
        have HK9 := Lib.hid hk9
        clear hk9 y1 y2 y3 ht1 hs1 hzb2 hzs hcz ht2 h64 hc64
        go_wp2_with fail
        refine (HWD.out _ HK9.out).mono ?_
        rintro e w5 ⟨rfl, ⟨nn5, hd5⟩, hk5⟩
        have HD5 := Lib.hid hd5
        have HR5 : Hid (RfAt w5 q r) := Lib.hid ((HR.out.kept HK9.out (fun _ _ f => f)).kept hk5 (fun j hx hb => (HXB.out j hx).2 hb))
        have HK5 : Hid (Kept (fun j => DB db sb mb j ∨ XB q j) w2 w5) := Lib.hid ((HKP.out.trans (HK9.out.mono (fun _ _ f => f.elim))).trans (hk5.mono (fun j _ h => .inl h)))
        clear hd5 hk5
        go_wp2_with fail
        refine (HWX.out _ HR5.out).mono ?_
        rintro e w6 ⟨rfl, hr6, hk6⟩
        have HR6 := Lib.hid hr6
        have HD6 := Lib.hid (HD5.out.kept hk6 (fun j hb hx => (HXB.out j hx).2 hb))
        have HK6 := Lib.hid (HK5.out.trans (hk6.mono (fun j _ h => .inr h)))
        clear hr6 hk6
        go_wp2_with fail
        go_roundw
        case rel => exact ⟨k + 1, _, _, _, by omega, by go_num, Y3.out, HD6.out, HR6.out, HK6.out⟩
        case measure => simp [Go.RowKit.intOf]; omega
      · have q3 : (2 : Int) ≤ (k : Int) := by omega
        have q4 : (area.size : Int) ≤ 64 * ((k : Int) - 2) := by omega
        go_upto_region 14 with (fail)
        obtain ⟨t0, ht0⟩ : ∃ t0 : ByteArray, (⟨#[]⟩ : ByteArray) = t0 := ⟨_, rfl⟩
        have htz : t0.size ≤ 9223372036854775807 := by rw [← ht0]; decide
        rw [ht0]
        clear ht0
        obtain ⟨c, hc⟩ : ∃ c : Nat, min (t0.size : Int) 64 = (c : Int) := ⟨min t0.size 64, by omega⟩
        have hc64 : c ≤ 64 := by omega
        have hct : c ≤ t0.size := by omega
        have hcut := fun V => cut_run V t0 hct
        obtain ⟨t1, ht1⟩ : ∃ t1 : ByteArray, t0.extract 0 c = t1 := ⟨_, rfl⟩
        have hs1 : t1.size = c := by rw [← ht1, ← list_size, ext_list]; simp [list_size]; omega
        rw [ht1] at hcut
        have HS1 := Lib.hid hs1
        obtain ⟨z, hz9⟩ : ∃ z : Nat, (64 : Int) - (t1.size : Int) = (z : Int) := ⟨64 - c, by omega⟩
        have hzb : z ≤ 64 := by omega
        have hmk := fun V => make_bytes V z (by omega)
        have hcv := fun V => conv_k V z
        obtain ⟨zb, hzb2⟩ : ∃ zb : ByteArray, (⟨(List.replicate z 0).toArray⟩ : ByteArray) = zb := ⟨_, rfl⟩
        have hzs : zb.size = z := by rw [← hzb2]; exact List.length_replicate
        rw [hzb2] at hcv
        obtain ⟨cz, hcz⟩ : ∃ cz, (secL (List.replicate z 0)).toArray = cz := ⟨_, rfl⟩
        rw [hcz] at hmk hcv
        obtain ⟨t2, ht2⟩ : ∃ t2 : ByteArray, t1 ++ zb = t2 := ⟨_, rfl⟩
        have hcat : ∀ W, Sem.run Try.prog (Op.stringOp .add t1 zb) W = .ok (.string t2) W := fun W => by rw [run_string_add_sum W _ _ (by omega), ht2]
        have h64 : t2.size = 64 := by rw [← ht2, ByteArray.size_append]; omega
        obtain ⟨y1, y2, y3⟩ := HNX.out t2 h64
        have Y3 := Lib.hid y3
        have HWD := Lib.hid (fun V (hk9 : Kept (fun _ => False) wr V) => by have := write_any (HD.out.kept hk9 (fun _ _ f => f)) (k : Int) t2 (by have := HWR.out.acts; omega); rw [show writeD d (k : Int) t2.data.toList = ((writeD d (k : Int) t2.data.toList).1, 0) from Prod.ext rfl y1] at this; exact this)
        have HWX := Lib.hid (fun V (hv : RfAt V q r) => by have := xwrite_any hv (k : Int) t2 (by have := HWR.out.N; omega); rw [y2] at this; exact this)
        have hk9 : Kept (fun _ => False) wr (wr.alloc (.cells cz 5)) := (Kept.refl _ wr).alloc _
        have HK9 := Lib.hid hk9
        clear hk9 y1 y2 y3 ht1 hs1 hzb2 hzs hcz ht2 h64 hc64
        go_wp2_with fail
        refine (HWD.out _ HK9.out).mono ?_
        rintro e w5 ⟨rfl, ⟨nn5, hd5⟩, hk5⟩
        have HD5 := Lib.hid hd5
        have HR5 : Hid (RfAt w5 q r) := Lib.hid ((HR.out.kept HK9.out (fun _ _ f => f)).kept hk5 (fun j hx hb => (HXB.out j hx).2 hb))
        have HK5 : Hid (Kept (fun j => DB db sb mb j ∨ XB q j) w2 w5) := Lib.hid ((HKP.out.trans (HK9.out.mono (fun _ _ f => f.elim))).trans (hk5.mono (fun j _ h => .inl h)))
        clear hd5 hk5
        go_wp2_with fail
        refine (HWX.out _ HR5.out).mono ?_
        rintro e w6 ⟨rfl, hr6, hk6⟩
        have HR6 := Lib.hid hr6
        have HD6 := Lib.hid (HD5.out.kept hk6 (fun j hb hx => (HXB.out j hx).2 hb))
        have HK6 := Lib.hid (HK5.out.trans (hk6.mono (fun j _ h => .inr h)))
        clear hr6 hk6
        go_wp2_with fail
        go_roundw
        case rel => exact ⟨k + 1, _, _, _, by omega, by go_num, Y3.out, HD6.out, HR6.out, HK6.out⟩
        case measure => simp [Go.RowKit.intOf]; omega
    · obtain rfl : k = 16 := by omega
      have hk3 : Kept (fun _ => False) wr (wr.alloc (.cells #[.pointer (some ⟨db, 0, none⟩), .pointer none, .pointer (some ⟨q.x, 0, none⟩), .pointer none] 37)) := (Kept.refl _ wr).alloc _
      have HS3 : Hid (SideAt (wr.alloc (.cells #[.pointer (some ⟨db, 0, none⟩), .pointer none, .pointer (some ⟨q.x, 0, none⟩), .pointer none] 37)) wr.heap.size db none q.x none) := Lib.hid ⟨heap_alloc_new wr _⟩
      have HOP := Lib.hid (opens_any HS3.out (HD.out.kept hk3 (fun _ _ f => f)) (HR.out.kept hk3 (fun _ _ f => f)) HWR.out.dead HWR.out.gone (by rw [HWR.out.rn]; decide) (by rw [HWR.out.dn, HWR.out.rn]) (fun i hi => HWR.out.S i (by rw [HWR.out.rn] at hi; exact hi))
        (fun hb => by have := HD.out.inn _ hb; omega) (fun hx => by have := HR.out.inn _ hx; omega) (fun j hx => (HXB.out j hx).2))
      have HKS := Lib.hid (HKW.out.trans (hk3.below (fun _ f => f.elim) HKW.out.size))
      have hkb : Hid (wr.heap.size < (wr.alloc (.cells #[.pointer (some ⟨db, 0, none⟩), .pointer none, .pointer (some ⟨q.x, 0, none⟩), .pointer none] 37)).heap.size) := Lib.hid (by simp)
      have HSK : Hid (w.heap.size ≤ wr.heap.size) := Lib.hid HKW.out.size
      clear hk3
      go_wp2_with fail
      generalize (wr.alloc (.cells #[.pointer (some ⟨db, 0, none⟩), .pointer none, .pointer (some ⟨q.x, 0, none⟩), .pointer none] 37)) = w3 at HS3 HOP HKS hkb ⊢
      generalize wr.heap.size = sk at HS3 HOP hkb HSK ⊢
      refine HOP.out.mono ?_
      rintro e w4 ⟨rfl, hor, hk4⟩
      have HK4 : Hid (Below w.heap.size w w4) := Lib.hid (HKS.out.trans (hk4.below (fun j h => by rcases h with h | h | h; exact HDB.out j h; (have e : j = sk := h; have := HSK.out; omega); exact Nat.le_trans HKS.out.size h) HKS.out.size))
      clear hk4 HOP HS3 hkb
      rcases hor with ⟨m, l, lb, yb, hml, hsit⟩ | hside
      · have HSIT := Lib.hid hsit
        have HML := Lib.hid hml
        have HLL : Hid (l.length ≤ 1048576) := Lib.hid (by
          have h1 := hml.nu
          have h2 := taken_size _ _ _ (by rw [List.length_take]; omega) hml.taken
          have h3 := sizeN_len (l.map bytesOf)
          rw [h2, List.length_take, List.length_map] at h3
          have h4 := hml.fit.le
          unfold spaceN secN at h4
          rw [HWR.out.dn] at h4
          omega)
        obtain ⟨c0, c1, c2, c3, ff⟩ := hsit.side.four
        clear hsit hml ff
        go_wp2_with fail
        refine (asks6_any HSIT.out HLL.out).mono ?_
        rintro e w5 ⟨rfl, hk5⟩
        have HS5 := Lib.hid (HSIT.out.over hk5)
        have HK5 := Lib.hid (HK4.out.trans (hk5.below (fun j h => Nat.le_trans HK4.out.size h) HK4.out.size))
        clear hk5 HSIT HK4 c0 c1 c2 c3
        go_wp2_with fail
        refine (asks7_any HS5.out HML.out (by rw [HWR.out.dn, HWR.out.rn]) (by rw [HWR.out.rn]; decide)).mono ?_
        rintro e w6 ⟨rfl, hk6⟩
        have HS6 := Lib.hid (HS5.out.over hk6)
        have HK6 := Lib.hid (HK5.out.trans (hk6.below (fun j h => Nat.le_trans HK5.out.size h) HK5.out.size))
        clear hk6 HS5 HK5
        go_wp2_with fail
        obtain ⟨Z, hlg⟩ := HS6.out.log
        have hac : Calls Try.prog 11 #[.pointer (some ⟨db, 0, none⟩)] w6 fun e w' => e = .returned (.int .i64 16) ∧ w6 = w' := by
          obtain ⟨sb', mb', nn', hD', _⟩ := (hlg.whole 0).disk
          have := acts_any hD'
          rw [HWR.out.acts] at this
          exact this
        refine hac.mono ?_
        clear hac
        rintro e w7 ⟨rfl, rfl⟩
        go_wp2_with fail
        go_ret
        exact ⟨rfl, HK6.out⟩
      · obtain ⟨c0, c1, c2, c3, ff⟩ := hside.four
        clear hside ff
        go_wp2_with fail
        go_ret
        exact ⟨rfl, HK4.out⟩
theorem own : ownKnob Try.prog.godebug = none := by kernel_rfl
theorem laidOut : laidOutB Try.prog = true := by kernel_rfl

set_option maxRecDepth 100000 in
theorem lifted (os : Os) (started : os.Started) (H : Type) (enc : TypeId × Value → H) :
    ReturnsInHanded {} Try.checked os 3 .any (Rows.walOpensSpec.pre6 enc Try.prog Try.f3 Rows.walOpensRow.domain false) (Rows.walOpensSpec.post enc Try.prog Try.f3 false true false false) := by
  refine returnsInHanded_of_change_sized (C := Try.checked) own started (by kernel_rfl) Try.func3
    (ChangeSpec.witness6 (enc := enc) (C := Try.checked) false ⟨#[], #[.slice none 0 0, .string ByteArray.empty], []⟩ 8 (by kernel_rfl) (by kernel_rfl) (by kernel_rfl) (by kernel_rfl)) ?_
  intro W base args ds gs before hval0 hW hcnd hsz0 _
  have hsz : (DataW.weightsEach Try.prog (Try.f3.params.toList ++ Rows.walOpensSpec.plain.varTypes Try.prog) (ds ++ gs)).all (· ≤ reachBytes) = true := hsz0
  clear hsz0
  have hval : ∀ (j : Nat) t v, Try.f3.params[j]? = some t → args[j]? = some v → Value.okWide Try.prog W .any base t v := hval0
  have hW' := hW
  obtain ⟨p, q, hA0, hV, rfl, hfz, hnd⟩ := hW
  have hA : DataW.TrodAll enc Try.prog W 0 (fun _ => true) true Try.f3.params.toList args.toList ds p := hA0
  rw [Try.params3] at hA hval hsz
  obtain ⟨v0, vs0, d0, ds0, p0, q0, hargs, rfl, rfl, h0, r0⟩ := trodAll_cons hA
  obtain ⟨v1, vs1, d1, ds1, p1, q1, rfl, rfl, rfl, h1, r1⟩ := trodAll_cons r0
  obtain ⟨rfl, rfl, rfl⟩ := trodAll_nil r1
  obtain rfl : args = #[v0, v1] := by cases args; simp_all
  obtain ⟨rfl, rfl⟩ := trodVars_none hV
  have k0 := h0
  have lt0 : ∀ x ∈ p0, x.block < W.heap.size := by obtain ⟨m, hm⟩ := k0; exact DataW.trod_lt m _ _ _ hm
  obtain ⟨a0, len0, cap0, rfl⟩ := okWide_slice Try.underlying22 (hval 0 22 v0 rfl rfl)
  obtain ⟨l0, hl0, R0, y0, z0⟩ : ∃ l : List ByteArray, l.length = len0 ∧ TsAt W (fun k => k < W.heap.size) (.slice a0 len0 cap0) l ∧ (∀ s ∈ l, s.size ≤ maxLen) ∧ len0 ≤ maxLen := by obtain ⟨fuel, hf⟩ := h0; exact strs_of (fun _ => rfl) hf
  subst hl0
  have k1 := h1
  have lt1 : ∀ x ∈ p1, x.block < W.heap.size := by obtain ⟨m, hm⟩ := k1; exact DataW.trod_lt m _ _ _ hm
  obtain ⟨a1, e1, f1, g1, w1⟩ := open_string Try.underlying9 (hval 1 9 v1 rfl rfl) h1
  subst e1
  clear hA0 hval0
  refine (walk a0 cap0 l0 a1 W R0 y0 z0 w1).mono fun e W' ⟨he, bel⟩ => ?_
  subst he
  exact ⟨_, rfl, _, _, _, [], _, [], hW', trodAll_mk1 (shut_bool Try.underlying4 _), (trodAll_cons_mk (Below.trod laidOut (by kernel_rfl) (of_decide_eq_true (by kernel_rfl)) k0 bel lt0) (trodAll_cons_mk (Below.trod laidOut (by kernel_rfl) (of_decide_eq_true (by kernel_rfl)) k1 bel lt1) trodAll_mk0)), rfl, bel.frame _, fun h => by cases h⟩

theorem over : Rows.walOpensRow.holds Try.pinned (OpenSpec.ofChange Rows.walOpensSpec) :=
  OpenClaim.holds_of_wide 3 Try.f3 rfl rfl rfl rfl rfl rfl rfl ⟨rfl, rfl, rfl, rfl, rfl⟩ rfl rfl rfl rfl rfl (by kernel_rfl) Try.func3 (by kernel_rfl)
    (of_decide_eq_true (by kernel_rfl)) (by unfold Func.isWrapper; first | (rw [if_pos (by decide +kernel)]; kernel_rfl) | (rw [if_neg (by decide +kernel)]; exact ⟨rfl, rfl⟩))
    (fun os started H enc _ => lifted os started H enc)

/-- the given statement -/
theorem proved : Rows.WalOpensSaid := over
#print axioms proved
end Go.Proofs.Ytmfngbgdmlnlcaa.walOpens

