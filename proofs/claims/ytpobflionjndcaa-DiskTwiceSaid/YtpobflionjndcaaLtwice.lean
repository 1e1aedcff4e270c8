/- DiskTwice holds: a disk that crashes again, without anything written in between, is as it was; and two disks that the same is done to are the same (D3 to D6). -/
import Derived.Test.YtpobflionjndcaaRows
import Derived.Test.YtpobflionjndcaaDop
import Derived.WalkKit
import Derived.ProofKit
import Derived.OpenShut
import Derived.ShutString
import Derived.ChangeOld
import Derived.Below
import Derived.Deep.Grids
import Derived.Deep.MidRow
import Derived.SizedLaws
namespace Go.Proofs.Ytpobflionjndcaa.diskTwice
open Go.ChangeShapes Go.WideShapes Go.ChangeAt Go.RowKit
open Go.ChangeMaps (open_string shut_string)
set_option linter.unusedVariables false
set_option linter.unusedSimpArgs false

theorem new20 (w : World) : Calls Try.prog 8 #[.int .i64 20] w fun e w' => ∃ b sb mb, e = .returned (.tuple #[.pointer (some ⟨b, 0, none⟩), .int .i64 0]) ∧
    DAt w' b sb mb 0 (newD 20) ∧ (∀ k, DB b sb mb k → w.heap.size ≤ k) ∧ Kept (fun _ => False) w w' :=
  (new_any w 20).mono fun e w' h => by
    rcases h with ⟨_, _, he, hD, hk⟩ | ⟨hr, _⟩
    · exact ⟨_, _, _, he, hD, by rintro k (rfl | rfl | rfl) <;> omega, hk⟩
    · omega
theorem xnew20 (w : World) : Calls Try.prog 9 #[.int .i64 20] w fun e w' => ∃ q, e = .returned (.tuple #[.pointer (some ⟨q.x, 0, none⟩), .int .i64 0]) ∧
    RfAt w' q ⟨20, fun _ => zeros, fun _ => zeros, fun _ => false, 0, 0, false⟩ ∧ (∀ k, XB q k → w.heap.size ≤ k) ∧ Kept (fun _ => False) w w' :=
  (xnew_any w 20).mono fun e w' h => by
    rcases h with ⟨_, _, q, he, hD, hl, hk⟩ | ⟨hr, _⟩
    · exact ⟨q, he, hD, hl, hk⟩
    · omega
theorem two_make {B b1 sb1 mb1 nn1 b2 sb2 mb2 nn2 : Nat} {q1 q2 : RB4} {d1 d2 : DSt} {r1 r2 : RSt} {w1 w2 w3 w4 w5 : World}
    (D1 : DAt w2 b1 sb1 mb1 nn1 d1) (l1 : ∀ k, DB b1 sb1 mb1 k → w1.heap.size ≤ k) (k1 : Kept (fun _ => False) w1 w2)
    (D2 : DAt w3 b2 sb2 mb2 nn2 d2) (l2 : ∀ k, DB b2 sb2 mb2 k → w2.heap.size ≤ k) (k2 : Kept (fun _ => False) w2 w3)
    (R1 : RfAt w4 q1 r1) (x1 : ∀ k, XB q1 k → w3.heap.size ≤ k) (k3 : Kept (fun _ => False) w3 w4)
    (R2 : RfAt w5 q2 r2) (x2 : ∀ k, XB q2 k → w4.heap.size ≤ k) (k4 : Kept (fun _ => False) w4 w5) (hB : B ≤ w1.heap.size) : Two B b1 q1 b2 q2 d1 d2 r1 r2 w5 := by
  have i1 := D1.inn
  have i2 := D2.inn
  have j1 := R1.inn
  have s1 := k1.size
  have s2 := k2.size
  have s3 := k3.size
  have s4 := k4.size
  have D1' := ((D1.kept k2 (fun _ _ f => f)).kept k3 (fun _ _ f => f)).kept k4 (fun _ _ f => f)
  have D2' := (D2.kept k3 (fun _ _ f => f)).kept k4 (fun _ _ f => f)
  have R1' := R1.kept k4 (fun _ _ f => f)
  refine ⟨sb1, mb1, nn1, sb2, mb2, nn2, D1', D2', R1', R2, ?_, ?_, ?_, ?_, ?_⟩
  · rintro k (h | h)
    · have := l1 k h; omega
    · have := x1 k h; omega
  · rintro k (h | h)
    · have := l2 k h; omega
    · have := x2 k h; omega
  · intro k h hn
    have := x1 k h; have := i1 k hn; omega
  · intro k h hn
    have := x2 k h; have := i2 k hn; omega
  · rintro k (h | h) (hn | hn)
    · have := i1 k h; have := l2 k hn; omega
    · have := i1 k h; have := x2 k hn; omega
    · have := x1 k h; have := i2 k hn; omega
    · have := j1 k h; have := x2 k hn; omega

/-- at the first loop's head -/
structure Rel (B : Nat) (w0 : World) (b1 : Nat) (q1 : RB4) (b2 : Nat) (q2 : RB4) (a : Option Addr) (os : List OpS) (v1 v2 : Value) (how again : List Int) (iv : Value) (w : World) : Prop where
  ex : ∃ (i : Nat) (d : DSt) (r1 r2 : RSt), iv = .int .i64 i ∧ i ≤ os.length ∧ Two B b1 q1 b2 q2 d d r1 r2 w ∧ Sim d r1 ∧ Sim d r2 ∧ d.acts ≤ i ∧ d.n = 20 ∧ OpsAt B w a os ∧
    HowAt w (fun k => k < B) v1 how ∧ HowAt w (fun k => k < B) v2 again ∧ Below B w0 w
structure Rel2 (wr : World) (nv : Value) (w : World) : Prop where
  ex : ∃ n : Nat, nv = .int .i64 n ∧ n ≤ 20 ∧ w = wr

theorem kept_below {B : Nat} {w w' : World} (h : Kept (fun k => B ≤ k) w w') (hB : B ≤ w.heap.size) : Below B w w' := h.below (fun _ h => h) hB

set_option maxHeartbeats 4000000 in
set_option maxRecDepth 100000 in
theorem walk (a : Option Addr) (cap : Nat) (os : List OpS) (v1 v2 : Value) (how again : List Int) (w : World) (hos : OpsAt w.heap.size w a os)
    (hh1 : HowAt w (fun k => k < w.heap.size) v1 how) (hh2 : HowAt w (fun k => k < w.heap.size) v2 again) :
    Calls Try.prog 6 #[.slice a os.length cap, v1, v2] w fun e w' => e = .returned (.bool true) ∧ Below w.heap.size w w' := by
  have hlen := hos.len
  obtain ⟨B, hB⟩ : ∃ B, w.heap.size = B := ⟨_, rfl⟩
  rw [hB] at hos hh1 hh2
  rw [hB]
  have HB0 := Lib.hid (Nat.le_of_eq hB.symm)
  have HOS := Lib.hid hos
  have HH1 := Lib.hid hh1
  have HH2 := Lib.hid hh2
  clear hos hh1 hh2 hB
  go_enter Try.func6, Try.ntmps6
  go_wp2_with fail
  refine (awake_any _).mono ?_
  rintro e w1 ⟨rfl, hk1⟩
  have HK1 := Lib.hid hk1
  clear hk1
  go_wp2_with fail
  refine (new20 _).mono ?_
  rintro e w2 ⟨b1, sb1, mb1, rfl, hD1, hl1, hk2⟩
  have HD1 := Lib.hid hD1
  have HL1 := Lib.hid hl1
  have HK2 := Lib.hid hk2
  clear hD1 hl1 hk2
  go_wp2_with fail
  refine (new20 _).mono ?_
  rintro e w3 ⟨b2, sb2, mb2, rfl, hD2, hl2, hk3⟩
  have HD2 := Lib.hid hD2
  have HL2 := Lib.hid hl2
  have HK3 := Lib.hid hk3
  clear hD2 hl2 hk3
  go_wp2_with fail
  refine (xnew20 _).mono ?_
  rintro e w4 ⟨q1, rfl, hR1, hx1, hk4⟩
  have HR1 := Lib.hid hR1
  have HX1 := Lib.hid hx1
  have HK4 := Lib.hid hk4
  clear hR1 hx1 hk4
  go_wp2_with fail
  refine (xnew20 _).mono ?_
  rintro e w5 ⟨q2, rfl, hR2, hx2, hk5⟩
  have HT := Lib.hid (two_make HD1.out HL1.out HK2.out HD2.out HL2.out HK3.out HR1.out HX1.out HK4.out hR2 hx2 hk5 (Nat.le_trans HB0.out HK1.out.size))
  have hk : Kept (fun k => B ≤ k) w w5 := ((((HK1.out.trans HK2.out).trans HK3.out).trans HK4.out).trans hk5).mono (fun _ _ f => f.elim)
  have HBW := Lib.hid (kept_below hk HB0.out)
  have HOS5 := Lib.hid (HOS.out.kept hk)
  have HH15 := Lib.hid (HH1.out.kept hk (fun k hk hn => by omega))
  have HH25 := Lib.hid (HH2.out.kept hk (fun k hk hn => by omega))
  clear hk hR2 hx2 hk5 HD1 HL1 HK2 HD2 HL2 HK3 HR1 HX1 HK4 HK1 HOS HH1 HH2
  obtain ⟨x1, hx1⟩ : ∃ x, q1.x = x := ⟨_, rfl⟩
  obtain ⟨x2, hx2⟩ : ∃ x, q2.x = x := ⟨_, rfl⟩
  have HXE1 := Lib.hid hx1
  have HXE2 := Lib.hid hx2
  rw [hx1, hx2]
  clear hx1 hx2
  go_wp2_with fail
  go_loopw [16] (fun iv wr => Rel B w b1 q1 b2 q2 a os v1 v2 how again iv wr) (fun iv _ => os.length + 1 - (Go.RowKit.intOf iv).toNat)
  case atStart => exact ⟨0, _, _, _, rfl, Nat.zero_le _, HT.out, sim_new 20, sim_new 20, Nat.le_refl _, rfl, HOS5.out, HH15.out, HH25.out, HBW.out⟩
  case round =>
    obtain ⟨i, d, r1, r2, rfl, hi, ht, hs1, hs2, hac, hn, hos, hh1, hh2, hbw⟩ := hrel.ex
    clear hrel HT HOS5 HH15 HH25 HBW
    have HT := Lib.hid ht
    have HS1 := Lib.hid hs1
    have HS2 := Lib.hid hs2
    have HN := Lib.hid hn
    have HAC := Lib.hid hac
    have HOS := Lib.hid hos
    have HH1 := Lib.hid hh1
    have HH2 := Lib.hid hh2
    have HBW := Lib.hid hbw
    clear ht hs1 hs2 hn hac hos hh1 hh2 hbw
    by_cases hlt : i < os.length
    · obtain ⟨g, off, hv, rfl, hg, hr, hh⟩ := HOS.out.at_ i hlt
      obtain ⟨o, ho⟩ : ∃ o, os[i] = o := ⟨_, rfl⟩
      have hfit : o.Fits := by rw [← ho]; exact HOS.out.fits _ (List.getElem_mem hlt)
      rw [ho] at hr hh
      have HFIT := Lib.hid hfit
      have HR := Lib.hid hr
      have HHO := Lib.hid hh
      have HG := Lib.hid hg
      clear ho hr hh hg hfit
      go_wp2_with (refine wpList_load_mid rfl 33 _ rfl g (off + i * 6) rfl (o.cells hv) _ HR.out Try.underlying33 rfl (by kernel_rfl) ?_)
      rw [← HXE1.out]
      refine (two_step HT.out HS1.out o HFIT.out (by have := HAC.out; omega) hv HHO.out).mono ?_
      rw [HXE1.out]
      rintro e w6 ⟨rfl, ⟨s1, ht6, hs6⟩, hk6⟩
      have HT6 := Lib.hid ht6
      have HS6 := Lib.hid hs6
      have HK6 := Lib.hid hk6
      have HOS6 := Lib.hid (HOS.out.kept hk6)
      have HR6 : Hid (w6.rangeAt g (off + i * 6) (o.cells hv)) := Lib.hid (fun j v hj => by
        have hc := HR.out j v hj
        have hb := World.block_lt_of_cell? _ _ hc
        have hg := HG.out
        rw [World.cell?_of_block (hk6.block g hb (by omega))]; exact hc)
      have HHO6 := Lib.hid (HHO.out.kept hk6 (fun k hk hn => by omega))
      clear ht6 hs6 hk6 HT HS1 HR HHO
      go_wp2_with (refine wpList_load_mid rfl 33 _ rfl g (off + i * 6) rfl (o.cells hv) _ HR6.out Try.underlying33 rfl (by kernel_rfl) ?_)
      rw [← HXE2.out]
      refine (two_step HT6.out.swap HS2.out o HFIT.out (by have := HAC.out; omega) hv HHO6.out).mono ?_
      rw [HXE2.out]
      rintro e w7 ⟨rfl, ⟨s2, ht7, hs7⟩, hk7⟩
      have HT7 := Lib.hid ht7.swap
      have HS7 := Lib.hid hs7
      have HK7 := Lib.hid (HK6.out.trans hk7)
      clear ht7 hs7 hk7 HT6 HS2 HK6 HHO6 HR6
      go_wp2_with fail
      go_roundw
      case rel => exact ⟨i + 1, stepD d o, s1, s2, by go_num, by omega, HT7.out, HS6.out, HS7.out, by have := HAC.out; have := (stepD_le d o).1; omega, by rw [(stepD_le d o).2]; exact HN.out, HOS.out.kept HK7.out,
        HH1.out.kept HK7.out (fun k hk hn => by omega), HH2.out.kept HK7.out (fun k hk hn => by omega), HBW.out.trans (kept_below HK7.out (Nat.le_trans HB0.out HBW.out.size))⟩
      case measure => simp [Go.RowKit.intOf]; omega
    · have hge : os.length ≤ i := by omega
      go_wp2_with fail
      refine (two_crash HT.out HH1.out).mono ?_
      rintro e w6 ⟨rfl, ht6, hk6⟩
      have HT6 := Lib.hid ht6.swap
      have HH16 := Lib.hid (HH1.out.kept hk6 (fun k hk hn => by omega))
      have HH26 := Lib.hid (HH2.out.kept hk6 (fun k hk hn => by omega))
      have HBW6 := Lib.hid (HBW.out.trans (kept_below hk6 (Nat.le_trans HB0.out HBW.out.size)))
      clear ht6 hk6 HT HH1 HH2 HBW
      go_wp2_with fail
      refine (two_crash HT6.out HH16.out).mono ?_
      rintro e w7 ⟨rfl, ht7, hk7⟩
      have HT7 := Lib.hid ht7
      have HH27 := Lib.hid (HH26.out.kept hk7 (fun k hk hn => by omega))
      have HBW7 := Lib.hid (HBW6.out.trans (kept_below hk7 (Nat.le_trans HB0.out HBW6.out.size)))
      clear ht7 hk7 HT6 HH16 HH26 HBW6
      go_wp2_with fail
      refine (two_crash HT7.out HH27.out).mono ?_
      rw [crash_again]
      rintro e w8 ⟨rfl, ht8, hk8⟩
      have HN8 : Hid ((crashD d how).n = 20) := Lib.hid HN.out
      have HDE : Hid ((crashD d how).dead = false) := Lib.hid rfl
      have HOE : Hid (pendL (crashD d how).n (crashD d how).O = []) := Lib.hid (List.filter_eq_nil_iff.2 (fun a _ => by simp [crashD]))
      have HBW8 := Lib.hid (HBW7.out.trans (kept_below hk8 (Nat.le_trans HB0.out HBW7.out.size)))
      generalize crashD d how = dc at ht8 HN8 HDE HOE
      have HT8 := Lib.hid ht8
      clear ht8 hk8 HT7 HH27 HBW7 HN
      go_wp2_with fail
      go_loopw [17] (fun nv wr => Rel2 w8 nv wr) (fun nv _ => 21 - (Go.RowKit.intOf nv).toNat)
      case atStart => exact ⟨0, rfl, by omega, rfl⟩
      case round =>
        obtain ⟨n, rfl, hn, rfl⟩ := hrel.ex
        clear hrel
        by_cases hlt2 : n < 20
        · have hr : readD dc (n : Int) = (dc.S n, 0) := by
            unfold readD
            rw [if_neg (by simp [HDE.out]), if_pos ((hasD_iff dc _).2 ⟨by omega, by rw [HN8.out]; omega⟩)]
            simp
          obtain ⟨s, hs⟩ : ∃ s : ByteArray, (⟨(readD dc (n : Int)).1.toArray⟩ : ByteArray) = s := ⟨_, rfl⟩
          have hv0 : (readD dc (n : Int)).2 = 0 := by rw [hr]
          have HSS := Lib.hid hs
          have HVV := Lib.hid hv0
          clear hr hs hv0
          go_wp2_with fail
          refine (two_read HT8.out.swap _ HSS.out HVV.out).mono ?_
          rintro e w9 ⟨rfl, rfl⟩
          go_wp2_with fail
          refine (two_read HT8.out _ HSS.out HVV.out).mono ?_
          rintro e w9 ⟨rfl, rfl⟩
          go_wp2_with fail
          go_roundw
          case rel => exact ⟨n + 1, by go_num, by omega, rfl⟩
          case measure => simp [Go.RowKit.intOf]; omega
        · have hgen : 20 ≤ n := by omega
          go_wp2_with fail
          refine (two_pending HT8.out HOE.out).mono ?_
          rintro e w9 ⟨v9, rfl, _, hnil, hk9⟩
          obtain rfl := hnil.2 rfl
          have HT9 := Lib.hid (HT8.out.kept0 hk9)
          have HBW9 := Lib.hid (HBW8.out.trans (kept_below (hk9.mono (fun _ _ f => f.elim)) (Nat.le_trans HB0.out HBW8.out.size)))
          obtain ⟨z, hz⟩ : ∃ z, dc.acts = z := ⟨_, rfl⟩
          have HZ := Lib.hid hz
          clear hnil hk9 hz
          go_wp2_with (first
            | (go_at_call 22; first | (refine (two_acts HT9.out HZ.out).mono ?_; rintro e w' ⟨rfl, rfl⟩) | (refine (two_acts HT9.out.swap HZ.out).mono ?_; rintro e w' ⟨rfl, rfl⟩))
            | (go_at_call 19; refine (two_dead HT9.out HDE.out).mono ?_; rintro e w' ⟨rfl, rfl⟩))
          go_ret
          exact ⟨rfl, HBW9.out⟩

theorem own : ownKnob Try.prog.godebug = none := by kernel_rfl
theorem laidOut : laidOutB Try.prog = true := by kernel_rfl

theorem lifted (os : Os) (started : os.Started) (H : Type) (enc : TypeId × Value → H) :
    ReturnsInHanded {} Try.checked os 6 .any (Rows.diskTwiceSpec.pre6 enc Try.prog Try.f6 Rows.diskTwiceRow.domain false) (Rows.diskTwiceSpec.post enc Try.prog Try.f6 false true false false) := by
  refine returnsInHanded_of_change_sized (C := Try.checked) own started (by kernel_rfl) Try.func6
    (ChangeSpec.witness6 (enc := enc) (C := Try.checked) false ⟨#[], #[.slice none 0 0, .slice none 0 0, .slice none 0 0], []⟩ 8 (by kernel_rfl) (by kernel_rfl) (by kernel_rfl) (by kernel_rfl)) ?_
  intro W base args ds gs before hval0 hW hcnd hsz0 _
  have hsz : (DataW.weightsEach Try.prog (Try.f6.params.toList ++ Rows.diskTwiceSpec.plain.varTypes Try.prog) (ds ++ gs)).all (· ≤ reachBytes) = true := hsz0
  clear hsz0
  have hval : ∀ (j : Nat) t v, Try.f6.params[j]? = some t → args[j]? = some v → Value.okWide Try.prog W .any base t v := hval0
  have hW' := hW
  obtain ⟨p, q, hA0, hV, rfl, hfz, hnd⟩ := hW
  have hA : DataW.TrodAll enc Try.prog W 0 (fun _ => true) true Try.f6.params.toList args.toList ds p := hA0
  rw [Try.params6] at hA hval hsz
  obtain ⟨v0, vs0, d0, ds0, p0, q0, hargs, rfl, rfl, h0, r0⟩ := trodAll_cons hA
  obtain ⟨v1, vs1, d1, ds1, p1, q1, rfl, rfl, rfl, h1, r1⟩ := trodAll_cons r0
  obtain ⟨v2, vs2, d2, ds2, p2, q2, rfl, rfl, rfl, h2, r2⟩ := trodAll_cons r1
  obtain ⟨rfl, rfl, rfl⟩ := trodAll_nil r2
  obtain rfl : args = #[v0, v1, v2] := by cases args; simp_all
  obtain ⟨rfl, rfl⟩ := trodVars_none hV
  have k0 := h0
  have lt0 : ∀ x ∈ p0, x.block < W.heap.size := by obtain ⟨m, hm⟩ := k0; exact DataW.trod_lt m _ _ _ hm
  obtain ⟨a0, len0, cap0, rfl⟩ := okWide_slice Try.underlying22 (hval 0 22 v0 rfl rfl)
  obtain ⟨os, hosl, hos⟩ : ∃ l : List OpS, l.length = len0 ∧ OpsAt W.heap.size W a0 l := by
    obtain ⟨fuel, hf⟩ := h0
    exact ops_of hf (fun n hn => by
      have := List.all_eq_true.1 hsz n (DataW.weights_mem_each (j := 0) rfl rfl n hn)
      simpa using this)
  subst hosl
  have k1 := h1
  have lt1 : ∀ x ∈ p1, x.block < W.heap.size := by obtain ⟨m, hm⟩ := k1; exact DataW.trod_lt m _ _ _ hm
  obtain ⟨zs1, aa1, cc1, rfl, w1, zl1, zm1⟩ : ∃ zs aa cap1, v1 = .slice aa (List.length zs) cap1 ∧ HowAt W (fun k => k < W.heap.size) (.slice aa (List.length zs) cap1) zs ∧ zs.length ≤ cap1 ∧ cap1 ≤ maxLen := by
    obtain ⟨fuel, hf⟩ := h1
    obtain ⟨a9, len9, cap9, rfl⟩ := okWide_slice Try.underlying23 (hval 1 23 v1 rfl rfl)
    exact ints_of hf
  have k2 := h2
  have lt2 : ∀ x ∈ p2, x.block < W.heap.size := by obtain ⟨m, hm⟩ := k2; exact DataW.trod_lt m _ _ _ hm
  obtain ⟨zs2, aa2, cc2, rfl, w2, zl2, zm2⟩ : ∃ zs aa cap1, v2 = .slice aa (List.length zs) cap1 ∧ HowAt W (fun k => k < W.heap.size) (.slice aa (List.length zs) cap1) zs ∧ zs.length ≤ cap1 ∧ cap1 ≤ maxLen := by
    obtain ⟨fuel, hf⟩ := h2
    obtain ⟨a9, len9, cap9, rfl⟩ := okWide_slice Try.underlying23 (hval 2 23 v2 rfl rfl)
    exact ints_of hf
  clear hA0 hval0
  refine (walk a0 cap0 os _ _ zs1 zs2 W hos w1 w2).mono fun e W' ⟨he, bel⟩ => ?_
  subst he
  exact ⟨_, rfl, _, _, _, [], _, [], hW', trodAll_mk1 (shut_bool Try.underlying4 _), (trodAll_cons_mk (Below.trod laidOut (by kernel_rfl) (of_decide_eq_true (by kernel_rfl)) k0 bel lt0) (trodAll_cons_mk (Below.trod laidOut (by kernel_rfl) (of_decide_eq_true (by kernel_rfl)) k1 bel lt1) (trodAll_cons_mk (Below.trod laidOut (by kernel_rfl) (of_decide_eq_true (by kernel_rfl)) k2 bel lt2) trodAll_mk0))), rfl, bel.frame _, fun h => by cases h⟩

theorem over : Rows.diskTwiceRow.holds Try.pinned (OpenSpec.ofChange Rows.diskTwiceSpec) :=
  OpenClaim.holds_of_wide 6 Try.f6 rfl rfl rfl rfl rfl rfl rfl ⟨rfl, rfl, rfl, rfl, rfl⟩ rfl rfl rfl rfl rfl (by kernel_rfl) Try.func6 (by kernel_rfl)
    (of_decide_eq_true (by kernel_rfl)) (by unfold Func.isWrapper; first | (rw [if_pos (by decide +kernel)]; kernel_rfl) | (rw [if_neg (by decide +kernel)]; exact ⟨rfl, rfl⟩))
    (fun os started H enc _ => lifted os started H enc)

/-- the given statement -/
theorem proved : Rows.DiskTwiceSaid := over
#print axioms proved

end Go.Proofs.Ytpobflionjndcaa.diskTwice
