/- DiskPlays holds: every script on two disks of any size: each answer, and every sector in the end, ahead of a crash and behind it, is the document's (D1 to D5). -/
import Derived.Test.YtpobflionjndcaaRows
import Derived.Test.YtpobflionjndcaaDal
import Derived.WalkKit
import Derived.ProofKit
import Derived.OpenShut
import Derived.ShutString
import Derived.ChangeOld
import Derived.Below
import Derived.Deep.Grids
import Derived.Deep.MidRow
import Derived.SizedLaws
namespace Go.Proofs.Ytpobflionjndcaa.diskPlays
open Go.ChangeShapes Go.WideShapes Go.ChangeAt Go.RowKit
open Go.ChangeMaps (open_string shut_string)
set_option linter.unusedVariables false
set_option linter.unusedSimpArgs false

theorem newK (w : World) (k : Int) (h1 : 16 ≤ k) (h2 : k ≤ 32768) : Calls Try.prog 8 #[.int .i64 k] w fun e w' => ∃ b sb mb, e = .returned (.tuple #[.pointer (some ⟨b, 0, none⟩), .int .i64 0]) ∧
    DAt w' b sb mb 0 (newD k.toNat) ∧ (∀ k, DB b sb mb k → w.heap.size ≤ k) ∧ Kept (fun _ => False) w w' :=
  (new_any w k).mono fun e w' h => by
    rcases h with ⟨_, _, he, hD, hk⟩ | ⟨hr, _⟩
    · exact ⟨_, _, _, he, hD, by rintro k (rfl | rfl | rfl) <;> omega, hk⟩
    · omega
theorem newN (w : World) (k : Int) (h : k < 16 ∨ 32768 < k) : Calls Try.prog 8 #[.int .i64 k] w fun e w' => e = .returned (.tuple #[.pointer none, .int .i64 1]) ∧ w = w' :=
  (new_any w k).mono fun e w' h => by
    rcases h with ⟨_, _, _⟩ | ⟨_, h⟩
    · omega
    · exact h
theorem xnewK (w : World) (k : Int) (h1 : 16 ≤ k) (h2 : k ≤ 32768) : Calls Try.prog 9 #[.int .i64 k] w fun e w' => ∃ q, e = .returned (.tuple #[.pointer (some ⟨q.x, 0, none⟩), .int .i64 0]) ∧
    RfAt w' q ⟨k.toNat, fun _ => zeros, fun _ => zeros, fun _ => false, 0, 0, false⟩ ∧ (∀ k, XB q k → w.heap.size ≤ k) ∧ Kept (fun _ => False) w w' :=
  (xnew_any w k).mono fun e w' h => by
    rcases h with ⟨_, _, q, he, hD, hl, hk⟩ | ⟨hr, _⟩
    · exact ⟨q, he, hD, hl, hk⟩
    · omega
theorem xnewN (w : World) (k : Int) (h : k < 16 ∨ 32768 < k) : Calls Try.prog 9 #[.int .i64 k] w fun e w' => e = .returned (.tuple #[.pointer none, .int .i64 1]) ∧ w = w' :=
  (xnew_any w k).mono fun e w' h => by
    rcases h with ⟨_, _, _⟩ | ⟨_, h⟩
    · omega
    · exact h
theorem two_make {B b1 sb1 mb1 nn1 b2 sb2 mb2 nn2 : Nat} {q1 q2 : RB4} {d1 d2 : DSt} {r1 r2 : RSt} {w1 w2 w3 w4 w5 : World}
    (D1 : DAt w2 b1 sb1 mb1 nn1 d1) (l1 : ∀ k, DB b1 sb1 mb1 k → w1.heap.size ≤ k) (k1 : Kept (fun _ => False) w1 w2)
    (D2 : DAt w3 b2 sb2 mb2 nn2 d2) (l2 : ∀ k, DB b2 sb2 mb2 k → w2.heap.size ≤ k) (k2 : Kept (fun _ => False) w2 w3)
    (R1 : RfAt w4 q1 r1) (x1 : ∀ k, XB q1 k → w3.heap.size ≤ k) (k3 : Kept (fun _ => False) w3 w4)
    (R2 : RfAt w5 q2 r2) (x2 : ∀ k, XB q2 k → w4.heap.size ≤ k) (k4 : Kept (fun _ => False) w4 w5) (hB : B ≤ w1.heap.size) : Two B b1 q1 b2 q2 d1 d2 r1 r2 w5 := by
  have i1 := D1.inn
  have i2 := D2.inn
  have j1 := R1.inn
  have s1 := k1.size
  have s2 := k2.size
  have s3 := k3.size
  have s4 := k4.size
  have D1' := ((D1.kept k2 (fun _ _ f => f)).kept k3 (fun _ _ f => f)).kept k4 (fun _ _ f => f)
  have D2' := (D2.kept k3 (fun _ _ f => f)).kept k4 (fun _ _ f => f)
  have R1' := R1.kept k4 (fun _ _ f => f)
  refine ⟨sb1, mb1, nn1, sb2, mb2, nn2, D1', D2', R1', R2, ?_, ?_, ?_, ?_, ?_⟩
  · rintro k (h | h)
    · have := l1 k h; omega
    · have := x1 k h; omega
  · rintro k (h | h)
    · have := l2 k h; omega
    · have := x2 k h; omega
  · intro k h hn
    have := x1 k h; have := i1 k hn; omega
  · intro k h hn
    have := x2 k h; have := i2 k hn; omega
  · rintro k (h | h) (hn | hn)
    · have := i1 k h; have := l2 k hn; omega
    · have := i1 k h; have := x2 k hn; omega
    · have := x1 k h; have := i2 k hn; omega
    · have := j1 k h; have := x2 k hn; omega


theorem two_alike {B b1 b2 : Nat} {q1 q2 : RB4} {d1 d2 : DSt} {r1 r2 : RSt} {w : World} (h : Two B b1 q1 b2 q2 d1 d2 r1 r2 w) (hs : Sim d1 r1) :
    Calls Try.prog 11 #[.pointer (some ⟨b1, 0, none⟩), .pointer (some ⟨q1.x, 0, none⟩)] w fun e w' => e = .returned (.bool true) ∧ Two B b1 q1 b2 q2 d1 d2 r1 r2 w' ∧ Kept (fun k => B ≤ k) w w' := by
  obtain ⟨X, hp, _⟩ := h.left
  exact (alike_any hp hs).mono fun e w' ⟨he, hk⟩ => ⟨he, h.kept0 hk, hk.mono (fun _ _ f => f.elim)⟩

/-- at the loop's head -/
structure Rel (B : Nat) (w0 : World) (b1 : Nat) (q1 : RB4) (b2 : Nat) (q2 : RB4) (a : Option Addr) (os : List OpS) (v1 : Value) (how : List Int) (iv : Value) (w : World) : Prop where
  ex : ∃ (i : Nat) (d1 d2 : DSt) (r1 r2 : RSt), iv = .int .i64 i ∧ i ≤ os.length ∧ Two B b1 q1 b2 q2 d1 d2 r1 r2 w ∧ Sim d1 r1 ∧ Sim d2 r2 ∧ d1.acts ≤ i ∧ d2.acts ≤ i ∧ OpsAt B w a os ∧
    HowAt w (fun k => k < B) v1 how ∧ Below B w0 w
theorem kept_below {B : Nat} {w w' : World} (h : Kept (fun k => B ≤ k) w w') (hB : B ≤ w.heap.size) : Below B w w' := h.below (fun _ h => h) hB

set_option maxHeartbeats 4000000 in
set_option maxRecDepth 100000 in
theorem walk00 (one two : Int) (h1 : one < 16 ∨ 32768 < one) (h3 : two < 16 ∨ 32768 < two) (v0 v1 : Value) (w : World) : Calls Try.prog 3 #[.int .i64 one, .int .i64 two, v0, v1] w fun e w' => e = .returned (.bool true) ∧ Below w.heap.size w w' := by
  have HH1 := Lib.hid h1
  have HH2 := Lib.hid h3
  clear h1 h3
  go_enter Try.func3, Try.ntmps3
  go_wp2_with fail
  refine (awake_any _).mono ?_
  rintro e w1 ⟨rfl, hk1⟩
  have HK1 := Lib.hid hk1
  clear hk1
  go_wp2_with fail
  refine (newN _ _ HH1.out).mono ?_
  rintro e w2 ⟨rfl, rfl⟩
  go_wp2_with fail
  refine (newN _ _ HH2.out).mono ?_
  rintro e w3 ⟨rfl, rfl⟩
  go_wp2_with fail
  refine (xnewN _ _ HH1.out).mono ?_
  rintro e w4 ⟨rfl, rfl⟩
  go_wp2_with fail
  refine (xnewN _ _ HH2.out).mono ?_
  rintro e w5 ⟨rfl, rfl⟩
  go_wp2_with fail
  go_ret
  exact ⟨rfl, HK1.out.bel (Nat.le_refl _)⟩

set_option maxHeartbeats 4000000 in
set_option maxRecDepth 100000 in
theorem walk01 (one two : Int) (h1 : one < 16 ∨ 32768 < one) (h3 : 16 ≤ two) (h4 : two ≤ 32768) (v0 v1 : Value) (w : World) : Calls Try.prog 3 #[.int .i64 one, .int .i64 two, v0, v1] w fun e w' => e = .returned (.bool true) ∧ Below w.heap.size w w' := by
  have HH1 := Lib.hid h1
  have HH2 := Lib.hid (And.intro h3 h4)
  clear h1 h3 h4
  go_enter Try.func3, Try.ntmps3
  go_wp2_with fail
  refine (awake_any _).mono ?_
  rintro e w1 ⟨rfl, hk1⟩
  have HK1 := Lib.hid hk1
  clear hk1
  go_wp2_with fail
  refine (newN _ _ HH1.out).mono ?_
  rintro e w2 ⟨rfl, rfl⟩
  go_wp2_with fail
  refine (newK _ _ HH2.out.1 HH2.out.2).mono ?_
  rintro e w3 ⟨b1, sb1, mb1, rfl, _, _, hk⟩
  have HK3 := Lib.hid (HK1.out.trans hk)
  clear hk
  go_wp2_with fail
  refine (xnewN _ _ HH1.out).mono ?_
  rintro e w4 ⟨rfl, rfl⟩
  go_wp2_with fail
  refine (xnewK _ _ HH2.out.1 HH2.out.2).mono ?_
  rintro e w5 ⟨q3, rfl, _, _, hk⟩
  have HK5 := Lib.hid (HK3.out.trans hk)
  clear hk
  go_wp2_with fail
  go_ret
  exact ⟨rfl, HK5.out.bel (Nat.le_refl _)⟩

set_option maxHeartbeats 4000000 in
set_option maxRecDepth 100000 in
theorem walk10 (one two : Int) (h1 : 16 ≤ one) (h2 : one ≤ 32768) (h3 : two < 16 ∨ 32768 < two) (v0 v1 : Value) (w : World) : Calls Try.prog 3 #[.int .i64 one, .int .i64 two, v0, v1] w fun e w' => e = .returned (.bool true) ∧ Below w.heap.size w w' := by
  have HH1 := Lib.hid (And.intro h1 h2)
  have HH2 := Lib.hid h3
  clear h1 h3 h2
  go_enter Try.func3, Try.ntmps3
  go_wp2_with fail
  refine (awake_any _).mono ?_
  rintro e w1 ⟨rfl, hk1⟩
  have HK1 := Lib.hid hk1
  clear hk1
  go_wp2_with fail
  refine (newK _ _ HH1.out.1 HH1.out.2).mono ?_
  rintro e w2 ⟨b0, sb0, mb0, rfl, _, _, hk⟩
  have HK2 := Lib.hid (HK1.out.trans hk)
  clear hk
  go_wp2_with fail
  refine (newN _ _ HH2.out).mono ?_
  rintro e w3 ⟨rfl, rfl⟩
  go_wp2_with fail
  refine (xnewK _ _ HH1.out.1 HH1.out.2).mono ?_
  rintro e w4 ⟨q2, rfl, _, _, hk⟩
  have HK4 := Lib.hid (HK2.out.trans hk)
  clear hk
  go_wp2_with fail
  refine (xnewN _ _ HH2.out).mono ?_
  rintro e w5 ⟨rfl, rfl⟩
  go_wp2_with fail
  go_ret
  exact ⟨rfl, HK4.out.bel (Nat.le_refl _)⟩

set_option maxHeartbeats 4000000 in
set_option maxRecDepth 100000 in
theorem walk11 (one two : Int) (h1 : 16 ≤ one) (h2 : one ≤ 32768) (h3 : 16 ≤ two) (h4 : two ≤ 32768) (a : Option Addr) (cap : Nat) (os : List OpS) (v1 : Value) (how : List Int) (w : World) (hos : OpsAt w.heap.size w a os)
    (hh1 : HowAt w (fun k => k < w.heap.size) v1 how) (hl : how.length ≤ 9223372036854775807) :
    Calls Try.prog 3 #[.int .i64 one, .int .i64 two, .slice a os.length cap, v1] w fun e w' => e = .returned (.bool true) ∧ Below w.heap.size w w' := by
  have hlen := hos.len
  obtain ⟨B, hB⟩ : ∃ B, w.heap.size = B := ⟨_, rfl⟩
  rw [hB] at hos hh1
  rw [hB]
  have HB0 := Lib.hid (Nat.le_of_eq hB.symm)
  have HOS := Lib.hid hos
  have HH1 := Lib.hid hh1
  have HL := Lib.hid hl
  have HN1 := Lib.hid (And.intro h1 h2)
  have HN2 := Lib.hid (And.intro h3 h4)
  clear hos hh1 hB hl h1 h2 h3 h4
  go_enter Try.func3, Try.ntmps3
  go_wp2_with fail
  refine (awake_any _).mono ?_
  rintro e w1 ⟨rfl, hk1⟩
  have HK1 := Lib.hid hk1
  clear hk1
  go_wp2_with fail
  refine (newK _ _ HN1.out.1 HN1.out.2).mono ?_
  rintro e w2 ⟨b1, sb1, mb1, rfl, hD1, hl1, hk2⟩
  have HD1 := Lib.hid hD1
  have HL1 := Lib.hid hl1
  have HK2 := Lib.hid hk2
  clear hD1 hl1 hk2
  go_wp2_with fail
  refine (newK _ _ HN2.out.1 HN2.out.2).mono ?_
  rintro e w3 ⟨b2, sb2, mb2, rfl, hD2, hl2, hk3⟩
  have HD2 := Lib.hid hD2
  have HL2 := Lib.hid hl2
  have HK3 := Lib.hid hk3
  clear hD2 hl2 hk3
  go_wp2_with fail
  refine (xnewK _ _ HN1.out.1 HN1.out.2).mono ?_
  rintro e w4 ⟨q1, rfl, hR1, hx1, hk4⟩
  have HR1 := Lib.hid hR1
  have HX1 := Lib.hid hx1
  have HK4 := Lib.hid hk4
  clear hR1 hx1 hk4
  go_wp2_with fail
  refine (xnewK _ _ HN2.out.1 HN2.out.2).mono ?_
  rintro e w5 ⟨q2, rfl, hR2, hx2, hk5⟩
  have HT := Lib.hid (two_make HD1.out HL1.out HK2.out HD2.out HL2.out HK3.out HR1.out HX1.out HK4.out hR2 hx2 hk5 (Nat.le_trans HB0.out HK1.out.size))
  have hk : Kept (fun k => B ≤ k) w w5 := ((((HK1.out.trans HK2.out).trans HK3.out).trans HK4.out).trans hk5).mono (fun _ _ f => f.elim)
  have HBW := Lib.hid (kept_below hk HB0.out)
  have HOS5 := Lib.hid (HOS.out.kept hk)
  have HH15 := Lib.hid (HH1.out.kept hk (fun k hk hn => by omega))
  clear hk hR2 hx2 hk5 HD1 HL1 HK2 HD2 HL2 HK3 HR1 HX1 HK4 HK1 HOS HH1
  obtain ⟨x1, hx1⟩ : ∃ x, q1.x = x := ⟨_, rfl⟩
  obtain ⟨x2, hx2⟩ : ∃ x, q2.x = x := ⟨_, rfl⟩
  have HXE1 := Lib.hid hx1
  have HXE2 := Lib.hid hx2
  rw [hx1, hx2]
  clear hx1 hx2
  go_wp2_with fail
  go_loopw [18] (fun iv wr => Rel B w b1 q1 b2 q2 a os v1 how iv wr) (fun iv _ => os.length + 1 - (Go.RowKit.intOf iv).toNat)
  case atStart => exact ⟨0, _, _, _, _, rfl, Nat.zero_le _, HT.out, sim_new _, sim_new _, Nat.le_refl _, Nat.le_refl _, HOS5.out, HH15.out, HBW.out⟩
  case round =>
    obtain ⟨i, d1, d2, r1, r2, rfl, hi, ht, hs1, hs2, hac1, hac2, hos, hh1, hbw⟩ := hrel.ex
    clear hrel HT HOS5 HH15 HBW
    have HT := Lib.hid ht
    have HS1 := Lib.hid hs1
    have HS2 := Lib.hid hs2
    have HAC1 := Lib.hid hac1
    have HAC2 := Lib.hid hac2
    have HOS := Lib.hid hos
    have HH1 := Lib.hid hh1
    have HBW := Lib.hid hbw
    clear ht hs1 hs2 hac1 hac2 hos hh1 hbw
    by_cases hlt : i < os.length
    · obtain ⟨g, off, hv, rfl, hg, hr, hh⟩ := HOS.out.at_ i hlt
      obtain ⟨o, ho⟩ : ∃ o, os[i] = o := ⟨_, rfl⟩
      have hfit : o.Fits := by rw [← ho]; exact HOS.out.fits _ (List.getElem_mem hlt)
      rw [ho] at hr hh
      have c4 := hr 4 (.bool o.other) rfl
      have HFIT := Lib.hid hfit
      have HR := Lib.hid hr
      have HHO := Lib.hid hh
      clear ho hr hh hg hfit
      obtain ⟨t, ht⟩ : ∃ t, o.other = t := ⟨_, rfl⟩
      rw [ht] at c4
      clear ht
      cases t
      · go_wp2_with (refine wpList_load_mid rfl 33 _ rfl g (off + i * 6) rfl (o.cells hv) _ HR.out Try.underlying33 rfl (by kernel_rfl) ?_)
        rw [← HXE1.out]
        refine (two_step HT.out HS1.out o HFIT.out (by have := HAC1.out; omega) hv HHO.out).mono ?_
        rw [HXE1.out]
        rintro e w6 ⟨rfl, ⟨s, ht6, hs6⟩, hk6⟩
        have HT6 := Lib.hid ht6
        have HS6 := Lib.hid hs6
        have HK6 := Lib.hid hk6
        clear ht6 hs6 hk6 HT c4 HR HHO
        go_wp2_with fail
        go_roundw
        case rel => exact ⟨i + 1, stepD d1 o, d2, s, r2, by go_num, by omega, HT6.out, HS6.out, HS2.out, by have := HAC1.out; have := (stepD_le d1 o).1; omega, by have := HAC2.out; omega, HOS.out.kept HK6.out, HH1.out.kept HK6.out (fun k hk hn => by omega), HBW.out.trans (kept_below HK6.out (Nat.le_trans HB0.out HBW.out.size))⟩
        case measure => simp [Go.RowKit.intOf]; omega
      · go_wp2_with (refine wpList_load_mid rfl 33 _ rfl g (off + i * 6) rfl (o.cells hv) _ HR.out Try.underlying33 rfl (by kernel_rfl) ?_)
        rw [← HXE2.out]
        refine (two_step HT.out.swap HS2.out o HFIT.out (by have := HAC2.out; omega) hv HHO.out).mono ?_
        rw [HXE2.out]
        rintro e w6 ⟨rfl, ⟨s, ht6, hs6⟩, hk6⟩
        have HT6 := Lib.hid ht6.swap
        have HS6 := Lib.hid hs6
        have HK6 := Lib.hid hk6
        clear ht6 hs6 hk6 HT c4 HR HHO
        go_wp2_with fail
        go_roundw
        case rel => exact ⟨i + 1, d1, stepD d2 o, r1, s, by go_num, by omega, HT6.out, HS1.out, HS6.out, by have := HAC1.out; omega, by have := HAC2.out; have := (stepD_le d2 o).1; omega, HOS.out.kept HK6.out, HH1.out.kept HK6.out (fun k hk hn => by omega), HBW.out.trans (kept_below HK6.out (Nat.le_trans HB0.out HBW.out.size))⟩
        case measure => simp [Go.RowKit.intOf]; omega
    · have hge : os.length ≤ i := by omega
      go_wp2_with fail
      rw [← HXE1.out]
      refine (two_alike HT.out HS1.out).mono ?_
      rw [HXE1.out]
      rintro e w6 ⟨rfl, ht6, hk6⟩
      have HT6 := Lib.hid ht6.swap
      have HK6 := Lib.hid hk6
      clear ht6 hk6 HT
      go_wp2_with fail
      rw [← HXE2.out]
      refine (two_alike HT6.out HS2.out).mono ?_
      rw [HXE2.out]
      rintro e w7 ⟨rfl, ht7, hk7⟩
      have HT7 := Lib.hid ht7.swap
      have HK7 := Lib.hid (HK6.out.trans hk7)
      have HH7 := Lib.hid (HH1.out.kept HK7.out (fun k hk hn => by omega))
      clear ht7 hk7 HT6 HK6 HH1
      go_wp2_with fail
      refine (two_crash HT7.out HH7.out).mono ?_
      rintro e w8 ⟨rfl, ht8, hk8⟩
      have HT8 := Lib.hid ht8
      have HK8 := Lib.hid (HK7.out.trans hk8)
      have HH8 := Lib.hid (HH7.out.kept hk8 (fun k hk hn => by omega))
      clear ht8 hk8 HT7 HK7 HH7
      go_wp2_with fail
      rw [← HXE1.out]
      refine (two_xcrash HT8.out HH8.out HL.out).mono ?_
      rw [HXE1.out]
      rintro e w9 ⟨rfl, ht9, hk9⟩
      have HT9 := Lib.hid ht9
      have HK9 := Lib.hid (HK8.out.trans hk9)
      have HSC := Lib.hid (sim_crashX HS1.out how)
      clear ht9 hk9 HT8 HK8 HH8
      go_wp2_with fail
      rw [← HXE1.out]
      refine (two_alike HT9.out HSC.out).mono ?_
      rw [HXE1.out]
      rintro e w10 ⟨rfl, ht10, hk10⟩
      have HT10 := Lib.hid ht10.swap
      have HK10 := Lib.hid (HK9.out.trans hk10)
      clear ht10 hk10 HT9 HK9
      go_wp2_with fail
      rw [← HXE2.out]
      refine (two_alike HT10.out HS2.out).mono ?_
      rw [HXE2.out]
      rintro e w11 ⟨rfl, ht11, hk11⟩
      have HBW11 := Lib.hid (HBW.out.trans (kept_below (HK10.out.trans hk11) (Nat.le_trans HB0.out HBW.out.size)))
      clear ht11 hk11 HT10 HK10
      go_wp2_with fail
      go_ret
      exact ⟨rfl, HBW11.out⟩

theorem walk (one two : Int) (a : Option Addr) (cap : Nat) (os : List OpS) (v1 : Value) (how : List Int) (w : World) (hos : OpsAt w.heap.size w a os)
    (hh1 : HowAt w (fun k => k < w.heap.size) v1 how) (hl : how.length ≤ 9223372036854775807) :
    Calls Try.prog 3 #[.int .i64 one, .int .i64 two, .slice a os.length cap, v1] w fun e w' => e = .returned (.bool true) ∧ Below w.heap.size w w' := by
  by_cases h1 : 16 ≤ one ∧ one ≤ 32768
  · by_cases h2 : 16 ≤ two ∧ two ≤ 32768
    · exact walk11 one two h1.1 h1.2 h2.1 h2.2 a cap os v1 how w hos hh1 hl
    · exact walk10 one two h1.1 h1.2 (by omega) _ _ w
  · by_cases h2 : 16 ≤ two ∧ two ≤ 32768
    · exact walk01 one two (by omega) h2.1 h2.2 _ _ w
    · exact walk00 one two (by omega) (by omega) _ _ w

theorem own : ownKnob Try.prog.godebug = none := by kernel_rfl
theorem laidOut : laidOutB Try.prog = true := by kernel_rfl

theorem lifted (os : Os) (started : os.Started) (H : Type) (enc : TypeId × Value → H) :
    ReturnsInHanded {} Try.checked os 3 .any (Rows.diskPlaysSpec.pre6 enc Try.prog Try.f3 Rows.diskPlaysRow.domain false) (Rows.diskPlaysSpec.post enc Try.prog Try.f3 false true false false) := by
  refine returnsInHanded_of_change_sized (C := Try.checked) own started (by kernel_rfl) Try.func3
    (ChangeSpec.witness6 (enc := enc) (C := Try.checked) false ⟨#[], #[.int .i64 0, .int .i64 0, .slice none 0 0, .slice none 0 0], []⟩ 8 (by kernel_rfl) (by kernel_rfl) (by kernel_rfl) (by kernel_rfl)) ?_
  intro W base args ds gs before hval0 hW hcnd hsz0 _
  have hsz : (DataW.weightsEach Try.prog (Try.f3.params.toList ++ Rows.diskPlaysSpec.plain.varTypes Try.prog) (ds ++ gs)).all (· ≤ reachBytes) = true := hsz0
  clear hsz0
  have hval : ∀ (j : Nat) t v, Try.f3.params[j]? = some t → args[j]? = some v → Value.okWide Try.prog W .any base t v := hval0
  have hW' := hW
  obtain ⟨p, q, hA0, hV, rfl, hfz, hnd⟩ := hW
  have hA : DataW.TrodAll enc Try.prog W 0 (fun _ => true) true Try.f3.params.toList args.toList ds p := hA0
  rw [Try.params3] at hA hval hsz
  obtain ⟨v0, vs0, d0, ds0, p0, q0, hargs, rfl, rfl, h0, r0⟩ := trodAll_cons hA
  obtain ⟨v1, vs1, d1, ds1, p1, q1, rfl, rfl, rfl, h1, r1⟩ := trodAll_cons r0
  obtain ⟨v2, vs2, d2, ds2, p2, q2, rfl, rfl, rfl, h2, r2⟩ := trodAll_cons r1
  obtain ⟨v3, vs3, d3, ds3, p3, q3, rfl, rfl, rfl, h3, r3⟩ := trodAll_cons r2
  obtain ⟨rfl, rfl, rfl⟩ := trodAll_nil r3
  obtain rfl : args = #[v0, v1, v2, v3] := by cases args; simp_all
  obtain ⟨rfl, rfl⟩ := trodVars_none hV
  have k0 := h0
  have lt0 : ∀ x ∈ p0, x.block < W.heap.size := by obtain ⟨m, hm⟩ := k0; exact DataW.trod_lt m _ _ _ hm
  obtain ⟨a0, e0, f0, g0, w0⟩ := open_int Try.underlying3 (hval 0 3 v0 rfl rfl) h0
  subst e0
  have k1 := h1
  have lt1 : ∀ x ∈ p1, x.block < W.heap.size := by obtain ⟨m, hm⟩ := k1; exact DataW.trod_lt m _ _ _ hm
  obtain ⟨a1, e1, f1, g1, w1⟩ := open_int Try.underlying3 (hval 1 3 v1 rfl rfl) h1
  subst e1
  have k2 := h2
  have lt2 : ∀ x ∈ p2, x.block < W.heap.size := by obtain ⟨m, hm⟩ := k2; exact DataW.trod_lt m _ _ _ hm
  obtain ⟨a2, len2, cap2, rfl⟩ := okWide_slice Try.underlying22 (hval 2 22 v2 rfl rfl)
  obtain ⟨os, hosl, hos⟩ : ∃ l : List OpS, l.length = len2 ∧ OpsAt W.heap.size W a2 l := by
    obtain ⟨fuel, hf⟩ := h2
    exact ops_of hf (fun n hn => by
      have := List.all_eq_true.1 hsz n (DataW.weights_mem_each (j := 2) rfl rfl n hn)
      simpa using this)
  subst hosl
  have k3 := h3
  have lt3 : ∀ x ∈ p3, x.block < W.heap.size := by obtain ⟨m, hm⟩ := k3; exact DataW.trod_lt m _ _ _ hm
  obtain ⟨zs3, aa3, cc3, rfl, w3, zl3, zm3⟩ : ∃ zs aa cap1, v3 = .slice aa (List.length zs) cap1 ∧ HowAt W (fun k => k < W.heap.size) (.slice aa (List.length zs) cap1) zs ∧ zs.length ≤ cap1 ∧ cap1 ≤ maxLen := by
    obtain ⟨fuel, hf⟩ := h3
    obtain ⟨a9, len9, cap9, rfl⟩ := okWide_slice Try.underlying23 (hval 3 23 v3 rfl rfl)
    exact ints_of hf
  clear hA0 hval0
  refine (walk a0 a1 a2 cap2 os _ zs3 W hos w3 (Nat.le_trans zl3 zm3)).mono fun e W' ⟨he, bel⟩ => ?_
  subst he
  exact ⟨_, rfl, _, _, _, [], _, [], hW', trodAll_mk1 (shut_bool Try.underlying4 _), (trodAll_cons_mk (Below.trod laidOut (by kernel_rfl) (of_decide_eq_true (by kernel_rfl)) k0 bel lt0) (trodAll_cons_mk (Below.trod laidOut (by kernel_rfl) (of_decide_eq_true (by kernel_rfl)) k1 bel lt1) (trodAll_cons_mk (Below.trod laidOut (by kernel_rfl) (of_decide_eq_true (by kernel_rfl)) k2 bel lt2) (trodAll_cons_mk (Below.trod laidOut (by kernel_rfl) (of_decide_eq_true (by kernel_rfl)) k3 bel lt3) trodAll_mk0)))), rfl, bel.frame _, fun h => by cases h⟩

theorem over : Rows.diskPlaysRow.holds Try.pinned (OpenSpec.ofChange Rows.diskPlaysSpec) :=
  OpenClaim.holds_of_wide 3 Try.f3 rfl rfl rfl rfl rfl rfl rfl ⟨rfl, rfl, rfl, rfl, rfl⟩ rfl rfl rfl rfl rfl (by kernel_rfl) Try.func3 (by kernel_rfl)
    (of_decide_eq_true (by kernel_rfl)) (by unfold Func.isWrapper; first | (rw [if_pos (by decide +kernel)]; kernel_rfl) | (rw [if_neg (by decide +kernel)]; exact ⟨rfl, rfl⟩))
    (fun os started H enc _ => lifted os started H enc)

/-- the given statement -/
theorem proved : Rows.DiskPlaysSaid := over
#print axioms proved

end Go.Proofs.Ytpobflionjndcaa.diskPlays
