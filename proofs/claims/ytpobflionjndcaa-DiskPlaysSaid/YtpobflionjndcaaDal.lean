/- Alike of layer 3: the program's disk and the document's answer alike. -/
import Derived.Test.YtpobflionjndcaaDop
import Derived.BigQuiet
namespace Go.Proofs.Ytpobflionjndcaa
open Go.ChangeShapes Go.WideShapes Go.ChangeAt Go.RowKit
open Go.Maps Go.Sort Go.Shelf Go.Proofs
set_option linter.unusedVariables false
set_option linter.unusedSimpArgs false

structure RelA (n : Nat) (wr : World) (nv : Value) (w : World) : Prop where
  ex : ∃ k : Nat, nv = .int .i64 k ∧ k ≤ n ∧ w = wr

section
variable {B : Nat} {X : Nat → Prop} {b : Nat} {q : RB4} {d : DSt} {r : RSt} {w : World}
set_option maxRecDepth 100000 in
set_option maxHeartbeats 4000000 in
theorem alike_any (h : Pq B X b q d r w) (hs : Sim d r) :
    Calls Try.prog 11 #[.pointer (some ⟨b, 0, none⟩), .pointer (some ⟨q.x, 0, none⟩)] w fun e w' => e = .returned (.bool true) ∧ Kept (fun _ => False) w w' := by
  have HSIM := Lib.hid hs
  obtain ⟨L, hL⟩ : ∃ L, pendL d.n d.O = L := ⟨_, rfl⟩
  have HL := Lib.hid hL
  have HLX : Hid (pendR r r.n = L) := Lib.hid (by rw [sim_pend hs]; exact hL)
  obtain ⟨hlen, hbd⟩ := pend_bound hL h.hi
  have hdn := h.hi
  have HBD := Lib.hid hbd
  have HZL : Hid ((intsZ L).length ≤ 9223372036854775807) := Lib.hid (by simp [intsZ]; omega)
  have HP := Lib.hid h
  clear hs h hL hbd hlen
  go_enter Try.func11, Try.ntmps11
  go_wp2_with fail
  refine (pq_pending HP.out HL.out).mono ?_
  rintro e w2 ⟨v1, rfl, hr1, hn1, hk1⟩
  have HP2 := Lib.hid (HP.out.kept0 hk1)
  have HR1 := Lib.hid hr1
  have HK1 := Lib.hid hk1
  clear hr1 hn1 hk1
  go_wp2_with fail
  refine (pq_xpending HP2.out HLX.out).mono ?_
  rintro e w3 ⟨v2, rfl, hr2, hn2, hk2⟩
  have HP3 := Lib.hid (HP2.out.kept0 hk2)
  have HR13 := Lib.hid (row_kept0 HR1.out hk2)
  have HR2 := Lib.hid hr2
  have HK2 := Lib.hid (HK1.out.trans hk2)
  clear hr2 hn2 hk2 HR1
  go_wp2_with fail
  refine (same_yes (how_own HR13.out HBD.out) (how_own HR2.out HBD.out) HZL.out).mono ?_
  rintro e w5' ⟨rfl, n5, rfl⟩
  have hp5 := HP3.out.drewN n5
  have hk5 := HK2.out.drewN n5
  generalize w3.drewN n5 = w5 at hp5 hk5
  have six := hp5.rf.six
  obtain ⟨x, hx⟩ : ∃ x, d.dead = x := ⟨_, rfl⟩
  have c0 := six.c0
  have c3 := six.c3
  have c5 := six.c5
  rw [HSIM.out.n] at c0
  rw [HSIM.out.N] at c3
  rw [HSIM.out.Gone, hx] at c5
  have HSZ := Lib.hid (fun n => pq_size (hp5.drewN n) rfl)
  have HDE := Lib.hid (fun n => pq_dead (hp5.drewN n) hx)
  have HAC := Lib.hid (fun n => pq_acts (hp5.drewN n) rfl)
  have HP5 := Lib.hid hp5
  have HK5 := Lib.hid hk5
  clear hx six hp5 hk5 HP2 HP3 HR13 HR2 HK1 HK2
  go_wp2_with fail
  go_quiet ((first
    | (go_at_call 30; exact quiet_same (HSZ.out _))
    | (go_at_call 19; exact quiet_same (HDE.out _))
    | (go_at_call 22; exact quiet_same (HAC.out _))))
  have HP6 := Lib.hid (HP5.out.drewN nq)
  have HK6 := Lib.hid (HK5.out.drewN nq)
  clear c0 c3 c5 HSZ HDE HAC HP5 HK5
  go_wp2_with fail
  go_loopw [6] (fun nv wr => RelA d.n (w5.drewN nq) nv wr) (fun nv _ => d.n + 1 - (Go.RowKit.intOf nv).toNat)
  case atStart => exact ⟨0, rfl, by omega, rfl⟩
  case round =>
    obtain ⟨k, rfl, hk, rfl⟩ := hrel.ex
    clear hrel
    have c0 := HP6.out.rf.six.c0
    rw [HSIM.out.n] at c0
    by_cases hlt : k < d.n
    · have e0 := sim_read HSIM.out (k : Int)
      obtain ⟨s, hs1⟩ : ∃ s : ByteArray, (⟨(readD d (k : Int)).1.toArray⟩ : ByteArray) = s := ⟨_, rfl⟩
      obtain ⟨v, hv1⟩ : ∃ v, (readD d (k : Int)).2 = v := ⟨_, rfl⟩
      have HS1 := Lib.hid hs1
      have HV1 := Lib.hid hv1
      rw [← e0] at hs1 hv1
      have HS2 := Lib.hid hs1
      have HV2 := Lib.hid hv1
      clear hv1 hs1 e0
      go_wp2_with fail
      refine (pq_read HP6.out _ HS1.out HV1.out).mono ?_
      rintro e w' ⟨rfl, rfl⟩
      go_wp2_with fail
      refine (pq_xread HP6.out _ HS2.out HV2.out).mono ?_
      rintro e w' ⟨rfl, rfl⟩
      go_wp2_with fail
      go_roundw
      case rel => exact ⟨k + 1, by go_num, by omega, rfl⟩
      case measure => simp [Go.RowKit.intOf]; omega
    · have hge : d.n ≤ k := by omega
      go_wp2_with fail
      go_ret
      exact ⟨rfl, HK6.out⟩
end
end Go.Proofs.Ytpobflionjndcaa
