/- The document's disk: Sync. -/
import Derived.Test.YtpobflionjndcaaDr
namespace Go.Proofs.Ytpobflionjndcaa
open Go.ChangeShapes Go.WideShapes Go.ChangeAt Go.RowKit
open Go.Maps Go.Sort Go.Shelf Go.Proofs
set_option linter.unusedVariables false
set_option linter.unusedSimpArgs false

/-- what a Sync has done of its first k sectors -/
def upTo (d : RSt) (k : Nat) : RSt := { d with Old := fun i => if i < k then d.L i else d.Old i, Pend := fun i => if i < k then false else d.Pend i }
theorem upTo_zero (d : RSt) : upTo d 0 = d := by unfold upTo; simp
theorem upTo_succ (d : RSt) (k : Nat) : upTo d (k + 1) = { upTo d k with Old := upd (upTo d k).Old k (d.L k), Pend := upd (upTo d k).Pend k false } := by
  unfold upTo
  simp only [RSt.mk.injEq, true_and]
  refine ⟨?_, ?_, trivial⟩
  · funext i
    unfold upd
    by_cases e : i = k
    · subst e; simp
    · rw [if_neg e]; dsimp only
      by_cases h : i < k
      · rw [if_pos h, if_pos (by omega)]
      · rw [if_neg h, if_neg (by omega)]
  · funext i
    unfold upd
    by_cases e : i = k
    · subst e; simp
    · rw [if_neg e]; dsimp only
      by_cases h : i < k
      · rw [if_pos h, if_pos (by omega)]
      · rw [if_neg h, if_neg (by omega)]
def syncR (d : RSt) : RSt × Int := if d.Gone then (d, 2) else if (actR d).Gone then (actR d, 2) else (upTo (actR d) (actR d).n, 0)

structure SyRel (w : World) (q : RB4) (d : RSt) (iv : Value) (wr : World) : Prop where
  ex : ∃ k : Nat, iv = .int .i64 k ∧ k ≤ d.n ∧ RfAt wr q (upTo d k) ∧ Kept (XB q) w wr

section
variable {w : World} {q : RB4} {d : RSt}
set_option maxHeartbeats 1000000 in
theorem xsync_any (h : RfAt w q d) (ha : d.N < 9223372036854775807) : Calls Try.prog 25 #[.pointer (some ⟨q.x, 0, none⟩)] w (RPost w q (.int .i64 (syncR d).2) (syncR d).1) := by
  obtain ⟨c0, c1, c2, c3, c4, c5, f⟩ := h.six
  have HD := Lib.hid h
  clear h c0 c1 c2 c3 c4
  cases hd : d.Gone
  · have HDD := Lib.hid hd
    rw [hd] at c5
    obtain ⟨x, hx⟩ : ∃ x, actR d = x := ⟨_, rfl⟩
    have HACT := Lib.hid (xact_any HD.out ha)
    rw [hx] at HACT
    have HX := Lib.hid hx
    clear hd hx
    cases hg : x.Gone
    · have e : Hid (syncR d = (upTo x x.n, 0)) := Lib.hid (by unfold syncR; rw [if_neg (by simp [HDD.out]), HX.out, if_neg (by simp [hg])])
      rw [e.out]
      rw [hg] at HACT
      clear hg
      go_enter Try.func25, Try.ntmps25
      go_wp2_with fail
      refine HACT.out.mono ?_
      rintro e w1 ⟨rfl, h1, hk1⟩
      have H1 := Lib.hid h1
      have HK1 := Lib.hid hk1
      clear h1 hk1 HACT c5
      go_wp2_with fail
      go_loopw [4] (fun iv wr => SyRel w q x iv wr) (fun iv _ => x.n - (Go.RowKit.intOf iv).toNat)
      case atStart => exact ⟨0, rfl, Nat.zero_le _, by rw [upTo_zero]; exact H1.out, HK1.out⟩
      case round =>
        obtain ⟨k, rfl, hk, hr, hkw⟩ := hrel.ex
        clear hrel
        obtain ⟨c0, c1, c2, c3, c4, c5, f⟩ := hr.six
        have HR := Lib.hid hr
        have HKW := Lib.hid hkw
        have hhi : x.n ≤ 32768 := hr.hi
        replace c0 : wr.cell? ⟨q.x, 0, none⟩ = some (.slice (some ⟨q.l, 0, none⟩) x.n q.cl) := c0
        replace c1 : wr.cell? ⟨q.x, 1, none⟩ = some (.slice (some ⟨q.o, 0, none⟩) x.n q.co) := c1
        replace c2 : wr.cell? ⟨q.x, 2, none⟩ = some (.slice (some ⟨q.p, 0, none⟩) x.n x.n) := c2
        clear c3 c4 c5 hr hkw
        by_cases hlt : k < x.n
        · have hcl : wr.cell? ⟨q.l, k, none⟩ = some (.string ⟨(x.L k).toArray⟩) := HR.out.hl.cell hlt
          have a2 := HR.out.a2
          have a6 := HR.out.a6
          have hco := HR.out.ho.cell (i := k) hlt
          have hfo := HR.out.ho.frozen k
          have hcp := HR.out.hp.cell (i := k) hlt
          have hfp := HR.out.hp.frozen k
          have HLL : Hid ((x.L k).length = 64) := Lib.hid (HR.out.sl k hlt)
          have HS : ∀ n, RfAt (((wr.drewN n).setCell ⟨q.o, k, none⟩ (.string ⟨(x.L k).toArray⟩)).setCell ⟨q.p, k, none⟩ (.bool false)) q (upTo x (k + 1)) := fun n => by
            rw [upTo_succ]
            exact ((HR.out.drewN n).setOld (i := k) hlt HLL.out).setPend (i := k) hlt false
          have HS' := Lib.hid HS
          clear HS
          go_wp2_with fail
          go_still_tail 13, (by kernel_rfl)
          go_wp2_with fail
          go_roundw
          case rel => exact ⟨k + 1, by go_num, by omega, HS'.out 1, HKW.out.trans ((((Kept.refl (XB q) wr).drewN 1).trans (kept_o _ q k _)).trans (kept_p _ q k _))⟩
          case measure => simp [Go.RowKit.intOf]; omega
        · have hge : x.n ≤ k := by omega
          have HRE : Hid (upTo x k = upTo x x.n) := Lib.hid (by rw [show k = x.n by omega])
          go_wp2_with fail
          go_ret
          exact ⟨rfl, by rw [← HRE.out]; exact HR.out, HKW.out⟩
    · have e : Hid (syncR d = (x, 2)) := Lib.hid (by unfold syncR; rw [if_neg (by simp [HDD.out]), HX.out, if_pos hg])
      rw [e.out]
      rw [hg] at HACT
      clear hg
      go_enter Try.func25, Try.ntmps25
      go_wp2_with fail
      refine HACT.out.mono ?_
      rintro e w1 ⟨rfl, h1, hk1⟩
      have H1 := Lib.hid h1
      have HK1 := Lib.hid hk1
      clear h1 hk1 HACT
      go_wp2_with fail
      go_ret
      exact ⟨rfl, H1.out, HK1.out⟩
  · rw [hd] at c5
    have e : Hid (syncR d = (d, 2)) := Lib.hid (by unfold syncR; simp [hd])
    rw [e.out]
    clear hd
    go_enter Try.func25, Try.ntmps25
    go_wp2_with fail
    go_ret
    exact ⟨rfl, HD.out, Kept.refl _ _⟩
end
end Go.Proofs.Ytpobflionjndcaa
