/- find of a log: it is opened, or there is none. -/
import Derived.Test.YtmfngbgdmlnlcaaJkh
namespace Go.Proofs.Ytmfngbgdmlnlcaa
open Go.ChangeShapes Go.WideShapes Go.ChangeAt Go.RowKit
set_option linter.unusedVariables false
set_option linter.unusedSimpArgs false
section
variable {Z : Nat → Prop} {w w' : World} {lb db sb mb nn : Nat} {d : DSt}
def FindPost (Z : Nat → Prop) (w : World) (lb db : Nat) (d : DSt) (e : Ending) (w' : World) : Prop :=
  ∃ v : Int, e = .returned (.int .i64 v) ∧ (∀ m l, Stands d m l → v = 0 ∧ Wl Z w' lb db (openL m l) d) ∧ ((¬ ∃ m l, Stands d m l) → v = 31) ∧ Kept Z w w'
set_option maxRecDepth 100000 in
set_option maxHeartbeats 4000000 in
theorem find_any (h : Wl Z w lb db log0 d) (hd : d.dead = false) : Calls Try.prog 41 #[.pointer (some ⟨lb, 0, none⟩)] w (FindPost Z w lb db d) := by
  have hl0 := h.lens 0 (by have := h.hi; omega)
  have hl1 := h.lens 1 (by have := h.hi; omega)
  obtain ⟨m, hm, hfit⟩ := lastZ_nat (space := spaceN d) hl0 hl1
  have hlm := lastmark_any h hd
  rw [hm] at hlm
  have hlm2 : Calls Try.prog 59 #[.pointer (some ⟨lb, 0, none⟩)] w fun e w' => e = .returned (.tuple #[.agg #[.int .i64 m.c, .int .i64 m.ar, .int .i64 m.le, .int .i64 m.nu, .int .i64 m.a, .int .i64 m.b], .int .i64 0]) ∧ Kept (fun _ => False) w w' := hlm
  have HLM := Lib.hid hlm2
  obtain ⟨S0, hS0⟩ : ∃ S0 : ByteArray, (⟨((areaL d.S (startN d m.ar) (secN d)).take m.le).toArray⟩ : ByteArray) = S0 := ⟨_, rfl⟩
  have hsl : S0.data.toList = (areaL d.S (startN d m.ar) (secN d)).take m.le := by rw [← hS0]
  have hsz : S0.size = m.le := by
    rw [← list_size, hsl, List.length_take, areaL_len (fun i hi => h.lens _ (by have := startN_hi h.hi.1 hfit.ar; omega))]
    have := hfit.le; unfold spaceN at this; omega
  have HBY : Hid (∀ W, Kept (fun _ => False) w W → Calls Try.prog 60 #[.pointer (some ⟨lb, 0, none⟩), .int .i64 m.ar, .int .i64 m.le] W fun e w' => e = .returned (.tuple #[.string S0, .int .i64 0]) ∧ Kept (fun _ => False) W w') := Lib.hid (fun W hk => by
    have := bytes_any (h.kept0 hk) hd m.ar m.le hfit.ar hfit.le
    rw [hS0] at this; exact this)
  obtain ⟨T, hT⟩ : ∃ T, takenN (m.le + 1) S0.data.toList = T := ⟨_, rfl⟩
  have HTK : Hid (∀ W, Calls Try.prog 61 #[.string S0] W (TkPost W T)) := Lib.hid (fun W => by
    have := taken_any S0 W (by rw [hsz]; have := h.sec_hi; have := hfit.le; unfold spaceN at this; omega)
    rw [hsz, hT] at this; exact this)
  have HUN : Hid (∀ m' l, Stands d m' l → m' = m ∧ T = some l ∧ l.length = m.nu ∧ m.c ≠ 0) := Lib.hid (fun m' l hs => by
    have e1 := hs.last
    rw [hm] at e1
    have e : m' = m := by
      have := congrArg MZ.c e1; have := congrArg MZ.ar e1; have := congrArg MZ.le e1; have := congrArg MZ.nu e1; have := congrArg MZ.a e1; have := congrArg MZ.b e1
      simp only [MSt.z] at *
      cases m'; cases m
      simp only [MSt.mk.injEq]
      simp only at *
      omega
    subst e
    refine ⟨rfl, ?_, hs.nu, hs.c⟩
    rw [← hT, hsl]; exact hs.taken)
  have HIS : Hid (∀ l, T = some l → l.length = m.nu → m.c ≠ 0 → Stands d m l) := Lib.hid (fun l h1 h2 h3 => ⟨hm, hfit, h3, by rw [← hsl, hT]; exact h1, h2⟩)
  have HM := Lib.hid hm
  have HF := Lib.hid hfit
  have HH := Lib.hid h
  have HD := Lib.hid hd
  have har := hfit.ar
  have hle := hfit.le
  have hsp : spaceN d ≤ 1048512 := by have := h.sec_hi; unfold spaceN; omega
  have hlem : m.le ≤ 1048512 := by omega
  clear h hd hl0 hl1 hm hfit hlm hlm2 hsp hS0 hsl hT
  go_enter Try.func41, Try.ntmps41
  go_wp2_with fail
  refine HLM.out.mono ?_
  rintro e w1 ⟨rfl, hk1⟩
  have HK1 := Lib.hid hk1
  clear hk1
  go_wp2_with fail
  have hb1 : (w1.alloc (.cells #[.int .i64 m.c, .int .i64 m.ar, .int .i64 m.le, .int .i64 m.nu, .int .i64 m.a, .int .i64 m.b] 73)).heap[w1.heap.size]? = some (.cells #[.int .i64 m.c, .int .i64 m.ar, .int .i64 m.le, .int .i64 m.nu, .int .i64 m.a, .int .i64 m.b] 73 (0, 0)) := heap_alloc_new w1 _
  have HK2 := Lib.hid (HK1.out.alloc (.cells #[.int .i64 m.c, .int .i64 m.ar, .int .i64 m.le, .int .i64 m.nu, .int .i64 m.a, .int .i64 m.b] 73))
  obtain ⟨mb1, hmb⟩ : ∃ mb1, w1.heap.size = mb1 := ⟨_, rfl⟩
  have HNB : Hid (w.heap.size ≤ mb1) := Lib.hid (by rw [← hmb]; exact HK1.out.size)
  rw [hmb] at hb1 ⊢
  clear hmb
  generalize w1.alloc (.cells #[.int .i64 m.c, .int .i64 m.ar, .int .i64 m.le, .int .i64 m.nu, .int .i64 m.a, .int .i64 m.b] 73) = w2 at hb1 HK2 ⊢
  have HB2 := Lib.hid hb1
  clear hb1
  go_wp2_with fail
  refine (HBY.out _ HK2.out).mono ?_
  rintro e w3 ⟨rfl, hk3⟩
  have HB3 : Hid (w3.heap[mb1]? = _) := Lib.hid ((hk3.block mb1 (lt_of_block HB2.out) id).trans HB2.out)
  have HK3 := Lib.hid (HK2.out.trans hk3)
  clear hk3 HB2 HK2
  go_wp2_with fail
  refine (HTK.out _).mono ?_
  rintro e w4 ⟨v, b, rfl, hnone, hsome, hk4, ao, n, cap, rfl⟩
  have hb4 := (hk4.block mb1 (lt_of_block HB3.out) id).trans HB3.out
  have HK4 := Lib.hid (HK3.out.trans hk4)
  have HSO := Lib.hid hsome
  have HNO := Lib.hid hnone
  have HSZ4 : Hid (w.heap.size ≤ w3.heap.size) := Lib.hid HK3.out.size
  obtain ⟨c0, c1, c2, c3, c4, c5, ff⟩ := six_of hb4
  clear hk4 hsome hnone ff hb4 HB3 HK3
  by_cases h0 : m.c = 0
  · have h0b : ((m.c : Int) == 0) = true := by simp; omega
    have h0d : decide ((m.c : Int) = 0) = true := by simp; omega
    have H0 := Lib.hid h0
    clear h0
    go_wp2_with fail
    go_ret
    exact ⟨31, rfl, fun m' l' hs => (by obtain ⟨e1, e2, e3, e4⟩ := HUN.out m' l' hs; exact absurd H0.out e4), fun _ => rfl, HK4.out.mono (fun _ _ f => f.elim)⟩
  · have h0b : ((m.c : Int) == 0) = false := by simp; omega
    have h0d : decide ((m.c : Int) = 0) = false := by simp; omega
    have H0 := Lib.hid h0
    clear h0
    cases hTe : T with
    | none =>
      obtain rfl := HNO.out hTe
      have HTE := Lib.hid hTe
      clear hTe
      go_wp2_with fail
      go_ret
      exact ⟨31, rfl, fun m' l' hs => (by obtain ⟨e1, e2, e3, e4⟩ := HUN.out m' l' hs; exact (by rw [HTE.out] at e2; cases e2)), fun _ => rfl, HK4.out.mono (fun _ _ f => f.elim)⟩
    | some l =>
      obtain ⟨rfl, hrow⟩ := HSO.out l hTe
      have HTE := Lib.hid hTe
      obtain rfl : n = l.length := by
        rcases hrow.2 with ⟨hv, h0⟩ | ⟨g, cap, cur, hv, _⟩
        · injection hv with _ e2 _; rw [e2, h0]
        · injection hv
      have HROW := Lib.hid hrow
      clear hTe hrow HSO HNO
      by_cases hnu : l.length = m.nu
      · have hnb : ((l.length : Int) == (m.nu : Int)) = true := by simp; omega
        have hnd : ((l.length : Int) != (m.nu : Int)) = false := by simp; omega
        have HST := Lib.hid (HIS.out l HTE.out hnu H0.out)
        have HNU := Lib.hid hnu
        clear hnu
        have hop := HH.out.opened (m := m) HK4.out HROW.out HSZ4.out
        have HOP := Lib.hid hop
        have hat := (HH.out.kept0 HK4.out).atLog
        obtain ⟨hzl, cur, hcl, hlb⟩ := hat
        have HZL := Lib.hid hzl
        obtain ⟨sb, mb, nn, rv, hD, hL, _⟩ := (HH.out.kept0 HK4.out).ex
        have g1 : w4.cell? ⟨lb, 1, none⟩ = some (.int .i64 0) := hL.cell 1
        have g2 : w4.cell? ⟨lb, 2, none⟩ = some (.int .i64 0) := hL.cell 2
        have g3 : w4.cell? ⟨lb, 3, none⟩ = some (.int .i64 0) := hL.cell 3
        have g4 : w4.cell? ⟨lb, 4, none⟩ = some (.int .i64 0) := hL.cell 4
        have g5 : w4.cell? ⟨lb, 5, none⟩ = some (.int .i64 0) := hL.cell 5
        have g6 : w4.cell? ⟨lb, 6, none⟩ = some (.int .i64 0) := hL.cell 6
        have g7 : w4.cell? ⟨lb, 7, none⟩ = some rv := hL.cell 7
        have g8 : w4.cell? ⟨lb, 8, none⟩ = some (.int .i64 0) := hL.cell 8
        have ff : ∀ i, w4.frozen? ⟨lb, i, none⟩ = false := fun i => by unfold World.frozen?; rw [hlb]; rfl
        have f1 := ff 1
        have f2 := ff 2
        have f3 := ff 3
        have f4 := ff 4
        have f5 := ff 5
        have f6 := ff 6
        have f7 := ff 7
        have f8 := ff 8
        have HK9 : Hid (Kept Z w (setLog w4 lb m (.slice ao l.length cap))) := Lib.hid ((HK4.out.mono (fun _ _ f => f.elim)).trans ((setLog_kept w4 lb m _).mono (fun k _ e => by have e : k = lb := e; subst e; exact hzl)))
        clear hD hL hop hcl hlb hzl ff
        go_wp2_with fail
        go_ret
        refine ⟨0, rfl, fun m' l' hs => ?_, fun hn => absurd ⟨m, l, HST.out⟩ hn, ?_⟩
        · obtain ⟨e1, e2, e3, e4⟩ := HUN.out m' l' hs
          subst e1
          rw [HTE.out] at e2
          obtain rfl := Option.some.inj e2
          refine ⟨rfl, ?_⟩
          first | exact HOP.out | (rw [hsz]; exact HOP.out) | (rw [← HNU.out]; exact HOP.out)
        · first | exact HK9.out | (rw [hsz]; exact HK9.out) | (rw [← HNU.out]; exact HK9.out)
      · have hnb : ((l.length : Int) == (m.nu : Int)) = false := by simp; omega
        have hnd : ((l.length : Int) != (m.nu : Int)) = true := by simp; omega
        have HNU := Lib.hid hnu
        clear hnu
        go_wp2_with fail
        go_ret
        exact ⟨31, rfl, fun m' l' hs => (by obtain ⟨e1, e2, e3, e4⟩ := HUN.out m' l' hs; exact absurd (by rw [HTE.out] at e2; obtain rfl := Option.some.inj e2; exact e3) HNU.out), fun _ => rfl, HK4.out.mono (fun _ _ f => f.elim)⟩
end
end Go.Proofs.Ytmfngbgdmlnlcaa
