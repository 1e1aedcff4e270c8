/- Renew of a log: records that fit. -/
import Derived.Test.YtcjfpddmpiggoaaGreatJag
namespace Go.Proofs.YtcjfpddmpiggoaaGreat
open Go.ChangeShapes Go.WideShapes Go.ChangeAt Go.RowKit
set_option linter.unusedVariables false
set_option linter.unusedSimpArgs false
def LSt.ren (g : LSt) (l : List ByteArray) : LSt := { g with recs := l, used := sizeN l, m := { g.m with ar := 1 - g.m.ar } }
def renD (g : LSt) (d : DSt) (l : List ByteArray) : DSt × Int := if (wriD (g.ren l) d 0 (laidL l)).2 = 0 then setD (g.ren l) (wriD (g.ren l) d 0 (laidL l)).1 else wriD (g.ren l) d 0 (laidL l)
def renL (g : LSt) (d : DSt) (l : List ByteArray) : LSt := if (wriD (g.ren l) d 0 (laidL l)).2 = 0 then setL (g.ren l) (wriD (g.ren l) d 0 (laidL l)).1 else g.ren l
section
variable {Z Z' : Nat → Prop} {w w' : World} {lb db sb mb nn : Nat} {rv : Value} {g g' : LSt} {d d' : DSt}
theorem readD_zero_or (d : DSt) (k : Int) : (readD d k).2 = 0 ∨ True := .inr trivial
theorem putD_acts : ∀ (f : Nat) (d : DSt) (n : Nat) (s : List UInt8), (putD f d n s).1.acts ≤ d.acts + s.length ∧ (putD f d n s).1.n = d.n
  | 0, d, n, s => by rw [putD]; exact ⟨Nat.le_add_right _ _, rfl⟩
  | f + 1, d, n, s => by
    rw [putD]
    by_cases h0 : s.length = 0
    · rw [if_pos h0]; exact ⟨Nat.le_add_right _ _, rfl⟩
    · rw [if_neg h0]
      have hw := writeD_le d (n : Int) (chunkL s)
      split
      · have ih := putD_acts f (writeD d (n : Int) (chunkL s)).1 (n + 1) (s.drop 64)
        rw [List.length_drop] at ih
        exact ⟨by omega, by rw [ih.2]; exact hw.2⟩
      · exact ⟨by omega, hw.2⟩
theorem wriD_acts0 (g : LSt) (d : DSt) (s : List UInt8) : (wriD g d 0 s).1.acts ≤ d.acts + s.length ∧ (wriD g d 0 s).1.n = d.n := by
  unfold wriD
  rw [if_neg (by decide)]
  exact putD_acts _ _ _ _
set_option maxRecDepth 100000 in
set_option maxHeartbeats 2000000 in
theorem wrenew_go {ok : Nat → Prop} {tv : Value} {l : List ByteArray} (h : Wl Z w lb db g d) (hd : g.doubt = false) (ht : TsAt w ok tv l) (hok : ∀ k, ok k → k < w.heap.size ∧ ¬ Z k) (hal : Alls l) (hro : sizeN l ≤ spaceN d) (har : g.m.ar ≤ 1) (hc : g.m.c < 4294967295) (hm : (g.ren l).all.bump.m.Fits) (ha : d.acts ≤ 4611000000000000000) :
    Calls Tryz.prog 32 #[.pointer (some ⟨lb, 0, none⟩), tv] w fun e w' =>
    e = .returned (.int .i64 (renD g d l).2) ∧ Wq Z w' lb db (renL g d l) (renD g d l).1 (renD g d l).2 ∧ Kept Z w w' := by
  have h1 := h.box (.cells #[.int .i64 0] 25)
  have HZ : Hid (∀ k, w.heap.size ≤ k → Z k) := Lib.hid (by obtain ⟨_, _, _, _, _, _, _, _, h5⟩ := h.ex; exact h5)
  obtain ⟨sb, mb, nn, rv, hp⟩ := h1.open_
  have hb := heap_alloc_new w (.cells #[.int .i64 0] 25)
  have HB := Lib.hid hb
  obtain ⟨ra, rcap, rfl, hcap⟩ := hp.l.slice
  have HT := Lib.hid (ht.kept ((Kept.refl (fun _ => False) w).alloc (.cells #[.int .i64 0] 25)) (fun _ _ f => f))
  have hsp : spaceN d ≤ 1048512 := by have := h.sec_hi; unfold spaceN; omega
  have hll : l.length ≤ 1048512 := by
    have : l.length ≤ sizeN l := by
      clear ht HT hro hm hal
      induction l with
      | nil => simp
      | cons s l ih => simp only [sizeN, List.map_cons, List.sum_cons, List.length_cons] at ih ⊢; omega
    omega
  have HCO := Lib.hid (contains_small HT.out (by omega) hal)
  have HSZ := Lib.hid (wsize_any HT.out (by omega) (by omega))
  have HSP := Lib.hid (space_any h1)
  have HHO := Lib.hid (hold_any h1 HT.out (by omega) (by omega))
  have HOK : Hid (∀ k, ok k → k < (w.alloc (.cells #[.int .i64 0] 25)).heap.size ∧ ¬ (Z k ∧ k ≠ w.heap.size)) := Lib.hid (fun k hk => ⟨by have := (hok k hk).1; simp; omega, fun hz => (hok k hk).2 hz.1⟩)
  obtain ⟨L, hL⟩ : ∃ L, (⟨(laidL l).toArray⟩ : ByteArray) = L := ⟨_, rfl⟩
  have HLz : Hid (L.size ≤ 140000000000000) := Lib.hid (by rw [← hL]; show (laidL l).length ≤ _; rw [laidL_len]; omega)
  have HLL : Hid (L.data.toList = laidL l) := Lib.hid (by rw [← hL])
  have HL := Lib.hid hL
  have hsq : decide ((spaceN d : Int) < (sizeN l : Int)) = false := by simp; omega
  obtain ⟨zs, hzs⟩ : ∃ zs, sizeN l = zs := ⟨_, rfl⟩
  obtain ⟨zp, hzp⟩ : ∃ zp, spaceN d = zp := ⟨_, rfl⟩
  rw [hzs] at HSZ
  rw [hzp] at HSP
  have hzz : zs ≤ zp := by omega
  have HLS : Hid (sizeN l ≤ 140000000000000) := Lib.hid (by omega)
  obtain ⟨a2, ha2⟩ : ∃ a2, 1 - g.m.ar = a2 := ⟨_, rfl⟩
  have HA2 : Hid ((1 : Int) - (g.m.ar : Int) = (a2 : Int)) := Lib.hid (by omega)
  have hA2l : a2 ≤ 1 := by omega
  have HG : Hid (g.ren l = { g.held l with m := { (g.held l).m with ar := a2 } }) := Lib.hid (by unfold LSt.ren LSt.held; rw [ha2])
  obtain ⟨R, hR⟩ : ∃ R, wriD (g.ren l) d 0 (laidL l) = R := ⟨_, rfl⟩
  have hRa := wriD_acts0 (g.ren l) d (laidL l)
  rw [hR, laidL_len] at hRa
  have HRA : Hid (R.1.acts < 4611686018427387900) := Lib.hid (by omega)
  have HM := Lib.hid hm
  obtain ⟨v1, hv1⟩ : ∃ v1, R.2 = v1 := ⟨_, rfl⟩
  have HRD : Hid (renD g d l = if v1 = 0 then setD (g.ren l) R.1 else R) := Lib.hid (by unfold renD; rw [hR, hv1])
  have HRL : Hid (renL g d l = if v1 = 0 then setL (g.ren l) R.1 else g.ren l) := Lib.hid (by unfold renL; rw [hR, hv1])
  have HR := Lib.hid hR
  have HV1 := Lib.hid hv1
  have hcq : ((g.m.c : Int) == 4294967295) = false := by simp; omega
  obtain ⟨v, hv⟩ : ∃ v, (renD g d l).2 = v := ⟨_, rfl⟩
  rw [hv]
  have HV := Lib.hid hv
  obtain ⟨D, hD⟩ : ∃ D, (renD g d l).1 = D := ⟨_, rfl⟩
  rw [hD]
  have HD := Lib.hid hD
  obtain ⟨G, hGG⟩ : ∃ G, renL g d l = G := ⟨_, rfl⟩
  rw [hGG]
  have HGG := Lib.hid hGG
  obtain ⟨t0, t1, t2, t3, t4, t5, t6⟩ := hp.seven
  have t7 : (w.alloc (.cells #[.int .i64 0] 25)).cell? ⟨lb, 7, none⟩ = some (.slice ra g.recs.length rcap) := hp.l.cell 7
  have t8 : (w.alloc (.cells #[.int .i64 0] 25)).cell? ⟨lb, 8, none⟩ = some (.int .i64 g.used) := hp.l.cell 8
  have t9 : (w.alloc (.cells #[.int .i64 0] 25)).cell? ⟨lb, 9, none⟩ = some (.bool false) := by rw [← hd]; exact hp.l.cell 9
  clear h h1 hp hb hL hR hv hD hGG hv1 hm hRa hzs hzp hro hsp ht hal hok hd
  go_enter_defers Tryz.func32, Tryz.ntmps32
  go_wp2_with fail
  refine HCO.out.mono ?_
  rintro e w1 ⟨rfl, rfl⟩
  go_wp2_with fail
  refine HSZ.out.mono ?_
  rintro e w1 ⟨rfl, rfl⟩
  go_wp2_with fail
  refine HSP.out.mono ?_
  rintro e w1 ⟨rfl, rfl⟩
  go_wp2_with fail
  refine HHO.out.mono ?_
  rintro e w1 ⟨rfl, hw1, hk1⟩
  obtain ⟨sb1, mb1, nn1, rv1, hp1⟩ := hw1.open_
  have u2 : w1.cell? ⟨lb, 2, none⟩ = some (.int .i64 g.m.ar) := hp1.l.cell 2
  have fu2 : w1.frozen? ⟨lb, 2, none⟩ = false := by simp [World.frozen?, hp1.l.at_]
  have h2 := (hp1.log (g' := { g.held l with m := { (g.held l).m with ar := a2 } }) 2 (.int .i64 a2) rfl rfl).close
  rw [← HG.out] at h2
  have HW2 := Lib.hid h2
  have HK2 := Lib.hid (hk1.setCell (a := ⟨lb, 2, none⟩) (.inl hp1.b1) (.int .i64 a2))
  clear hw1 hk1 hp1 h2 t0 t1 t2 t3 t4 t5 t6 t7 t8 t9
  go_wp2_with fail
  rw [HA2.out]
  generalize w1.setCell ⟨lb, 2, none⟩ (.int .i64 (a2 : Int)) = w2 at HW2 HK2 ⊢
  clear u2 fu2
  refine (laid_any (HT.out.kept HK2.out (fun k hk => (HOK.out k hk).2)) (fun k hk => Nat.lt_of_lt_of_le (HOK.out k hk).1 HK2.out.size) HLS.out).mono ?_
  rw [HL.out]
  rintro e w3 ⟨rfl, hk3⟩
  have HW3 := Lib.hid (HW2.out.kept0 hk3)
  have HK3 := Lib.hid (HK2.out.trans (hk3.mono (fun _ _ f => f.elim)))
  clear hk3 HW2 HK2
  go_wp2_with fail
  refine (wwrite_any HW3.out (by show 1 - g.m.ar ≤ 1; omega) 0 (by decide) L HLz.out ha).mono ?_
  rw [HLL.out, HR.out]
  rintro e w5 ⟨he, hw5, hk5⟩
  replace hk5 := HK3.out.trans hk5
  replace he := he.trans (ret_int HV1.out)
  subst he
  clear HW3 HK3
  by_cases hv0 : v1 = 0
  · have HRD2 : Hid (renD g d l = setD (g.ren l) R.1) := Lib.hid (by rw [HRD.out, if_pos hv0])
    have HRL2 : Hid (renL g d l = setL (g.ren l) R.1) := Lib.hid (by rw [HRL.out, if_pos hv0])
    subst hv0
    have HW5 := Lib.hid hw5
    have HK5 := Lib.hid hk5
    clear hw5 hk5
    go_wp2_with fail
    refine (wsettle_any HW5.out HM.out HRA.out).mono ?_
    rw [← HRD2.out, ← HRL2.out, HD.out, HGG.out]
    rintro e w2 ⟨he, hw2, hk2⟩
    replace hk2 := HK5.out.trans hk2
    replace he := he.trans (ret_int HV.out)
    subst he
    clear HW5 HK5
    have hb2 : w2.heap[w.heap.size]? = some (.cells #[.int .i64 0] 25 (0, 0)) := by
      rw [hk2.block w.heap.size (by simp) (fun hz => hz.2 rfl)]; exact HB.out
    have e0 : w2.cell? ⟨w.heap.size, 0, none⟩ = some (.int .i64 0) := cell_of_row _ w.heap.size 0 _ _ (0, 0) hb2
    have ef : w2.frozen? ⟨w.heap.size, 0, none⟩ = false := by simp [World.frozen?, hb2]
    have HB2 := Lib.hid hb2
    have HW2 := Lib.hid hw2
    have HK2 := Lib.hid hk2
    clear hb2 hw2 hk2
    go_wp2_with fail
    have hb3 : (w2.setCell ⟨w.heap.size, 0, none⟩ (.int .i64 v)).heap[w.heap.size]? = some (.cells [.int .i64 v].toArray 25 (0, 0)) := heap_set (c := [.int .i64 0]) _ HB2.out
    have HW3 := Lib.hid (HW2.out.kept (kept_set w2 w.heap.size 0 (.int .i64 v)) (fun k hz e => hz.2 e))
    have HK3 : Hid (Kept Z w (w2.setCell ⟨w.heap.size, 0, none⟩ (.int .i64 v))) := Lib.hid ((((Kept.refl Z w).alloc _).trans (HK2.out.monoZ (fun k hz => hz.1))).setCell (a := ⟨w.heap.size, 0, none⟩) (.inr (Nat.le_refl _)) _)
    generalize w2.setCell ⟨w.heap.size, 0, none⟩ (.int .i64 v) = w3 at hb3 HW3 HK3 ⊢
    obtain ⟨hz3, cur, hcl, hlb3⟩ := HW3.out.atLog
    refine leaves_cons (f := 38) (args := #[.pointer (some ⟨lb, 0, none⟩), .agg #[.pointer (some ⟨db, 0, none⟩), .int .i64 g.m.c, .int .i64 g.m.ar, .int .i64 g.m.le, .int .i64 g.m.nu, .int .i64 g.m.a, .int .i64 g.m.b, .slice ra g.recs.length rcap, .int .i64 g.used, .bool false], .pointer (some ⟨w.heap.size, 0, none⟩)]) (by simp) (by simp [go_sem]) ?_
    refine (right_all (v := v) (cur := cur) _ _ _ _ _ _ _ _ _ _ (cell_of_row _ w.heap.size 0 _ _ (0, 0) hb3) hlb3 hcl (by simp [Value.oneCell']) .returning).mono ?_
    rintro e u' w4 ⟨rfl, rfl, hk0, hk⟩
    have hc2 : w4.cell? ⟨w.heap.size, 0, none⟩ = some (.int .i64 v) := by
      rw [World.cell?_of_block (w := w3) (hk.block _ (lt_of_block hb3) (fun e => hz3.2 e.symm))]
      exact cell_of_row _ w.heap.size 0 _ _ (0, 0) hb3
    have HK : Hid (Kept Z w w4) := Lib.hid (HK3.out.trans (hk.mono (fun k _ e => by have e : k = lb := e; subst e; exact hz3.1)))
    have HW := Lib.hid (HW3.out.righted (Z' := Z) (v := v) hk0 hk (fun k hz => hz.1))
    clear hk hk0 hz3 hcl hlb3 hb3 HW3 HK3 HW2 HK2 HB2 e0 ef
    simp [Leaves, settle, results, Tryz.results32, go_sem, hc2]
    exact ⟨HW.out, HK.out⟩
  · have HRD2 : Hid (renD g d l = R) := Lib.hid (by rw [HRD.out, if_neg hv0])
    have HRL2 : Hid (renL g d l = g.ren l) := Lib.hid (by rw [HRL.out, if_neg hv0])
    have hvb : (v1 == 0) = false := by simpa using hv0
    have hvv : v1 = v := by rw [← HV1.out, ← HRD2.out]; exact HV.out
    rw [← HRD2.out, HD.out, ← HRL2.out, HGG.out] at hw5
    have hw2 := hw5
    have hk2 := hk5
    clear hw5 hk5
    subst hvv
    generalize w5 = w2 at hw2 hk2 ⊢
    have hb2 : w2.heap[w.heap.size]? = some (.cells #[.int .i64 0] 25 (0, 0)) := by
      rw [hk2.block w.heap.size (by simp) (fun hz => hz.2 rfl)]; exact HB.out
    have e0 : w2.cell? ⟨w.heap.size, 0, none⟩ = some (.int .i64 0) := cell_of_row _ w.heap.size 0 _ _ (0, 0) hb2
    have ef : w2.frozen? ⟨w.heap.size, 0, none⟩ = false := by simp [World.frozen?, hb2]
    have HB2 := Lib.hid hb2
    have HW2 := Lib.hid hw2
    have HK2 := Lib.hid hk2
    clear hb2 hw2 hk2
    go_wp2_with fail
    have hb3 : (w2.setCell ⟨w.heap.size, 0, none⟩ (.int .i64 v1)).heap[w.heap.size]? = some (.cells [.int .i64 v1].toArray 25 (0, 0)) := heap_set (c := [.int .i64 0]) _ HB2.out
    have HW3 := Lib.hid (HW2.out.kept (kept_set w2 w.heap.size 0 (.int .i64 v1)) (fun k hz e => hz.2 e))
    have HK3 : Hid (Kept Z w (w2.setCell ⟨w.heap.size, 0, none⟩ (.int .i64 v1))) := Lib.hid ((((Kept.refl Z w).alloc _).trans (HK2.out.monoZ (fun k hz => hz.1))).setCell (a := ⟨w.heap.size, 0, none⟩) (.inr (Nat.le_refl _)) _)
    generalize w2.setCell ⟨w.heap.size, 0, none⟩ (.int .i64 v1) = w3 at hb3 HW3 HK3 ⊢
    obtain ⟨hz3, cur, hcl, hlb3⟩ := HW3.out.atLog
    refine leaves_cons (f := 38) (args := #[.pointer (some ⟨lb, 0, none⟩), .agg #[.pointer (some ⟨db, 0, none⟩), .int .i64 g.m.c, .int .i64 g.m.ar, .int .i64 g.m.le, .int .i64 g.m.nu, .int .i64 g.m.a, .int .i64 g.m.b, .slice ra g.recs.length rcap, .int .i64 g.used, .bool false], .pointer (some ⟨w.heap.size, 0, none⟩)]) (by simp) (by simp [go_sem]) ?_
    refine (right_all (v := v1) (cur := cur) _ _ _ _ _ _ _ _ _ _ (cell_of_row _ w.heap.size 0 _ _ (0, 0) hb3) hlb3 hcl (by simp [Value.oneCell']) .returning).mono ?_
    rintro e u' w4 ⟨rfl, rfl, hk0, hk⟩
    have hc2 : w4.cell? ⟨w.heap.size, 0, none⟩ = some (.int .i64 v1) := by
      rw [World.cell?_of_block (w := w3) (hk.block _ (lt_of_block hb3) (fun e => hz3.2 e.symm))]
      exact cell_of_row _ w.heap.size 0 _ _ (0, 0) hb3
    have HK : Hid (Kept Z w w4) := Lib.hid (HK3.out.trans (hk.mono (fun k _ e => by have e : k = lb := e; subst e; exact hz3.1)))
    have HW := Lib.hid (HW3.out.righted (Z' := Z) (v := v1) hk0 hk (fun k hz => hz.1))
    clear hk hk0 hz3 hcl hlb3 hb3 HW3 HK3 HW2 HK2 HB2 e0 ef
    simp [Leaves, settle, results, Tryz.results32, go_sem, hc2]
    exact ⟨HW.out, HK.out⟩
end
end Go.Proofs.YtcjfpddmpiggoaaGreat
