/- TreeApart: the walk. -/
import Derived.Test.YtenbdoceaabecaaGreatP36
import Derived.Test.YtenbdoceaabecaaGreatP42
import Derived.Test.YtenbdoceaabecaaGreatP11
namespace Go.Proofs.YtenbdoceaabecaaGreat
open Go.ChangeShapes Go.WideShapes Go.ChangeAt Go.RowKit Go.Maps
set_option linter.unusedVariables false
set_option linter.unusedSimpArgs false
structure TaL (w : World) (B : Nat) (l : List EnT) (q : TB) (b : Nat) (iv : Value) (wr : World) : Prop where
  ex : ∃ i : Nat, iv = .int .i64 i ∧ i ≤ l.length ∧ TrN w B [(q, runE newM (l.take i))] [(b, runRE newR (l.take i))] (1 + 2 * sumE (l.take i)) wr
structure TaM (w : World) (B : Nat) (l : List EnT) (q r : TB) (b : Nat) (M : TM) (R : RT) (iv : Value) (wr : World) : Prop where
  ex : ∃ i : Nat, iv = .int .i64 i ∧ i ≤ l.length ∧ TrN w B [(q, M), (r, runE M (l.take i))] [(b, R)] (3000000 + 2 * sumE (l.take i)) wr
structure TaN (w : World) (B : Nat) (l : List EnT) (q r d : TB) (b : Nat) (M M2 : TM) (R : RT) (iv : Value) (wr : World) : Prop where
  ex : ∃ i : Nat, iv = .int .i64 i ∧ i ≤ l.length ∧ TrN w B [(q, runE M (l.take i)), (r, M2), (d, M)] [(b, R)] (6000000 + 2 * sumE (l.take i)) wr
set_option maxRecDepth 100000 in
set_option maxHeartbeats 4000000 in
theorem ta_walk (w : World) (a0 : Option Addr) (cap0 : Nat) (l0 : List EnT) (a1 : Option Addr) (cap1 : Nat) (l1 : List EnT) (p : ByteArray) (h0 : EntsS w a0 l0) (h1 : EntsS w a1 l1) (hp : p.size ≤ 140737488351232) :
    Calls Tryz.prog 4 #[.slice a0 l0.length cap0, .slice a1 l1.length cap1, .string p] w (QPost true w) := by
  have H0 := Lib.hid h0
  have H1 := Lib.hid h1
  have HS0 := Lib.hid (fun i => run_sim h0 raw_new i)
  have hl0 : l0.length ≤ 1048576 := by
    have := h0.sum
    have h9 : l0.length ≤ sumE l0 := by
      unfold sumE
      clear this h0 H0 HS0
      induction l0 with
      | nil => simp
      | cons x l ih => rw [List.map_cons, List.sum_cons, List.length_cons]; omega
    omega
  have hl1 : l1.length ≤ 1048576 := by
    have := h1.sum
    have h9 : l1.length ≤ sumE l1 := by
      unfold sumE
      clear this h1 H1
      induction l1 with
      | nil => simp
      | cons x l ih => rw [List.map_cons, List.sum_cons, List.length_cons]; omega
    omega
  clear h0 h1
  go_enter Tryz.func4, Tryz.ntmps4
  go_wp2_with fail
  refine (tawake_any w).mono ?_
  rintro e w1 ⟨rfl, hk1⟩
  obtain ⟨B, HB⟩ : ∃ B, Hid (w1.heap.size = B) := ⟨_, Lib.hid rfl⟩
  have HT0 : Hid (TrN w B [] [] 1 w1) := Lib.hid (TrN.start hk1)
  have HN1 := Lib.hid (tnew_any w1 (B := B) (Nat.le_of_eq HB.out.symm))
  clear hk1
  go_wp2_with fail
  refine HN1.out.mono ?_
  rintro e w2 ⟨q, rfl, hT, hk2, hq⟩
  have HT1 : Hid (TrN w B [(q, newM)] [] 1 w2) := Lib.hid (HT0.out.more hT hk2 hq)
  clear hT hk2 hq HN1 HT0 HB
  go_wp2_with fail
  refine (rnew_any w2).mono ?_
  rintro e w3 ⟨b, rfl, hR, hbn, hk3⟩
  have HT2 : Hid (TrN w B [(q, newM)] [(b, newR)] 1 w3) := Lib.hid (HT1.out.moreU hR hk3 hbn)
  clear hR hbn hk3 HT1
  go_wp2_with fail
  go_loopw [10] (fun iv wr => TaL w B l0 q b iv wr) (fun iv _ => l0.length - (intOf iv).toNat)
  case atStart => exact ⟨0, rfl, Nat.zero_le _, HT2.out.mono (by omega)⟩
  case round =>
    obtain ⟨i, rfl, hi, ht⟩ := hrel.ex
    have HT := Lib.hid ht
    clear hrel ht
    by_cases hlt : i < l0.length
    · obtain ⟨E, hE⟩ : ∃ E, l0[i]? = some E := ⟨_, List.getElem?_eq_getElem hlt⟩
      have HE := Lib.hid hE
      have HSM := Lib.hid (sumE_le hE)
      have hs0 := H0.out.sum
      have hsm := HSM.out
      have HA1 := Lib.hid (run_apply HT.out H0.out (i := 0) (q := q) (M := runE newM (l0.take i)) rfl hE (by omega))
      have i1 : (0 : Int) ≤ (i : Int) := by omega
      have i2 : (i : Int) < (l0.length : Int) := by omega
      obtain ⟨g, off, hg, hce⟩ := H0.out.eleven HT.out.kept HE.out
      subst hg
      have x0 := hce 0 _ rfl
      have x1 := hce 1 _ rfl
      have x2 := hce 2 _ rfl
      have x3 := hce 3 _ rfl
      have x4 := hce 4 _ rfl
      have x5 := hce 5 _ rfl
      have x6 := hce 6 _ rfl
      have x7 := hce 7 _ rfl
      have x8 := hce 8 _ rfl
      have x9 := hce 9 _ rfl
      have x10 := hce 10 _ rfl
      simp only [Nat.add_zero] at x0
      clear hce
      unfold entV at HA1
      clear hE hs0 hsm
      go_wp2_with fail
      refine HA1.out.mono ?_
      rintro e w5 ⟨va, vm, rfl, ht⟩
      have HT5 := Lib.hid ht
      have HA2 := Lib.hid (run_applyU HT5.out H0.out (i := 0) (b := b) (R := runRE newR (l0.take i)) rfl (HS0.out i).2 (by have := HSM.out; have := H0.out.sum; omega) HE.out)
      clear ht HA1 x0 x1 x2 x3 x4 x5 x6 x7 x8 x9 x10
      obtain ⟨g2, off2, hg2, hce⟩ := H0.out.eleven HT5.out.kept HE.out
      injection hg2 with hg2
      injection hg2 with hg2 ho2
      subst hg2 ho2
      have x0 := hce 0 _ rfl
      have x1 := hce 1 _ rfl
      have x2 := hce 2 _ rfl
      have x3 := hce 3 _ rfl
      have x4 := hce 4 _ rfl
      have x5 := hce 5 _ rfl
      have x6 := hce 6 _ rfl
      have x7 := hce 7 _ rfl
      have x8 := hce 8 _ rfl
      have x9 := hce 9 _ rfl
      have x10 := hce 10 _ rfl
      simp only [Nat.add_zero] at x0
      clear hce
      unfold entV at HA2
      go_wp2_with fail
      refine HA2.out.mono ?_
      rintro e w6 ⟨vb, vn, rfl, ht⟩
      have HT6 : Hid (TrN w B [(q, runE newM (l0.take (i + 1)))] [(b, runRE newR (l0.take (i + 1)))] (1 + 2 * sumE (l0.take (i + 1))) w6) := Lib.hid (by
        rw [take_snocE HE.out, runE_snoc, runRE_snoc, sumE_snoc]
        exact TrN.mono ht (by omega))
      clear ht HA2 x0 x1 x2 x3 x4 x5 x6 x7 x8 x9 x10
      go_wp2_with fail
      exact ⟨⟨i + 1, by go_num, by omega, HT6.out⟩, by show l0.length - ((i : Int) + 1).toNat < l0.length - (i : Int).toNat; omega⟩
    · have hin : i = l0.length := by omega
      have ht9 := HT.out
      rw [hin, List.take_length] at ht9
      obtain ⟨s1, s2⟩ := HS0.out l0.length
      rw [List.take_length] at s1 s2
      rw [toM_newR] at s1
      rw [← s1] at ht9
      obtain ⟨R1, hR1⟩ : ∃ R1, runRE newR l0 = R1 := ⟨_, rfl⟩
      rw [hR1] at s2 ht9
      have HR1 : Hid (RawR 2000000 R1) := Lib.hid (s2.mono (by have := H0.out.sum; omega))
      have HT3 : Hid (TrN w B [(q, toM R1)] [(b, R1)] 3000000 wr) := Lib.hid (ht9.mono (by have := H0.out.sum; omega))
      have HCL := Lib.hid (tclone_any (HT3.out.t (q, toM R1) (by simp)))
      clear ht9 s1 s2 hR1 hin HT hi
      go_wp2_with fail
      refine HCL.out.mono ?_
      rintro e w4 ⟨r, rfl, hr1, hq1, hrb, hk4⟩
      have HT4 : Hid (TrN w B [(q, toM R1), (r, toM R1)] [(b, R1)] 3000000 w4) := Lib.hid (HT3.out.more hr1 hk4 hrb)
      clear hr1 hq1 hrb hk4 HCL HT3
      have HSA := Lib.hid (same_true (HT4.out.t (r, toM R1) (by simp)) (HT4.out.t (q, toM R1) (by simp)) (by omega) (by omega) rfl rfl rfl)
      go_wp2_with fail
      refine HSA.out.mono ?_
      rintro e w5 ⟨rfl, hk5⟩
      have HT5 := Lib.hid (HT4.out.kept0 hk5)
      have HSB := Lib.hid (same_true (HT5.out.t (q, toM R1) (by simp)) (HT5.out.t (r, toM R1) (by simp)) (by omega) (by omega) rfl rfl rfl)
      clear hk5 HSA HT4
      go_wp2_with fail
      refine HSB.out.mono ?_
      rintro e w6 ⟨rfl, hk6⟩
      have HT6 := Lib.hid (HT5.out.kept0 hk6)
      clear hk6 HSB HT5
      go_wp2_with fail
      go_loopw [12] (fun iv wr => TaM w B l1 q r b (toM R1) R1 iv wr) (fun iv _ => l1.length - (intOf iv).toNat)
      case atStart => exact ⟨0, rfl, Nat.zero_le _, HT6.out.mono (by omega)⟩
      case round =>
        obtain ⟨i, rfl, hi, ht⟩ := hrel.ex
        have HT := Lib.hid ht
        clear hrel ht
        by_cases hlt : i < l1.length
        · obtain ⟨E, hE⟩ : ∃ E, l1[i]? = some E := ⟨_, List.getElem?_eq_getElem hlt⟩
          have HE := Lib.hid hE
          have HSM := Lib.hid (sumE_le hE)
          have hs0 := H1.out.sum
          have hsm := HSM.out
          have HA1 := Lib.hid (run_apply HT.out H1.out (i := 1) (q := r) (M := runE (toM R1) (l1.take i)) rfl hE (by omega))
          have i1 : (0 : Int) ≤ (i : Int) := by omega
          have i2 : (i : Int) < (l1.length : Int) := by omega
          obtain ⟨g, off, hg, hce⟩ := H1.out.eleven HT.out.kept HE.out
          subst hg
          have x0 := hce 0 _ rfl
          have x1 := hce 1 _ rfl
          have x2 := hce 2 _ rfl
          have x3 := hce 3 _ rfl
          have x4 := hce 4 _ rfl
          have x5 := hce 5 _ rfl
          have x6 := hce 6 _ rfl
          have x7 := hce 7 _ rfl
          have x8 := hce 8 _ rfl
          have x9 := hce 9 _ rfl
          have x10 := hce 10 _ rfl
          simp only [Nat.add_zero] at x0
          clear hce
          unfold entV at HA1
          clear hE hs0 hsm
          go_wp2_with fail
          refine HA1.out.mono ?_
          rintro e w7 ⟨va, vm, rfl, ht⟩
          have HT7 : Hid (TrN w B [(q, toM R1), (r, runE (toM R1) (l1.take (i + 1)))] [(b, R1)] (3000000 + 2 * sumE (l1.take (i + 1))) w7) := Lib.hid (by
            rw [take_snocE HE.out, runE_snoc, sumE_snoc]
            exact TrN.mono ht (by omega))
          clear ht HA1 x0 x1 x2 x3 x4 x5 x6 x7 x8 x9 x10
          go_wp2_with fail
          exact ⟨⟨i + 1, by go_num, by omega, HT7.out⟩, by show l1.length - ((i : Int) + 1).toNat < l1.length - (i : Int).toNat; omega⟩
        · have hin : i = l1.length := by omega
          have ht9 := HT.out
          rw [hin, List.take_length] at ht9
          obtain ⟨M2, hM2⟩ : ∃ M2, runE (toM R1) l1 = M2 := ⟨_, rfl⟩
          have HM2 := Lib.hid hM2
          rw [hM2] at ht9
          have HT7 : Hid (TrN w B [(q, toM R1), (r, M2)] [(b, R1)] 6000000 wr) := Lib.hid (ht9.mono (by have := H1.out.sum; omega))
          have HAL := Lib.hid (alike_any (HT7.out.t (q, toM R1) (by simp)) (HT7.out.u (b, R1) (by simp)) HR1.out (by omega) (by omega))
          clear ht9 hM2 hin HT hi
          go_wp2_with fail
          refine HAL.out.mono ?_
          rintro e w8 ⟨rfl, hk8⟩
          have HT8 := Lib.hid (HT7.out.kept0 hk8)
          have HRE := Lib.hid (reads_any (HT8.out.t (q, toM R1) (by simp)) (HT8.out.u (b, R1) (by simp)) HR1.out (by omega) (by omega) p hp)
          clear hk8 HAL HT7
          go_wp2_with fail
          refine HRE.out.mono ?_
          rintro e w9 ⟨rfl, hk9⟩
          have HT9 := Lib.hid (HT8.out.kept0 hk9)
          have HCL := Lib.hid (tclone_any (HT9.out.t (q, toM R1) (by simp)))
          clear hk9 HRE HT8
          go_wp2_with fail
          refine HCL.out.mono ?_
          rintro e w10 ⟨d, rfl, hr1, hq1, hrb, hk10⟩
          have HT10 : Hid (TrN w B [(q, toM R1), (r, M2), (d, toM R1)] [(b, R1)] 6000000 w10) := Lib.hid (HT9.out.more hr1 hk10 hrb)
          clear hr1 hq1 hrb hk10 HCL HT9
          go_wp2_with fail
          go_loopw [16] (fun iv wr => TaN w B l1 q r d b (toM R1) M2 R1 iv wr) (fun iv _ => l1.length - (intOf iv).toNat)
          case atStart => exact ⟨0, rfl, Nat.zero_le _, HT10.out.mono (by omega)⟩
          case round =>
            obtain ⟨i, rfl, hi, ht⟩ := hrel.ex
            have HT := Lib.hid ht
            clear hrel ht
            by_cases hlt : i < l1.length
            · obtain ⟨E, hE⟩ : ∃ E, l1[i]? = some E := ⟨_, List.getElem?_eq_getElem hlt⟩
              have HE := Lib.hid hE
              have HSM := Lib.hid (sumE_le hE)
              have hs0 := H1.out.sum
              have hsm := HSM.out
              have HA1 := Lib.hid (run_apply HT.out H1.out (i := 0) (q := q) (M := runE (toM R1) (l1.take i)) rfl hE (by omega))
              have i1 : (0 : Int) ≤ (i : Int) := by omega
              have i2 : (i : Int) < (l1.length : Int) := by omega
              obtain ⟨g, off, hg, hce⟩ := H1.out.eleven HT.out.kept HE.out
              subst hg
              have x0 := hce 0 _ rfl
              have x1 := hce 1 _ rfl
              have x2 := hce 2 _ rfl
              have x3 := hce 3 _ rfl
              have x4 := hce 4 _ rfl
              have x5 := hce 5 _ rfl
              have x6 := hce 6 _ rfl
              have x7 := hce 7 _ rfl
              have x8 := hce 8 _ rfl
              have x9 := hce 9 _ rfl
              have x10 := hce 10 _ rfl
              simp only [Nat.add_zero] at x0
              clear hce
              unfold entV at HA1
              clear hE hs0 hsm
              go_wp2_with fail
              refine HA1.out.mono ?_
              rintro e w11 ⟨va, vm, rfl, ht⟩
              have HT11 : Hid (TrN w B [(q, runE (toM R1) (l1.take (i + 1))), (r, M2), (d, toM R1)] [(b, R1)] (6000000 + 2 * sumE (l1.take (i + 1))) w11) := Lib.hid (by
                rw [take_snocE HE.out, runE_snoc, sumE_snoc]
                exact TrN.mono ht (by omega))
              clear ht HA1 x0 x1 x2 x3 x4 x5 x6 x7 x8 x9 x10
              go_wp2_with fail
              exact ⟨⟨i + 1, by go_num, by omega, HT11.out⟩, by show l1.length - ((i : Int) + 1).toNat < l1.length - (i : Int).toNat; omega⟩
            · have hin : i = l1.length := by omega
              have ht9 := HT.out
              rw [hin, List.take_length, HM2.out] at ht9
              have HT11 : Hid (TrN w B [(q, M2), (r, M2), (d, toM R1)] [(b, R1)] 9000000 wr) := Lib.hid (ht9.mono (by have := H1.out.sum; omega))
              have HAL := Lib.hid (alike_any (HT11.out.t (d, toM R1) (by simp)) (HT11.out.u (b, R1) (by simp)) HR1.out (by omega) (by omega))
              clear ht9 hin HT hi
              go_wp2_with fail
              refine HAL.out.mono ?_
              rintro e w12 ⟨rfl, hk12⟩
              have HT12 := Lib.hid (HT11.out.kept0 hk12)
              have HSC := Lib.hid (same_true (HT12.out.t (q, M2) (by simp)) (HT12.out.t (r, M2) (by simp)) (by omega) (by omega) rfl rfl rfl)
              clear hk12 HAL HT11
              go_wp2_with fail
              refine HSC.out.mono ?_
              rintro e w13 ⟨rfl, hk13⟩
              have HK13 := Lib.hid (HT12.out.kept.trans hk13)
              clear hk13 HSC HT12
              go_wp2_with fail
              go_ret
              exact ⟨rfl, HK13.out⟩
end Go.Proofs.YtenbdoceaabecaaGreat
