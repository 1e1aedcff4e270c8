/- The law's walk. -/
import Derived.Test.YtccoeccibokecaaNag
import Derived.Test.YtccoeccibokecaaNx
import Derived.Test.YtccoeccibokecaaNaf
namespace Go.Proofs.Ytccoeccibokecaa
open Go.ChangeShapes Go.WideShapes Go.ChangeAt Go.RowKit Go.Maps
set_option linter.unusedVariables false
set_option linter.unusedSimpArgs false
structure NbL (w : World) (B : Nat) (rs : List (Value × List (T1 × Int))) (q r : TB) (f g : Nat → TM) (c0 c1 n : Nat) (iv : Value) (wr : World) : Prop where
  ex : ∃ k, k ≤ n ∧ iv = .int .i64 k ∧ NbS w B rs q r (f k) (g k) (c0 + c1 * k) wr
theorem swap_ab (la lb : List OpN) : (runT (runT (runT newM begL) (undL 97 la)) (undL 98 lb)).N = (runT (runT (runT newM begL) (undL 98 lb)) (undL 97 la)).N ∧ (runT (runT (runT newM begL) (undL 97 la)) (undL 98 lb)).S = (runT (runT (runT newM begL) (undL 98 lb)) (undL 97 la)).S :=
  run_swap _ _ _ (atP_apart (c := 97) (d := 98) (by decide)) (undL_in la).1 (undL_in lb).2
set_option maxRecDepth 100000 in
set_option maxHeartbeats 2000000 in
theorem nb_walk (w : World) (a0 a1 : Option Addr) (cap0 cap1 : Nat) (l0 l1 : List OpN) (h0 : OpsN w a0 l0) (h1 : OpsN w a1 l1) :
    Calls Try.prog 5 #[.slice a0 l0.length cap0, .slice a1 l1.length cap1] w (QPost true w) := by
  have H0 := Lib.hid h0
  have H1 := Lib.hid h1
  have HSW := Lib.hid (swap_ab l0 l1)
  have HMA := Lib.hid (mild_und 97 l0)
  have HMB := Lib.hid (mild_und 98 l1)
  have HLA : Hid ((undL 97 l0).length ≤ 60) := Lib.hid (by rw [undL_len]; omega)
  have HLB : Hid ((undL 98 l1).length ≤ 60) := Lib.hid (by rw [undL_len]; omega)
  clear h0 h1
  go_enter Try.func5, Try.ntmps5
  go_wp2_with fail
  refine (tawake_any w).mono ?_
  rintro e w1 ⟨rfl, hk1⟩
  have HK1 := Lib.hid hk1
  clear hk1
  go_wp2_with fail
  refine (under_law w1 97 a0 cap0 l0 (H0.out.kept0 HK1.out)).mono ?_
  rintro e w2 ⟨av, rfl, ha, hk2⟩
  have HA := Lib.hid (row_mono ha HK1.out.size)
  have HK2 := Lib.hid (HK1.out.trans hk2)
  clear ha hk2
  go_wp2_with fail
  refine (under_law w2 98 a1 cap1 l1 (H1.out.kept0 HK2.out)).mono ?_
  rintro e w3 ⟨bv, rfl, hb, hk3⟩
  have HB := Lib.hid (row_mono hb HK2.out.size)
  have HA3 := Lib.hid (ownKept HA.out hk3 (fun _ _ f => f))
  have HK3 := Lib.hid (HK2.out.trans hk3)
  clear hb hk3
  generalize undL 97 l0 = la at HSW HMA HLA HA HA3
  generalize undL 98 l1 = lb at HSW HMB HLB HB
  have HN1 := Lib.hid (tnew_any w3 (B := w3.heap.size) (Nat.le_refl _))
  go_wp2_with fail
  refine HN1.out.mono ?_
  rintro e w4 ⟨q, rfl, hT, hk4, hq⟩
  have HT := Lib.hid hT
  have HQ := Lib.hid hq
  have HK4 := Lib.hid hk4
  have HN2 := Lib.hid (tnew_any w4 (B := w3.heap.size) HK4.out.size)
  clear hT hk4 hq
  go_wp2_with fail
  refine HN2.out.mono ?_
  rintro e w5 ⟨r, rfl, hU, hk5, hr⟩
  have HBL : Hid (∀ (p : Value) (l : List (T1 × Int)), EntsAt w.heap.size w3 p l → EntsAt w.heap.size (w5.alloc (.cells (entC begL).toArray 40)) p l ∧ (∀ k, p.ownBlock = some k → ¬ TBs q k ∧ ¬ TBs r k)) := Lib.hid (fun p l hp =>
    ⟨ownKept (ownKept (ownKept hp HK4.out (fun _ _ f => f)) hk5 (fun _ _ f => f)) ((Kept.refl (fun _ => False) w5).alloc _) (fun _ _ f => f), fun k hk => by
      have hlt := (own_lo hp hk).2.1
      exact ⟨fun e => by have := HQ.out k e; omega, fun e => by have := hr k e; have := HK4.out.size; omega⟩⟩)
  have HS : Hid (NbS w w3.heap.size [(.slice (some ⟨w5.heap.size, 0, none⟩) 2 2, begL), (av, la), (bv, lb)] q r newM newM 1 (w5.alloc (.cells (entC begL).toArray 40))) := Lib.hid (by
    have hTl := HT.out.lt
    have hUl := hU.lt
    have hs3 := HK3.out.size
    have hs4 := HK4.out.size
    have hs5 := hk5.size
    refine ⟨(HT.out.kept0 hk5).kept0 ((Kept.refl _ w5).alloc _), hU.kept0 ((Kept.refl _ w5).alloc _), fun k h1 h2 => ?_, fun p hp => ?_, fun k hk => ?_, (((HK3.out.trans HK4.out).trans hk5).alloc _)⟩
    · have := hTl k h1; have := hr k h2; omega
    · simp only [List.mem_cons, List.not_mem_nil, or_false] at hp
      rcases hp with rfl | rfl | rfl
      · refine ⟨entsAt_new (l := begL) (by omega) (by decide), fun k hk => ?_⟩
        simp only [Value.ownBlock, Option.some.injEq] at hk
        subst hk
        exact ⟨fun e => by have := hTl _ e; omega, fun e => by have := hUl _ e; omega⟩
      · exact HBL.out av la HA3.out
      · exact HBL.out bv lb HB.out
    · rcases hk with h | h
      · have := HQ.out k h; omega
      · have := hr k h; omega)
  have HKF : Hid (w.heap.size ≤ w3.heap.size) := Lib.hid HK3.out.size
  obtain ⟨aa, capa, rfl, _⟩ := ent_cells HA3.out
  obtain ⟨ab, capb, rfl, _⟩ := ent_cells HB.out
  clear HBL HA HA3 HB HK1 HK2 HK3 HK4 HT HQ HN1 HN2 hU hk5 hr H0 H1
  obtain ⟨B3, HB3⟩ : ∃ B3, Hid (w3.heap.size = B3) := ⟨_, Lib.hid rfl⟩
  rw [HB3.out] at HS HKF
  clear HB3
  have HBG : Hid ((w5.alloc (.cells (entC begL).toArray 40)) = (w5.alloc (.cells (entC begL).toArray 40))) := Lib.hid rfl
  go_wp2_with fail
  go_loopw [11] (fun iv wr => NbL w B3 [(.slice (some ⟨w5.heap.size, 0, none⟩) 2 2, begL), (.slice aa la.length capa, la), (.slice ab lb.length capb, lb)] q r (fun k => runT newM (begL.take k)) (fun k => runT newM (begL.take k)) 1 4 2 iv wr) (fun iv _ => 2 - (intOf iv).toNat)
  case atStart => exact ⟨0, Nat.zero_le _, rfl, HS.out⟩
  case round =>
    obtain ⟨k, hk, rfl, hs⟩ := hrel.ex
    have HS := Lib.hid hs
    clear hs hrel
    have hLA := HLA.out
    have hLB := HLB.out
    by_cases hlt : k < 2
    · obtain ⟨a9, cap9, hv9, hc9⟩ := ent_cells (HS.out.rows (.slice (some ⟨w5.heap.size, 0, none⟩) 2 2, begL) (by simp)).1
      obtain ⟨g, e, ha9, hg, hke, hce⟩ := hc9 k hlt
      injection hv9 with hv1 hv2 hv3
      subst hv3
      subst hv1
      injection ha9 with ha9
      injection ha9 with ha9
      subst ha9
      have HM := Lib.hid (mild_at mild_beg hke)
      have HKE := Lib.hid hke
      have x0 := hce 0 _ rfl
      have x1 := hce 1 _ rfl
      have x2 := hce 2 _ rfl
      have x3 := hce 3 _ rfl
      have x4 := hce 4 _ rfl
      have x5 := hce 5 _ rfl
      have x6 := hce 6 _ rfl
      have x7 := hce 7 _ rfl
      have x8 := hce 8 _ rfl
      have x9 := hce 9 _ rfl
      have x10 := hce 10 _ rfl
      simp only [Nat.add_zero] at x0
      clear hce hke hv2 hc9
      go_wp2_with fail
      with_reducible refine (nb_left HS.out e HM.out (by omega)).mono ?_
      rintro ee wn0 ⟨vn0, rfl, hs⟩
      clear x0 x1 x2 x3 x4 x5 x6 x7 x8 x9 x10
      have HS := Lib.hid hs
      clear hs
      obtain ⟨a9, cap9, hv9, hc9⟩ := ent_cells (HS.out.rows (.slice (some ⟨w5.heap.size, 0, none⟩) 2 2, begL) (by simp)).1
      obtain ⟨g', e', ha9, hg', hke, hce⟩ := hc9 k hlt
      injection hv9 with hv1 hv2 hv3
      subst hv3
      rw [← hv1] at ha9
      injection ha9 with ha9
      injection ha9 with ha9
      subst ha9
      have hee : e = e' := by have := HKE.out; rw [this] at hke; injection hke
      subst hee
      have x0 := hce 0 _ rfl
      have x1 := hce 1 _ rfl
      have x2 := hce 2 _ rfl
      have x3 := hce 3 _ rfl
      have x4 := hce 4 _ rfl
      have x5 := hce 5 _ rfl
      have x6 := hce 6 _ rfl
      have x7 := hce 7 _ rfl
      have x8 := hce 8 _ rfl
      have x9 := hce 9 _ rfl
      have x10 := hce 10 _ rfl
      simp only [Nat.add_zero] at x0
      clear hce hke hv1 hv2 hc9
      go_wp2_with fail
      with_reducible refine (nb_right HS.out e HM.out (by omega)).mono ?_
      rintro ee wn1 ⟨vn1, rfl, hs⟩
      clear x0 x1 x2 x3 x4 x5 x6 x7 x8 x9 x10
      have HS := Lib.hid hs
      clear hs
      go_wp2_with fail
      go_roundw
      case rel =>
        refine ⟨k + 1, by omega, by go_num, ?_⟩
        have h9 := HS.out
        simp only [runT_take HKE.out, Nat.mul_add, Nat.mul_one, ← Nat.add_assoc] at h9 ⊢
        exact h9
      case measure => simp [intOf]; omega
    · have hkn : k = 2 := by omega
      have hs9 := HS.out
      rw [hkn] at hs9
      rw [show begL.take 2 = begL from rfl] at hs9
      have HS := Lib.hid hs9
      clear hs9 hkn
      go_wp2_with fail
      go_loopw [12] (fun iv wr => NbL w B3 [(.slice (some ⟨w5.heap.size, 0, none⟩) 2 2, begL), (.slice aa la.length capa, la), (.slice ab lb.length capb, lb)] q r (fun k => runT (runT newM begL) (la.take k)) (fun k => runT newM begL) 9 2 la.length iv wr) (fun iv _ => la.length - (intOf iv).toNat)
      case atStart => exact ⟨0, Nat.zero_le _, rfl, HS.out⟩
      case round =>
        obtain ⟨k, hk, rfl, hs⟩ := hrel.ex
        have HS := Lib.hid hs
        clear hs hrel
        have hLA := HLA.out
        have hLB := HLB.out
        by_cases hlt : k < la.length
        · obtain ⟨a9, cap9, hv9, hc9⟩ := ent_cells (HS.out.rows (.slice aa la.length capa, la) (by simp)).1
          obtain ⟨g, e, ha9, hg, hke, hce⟩ := hc9 k hlt
          injection hv9 with hv1 hv2 hv3
          subst hv3
          subst hv1
          subst ha9
          have HM := Lib.hid (mild_at HMA.out hke)
          have HKE := Lib.hid hke
          have x0 := hce 0 _ rfl
          have x1 := hce 1 _ rfl
          have x2 := hce 2 _ rfl
          have x3 := hce 3 _ rfl
          have x4 := hce 4 _ rfl
          have x5 := hce 5 _ rfl
          have x6 := hce 6 _ rfl
          have x7 := hce 7 _ rfl
          have x8 := hce 8 _ rfl
          have x9 := hce 9 _ rfl
          have x10 := hce 10 _ rfl
          simp only [Nat.add_zero] at x0
          clear hce hke hv2 hc9
          go_wp2_with fail
          with_reducible refine (nb_left HS.out e HM.out (by omega)).mono ?_
          rintro ee wn0 ⟨vn0, rfl, hs⟩
          clear x0 x1 x2 x3 x4 x5 x6 x7 x8 x9 x10
          have HS := Lib.hid hs
          clear hs
          go_wp2_with fail
          go_roundw
          case rel =>
            refine ⟨k + 1, by omega, by go_num, ?_⟩
            have h9 := HS.out
            simp only [runT_take HKE.out, Nat.mul_add, Nat.mul_one, ← Nat.add_assoc] at h9 ⊢
            exact h9
          case measure => simp [intOf]; omega
        · have hkn : k = la.length := by omega
          have hs9 := HS.out
          rw [hkn] at hs9
          rw [show la.take la.length = la from List.take_length] at hs9
          have HS := Lib.hid hs9
          clear hs9 hkn
          go_wp2_with fail
          go_loopw [13] (fun iv wr => NbL w B3 [(.slice (some ⟨w5.heap.size, 0, none⟩) 2 2, begL), (.slice aa la.length capa, la), (.slice ab lb.length capb, lb)] q r (fun k => runT (runT (runT newM begL) la) (lb.take k)) (fun k => runT (runT newM begL) (lb.take k)) (9 + 2 * la.length) 4 lb.length iv wr) (fun iv _ => lb.length - (intOf iv).toNat)
          case atStart => exact ⟨0, Nat.zero_le _, rfl, HS.out⟩
          case round =>
            obtain ⟨k, hk, rfl, hs⟩ := hrel.ex
            have HS := Lib.hid hs
            clear hs hrel
            have hLA := HLA.out
            have hLB := HLB.out
            by_cases hlt : k < lb.length
            · obtain ⟨a9, cap9, hv9, hc9⟩ := ent_cells (HS.out.rows (.slice ab lb.length capb, lb) (by simp)).1
              obtain ⟨g, e, ha9, hg, hke, hce⟩ := hc9 k hlt
              injection hv9 with hv1 hv2 hv3
              subst hv3
              subst hv1
              subst ha9
              have HM := Lib.hid (mild_at HMB.out hke)
              have HKE := Lib.hid hke
              have x0 := hce 0 _ rfl
              have x1 := hce 1 _ rfl
              have x2 := hce 2 _ rfl
              have x3 := hce 3 _ rfl
              have x4 := hce 4 _ rfl
              have x5 := hce 5 _ rfl
              have x6 := hce 6 _ rfl
              have x7 := hce 7 _ rfl
              have x8 := hce 8 _ rfl
              have x9 := hce 9 _ rfl
              have x10 := hce 10 _ rfl
              simp only [Nat.add_zero] at x0
              clear hce hke hv2 hc9
              go_wp2_with fail
              with_reducible refine (nb_left HS.out e HM.out (by omega)).mono ?_
              rintro ee wn0 ⟨vn0, rfl, hs⟩
              clear x0 x1 x2 x3 x4 x5 x6 x7 x8 x9 x10
              have HS := Lib.hid hs
              clear hs
              obtain ⟨a9, cap9, hv9, hc9⟩ := ent_cells (HS.out.rows (.slice (some ⟨g, 0, none⟩) lb.length capb, lb) (by simp)).1
              obtain ⟨g', e', ha9, hg', hke, hce⟩ := hc9 k hlt
              injection hv9 with hv1 hv2 hv3
              subst hv3
              rw [← hv1] at ha9
              injection ha9 with ha9
              injection ha9 with ha9
              subst ha9
              have hee : e = e' := by have := HKE.out; rw [this] at hke; injection hke
              subst hee
              have x0 := hce 0 _ rfl
              have x1 := hce 1 _ rfl
              have x2 := hce 2 _ rfl
              have x3 := hce 3 _ rfl
              have x4 := hce 4 _ rfl
              have x5 := hce 5 _ rfl
              have x6 := hce 6 _ rfl
              have x7 := hce 7 _ rfl
              have x8 := hce 8 _ rfl
              have x9 := hce 9 _ rfl
              have x10 := hce 10 _ rfl
              simp only [Nat.add_zero] at x0
              clear hce hke hv1 hv2 hc9
              go_wp2_with fail
              with_reducible refine (nb_right HS.out e HM.out (by omega)).mono ?_
              rintro ee wn1 ⟨vn1, rfl, hs⟩
              clear x0 x1 x2 x3 x4 x5 x6 x7 x8 x9 x10
              have HS := Lib.hid hs
              clear hs
              go_wp2_with fail
              go_roundw
              case rel =>
                refine ⟨k + 1, by omega, by go_num, ?_⟩
                have h9 := HS.out
                simp only [runT_take HKE.out, Nat.mul_add, Nat.mul_one, ← Nat.add_assoc] at h9 ⊢
                exact h9
              case measure => simp [intOf]; omega
            · have hkn : k = lb.length := by omega
              have hs9 := HS.out
              rw [hkn] at hs9
              rw [show lb.take lb.length = lb from List.take_length] at hs9
              have HS := Lib.hid hs9
              clear hs9 hkn
              go_wp2_with fail
              go_loopw [14] (fun iv wr => NbL w B3 [(.slice (some ⟨w5.heap.size, 0, none⟩) 2 2, begL), (.slice aa la.length capa, la), (.slice ab lb.length capb, lb)] q r (fun k => runT (runT (runT newM begL) la) lb) (fun k => runT (runT (runT newM begL) lb) (la.take k)) (9 + 2 * la.length + 4 * lb.length) 2 la.length iv wr) (fun iv _ => la.length - (intOf iv).toNat)
              case atStart => exact ⟨0, Nat.zero_le _, rfl, HS.out⟩
              case round =>
                obtain ⟨k, hk, rfl, hs⟩ := hrel.ex
                have HS := Lib.hid hs
                clear hs hrel
                have hLA := HLA.out
                have hLB := HLB.out
                by_cases hlt : k < la.length
                · obtain ⟨a9, cap9, hv9, hc9⟩ := ent_cells (HS.out.rows (.slice aa la.length capa, la) (by simp)).1
                  obtain ⟨g, e, ha9, hg, hke, hce⟩ := hc9 k hlt
                  injection hv9 with hv1 hv2 hv3
                  subst hv3
                  subst hv1
                  subst ha9
                  have HM := Lib.hid (mild_at HMA.out hke)
                  have HKE := Lib.hid hke
                  have x0 := hce 0 _ rfl
                  have x1 := hce 1 _ rfl
                  have x2 := hce 2 _ rfl
                  have x3 := hce 3 _ rfl
                  have x4 := hce 4 _ rfl
                  have x5 := hce 5 _ rfl
                  have x6 := hce 6 _ rfl
                  have x7 := hce 7 _ rfl
                  have x8 := hce 8 _ rfl
                  have x9 := hce 9 _ rfl
                  have x10 := hce 10 _ rfl
                  simp only [Nat.add_zero] at x0
                  clear hce hke hv2 hc9
                  go_wp2_with fail
                  with_reducible refine (nb_right HS.out e HM.out (by omega)).mono ?_
                  rintro ee wn0 ⟨vn0, rfl, hs⟩
                  clear x0 x1 x2 x3 x4 x5 x6 x7 x8 x9 x10
                  have HS := Lib.hid hs
                  clear hs
                  go_wp2_with fail
                  go_roundw
                  case rel =>
                    refine ⟨k + 1, by omega, by go_num, ?_⟩
                    have h9 := HS.out
                    simp only [runT_take HKE.out, Nat.mul_add, Nat.mul_one, ← Nat.add_assoc] at h9 ⊢
                    exact h9
                  case measure => simp [intOf]; omega
                · have hkn : k = la.length := by omega
                  have hs9 := HS.out
                  rw [hkn] at hs9
                  rw [show la.take la.length = la from List.take_length] at hs9
                  have HS := Lib.hid hs9
                  clear hs9 hkn
                  go_wp2_with fail
                  refine (layZxid_any HS.out.t 9).mono ?_
                  rintro ee wy ⟨rfl, ht, hk9⟩
                  have HS := Lib.hid (HS.out.left ht (Nat.le_refl _) hk9)
                  clear ht hk9
                  go_wp2_with fail
                  refine (layZxid_any HS.out.u 9).mono ?_
                  rintro ee wz ⟨rfl, ht, hk9⟩
                  have HS := Lib.hid (HS.out.right ht (Nat.le_refl _) hk9)
                  clear ht hk9
                  go_wp2_with fail
                  refine (same_true HS.out.t HS.out.u (by have := HLA.out; have := HLB.out; omega) (by have := HLA.out; have := HLB.out; omega) rfl HSW.out.2 HSW.out.1).mono ?_
                  rintro ee wu ⟨rfl, hk9⟩
                  have HK9 := Lib.hid (HS.out.kept.trans hk9)
                  clear hk9
                  go_wp2_with fail
                  go_ret
                  exact ⟨rfl, HK9.out⟩
theorem nb_law (w : World) (a0 : Option Addr) (cap0 : Nat) (l0 : List ActD) (a1 : Option Addr) (cap1 : Nat) (l1 : List ActD) (h0 : ActsD w a0 l0) (h1 : ActsD w a1 l1) :
    Calls Try.prog 5 #[.slice a0 l0.length cap0, .slice a1 l1.length cap1] w (QPost true w) := by
  have h := nb_walk w a0 a1 cap0 cap1 _ _ h0.ops h1.ops
  rw [List.length_map, List.length_map] at h
  exact h
end Go.Proofs.Ytccoeccibokecaa
