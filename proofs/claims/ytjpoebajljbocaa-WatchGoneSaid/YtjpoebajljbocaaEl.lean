/- WatchGone, walked. -/
import Derived.Test.YtjpoebajljbocaaEk
import Derived.StillTailTactics
import Derived.Deep.RegionWith
import Derived.Deep.CutBlock
namespace Go.Proofs.Ytjpoebajljbocaa
open Go.ChangeShapes Go.WideShapes Go.ChangeAt Go.RowKit Go.Maps
set_option linter.unusedVariables false
set_option linter.unusedSimpArgs false
theorem del_add3 {L : WL} (h : WlOk L) (o : ByteArray → Int) (i k : Int) (p : ByteArray) (hi : i ≤ 9223372036854775807) (hp : p.size ≤ 140737488355328) : delW (addW o L i k p) i = delW L i :=
  wl_ext2 ((h.add hi hp).del i) (h.del i) fun j => by
    rw [listW_del, listW_del]
    by_cases e : j = i
    · rw [if_pos e, if_pos e]
    · rw [if_neg e, if_neg e]
      unfold addW
      split
      · rfl
      · split
        · rfl
        · split
          · rfl
          · rw [listW_set h.up, if_neg (fun e' => e e'.symm)]
theorem del_add_other {L : WL} (h : WlOk L) (o : ByteArray → Int) {s i k : Int} {p : ByteArray} (hi : i ≤ 9223372036854775807) (hp : p.size ≤ 140737488355328) (hne : i ≠ s) : delW (addW o L i k p) s = addW o (delW L s) i k p := by
  have hl : listW (delW L s) i = listW L i := by rw [listW_del, if_neg hne]
  refine wl_ext2 ((h.add hi hp).del s) ((h.del s).add hi hp) fun j => ?_
  unfold addW countW
  rw [hl]
  by_cases c1 : (i < 1 ∨ k < 1 ∨ 3 < k ∨ o p ≠ 0)
  · rw [if_pos c1, if_pos c1]
  · rw [if_neg c1, if_neg c1]
    by_cases c2 : (k, p) ∈ listW L i
    · rw [if_pos c2, if_pos c2]
    · rw [if_neg c2, if_neg c2]
      by_cases c3 : 64 ≤ (listW L i).length
      · rw [if_pos c3, if_pos c3]
      · rw [if_neg c3, if_neg c3, listW_del, listW_set h.up, listW_set (h.del s).up, listW_del]
        by_cases e : j = s
        · rw [if_pos e, if_pos e, if_neg (fun e' => hne (e'.trans e))]
        · rw [if_neg e, if_neg e]
structure G1Rel (w : World) (ta tb len : Nat) (iv : Value) (wr : World) : Prop where
  ex : ∃ (i n : Nat) (La : WL), iv = .int .i64 i ∧ i ≤ 60 ∧ i ≤ len ∧ TwoW w wr ta tb n La [] ∧ totW La ≤ i ∧ delW La 3 = []
structure G2Rel (w : World) (ta tb len : Nat) (iv : Value) (wr : World) : Prop where
  ex : ∃ (i n : Nat) (La Lb : WL), iv = .int .i64 i ∧ i ≤ 60 ∧ i ≤ len ∧ TwoW w wr ta tb n La Lb ∧ totW La ≤ 60 + i ∧ totW Lb ≤ i ∧ delW La 3 = Lb
structure G3Rel (w : World) (ta tb len : Nat) (iv : Value) (wr : World) : Prop where
  ex : ∃ (i n : Nat) (L : WL), iv = .int .i64 i ∧ i ≤ len ∧ TwoW w wr ta tb n L L ∧ totW L ≤ 120 ∧ listW L 3 = []
set_option maxRecDepth 100000 in
set_option maxHeartbeats 4000000 in
theorem gone_walk (w : World) (a0 : Option Addr) (cap0 : Nat) (l0 : List Am) (a1 : Option Addr) (cap1 : Nat) (l1 : List Am) (a2 : Option Addr) (cap2 : Nat) (l2 : List Ev) (h0 : ArmR w a0 l0) (h1 : ArmR w a1 l1) (h2 : EvR w a2 l2) :
    Calls Try.prog 10 #[.slice a0 l0.length cap0, .slice a1 l1.length cap1, .slice a2 l2.length cap2] w fun e w' => e = .returned (.bool true) ∧ Kept (fun _ => False) w w' := by
  have H0 := Lib.hid h0
  have H1 := Lib.hid h1
  have H2 := Lib.hid h2
  have hr0 := h0.room
  have hr1 := h1.room
  have hr2 := h2.room
  have HAW := Lib.hid (wawake_any w)
  clear h0 h1 h2
  go_enter Try.func10, Try.ntmps10
  go_wp2_with fail
  refine HAW.out.mono ?_
  rintro e w0 ⟨rfl, hk0⟩
  have HK0 := Lib.hid hk0
  clear hk0
  go_wp2_with fail
  refine (wnew_any _).mono ?_
  rintro e w1 ⟨q1, rfl, hq1, hb1, hk1⟩
  have HQ1 := Lib.hid hq1
  have HB1 := Lib.hid hb1
  have HK1 := Lib.hid hk1
  clear hq1 hb1 hk1
  go_wp2_with fail
  refine (wnew_any _).mono ?_
  rintro e w2 ⟨q2, rfl, hq2, hb2, hk2⟩
  have HT := Lib.hid (two_new HK0.out HQ1.out HB1.out HK1.out hq2 hb2 hk2)
  clear hq2 hb2 hk2 HQ1 HB1 HK1
  obtain ⟨ta, hta⟩ : ∃ t, q1.t = t := ⟨_, rfl⟩
  obtain ⟨tb, htb⟩ : ∃ t, q2.t = t := ⟨_, rfl⟩
  rw [hta, htb] at HT
  rw [hta, htb]
  clear hta htb
  go_upto_block 0 with fail
  go_cut [10] from 28 to 49 (fun v wx => ∃ n La, TwoW w wx ta tb n La [] ∧ totW La ≤ 60 ∧ delW La 3 = [])
  case first =>
    go_wp2_with fail
    go_loopw [10] (fun iv wr => G1Rel w ta tb l0.length iv wr) (fun iv _ => l0.length - (Go.RowKit.intOf iv).toNat)
    case atStart => exact ⟨0, _, [], rfl, by omega, Nat.zero_le _, HT.out, by simp [totW], rfl⟩
    case round =>
      obtain ⟨i, n, La, rfl, hi60, hil, htw, htot, hdel⟩ := hrel.ex
      clear hrel
      have HTW := Lib.hid htw
      have HTOT := Lib.hid htot
      have HDEL := Lib.hid hdel
      clear htw htot hdel
      have HEND : Hid (∃ n La, TwoW w wr ta tb n La [] ∧ totW La ≤ 60 ∧ delW La 3 = []) := Lib.hid ⟨n, La, HTW.out, by have := HTOT.out; omega, HDEL.out⟩
      by_cases g1 : i < l0.length
      · by_cases g2 : i < 60
        · obtain ⟨g, off, rfl, hg, c0, c1, _⟩ := (H0.out.kept HTW.out.kept (fun _ _ _ _ f => f)).at_ i g1
          obtain ⟨x, hx⟩ : ∃ x, l0[i] = x := ⟨_, rfl⟩
          rw [hx] at c0 c1
          have hxs : x.p.size ≤ 140737488355328 := by rw [← hx]; exact H0.out.small _ (List.getElem_mem g1)
          have HXS := Lib.hid hxs
          have HAD := Lib.hid ((HTW.out.kept0 ((Kept.refl (fun _ => False) wr).drew)).add 3 x.k x.p (by unfold I64; omega) hxs (by have := HTOT.out; omega))
          clear hx hxs HEND
          go_wp2_with fail
          go_still_tail 11, (by kernel_rfl)
          go_wp2_with fail
          refine HAD.out.mono ?_
          rintro e w4 ⟨rfl, h4⟩
          have HT4 := Lib.hid h4
          clear h4
          go_wp2_with fail
          go_roundw
          case rel => exact ⟨i + 1, _, _, by go_num, by omega, by omega, HT4.out, Nat.le_trans (tot_add HTW.out.okA _ _ _ _) (by have := HTOT.out; omega), by rw [del_add3 HTW.out.okA _ _ _ _ (by omega) HXS.out]; exact HDEL.out⟩
          case measure => simp [Go.RowKit.intOf]; omega
        · go_wp2_with fail
          go_meet
          exact HEND.out
      · go_wp2_with fail
        go_meet
        exact HEND.out
  case rest =>
  obtain ⟨n1, L1, htw1, htot1, hdel1⟩ := hcut
  obtain ⟨w3, hw3⟩ : ∃ w3, w3 = wc := ⟨_, rfl⟩
  subst hw3
  have HT1 := Lib.hid htw1
  have HTO1 := Lib.hid htot1
  have HDE1 := Lib.hid hdel1
  clear htw1 htot1 hdel1 HT
  go_upto_block 2 with fail
  go_cut [11] from 50 to 91 (fun v wx => ∃ n La Lb, TwoW w wx ta tb n La Lb ∧ totW La ≤ 120 ∧ delW La 3 = Lb)
  case first =>
    go_wp2_with fail
    go_loopw [11] (fun iv wr => G2Rel w ta tb l1.length iv wr) (fun iv _ => l1.length - (Go.RowKit.intOf iv).toNat)
    case atStart => exact ⟨0, _, _, _, rfl, by omega, Nat.zero_le _, HT1.out, by have := HTO1.out; omega, by simp [totW], HDE1.out⟩
    case round =>
      obtain ⟨i, n, La, Lb, rfl, hi60, hil, htw, htot, htotb, hdel⟩ := hrel.ex
      clear hrel
      have HTW := Lib.hid htw
      have HTOT := Lib.hid htot
      have HTOTB := Lib.hid htotb
      have HDEL := Lib.hid hdel
      clear htw htot hdel htotb
      have HEND : Hid (∃ n La Lb, TwoW w wr ta tb n La Lb ∧ totW La ≤ 120 ∧ delW La 3 = Lb) := Lib.hid ⟨n, La, Lb, HTW.out, by have := HTOT.out; omega, HDEL.out⟩
      by_cases g1 : i < l1.length
      · by_cases g2 : i < 60
        · have hat := (H1.out.kept HTW.out.kept (fun _ _ _ _ f => f)).at_ i g1
          obtain ⟨g, off, rfl, hg, c0, c1, _⟩ := hat
          obtain ⟨x, hx⟩ : ∃ x, l1[i] = x := ⟨_, rfl⟩
          rw [hx] at c0 c1
          have hxs : x.p.size ≤ 140737488355328 := by rw [← hx]; exact H1.out.small _ (List.getElem_mem g1)
          have HXS := Lib.hid hxs
          have HX := Lib.hid hx
          clear hx hxs HEND
          have h3 : (i : Int).tmod 3 = 0 ∨ (i : Int).tmod 3 = 1 ∨ (i : Int).tmod 3 = 2 := by
            have h9 : (i : Int).tmod 3 = ((i % 3 : Nat) : Int) := rfl
            omega
          rcases h3 with h3 | h3 | h3
          · have HAD := Lib.hid ((HTW.out.kept0 ((Kept.refl (fun _ => False) wr).drew)).add 1 x.k x.p (by unfold I64; omega) HXS.out (by have := HTOT.out; omega))
            go_wp2_with fail
            go_still_tail 15, (by kernel_rfl)
            go_wp2_with fail
            refine HAD.out.mono ?_
            rintro e w4 ⟨rfl, h4⟩
            have HT4 := Lib.hid h4
            clear h4
            obtain ⟨g', off', e', hg', c0', c1', _⟩ := (H1.out.kept HT4.out.kept (fun _ _ _ _ f => f)).at_ i g1
            injection e' with e'
            injection e' with e1 e2
            subst e1 e2
            rw [HX.out] at c0' c1'
            have HAB := Lib.hid ((HT4.out.swap.kept0 ((Kept.refl (fun _ => False) w4).drew)).add 1 x.k x.p (by unfold I64; omega) HXS.out (by have := HTOTB.out; omega))
            go_wp2_with fail
            go_still_tail 15, (by kernel_rfl)
            go_wp2_with fail
            refine HAB.out.mono ?_
            rintro e w5 ⟨rfl, h5⟩
            have HT5 := Lib.hid h5.swap
            clear h5
            go_wp2_with fail
            go_roundw
            case rel => exact ⟨i + 1, _, _, _, by go_num, by omega, by omega, HT5.out, Nat.le_trans (tot_add HTW.out.okA _ _ _ _) (by have := HTOT.out; omega), Nat.le_trans (tot_add HTW.out.okB _ _ _ _) (by have := HTOTB.out; omega), by rw [del_add_other HTW.out.okA _ (by omega) HXS.out (by omega), HDEL.out]⟩
            case measure => simp [Go.RowKit.intOf]; omega
          · have HAD := Lib.hid ((HTW.out.kept0 ((Kept.refl (fun _ => False) wr).drew)).add 4 x.k x.p (by unfold I64; omega) HXS.out (by have := HTOT.out; omega))
            go_wp2_with fail
            go_still_tail 15, (by kernel_rfl)
            go_wp2_with fail
            refine HAD.out.mono ?_
            rintro e w4 ⟨rfl, h4⟩
            have HT4 := Lib.hid h4
            clear h4
            obtain ⟨g', off', e', hg', c0', c1', _⟩ := (H1.out.kept HT4.out.kept (fun _ _ _ _ f => f)).at_ i g1
            injection e' with e'
            injection e' with e1 e2
            subst e1 e2
            rw [HX.out] at c0' c1'
            have HAB := Lib.hid ((HT4.out.swap.kept0 ((Kept.refl (fun _ => False) w4).drew)).add 4 x.k x.p (by unfold I64; omega) HXS.out (by have := HTOTB.out; omega))
            go_wp2_with fail
            go_still_tail 15, (by kernel_rfl)
            go_wp2_with fail
            refine HAB.out.mono ?_
            rintro e w5 ⟨rfl, h5⟩
            have HT5 := Lib.hid h5.swap
            clear h5
            go_wp2_with fail
            go_roundw
            case rel => exact ⟨i + 1, _, _, _, by go_num, by omega, by omega, HT5.out, Nat.le_trans (tot_add HTW.out.okA _ _ _ _) (by have := HTOT.out; omega), Nat.le_trans (tot_add HTW.out.okB _ _ _ _) (by have := HTOTB.out; omega), by rw [del_add_other HTW.out.okA _ (by omega) HXS.out (by omega), HDEL.out]⟩
            case measure => simp [Go.RowKit.intOf]; omega
          · have HAD := Lib.hid ((HTW.out.kept0 ((Kept.refl (fun _ => False) wr).drew)).add 7 x.k x.p (by unfold I64; omega) HXS.out (by have := HTOT.out; omega))
            go_wp2_with fail
            go_still_tail 15, (by kernel_rfl)
            go_wp2_with fail
            refine HAD.out.mono ?_
            rintro e w4 ⟨rfl, h4⟩
            have HT4 := Lib.hid h4
            clear h4
            obtain ⟨g', off', e', hg', c0', c1', _⟩ := (H1.out.kept HT4.out.kept (fun _ _ _ _ f => f)).at_ i g1
            injection e' with e'
            injection e' with e1 e2
            subst e1 e2
            rw [HX.out] at c0' c1'
            have HAB := Lib.hid ((HT4.out.swap.kept0 ((Kept.refl (fun _ => False) w4).drew)).add 7 x.k x.p (by unfold I64; omega) HXS.out (by have := HTOTB.out; omega))
            go_wp2_with fail
            go_still_tail 15, (by kernel_rfl)
            go_wp2_with fail
            refine HAB.out.mono ?_
            rintro e w5 ⟨rfl, h5⟩
            have HT5 := Lib.hid h5.swap
            clear h5
            go_wp2_with fail
            go_roundw
            case rel => exact ⟨i + 1, _, _, _, by go_num, by omega, by omega, HT5.out, Nat.le_trans (tot_add HTW.out.okA _ _ _ _) (by have := HTOT.out; omega), Nat.le_trans (tot_add HTW.out.okB _ _ _ _) (by have := HTOTB.out; omega), by rw [del_add_other HTW.out.okA _ (by omega) HXS.out (by omega), HDEL.out]⟩
            case measure => simp [Go.RowKit.intOf]; omega
        · go_wp2_with fail
          go_meet
          exact HEND.out
      · go_wp2_with fail
        go_meet
        exact HEND.out
  case rest =>
  obtain ⟨n2, L2, M2, htw2, htot2, hdel2⟩ := hcut
  obtain ⟨w4, hw4⟩ : ∃ w4, w4 = wc := ⟨_, rfl⟩
  subst hw4
  have HT2 := Lib.hid htw2
  have HTO2 := Lib.hid htot2
  have HDE2 := Lib.hid hdel2
  clear htw2 htot2 hdel2 HT1 HTO1 HDE1
  go_wp2_with fail
  refine (HT2.out.drop 3 (by unfold I64; omega)).mono ?_
  rintro e w5 ⟨rfl, h5⟩
  rw [HDE2.out] at h5
  have HT5 := Lib.hid h5
  clear h5
  obtain ⟨hl3, htM⟩ : listW M2 3 = [] ∧ totW M2 ≤ 120 := by
    rw [← HDE2.out]
    exact ⟨by rw [listW_del, if_pos rfl], Nat.le_trans (tot_del _ _) HTO2.out⟩
  have HL3 := Lib.hid hl3
  have HTM := Lib.hid htM
  clear hl3 htM HT2 HTO2 HDE2
  go_wp2_with fail
  refine (HT5.out.count 3 (by unfold I64; omega)).mono ?_
  rintro e w6 ⟨rfl, rfl⟩
  rw [show countW M2 3 = 0 by unfold countW; rw [HL3.out]; rfl]
  go_wp2_with fail
  go_loopw [12] (fun iv wr => G3Rel w ta tb l2.length iv wr) (fun iv _ => l2.length - (Go.RowKit.intOf iv).toNat)
  case atStart => exact ⟨0, _, _, rfl, Nat.zero_le _, HT5.out, HTM.out, HL3.out⟩
  case round =>
    obtain ⟨i, n, M, rfl, hil, htw, htot, hl3⟩ := hrel.ex
    clear hrel
    have HTW := Lib.hid htw
    have HTOT := Lib.hid htot
    have HL := Lib.hid hl3
    clear htw htot hl3
    by_cases g1 : i < l2.length
    · obtain ⟨g, off, rfl, hg, c0, c1, c2⟩ := (H2.out.kept HTW.out.kept (fun _ _ _ _ f => f)).at_ i g1
      obtain ⟨x, hx⟩ : ∃ x, l2[i] = x := ⟨_, rfl⟩
      rw [hx] at c0 c1 c2
      have hxs : x.path.size ≤ 140737488355328 := by rw [← hx]; exact H2.out.small _ (List.getElem_mem g1)
      have HXS := Lib.hid hxs
      have HX := Lib.hid hx
      obtain ⟨T, hTe⟩ : ∃ T : List To, (toldL x.kind x.path M).map (fun s => (s, x)) = T := ⟨_, rfl⟩
      have htl : T.length ≤ 120 := by
        rw [← hTe, List.length_map]
        have := tot_fire x.kind x.path M
        have := HTOT.out
        omega
      have HTE := Lib.hid hTe
      have HFA := Lib.hid (HTW.out.fire x hxs (by have := HTOT.out; omega))
      clear hx hxs hTe
      go_wp2_with fail
      refine HFA.out.mono ?_
      rintro e w7 ⟨v7, rfl, hv7, ht7, hk7⟩
      rw [HTE.out] at hv7
      obtain ⟨a7, c7, rfl⟩ := own_shape hv7
      have HV7 := Lib.hid hv7
      have HT7 := Lib.hid ht7
      clear hv7 ht7 hk7
      obtain ⟨g', off', e', hg', c0', c1', c2'⟩ := (H2.out.kept HT7.out.kept (fun _ _ _ _ f => f)).at_ i g1
      injection e' with e'
      injection e' with e1 e2
      subst e1 e2
      rw [HX.out] at c0' c1' c2'
      have HFB := Lib.hid (HT7.out.swap.fire x HXS.out (by have := HTOT.out; omega))
      go_wp2_with fail
      refine HFB.out.mono ?_
      rintro e w8 ⟨v8, rfl, hv8, ht8, hk8⟩
      rw [HTE.out] at hv8
      obtain ⟨a8, c8, rfl⟩ := own_shape hv8
      have HT8 := Lib.hid ht8.swap
      have HTD := Lib.hid (told_any (ownKept HV7.out hk8 (fun j hj e => by have := (own_lo HV7.out hj).1; have e : j < n := e; omega)) hv8 (by omega))
      clear hv8 ht8 hk8
      go_wp2_with fail
      refine HTD.out.mono ?_
      rintro e w9 ⟨bb, rfl, hbb, nn, rfl⟩
      obtain rfl : bb = true := hbb.2 (by first | trivial | rfl)
      have HT9 := Lib.hid (HT8.out.kept0 ((Kept.refl (fun _ => False) w8).drewN nn))
      generalize World.drewN _ nn = w9 at HT9 ⊢
      go_wp2_with fail
      go_roundw
      case rel => exact ⟨i + 1, n, fireL x.kind x.path M, by go_num, by omega, HT9.out, Nat.le_trans (tot_fire_le _ _ _) HTOT.out, by rw [listW_fire HTW.out.okA, HL.out]; rfl⟩
      case measure => simp [Go.RowKit.intOf]; omega
    · have hok := HTW.out.okA
      have hn : ¬ ((3 : Int) < 1 ∨ (1 : Int) < 1 ∨ (3 : Int) < 1 ∨ checkS pA ≠ 0) := by
        rw [chk_ab.1]; decide
      have hmem : ((1 : Int), pA) ∉ listW M 3 := by rw [HL.out]; simp
      have hcn : ¬ 64 ≤ countW M 3 := by unfold countW; rw [HL.out]; simp
      have HE := Lib.hid (addE_new (o := checkS) (L := M) (i := 3) (k := 1) (p := pA) hn hmem hcn)
      have HC1 : Hid (countW (setW M 3 (listW M 3 ++ [(1, pA)])) 3 = 1) := Lib.hid (by unfold countW; rw [listW_set hok.up, if_pos rfl, HL.out]; rfl)
      have HAD := Lib.hid (HTW.out.add 3 1 pA (by unfold I64; omega) (by decide) (by have := HTOT.out; omega))
      unfold pA at HAD
      clear hn hmem hcn hok
      go_wp2_with fail
      refine HAD.out.mono ?_
      rintro e w7 ⟨rfl, h7⟩
      have e1 : addE checkS M 3 1 ⟨#[47, 97]⟩ = 0 := HE.out.1
      have e2 : addW checkS M 3 1 ⟨#[47, 97]⟩ = setW M 3 (listW M 3 ++ [(1, pA)]) := HE.out.2
      rw [e1]
      rw [e2] at h7
      have HT7 := Lib.hid h7
      have HCN := Lib.hid (h7.count 3 (by unfold I64; omega))
      rw [HC1.out] at HCN
      clear h7 e1 e2
      go_wp2_with fail
      refine HCN.out.mono ?_
      rintro e w8 ⟨rfl, rfl⟩
      go_wp2_with fail
      go_ret
      exact ⟨rfl, HT7.out.kept⟩
end Go.Proofs.Ytjpoebajljbocaa
