/- WatchApart, walked. -/
import Derived.Test.YtjpoebajljbocaaEk
import Derived.StillTailTactics
import Derived.Deep.RegionWith
import Derived.Deep.RegionHeld3
import Derived.Deep.CutBlock
namespace Go.Proofs.Ytjpoebajljbocaa
open Go.ChangeShapes Go.WideShapes Go.ChangeAt Go.RowKit Go.Maps
set_option linter.unusedVariables false
set_option linter.unusedSimpArgs false
def Only5 (L : WL) : Prop := ∀ j, j ≠ 5 → listW L j = []
theorem listW_add {L : WL} (h : WlOk L) (o : ByteArray → Int) (i k : Int) (p : ByteArray) (j : Int) (hj : j ≠ i) : listW (addW o L i k p) j = listW L j := by
  unfold addW
  split
  · rfl
  · split
    · rfl
    · split
      · rfl
      · rw [listW_set h.up, if_neg (fun e => hj e.symm)]
theorem listW_add_same {L M : WL} (h : WlOk L) (g : WlOk M) (o : ByteArray → Int) (i k : Int) (p : ByteArray) (he : listW L i = listW M i) : listW (addW o L i k p) i = listW (addW o M i k p) i := by
  unfold addW countW
  rw [he]
  by_cases c1 : (i < 1 ∨ k < 1 ∨ 3 < k ∨ o p ≠ 0)
  · rw [if_pos c1, if_pos c1]; exact he
  · rw [if_neg c1, if_neg c1]
    by_cases c2 : (k, p) ∈ listW M i
    · rw [if_pos c2, if_pos c2]; exact he
    · rw [if_neg c2, if_neg c2]
      by_cases c3 : 64 ≤ (listW M i).length
      · rw [if_pos c3, if_pos c3]; exact he
      · rw [if_neg c3, if_neg c3, listW_set h.up, listW_set g.up, if_pos rfl, if_pos rfl]
theorem Only5.add {L : WL} (hL : WlOk L) (h : Only5 L) (o : ByteArray → Int) (k : Int) (p : ByteArray) : Only5 (addW o L 5 k p) := fun j hj => by
  rw [listW_add hL o 5 k p j hj]; exact h j hj
theorem Only5.fire {L : WL} (hL : WlOk L) (h : Only5 L) (k : Int) (p : ByteArray) : Only5 (fireL k p L) := fun j hj => by
  rw [listW_fire hL, h j hj]; rfl
/-- what a table of session 5 alone tells -/
theorem told_only {L : WL} (hL : WlOk L) (h : Only5 L) (k : Int) (p : ByteArray) : toldL k p L = if (listW L 5).any (hitB (kindsOf k) p) = true then [5] else [] := by
  have hr := told_rising (k := k) (p := p) hL
  have hm := fun i => mem_told (k := k) (p := p) hL (i := i)
  have h5 : ∀ i ∈ toldL k p L, i = 5 := fun i hi => by
    have := (hm i).1 hi
    by_cases e : i = 5
    · exact e
    · rw [h i e] at this; simp at this
  generalize toldL k p L = l at *
  cases l with
  | nil =>
    rw [if_neg (fun e => by have := (hm 5).2 e; simp at this)]
  | cons a r =>
    have ha := h5 a (List.mem_cons_self ..)
    subst ha
    rw [if_pos ((hm 5).1 (List.mem_cons_self ..))]
    cases r with
    | nil => rfl
    | cons b t =>
      have hb := h5 b (by simp)
      subst hb
      have := (List.pairwise_cons.1 hr).1 5 (by simp)
      omega
structure A1Rel (w : World) (ta tb len : Nat) (iv : Value) (wr : World) : Prop where
  ex : ∃ (i n : Nat) (L : WL), iv = .int .i64 i ∧ i ≤ 60 ∧ i ≤ len ∧ TwoW w wr ta tb n L L ∧ totW L ≤ i ∧ Only5 L
structure A2Rel (w : World) (ta tb len : Nat) (iv : Value) (wr : World) : Prop where
  ex : ∃ (i n : Nat) (La Lb : WL), iv = .int .i64 i ∧ i ≤ 60 ∧ i ≤ len ∧ TwoW w wr ta tb n La Lb ∧ totW La ≤ 60 + i ∧ totW Lb ≤ 60 + i ∧ Only5 La ∧ listW La 5 = listW Lb 5
structure A3Rel (w : World) (ta tb len : Nat) (iv : Value) (wr : World) : Prop where
  ex : ∃ (i n : Nat) (La Lb : WL), iv = .int .i64 i ∧ i ≤ len ∧ TwoW w wr ta tb n La Lb ∧ totW La ≤ 120 ∧ totW Lb ≤ 120 ∧ Only5 La ∧ listW La 5 = listW Lb 5
/-- what the last loop has seen -/
def lastOf (l : List Int) (k : Nat) : Int := if k = 0 then 0 else l.getD (k - 1) 0
structure A4Rel (w8 : World) (y : List Int) (tv lv kv : Value) (wr : World) : Prop where
  ex : ∃ (k n : Nat), kv = .int .i64 k ∧ k ≤ y.length ∧ lv = .int .i64 (lastOf y k) ∧ tv = .bool (decide (5 ∈ y.take k)) ∧ wr = w8.drewN n
theorem last_lt {y : List Int} (hy : y.Pairwise (fun a b => a < b)) (h1 : ∀ x ∈ y, 1 ≤ x) {k : Nat} (hk : k < y.length) : lastOf y k < y[k] := by
  unfold lastOf
  by_cases e : k = 0
  · subst e
    rw [if_pos rfl]
    have := h1 _ (List.getElem_mem hk); omega
  · rw [if_neg e, List.getD_eq_getElem?_getD, List.getElem?_eq_getElem (by omega)]
    have := List.pairwise_iff_getElem.1 hy (k - 1) k (by omega) hk (by omega)
    simpa using this
theorem last_next (y : List Int) {k : Nat} (hk : k < y.length) : lastOf y (k + 1) = y[k] := by
  unfold lastOf
  rw [if_neg (by omega), List.getD_eq_getElem?_getD]
  simp [hk]
set_option maxRecDepth 100000 in
set_option maxHeartbeats 2000000 in
theorem apart_walk (w : World) (a0 : Option Addr) (cap0 : Nat) (l0 : List Am) (a1 : Option Addr) (cap1 : Nat) (l1 : List Am) (a2 : Option Addr) (cap2 : Nat) (l2 : List Ev) (h0 : ArmR w a0 l0) (h1 : ArmR w a1 l1) (h2 : EvR w a2 l2) :
    Calls Try.prog 9 #[.slice a0 l0.length cap0, .slice a1 l1.length cap1, .slice a2 l2.length cap2] w fun e w' => e = .returned (.bool true) ∧ Kept (fun _ => False) w w' := by
  have H0 := Lib.hid h0
  have H1 := Lib.hid h1
  have H2 := Lib.hid h2
  have hr0 := h0.room
  have hr1 := h1.room
  have hr2 := h2.room
  have HAW := Lib.hid (wawake_any w)
  clear h0 h1 h2
  go_enter Try.func9, Try.ntmps9
  go_wp2_with fail
  refine HAW.out.mono ?_
  rintro e w0 ⟨rfl, hk0⟩
  have HK0 := Lib.hid hk0
  clear hk0
  go_wp2_with fail
  refine (wnew_any _).mono ?_
  rintro e w1 ⟨q1, rfl, hq1, hb1, hk1⟩
  have HQ1 := Lib.hid hq1
  have HB1 := Lib.hid hb1
  have HK1 := Lib.hid hk1
  clear hq1 hb1 hk1
  go_wp2_with fail
  refine (wnew_any _).mono ?_
  rintro e w2 ⟨q2, rfl, hq2, hb2, hk2⟩
  have HT := Lib.hid (two_new HK0.out HQ1.out HB1.out HK1.out hq2 hb2 hk2)
  clear hq2 hb2 hk2 HQ1 HB1 HK1
  obtain ⟨ta, hta⟩ : ∃ t, q1.t = t := ⟨_, rfl⟩
  obtain ⟨tb, htb⟩ : ∃ t, q2.t = t := ⟨_, rfl⟩
  rw [hta, htb] at HT
  rw [hta, htb]
  clear hta htb
  go_upto_block 0 with fail
  go_cut [10] from 31 to 65 (fun v wx => ∃ n L, TwoW w wx ta tb n L L ∧ totW L ≤ 60 ∧ Only5 L)
  case first =>
    go_wp2_with fail
    go_loopw [10] (fun iv wr => A1Rel w ta tb l0.length iv wr) (fun iv _ => l0.length - (Go.RowKit.intOf iv).toNat)
    case atStart => exact ⟨0, _, [], rfl, by omega, Nat.zero_le _, HT.out, by simp [totW], fun j hj => rfl⟩
    case round =>
      obtain ⟨i, n, L, rfl, hi60, hil, htw, htot, hon⟩ := hrel.ex
      clear hrel
      have HTW := Lib.hid htw
      have HTOT := Lib.hid htot
      have HON := Lib.hid hon
      clear htw htot hon
      have HEND : Hid (∃ n L, TwoW w wr ta tb n L L ∧ totW L ≤ 60 ∧ Only5 L) := Lib.hid ⟨n, L, HTW.out, by have := HTOT.out; omega, HON.out⟩
      by_cases g1 : i < l0.length
      · by_cases g2 : i < 60
        · have HAT := Lib.hid (fun W (hW : Kept (fun _ => False) w W) => (H0.out.kept hW (fun _ _ _ _ f => f)).at_ i g1)
          obtain ⟨g, off, rfl, hg, c0, c1, _⟩ := HAT.out wr HTW.out.kept
          obtain ⟨x, hx⟩ : ∃ x, l0[i] = x := ⟨_, rfl⟩
          rw [hx] at c0 c1
          have hxs : x.p.size ≤ 140737488355328 := by rw [← hx]; exact H0.out.small _ (List.getElem_mem g1)
          have HXS := Lib.hid hxs
          have HCS : Hid (∀ W, Kept (fun _ => False) w W → W.cell? ⟨g, off + i * 5, none⟩ = some (.int .i64 x.k) ∧ W.cell? ⟨g, off + i * 5 + 1, none⟩ = some (.string x.p)) := Lib.hid (fun W hW => by
            obtain ⟨g', off', e', _, d0, d1, _⟩ := HAT.out W hW
            injection e' with e'
            injection e' with e1 e2
            subst e1 e2
            rw [hx] at d0 d1
            exact ⟨d0, d1⟩)
          have hT0 := HTW.out.kept0 ((Kept.refl (fun _ => False) wr).drew)
          have HT0 := Lib.hid hT0
          have HAD := Lib.hid (fun W m La Lb (hT : TwoW w W ta tb m La Lb) (hl : totW La ≤ 100) => hT.add 5 x.k x.p (by unfold I64; omega) HXS.out (by omega))
          have HAB := Lib.hid (fun W m La Lb (hT : TwoW w W ta tb m La Lb) (hl : totW Lb ≤ 100) => (hT.swap.add 5 x.k x.p (by unfold I64; omega) HXS.out (by omega)).mono (fun e w' (h : _ ∧ _) => (⟨h.1, h.2.swap⟩ : e = .returned (.int .i64 (addE checkS Lb 5 x.k x.p)) ∧ TwoW w w' ta tb w'.heap.size La (addW checkS Lb 5 x.k x.p))))
          have HTL : Hid (totW L ≤ 100) := Lib.hid (by have := HTOT.out; omega)
          obtain ⟨ad, had⟩ : ∃ ad, addE checkS L 5 x.k x.p = ad := ⟨_, rfl⟩
          obtain ⟨L', hL'⟩ : ∃ L', addW checkS L 5 x.k x.p = L' := ⟨_, rfl⟩
          have HADE := Lib.hid had
          have HLE := Lib.hid hL'
          clear hx hxs HEND c0 c1 had hL' HAT hT0
          go_wp2_with fail
          go_region_held3 (fun W => W.cell? ⟨g, off + i * 5, none⟩ = some (.int .i64 x.k) ∧ W.cell? ⟨g, off + i * 5 + 1, none⟩ = some (.string x.p))
            (first
              | exact HCS.out _ HT0.out.kept
              | exact HCS.out _ (TwoW.kept (by assumption))
              | exact (HCS.out _ HT0.out.kept).1
              | exact (HCS.out _ HT0.out.kept).2
              | exact (HCS.out _ (TwoW.kept (by assumption))).1
              | exact (HCS.out _ (TwoW.kept (by assumption))).2)
            (first
              | (go_at_call 29; with_reducible refine (HAD.out _ _ _ _ HT0.out HTL.out).mono ?_; rintro ee w4 ⟨rfl, h4⟩; rw [HADE.out]; rw [HLE.out] at h4)
              | (go_at_call 29; with_reducible refine (HAB.out _ _ _ _ HT0.out HTL.out).mono ?_; rintro ee w4 ⟨rfl, h4⟩; rw [HADE.out]; rw [HLE.out] at h4)
              | (go_at_call 29; with_reducible refine (HAD.out _ _ _ _ (by with_reducible assumption) HTL.out).mono ?_; rintro ee w5 ⟨rfl, h5⟩; rw [HADE.out]; rw [HLE.out] at h5)
              | (go_at_call 29; with_reducible refine (HAB.out _ _ _ _ (by with_reducible assumption) HTL.out).mono ?_; rintro ee w5 ⟨rfl, h5⟩; rw [HADE.out]; rw [HLE.out] at h5))
          all_goals go_wp2_with fail
          all_goals go_roundw
          case rel => exact ⟨i + 1, _, L', by go_num, by omega, by omega, by assumption, by rw [← HLE.out]; exact Nat.le_trans (tot_add HTW.out.okA _ _ _ _) (by have := HTOT.out; omega), by rw [← HLE.out]; exact HON.out.add HTW.out.okA _ _ _⟩
          case measure => simp [Go.RowKit.intOf]; omega
        · go_wp2_with fail
          go_meet
          exact HEND.out
      · go_wp2_with fail
        go_meet
        exact HEND.out
  case rest =>
  obtain ⟨n1, L1, htw1, htot1, hon1⟩ := hcut
  obtain ⟨w3, hw3⟩ : ∃ w3, w3 = wc := ⟨_, rfl⟩
  subst hw3
  have HT1 := Lib.hid htw1
  have HTO1 := Lib.hid htot1
  have HON1 := Lib.hid hon1
  clear htw1 htot1 hon1 HT
  go_upto_block 2 with fail
  go_cut [11] from 66 to 105 (fun v wx => ∃ n La Lb, TwoW w wx ta tb n La Lb ∧ totW La ≤ 120 ∧ totW Lb ≤ 120 ∧ Only5 La ∧ listW La 5 = listW Lb 5)
  case first =>
    go_wp2_with fail
    go_loopw [11] (fun iv wr => A2Rel w ta tb l1.length iv wr) (fun iv _ => l1.length - (Go.RowKit.intOf iv).toNat)
    case atStart => exact ⟨0, _, _, _, rfl, by omega, Nat.zero_le _, HT1.out, by have := HTO1.out; omega, by have := HTO1.out; omega, HON1.out, rfl⟩
    case round =>
      obtain ⟨i, n, La, Lb, rfl, hi60, hil, htw, htot, htotb, hon, heq⟩ := hrel.ex
      clear hrel
      have HTW := Lib.hid htw
      have HTOT := Lib.hid htot
      have HTOTB := Lib.hid htotb
      have HON := Lib.hid hon
      have HEQ := Lib.hid heq
      clear htw htot hon htotb heq
      have HEND : Hid (∃ n La Lb, TwoW w wr ta tb n La Lb ∧ totW La ≤ 120 ∧ totW Lb ≤ 120 ∧ Only5 La ∧ listW La 5 = listW Lb 5) := Lib.hid ⟨n, La, Lb, HTW.out, by have := HTOT.out; omega, by have := HTOTB.out; omega, HON.out, HEQ.out⟩
      by_cases g1 : i < l1.length
      · by_cases g2 : i < 60
        · obtain ⟨g, off, rfl, hg, c0, c1, _⟩ := (H1.out.kept HTW.out.kept (fun _ _ _ _ f => f)).at_ i g1
          obtain ⟨x, hx⟩ : ∃ x, l1[i] = x := ⟨_, rfl⟩
          rw [hx] at c0 c1
          have hxs : x.p.size ≤ 140737488355328 := by rw [← hx]; exact H1.out.small _ (List.getElem_mem g1)
          have HXS := Lib.hid hxs
          have HX := Lib.hid hx
          clear hx hxs HEND
          obtain ⟨r, hr⟩ : ∃ r, i % 9 = r := ⟨_, rfl⟩
          have hr9 : r < 9 := by omega
          have h9 : (i : Int).tmod 9 = (r : Int) := by
            have h9 : (i : Int).tmod 9 = ((i % 9 : Nat) : Int) := rfl
            rw [h9, hr]
          have hw9 : IntKind.i64.wrap (1 + (r : Int)) = 1 + (r : Int) := IntWalk.i64_in _ (by omega)
          have HAD := Lib.hid ((HTW.out.swap.kept0 ((Kept.refl (fun _ => False) wr).drew)).add (1 + (r : Int)) x.k x.p (by unfold I64; omega) HXS.out (by have := HTOTB.out; omega))
          clear hr
          go_wp2_with fail
          go_still_tail 14, (by kernel_rfl)
          go_wp2_with fail
          refine HAD.out.mono ?_
          rintro e w4 ⟨rfl, h4⟩
          have HT4 := Lib.hid h4.swap
          clear h4 hw9
          by_cases hr4 : r = 4
          · subst hr4
            obtain ⟨g', off', e', hg', c0', c1', _⟩ := (H1.out.kept HT4.out.kept (fun _ _ _ _ f => f)).at_ i g1
            injection e' with e'
            injection e' with e1 e2
            subst e1 e2
            rw [HX.out] at c0' c1'
            have HAB := Lib.hid ((HT4.out.kept0 ((Kept.refl (fun _ => False) w4).drew)).add 5 x.k x.p (by unfold I64; omega) HXS.out (by have := HTOT.out; omega))
            go_wp2_with fail
            go_still_tail 11, (by kernel_rfl)
            go_wp2_with fail
            refine HAB.out.mono ?_
            rintro e w5 ⟨rfl, h5⟩
            have HT5 := Lib.hid h5
            clear h5
            go_wp2_with fail
            go_roundw
            case rel => exact ⟨i + 1, _, _, _, by go_num, by omega, by omega, HT5.out, Nat.le_trans (tot_add HTW.out.okA _ _ _ _) (by have := HTOT.out; omega), Nat.le_trans (tot_add HTW.out.okB _ _ _ _) (by have := HTOTB.out; omega), HON.out.add HTW.out.okA _ _ _, listW_add_same HTW.out.okA HTW.out.okB _ 5 _ _ HEQ.out⟩
            case measure => simp [Go.RowKit.intOf]; omega
          · have hb4 : ((r : Int) == 4) = false := by simp; omega
            go_wp2_with fail
            go_roundw
            case rel => exact ⟨i + 1, _, _, _, by go_num, by omega, by omega, HT4.out, by have := HTOT.out; omega, Nat.le_trans (tot_add HTW.out.okB _ _ _ _) (by have := HTOTB.out; omega), HON.out, by rw [listW_add HTW.out.okB _ _ _ _ 5 (by omega)]; exact HEQ.out⟩
            case measure => simp [Go.RowKit.intOf]; omega
        · go_wp2_with fail
          go_meet
          exact HEND.out
      · go_wp2_with fail
        go_meet
        exact HEND.out
  case rest =>
  obtain ⟨n2, L2, M2, htw2, htot2, htotb2, hon2, heq2⟩ := hcut
  obtain ⟨w4, hw4⟩ : ∃ w4, w4 = wc := ⟨_, rfl⟩
  subst hw4
  have HT2 := Lib.hid htw2
  have HTO2 := Lib.hid htot2
  have HTB2 := Lib.hid htotb2
  have HON2 := Lib.hid hon2
  have HEQ2 := Lib.hid heq2
  clear htw2 htot2 htotb2 hon2 heq2 HT1 HTO1 HON1
  go_wp2_with fail
  go_loopw [12] (fun iv wr => A3Rel w ta tb l2.length iv wr) (fun iv _ => l2.length - (Go.RowKit.intOf iv).toNat)
  case atStart => exact ⟨0, _, _, _, rfl, Nat.zero_le _, HT2.out, HTO2.out, HTB2.out, HON2.out, HEQ2.out⟩
  case round =>
    obtain ⟨i, n, La, Lb, rfl, hil, htw, htot, htotb, hon, heq⟩ := hrel.ex
    clear hrel
    have HTW := Lib.hid htw
    have HTOT := Lib.hid htot
    have HTOTB := Lib.hid htotb
    have HON := Lib.hid hon
    have HEQ := Lib.hid heq
    clear htw htot htotb hon heq
    by_cases g1 : i < l2.length
    · obtain ⟨g, off, rfl, hg, c0, c1, c2⟩ := (H2.out.kept HTW.out.kept (fun _ _ _ _ f => f)).at_ i g1
      obtain ⟨x, hx⟩ : ∃ x, l2[i] = x := ⟨_, rfl⟩
      rw [hx] at c0 c1 c2
      have hxs : x.path.size ≤ 140737488355328 := by rw [← hx]; exact H2.out.small _ (List.getElem_mem g1)
      have HXS := Lib.hid hxs
      have HX := Lib.hid hx
      obtain ⟨bb, hbb⟩ : ∃ bb, (listW La 5).any (hitB (kindsOf x.kind) x.path) = bb := ⟨_, rfl⟩
      obtain ⟨y, hy⟩ : ∃ y, toldL x.kind x.path Lb = y := ⟨_, rfl⟩
      obtain ⟨tx, htx⟩ : ∃ tx : List To, (toldL x.kind x.path La).map (fun s => (s, x)) = tx := ⟨_, rfl⟩
      have hlx : tx.length = if bb = true then 1 else 0 := by
        rw [← htx, told_only HTW.out.okA HON.out, hbb]
        cases bb <;> rfl
      have HY1 : Hid (y.Pairwise (fun a b => a < b)) := Lib.hid (by rw [← hy]; exact told_rising HTW.out.okB)
      have HY2 : Hid (∀ s ∈ y, 1 ≤ s) := Lib.hid (fun s hs => by
        rw [← hy] at hs
        unfold toldL at hs
        obtain ⟨t, ht, rfl⟩ := List.mem_map.1 hs
        exact (HTW.out.okB.id64 t (List.mem_filter.1 ht).1).1)
      have HY5 : Hid (decide (5 ∈ y) = bb) := Lib.hid (by
        rw [← hbb, HEQ.out, Bool.eq_iff_iff, decide_eq_true_eq, ← hy, mem_told HTW.out.okB])
      have hyl : y.length ≤ 120 := by
        rw [← hy]
        have := tot_fire x.kind x.path Lb
        have := HTOTB.out
        omega
      have HYE := Lib.hid hy
      have HTXE := Lib.hid htx
      have HLX := Lib.hid hlx
      have HFA := Lib.hid (HTW.out.fire x hxs (by have := HTOT.out; omega))
      clear hx hxs hbb hy htx hlx
      go_wp2_with fail
      refine HFA.out.mono ?_
      rintro e w7 ⟨v7, rfl, hv7, ht7, hk7⟩
      rw [HTXE.out] at hv7
      obtain ⟨a7, c7, rfl⟩ := own_shape hv7
      obtain ⟨m, hm⟩ : ∃ m, tx.length = m := ⟨_, rfl⟩
      rw [hm]
      have HM : Hid (m = if bb = true then 1 else 0) := Lib.hid (by rw [← hm, HLX.out])
      clear hm
      have HT7 := Lib.hid ht7
      clear hv7 ht7 hk7
      obtain ⟨g', off', e', hg', c0', c1', c2'⟩ := (H2.out.kept HT7.out.kept (fun _ _ _ _ f => f)).at_ i g1
      injection e' with e'
      injection e' with e1 e2
      subst e1 e2
      rw [HX.out] at c0' c1' c2'
      have HFB := Lib.hid (HT7.out.swap.fire x HXS.out (by have := HTOTB.out; omega))
      go_wp2_with fail
      refine HFB.out.mono ?_
      rintro e w8 ⟨v8, rfl, hv8, ht8, hk8⟩
      rw [HYE.out] at hv8
      obtain ⟨a8, c8, hv8e⟩ := own_shape hv8
      rw [List.length_map] at hv8e
      subst hv8e
      have HV8 := Lib.hid hv8
      have HT8 := Lib.hid ht8.swap
      obtain ⟨w8', hw8⟩ : ∃ w8', w8' = w8 := ⟨_, rfl⟩
      subst hw8
      clear hv8 ht8 hk8 c0 c1 c2 c0' c1' c2'
      go_wp2_with fail
      go_loopw [15, 16, 17] (fun tv lv kv wr => A4Rel w8' y tv lv kv wr) (fun _ _ kv _ => y.length - (Go.RowKit.intOf kv).toNat)
      case atStart => exact ⟨0, 0, rfl, Nat.zero_le _, rfl, by simp, rfl⟩
      case round =>
        obtain ⟨k, nn, rfl, hk, rfl, rfl, rfl⟩ := hrel.ex
        clear hrel
        by_cases hlt : k < y.length
        · have hlast := last_lt HY1.out HY2.out hlt
          have HLN := Lib.hid (last_next y hlt)
          obtain ⟨s, hs⟩ : ∃ s, y[k] = s := ⟨_, rfl⟩
          rw [hs] at hlast HLN
          obtain ⟨g8, rfl, hg8b, hg8, d0, d1, d2, d3⟩ := to_cells HV8.out (i := k) (by rw [List.length_map]; exact hlt) (r := (s, x)) (by rw [List.getElem_map, hs])
          obtain ⟨g', off', e', hg', c0', c1', c2'⟩ := (H2.out.kept HT8.out.kept (fun _ _ _ _ f => f)).at_ i g1
          injection e' with e'
          injection e' with e1 e2
          subst e1 e2
          rw [HX.out] at c0' c1' c2'
          have HTK : Hid (decide (5 ∈ y.take (k + 1)) = (decide (5 ∈ y.take k) || decide (s = 5))) := Lib.hid (by
            rw [List.take_succ_eq_append_getElem hlt, hs, Bool.eq_iff_iff]
            simp only [decide_eq_true_eq, Bool.or_eq_true, List.mem_append, List.mem_singleton]
            exact or_congr Iff.rfl ⟨Eq.symm, Eq.symm⟩)
          have hs5 : decide ((k : Int) < (y.length : Int)) = true := by simp; exact hlt
          obtain ⟨la, hla⟩ : ∃ la, lastOf y k = la := ⟨_, rfl⟩
          rw [hla] at hlast ⊢
          have b1 : decide (s ≤ la) = false := by simp; omega
          obtain ⟨tk, htk⟩ : ∃ tk, decide (5 ∈ y.take k) = tk := ⟨_, rfl⟩
          rw [htk] at HTK ⊢
          have hw1 : IntKind.i64.wrap (↑k + 1) = ↑k + 1 := IntWalk.i64_in _ (by omega)
          clear hs hla htk hs5
          cases tk
          · go_wp2_with fail
            go_quiet (fail)
            go_wp2_with fail
            go_roundw
            case rel => exact ⟨k + 1, _, by go_num, by omega, by rw [HLN.out], by rw [HTK.out, Bool.false_or]; congr 1, rfl⟩
            case measure => simp [Go.RowKit.intOf]; omega
          · go_wp2_with fail
            go_quiet (fail)
            go_wp2_with fail
            go_roundw
            case rel => exact ⟨k + 1, _, by go_num, by omega, by rw [HLN.out], by rw [HTK.out, Bool.true_or], rfl⟩
            case measure => simp [Go.RowKit.intOf]; omega
        · have hge : y.length ≤ k := by omega
          have HTK : Hid (decide (5 ∈ y.take k) = bb) := Lib.hid (by rw [List.take_of_length_le hge]; exact HY5.out)
          have HT9 := Lib.hid (HT8.out.kept0 ((Kept.refl (fun _ => False) w8').drewN nn))
          obtain ⟨cn, hcn⟩ : ∃ cn, countW (fireL x.kind x.path La) 5 = cn := ⟨_, rfl⟩
          have HCA := Lib.hid (HT9.out.count 5 (by unfold I64; omega))
          have HCB := Lib.hid (HT9.out.swap.count 5 (by unfold I64; omega))
          have hlf : listW (fireL x.kind x.path La) 5 = listW (fireL x.kind x.path Lb) 5 := by rw [listW_fire HTW.out.okA, listW_fire HTW.out.okB, HEQ.out]
          have hcb : countW (fireL x.kind x.path Lb) 5 = cn := by rw [← hcn]; unfold countW; rw [hlf]
          rw [hcn] at HCA
          rw [hcb] at HCB
          have HLF := Lib.hid hlf
          rw [HTK.out]
          clear hcn hcb hlf
          obtain ⟨w9, hw9⟩ : ∃ w9, w8'.drewN nn = w9 := ⟨_, rfl⟩
          rw [hw9] at HT9 HCA HCB ⊢
          clear hw9
          cases bb
          · obtain rfl : m = 0 := HM.out
            go_wp2_with (first
              | (go_at_call 30; with_reducible refine HCA.out.mono ?_; rintro e w10 ⟨rfl, rfl⟩)
              | (go_at_call 30; with_reducible refine HCB.out.mono ?_; rintro e w10 ⟨rfl, rfl⟩)
              | fail)
            go_roundw
            case rel => exact ⟨i + 1, n, _, _, by go_num, by omega, HT9.out, Nat.le_trans (tot_fire_le _ _ _) HTOT.out, Nat.le_trans (tot_fire_le _ _ _) HTOTB.out, HON.out.fire HTW.out.okA _ _, HLF.out⟩
            case measure => simp [Go.RowKit.intOf]; omega
          · obtain rfl : m = 1 := HM.out
            go_wp2_with (first
              | (go_at_call 30; with_reducible refine HCA.out.mono ?_; rintro e w10 ⟨rfl, rfl⟩)
              | (go_at_call 30; with_reducible refine HCB.out.mono ?_; rintro e w10 ⟨rfl, rfl⟩)
              | fail)
            go_roundw
            case rel => exact ⟨i + 1, n, _, _, by go_num, by omega, HT9.out, Nat.le_trans (tot_fire_le _ _ _) HTOT.out, Nat.le_trans (tot_fire_le _ _ _) HTOTB.out, HON.out.fire HTW.out.okA _ _, HLF.out⟩
            case measure => simp [Go.RowKit.intOf]; omega
    · go_wp2_with fail
      go_ret
      exact ⟨rfl, HTW.out.kept⟩
end Go.Proofs.Ytjpoebajljbocaa
