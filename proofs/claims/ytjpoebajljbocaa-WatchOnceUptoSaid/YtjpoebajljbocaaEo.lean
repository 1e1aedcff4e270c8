/- WatchOnce, walked. -/
import Derived.Test.YtjpoebajljbocaaEk
import Derived.StillTailTactics
import Derived.Deep.RegionWith
import Derived.Deep.CutBlock
namespace Go.Proofs.Ytjpoebajljbocaa
open Go.ChangeShapes Go.WideShapes Go.ChangeAt Go.RowKit Go.Maps
set_option linter.unusedVariables false
set_option linter.unusedSimpArgs false
def Only1 (L : WL) : Prop := ∀ j, j ≠ 1 → listW L j = []
theorem listW_add1 {L : WL} (h : WlOk L) (o : ByteArray → Int) (i k : Int) (p : ByteArray) (j : Int) (hj : j ≠ i) : listW (addW o L i k p) j = listW L j := by
  unfold addW
  split
  · rfl
  · split
    · rfl
    · split
      · rfl
      · rw [listW_set h.up, if_neg (fun e => hj e.symm)]
theorem mem_add1 {L : WL} (h : WlOk L) (o : ByteArray → Int) (i k : Int) (p : ByteArray) {x : Wt} (hx : x ∈ listW (addW o L i k p) i) : x ∈ listW L i ∨ x = (k, p) := by
  unfold addW at hx
  split at hx
  · exact .inl hx
  · split at hx
    · exact .inl hx
    · split at hx
      · exact .inl hx
      · rw [listW_set h.up, if_pos rfl] at hx
        rcases List.mem_append.1 hx with hx | hx
        · exact .inl hx
        · exact .inr (by simpa using hx)
theorem told_only1 {L : WL} (hL : WlOk L) (h : Only1 L) (k : Int) (p : ByteArray) : toldL k p L = if (listW L 1).any (hitB (kindsOf k) p) = true then [1] else [] := by
  have hr := told_rising (k := k) (p := p) hL
  have hm := fun i => mem_told (k := k) (p := p) hL (i := i)
  have h5 : ∀ i ∈ toldL k p L, i = 1 := fun i hi => by
    have := (hm i).1 hi
    by_cases e : i = 1
    · exact e
    · rw [h i e] at this; simp at this
  generalize toldL k p L = l at *
  cases l with
  | nil =>
    rw [if_neg (fun e => by have := (hm 1).2 e; simp at this)]
  | cons a r =>
    have ha := h5 a (List.mem_cons_self ..)
    subst ha
    rw [if_pos ((hm 1).1 (List.mem_cons_self ..))]
    cases r with
    | nil => rfl
    | cons b t =>
      have hb := h5 b (by simp)
      subst hb
      have := (List.pairwise_cons.1 hr).1 1 (by simp)
      omega
/-- at most three watches lie on one path -/
theorem struck_few {L : WL} (hL : WlOk L) (i : Int) (ks : List Int) (p : ByteArray) : (listW L i).length ≤ (strikeW ks p (listW L i)).length + 3 := by
  obtain ⟨l1, l2, l3⟩ := hL.list i
  generalize listW L i = l at *
  have h1 : ((l.filter (hitB ks p))).length ≤ 3 := by
    have := sub_len (l.filter (hitB ks p)) [((1 : Int), p), (2, p), (3, p)] (l1.filter _) (fun x hx => by
      obtain ⟨h1, h2⟩ := List.mem_filter.1 hx
      obtain ⟨k1, k2, _⟩ := l3 x h1
      unfold hitB at h2
      simp only [Bool.and_eq_true, beq_iff_eq] at h2
      obtain ⟨a, b⟩ := x
      have hb : b = p := h2.2
      subst hb
      simp only at k1 k2
      rcases (show a = 1 ∨ a = 2 ∨ a = 3 by omega) with e | e | e <;> subst e <;> simp)
    simpa using this
  have h2 : l.length = (l.filter (hitB ks p)).length + (l.filter (fun x => !hitB ks p x)).length := by
    clear l1 l2 l3 h1
    induction l with
    | nil => rfl
    | cons a r ih =>
      rw [List.filter_cons, List.filter_cons]
      cases hitB ks p a <;> simp <;> omega
  unfold strikeW
  omega
def Laid (l : List Am) (L : WL) : Prop := ∀ x ∈ listW L 1, ∃ y ∈ l, y.p = x.2
structure O1Rel (w : World) (t : Nat) (l0 : List Am) (iv : Value) (wr : World) : Prop where
  ex : ∃ (i n : Nat) (L : WL), iv = .int .i64 i ∧ i ≤ 60 ∧ i ≤ l0.length ∧ OneW w wr t n L ∧ totW L ≤ i ∧ Only1 L ∧ Laid l0 L
structure O2Rel (w : World) (t had : Nat) (l0 : List Am) (len : Nat) (tv iv : Value) (wr : World) : Prop where
  ex : ∃ (i n td : Nat) (L : WL), iv = .int .i64 i ∧ i ≤ len ∧ OneW w wr t n L ∧ totW L ≤ 60 ∧ Only1 L ∧ Laid l0 L ∧ tv = .int .i64 td ∧ td + countW L 1 ≤ had
structure O3Rel (w8 : World) (l0 : List Am) (p : ByteArray) (b0 : Bool) (tv kv : Value) (wr : World) : Prop where
  ex : ∃ (k n : Nat) (b : Bool), kv = .int .i64 k ∧ k ≤ l0.length ∧ tv = .bool b ∧ (b = true ↔ b0 = true ∨ ∃ y ∈ l0.take k, y.p = p) ∧ wr = w8.drewN n
set_option maxRecDepth 100000 in
set_option maxHeartbeats 4000000 in
theorem once_walk (w : World) (a0 : Option Addr) (cap0 : Nat) (l0 : List Am) (a2 : Option Addr) (cap2 : Nat) (l2 : List Ev) (h0 : ArmR w a0 l0) (h2 : EvR w a2 l2) :
    Calls Try.prog 8 #[.slice a0 l0.length cap0, .slice a2 l2.length cap2] w fun e w' => e = .returned (.bool true) ∧ Kept (fun _ => False) w w' := by
  have H0 := Lib.hid h0
  have H2 := Lib.hid h2
  have hr0 := h0.room
  have hr2 := h2.room
  have HAW := Lib.hid (wawake_any w)
  clear h0 h2
  go_enter Try.func8, Try.ntmps8
  go_wp2_with fail
  refine HAW.out.mono ?_
  rintro e w0 ⟨rfl, hk0⟩
  have HK0 := Lib.hid hk0
  clear hk0
  go_wp2_with fail
  refine (wnew_any _).mono ?_
  rintro e w1 ⟨q1, rfl, hq1, hb1, hk1⟩
  have HT : Hid (OneW w w1 q1.t w1.heap.size []) := Lib.hid ⟨⟨q1, hq1, rfl, fun k hk => ⟨Nat.le_trans HK0.out.size (hb1 k hk), hq1.lt k hk⟩⟩, HK0.out.trans hk1, Nat.le_refl _⟩
  clear hq1 hb1 hk1
  obtain ⟨t, ht⟩ : ∃ t, q1.t = t := ⟨_, rfl⟩
  rw [ht] at HT ⊢
  clear ht
  go_upto_block 0 with fail
  go_cut [7] from 25 to 46 (fun v wx => ∃ n L, OneW w wx t n L ∧ totW L ≤ 60 ∧ Only1 L ∧ Laid l0 L)
  case first =>
    go_wp2_with fail
    go_loopw [7] (fun iv wr => O1Rel w t l0 iv wr) (fun iv _ => l0.length - (Go.RowKit.intOf iv).toNat)
    case atStart => exact ⟨0, _, [], rfl, by omega, Nat.zero_le _, HT.out, by simp [totW], fun j hj => rfl, (fun x hx => nomatch hx)⟩
    case round =>
      obtain ⟨i, n, L, rfl, hi60, hil, htw, htot, hon, hla⟩ := hrel.ex
      clear hrel
      have HTW := Lib.hid htw
      have HTOT := Lib.hid htot
      have HON := Lib.hid hon
      have HLA := Lib.hid hla
      clear htw htot hon hla
      have HEND : Hid (∃ n L, OneW w wr t n L ∧ totW L ≤ 60 ∧ Only1 L ∧ Laid l0 L) := Lib.hid ⟨n, L, HTW.out, by have := HTOT.out; omega, HON.out, HLA.out⟩
      by_cases g1 : i < l0.length
      · by_cases g2 : i < 60
        · obtain ⟨g, off, rfl, hg, c0, c1, _⟩ := (H0.out.kept HTW.out.kept (fun _ _ _ _ f => f)).at_ i g1
          obtain ⟨x, hx⟩ : ∃ x, l0[i] = x := ⟨_, rfl⟩
          rw [hx] at c0 c1
          have HXM : Hid (x ∈ l0) := Lib.hid (by rw [← hx]; exact List.getElem_mem g1)
          have HAD := Lib.hid ((HTW.out.kept0 ((Kept.refl (fun _ => False) wr).drew)).add 1 x.k x.p (by unfold I64; omega) (H0.out.small _ HXM.out) (by have := HTOT.out; omega))
          clear hx HEND
          go_wp2_with fail
          go_still_tail 11, (by kernel_rfl)
          go_wp2_with fail
          refine HAD.out.mono ?_
          rintro e w4 ⟨rfl, h4⟩
          have HT4 := Lib.hid h4
          clear h4
          go_wp2_with fail
          go_roundw
          case rel => exact ⟨i + 1, _, _, by go_num, by omega, by omega, HT4.out, Nat.le_trans (tot_add HTW.out.ok _ _ _ _) (by have := HTOT.out; omega), fun j hj => by rw [listW_add1 HTW.out.ok _ _ _ _ j hj]; exact HON.out j hj, fun y hy => by
            rcases mem_add1 HTW.out.ok _ _ _ _ hy with hy | rfl
            · exact HLA.out y hy
            · exact ⟨x, HXM.out, rfl⟩⟩
          case measure => simp [Go.RowKit.intOf]; omega
        · go_wp2_with fail
          go_meet
          exact HEND.out
      · go_wp2_with fail
        go_meet
        exact HEND.out
  case rest =>
  obtain ⟨n1, L1, htw1, htot1, hon1, hla1⟩ := hcut
  obtain ⟨w3, hw3⟩ : ∃ w3, w3 = wc := ⟨_, rfl⟩
  subst hw3
  have HT1 := Lib.hid htw1
  have HTO1 := Lib.hid htot1
  have HON1 := Lib.hid hon1
  have HLA1 := Lib.hid hla1
  have HC0 := Lib.hid (htw1.count 1 (by unfold I64; omega))
  obtain ⟨had, hhad⟩ : ∃ had, countW L1 1 = had := ⟨_, rfl⟩
  rw [hhad] at HC0
  have hh64 : had ≤ 64 := by rw [← hhad]; exact (htw1.ok.list 1).2.1
  have HHAD := Lib.hid hhad
  clear htw1 htot1 hon1 hla1 HT hhad
  go_wp2_with fail
  refine HC0.out.mono ?_
  rintro e w4 ⟨rfl, rfl⟩
  go_wp2_with fail
  go_loopw [9, 10] (fun tv iv wr => O2Rel w t had l0 l2.length tv iv wr) (fun _ iv _ => l2.length - (Go.RowKit.intOf iv).toNat)
  case atStart => exact ⟨0, _, 0, _, rfl, Nat.zero_le _, HT1.out, HTO1.out, HON1.out, HLA1.out, rfl, by rw [HHAD.out]; omega⟩
  case round =>
    obtain ⟨i, n, td, L, rfl, hil, htw, htot, hon, hla, rfl, htd⟩ := hrel.ex
    clear hrel
    have HTW := Lib.hid htw
    have HTOT := Lib.hid htot
    have HON := Lib.hid hon
    have HLA := Lib.hid hla
    obtain ⟨was, hwas⟩ : ∃ was, countW L 1 = was := ⟨_, rfl⟩
    rw [hwas] at htd
    have hw64 : was ≤ 64 := by rw [← hwas]; exact (htw.ok.list 1).2.1
    have HCW := Lib.hid (htw.count 1 (by unfold I64; omega))
    rw [hwas] at HCW
    have HWAS := Lib.hid hwas
    clear htw htot hon hla hwas
    by_cases g1 : i < l2.length
    · obtain ⟨g, off, rfl, hg, c0, c1, c2⟩ := (H2.out.kept HTW.out.kept (fun _ _ _ _ f => f)).at_ i g1
      obtain ⟨x, hx⟩ : ∃ x, l2[i] = x := ⟨_, rfl⟩
      rw [hx] at c0 c1 c2
      have hxs : x.path.size ≤ 140737488355328 := by rw [← hx]; exact H2.out.small _ (List.getElem_mem g1)
      have HXS := Lib.hid hxs
      have HX := Lib.hid hx
      have HFA := Lib.hid (HTW.out.fire x hxs (by have := HTOT.out; omega))
      obtain ⟨tx, htx⟩ : ∃ tx : List To, (toldL x.kind x.path L).map (fun s => (s, x)) = tx := ⟨_, rfl⟩
      have HTXE := Lib.hid htx
      obtain ⟨bb, hbb⟩ : ∃ bb, (listW L 1).any (hitB (kindsOf x.kind) x.path) = bb := ⟨_, rfl⟩
      have HBB := Lib.hid hbb
      have HTX : Hid (tx = if bb = true then [(1, x)] else []) := Lib.hid (by
        rw [← htx, told_only1 HTW.out.ok HON.out, hbb]
        cases bb <;> rfl)
      obtain ⟨now, hnow⟩ : ∃ now, countW (fireL x.kind x.path L) 1 = now := ⟨_, rfl⟩
      have HNOW := Lib.hid hnow
      have HNW : Hid (now ≤ was ∧ was ≤ now + 3 ∧ (bb = true → now < was) ∧ (bb = false → now = was)) := Lib.hid (by
        have h1 := struck_few HTW.out.ok 1 (kindsOf x.kind) x.path
        have h2 := (strikeW_sub (kindsOf x.kind) x.path (listW L 1)).length_le
        have h3 := strike_any (ks := kindsOf x.kind) (p := x.path) (l := listW L 1)
        have h4 : now = (strikeW (kindsOf x.kind) x.path (listW L 1)).length := by rw [← hnow]; unfold countW; rw [listW_fire HTW.out.ok]
        have h5 : was = (listW L 1).length := by rw [← HWAS.out]; rfl
        refine ⟨by omega, by omega, fun hb => ?_, fun hb => ?_⟩
        · rw [h4, h5]; exact h3.2 (hbb.trans hb)
        · have : ¬ (strikeW (kindsOf x.kind) x.path (listW L 1)).length < (listW L 1).length := fun hlt => by
            have := h3.1 hlt
            rw [hbb, hb] at this; cases this
          omega)
      have HPATH : Hid (bb = true → ∃ y ∈ l0, y.p = x.path) := Lib.hid (fun hb => by
        have h1 := hbb.trans hb
        obtain ⟨z, hz, hz2⟩ := List.any_eq_true.1 h1
        obtain ⟨y, hy, hyp⟩ := HLA.out z hz
        unfold hitB at hz2
        simp only [Bool.and_eq_true, beq_iff_eq] at hz2
        exact ⟨y, hy, hyp.trans hz2.2⟩)
      clear hx hxs htx hbb hnow
      go_wp2_with fail
      refine HCW.out.mono ?_
      rintro e w5 ⟨rfl, rfl⟩
      go_wp2_with fail
      refine HFA.out.mono ?_
      rintro e w7 ⟨v7, rfl, hv7, ht7, hk7⟩
      rw [HTXE.out] at hv7
      obtain ⟨a7, c7, rfl⟩ := own_shape hv7
      have HV7 := Lib.hid hv7
      have HT7 := Lib.hid ht7
      have HC7 := Lib.hid (ht7.count 1 (by unfold I64; omega))
      rw [HNOW.out] at HC7
      clear hv7 ht7 hk7 c0 c1 c2
      have HAT7 := Lib.hid (fun W (hW : Kept (fun _ => False) w7 W) => (H2.out.kept (HT7.out.kept.trans hW) (fun _ _ _ _ f => f)).at_ i g1)
      obtain ⟨g', off', e', hg', c0, c1, c2⟩ := HAT7.out w7 (Kept.refl _ _)
      injection e' with e'
      injection e' with e1 e2
      subst e1 e2
      rw [HX.out] at c0 c1 c2
      have hnw := HNW.out
      obtain ⟨hnw1, hnw2, hnw3, hnw4⟩ := hnw
      have HL7 : Hid (Only1 (fireL x.kind x.path L) ∧ Laid l0 (fireL x.kind x.path L) ∧ totW (fireL x.kind x.path L) ≤ 60) := Lib.hid ⟨fun j hj => by rw [listW_fire HTW.out.ok, HON.out j hj]; rfl, fun y hy => by
        rw [listW_fire HTW.out.ok] at hy
        exact HLA.out y ((strikeW_sub _ _ _).subset hy), Nat.le_trans (tot_fire_le _ _ _) HTOT.out⟩
      have HAGAIN : Hid ((toldL x.kind x.path (fireL x.kind x.path L)).map (fun s => (s, x)) = ([] : List To)) := Lib.hid (by rw [told_twice HTW.out.ok]; rfl)
      clear HTXE
      cases bb
      · obtain rfl : tx = [] := HTX.out
        obtain rfl : now = was := hnw4 rfl
        clear hnw3 hnw4
        go_wp2_with fail
        refine HC7.out.mono ?_
        rintro e w8 ⟨rfl, rfl⟩
        go_wp2_with fail
        go_quiet (fail)
        go_wp2_with fail
        go_loopw [14, 15] (fun tv kv wr => O3Rel w7 l0 x.path true tv kv wr) (fun _ kv _ => l0.length - (Go.RowKit.intOf kv).toNat)
        case atStart => exact ⟨0, _, true, rfl, Nat.zero_le _, rfl, by simp, rfl⟩
        case round =>
          obtain ⟨k, nn, bt, rfl, hk, rfl, hbt, rfl⟩ := hrel.ex
          clear hrel
          have HBT := Lib.hid hbt
          clear hbt
          by_cases hlt3 : k < l0.length
          · have hw1 : IntKind.i64.wrap (↑k + 1) = ↑k + 1 := IntWalk.i64_in _ (by omega)
            obtain ⟨ga, offa, rfl, hga, f0, f1, _⟩ := (H0.out.kept HT7.out.kept (fun _ _ _ _ f => f)).at_ k hlt3
            obtain ⟨z, hz⟩ : ∃ z, l0[k] = z := ⟨_, rfl⟩
            rw [hz] at f0 f1
            have HTK : Hid (l0.take (k + 1) = l0.take k ++ [z]) := Lib.hid (by rw [List.take_succ_eq_append_getElem hlt3, hz])
            clear hz
            cases bt
            · by_cases heq : z.p.toList = x.path.toList
              · have HPQ := Lib.hid (ba_injW heq)
                have hb : (z.p.toList == x.path.toList) = true := by simp [heq]
                clear heq
                go_wp2_with fail
                go_quiet (fail)
                go_wp2_with fail
                go_roundw
                case rel => exact ⟨k + 1, _, true, by go_num, by omega, rfl, by rw [HTK.out]; simp [HPQ.out], rfl⟩
                case measure => simp [Go.RowKit.intOf]; omega
              · have HPQ : Hid (¬ z.p = x.path) := Lib.hid (fun e => heq (by rw [e]))
                have hb : (z.p.toList == x.path.toList) = false := by simp [heq]
                clear heq
                go_wp2_with fail
                go_quiet (fail)
                go_wp2_with fail
                go_roundw
                case rel => exact ⟨k + 1, _, false, by go_num, by omega, rfl, ⟨(fun h => nomatch h), fun h => HBT.out.2 (by
                  rw [HTK.out] at h
                  rcases h with h | ⟨y, hy, e⟩
                  · first | exact .inl h | exact .inl trivial
                  · rcases List.mem_append.1 hy with hy | hy
                    · exact .inr ⟨y, hy, e⟩
                    · simp only [List.mem_singleton] at hy
                      subst hy
                      exact absurd e HPQ.out)⟩, rfl⟩
                case measure => simp [Go.RowKit.intOf]; omega
            · go_wp2_with fail
              go_quiet (fail)
              go_wp2_with fail
              go_roundw
              case rel => exact ⟨k + 1, _, true, by go_num, by omega, rfl, by
                have := HBT.out.1 (by first | trivial | rfl)
                simp only [true_iff]
                rcases this with h | ⟨y, hy, e⟩
                · exact .inl h
                · exact .inr ⟨y, by rw [HTK.out]; simp [hy], e⟩, rfl⟩
              case measure => simp [Go.RowKit.intOf]; omega
          · obtain rfl : bt = true := HBT.out.2 (by
              rw [List.take_of_length_le (by omega)]
              first | exact .inl rfl | exact .inr (HPATH.out (by first | trivial | rfl)))
            have hT8 := HT7.out.kept0 ((Kept.refl (fun _ => False) w7).drewN nn)
            obtain ⟨w9, hw9⟩ : ∃ w9, w7.drewN nn = w9 := ⟨_, rfl⟩
            rw [hw9] at hT8 ⊢
            obtain ⟨g', off', e', hg9, k0, k1, k2⟩ := (H2.out.kept hT8.kept (fun _ _ _ _ f => f)).at_ i g1
            injection e' with e'
            injection e' with e1 e2
            subst e1 e2
            rw [HX.out] at k0 k1 k2
            have HFB := Lib.hid (hT8.fire x HXS.out (by have := HL7.out.2.2; omega))
            clear hT8 hw9 c0 c1 c2
            go_wp2_with fail
            refine HFB.out.mono ?_
            rintro e w10 ⟨v10, rfl, hv10, ht10, hk10⟩
            rw [HAGAIN.out] at hv10
            obtain ⟨a10, c10, rfl⟩ := own_shape hv10
            have HT10 := Lib.hid ht10
            clear hv10 ht10 hk10
            go_wp2_with fail
            go_roundw
            case rel => exact ⟨i + 1, n, td + 0, _, by go_num, by omega, HT10.out, Nat.le_trans (tot_fire_le _ _ _) HL7.out.2.2, fun j hj => by rw [listW_fire (HTW.out.ok.fire _ _), HL7.out.1 j hj]; rfl, fun y hy => by
                rw [listW_fire (HTW.out.ok.fire _ _)] at hy
                exact HL7.out.2.1 y ((strikeW_sub _ _ _).subset hy), by go_num, by
                have h1 := HNOW.out
                have h2 : countW (fireL x.kind x.path (fireL x.kind x.path L)) 1 ≤ countW (fireL x.kind x.path L) 1 := by
                  unfold countW; rw [listW_fire (HTW.out.ok.fire _ _)]; exact (strikeW_sub _ _ _).length_le
                omega⟩
            case measure => simp [Go.RowKit.intOf]; omega
      · obtain rfl : tx = [(1, x)] := HTX.out
        have hlt : now < was := hnw3 rfl
        clear hnw3 hnw4
        obtain ⟨g8, rfl, hg8b, hg8, d0, d1, d2, d3⟩ := to_cells HV7.out (i := 0) (by simp) (r := (1, x)) rfl
        simp only [Nat.zero_mul, Nat.zero_add] at d0 d1 d2 d3
        have b1 : decide ((now : Int) ≥ (was : Int)) = false := by simp; omega
        have b1' : decide ((was : Int) ≤ (now : Int)) = false := by simp; omega
        have b1n : decide (was ≤ now) = false := by simp; omega
        have hsub : IntKind.i64.wrap ((was : Int) - (now : Int)) = (was : Int) - (now : Int) := IntWalk.i64_in _ (by omega)
        have b2 : decide ((was : Int) - (now : Int) > 3) = false := by simp; omega
        have b2' : decide (3 < (was : Int) - (now : Int)) = false := by simp; omega
        go_wp2_with fail
        refine HC7.out.mono ?_
        rintro e w8 ⟨rfl, rfl⟩
        go_wp2_with fail
        go_quiet (fail)
        go_wp2_with fail
        go_loopw [14, 15] (fun tv kv wr => O3Rel w7 l0 x.path false tv kv wr) (fun _ kv _ => l0.length - (Go.RowKit.intOf kv).toNat)
        case atStart => exact ⟨0, _, false, rfl, Nat.zero_le _, rfl, by simp, rfl⟩
        case round =>
          obtain ⟨k, nn, bt, rfl, hk, rfl, hbt, rfl⟩ := hrel.ex
          clear hrel
          have HBT := Lib.hid hbt
          clear hbt
          by_cases hlt3 : k < l0.length
          · have hw1 : IntKind.i64.wrap (↑k + 1) = ↑k + 1 := IntWalk.i64_in _ (by omega)
            obtain ⟨ga, offa, rfl, hga, f0, f1, _⟩ := (H0.out.kept HT7.out.kept (fun _ _ _ _ f => f)).at_ k hlt3
            obtain ⟨z, hz⟩ : ∃ z, l0[k] = z := ⟨_, rfl⟩
            rw [hz] at f0 f1
            have HTK : Hid (l0.take (k + 1) = l0.take k ++ [z]) := Lib.hid (by rw [List.take_succ_eq_append_getElem hlt3, hz])
            clear hz
            cases bt
            · by_cases heq : z.p.toList = x.path.toList
              · have HPQ := Lib.hid (ba_injW heq)
                have hb : (z.p.toList == x.path.toList) = true := by simp [heq]
                clear heq
                go_wp2_with fail
                go_quiet (fail)
                go_wp2_with fail
                go_roundw
                case rel => exact ⟨k + 1, _, true, by go_num, by omega, rfl, by rw [HTK.out]; simp [HPQ.out], rfl⟩
                case measure => simp [Go.RowKit.intOf]; omega
              · have HPQ : Hid (¬ z.p = x.path) := Lib.hid (fun e => heq (by rw [e]))
                have hb : (z.p.toList == x.path.toList) = false := by simp [heq]
                clear heq
                go_wp2_with fail
                go_quiet (fail)
                go_wp2_with fail
                go_roundw
                case rel => exact ⟨k + 1, _, false, by go_num, by omega, rfl, ⟨(fun h => nomatch h), fun h => HBT.out.2 (by
                  rw [HTK.out] at h
                  rcases h with h | ⟨y, hy, e⟩
                  · first | exact .inl h | exact .inl trivial
                  · rcases List.mem_append.1 hy with hy | hy
                    · exact .inr ⟨y, hy, e⟩
                    · simp only [List.mem_singleton] at hy
                      subst hy
                      exact absurd e HPQ.out)⟩, rfl⟩
                case measure => simp [Go.RowKit.intOf]; omega
            · go_wp2_with fail
              go_quiet (fail)
              go_wp2_with fail
              go_roundw
              case rel => exact ⟨k + 1, _, true, by go_num, by omega, rfl, by
                have := HBT.out.1 (by first | trivial | rfl)
                simp only [true_iff]
                rcases this with h | ⟨y, hy, e⟩
                · exact .inl h
                · exact .inr ⟨y, by rw [HTK.out]; simp [hy], e⟩, rfl⟩
              case measure => simp [Go.RowKit.intOf]; omega
          · obtain rfl : bt = true := HBT.out.2 (by
              rw [List.take_of_length_le (by omega)]
              first | exact .inl rfl | exact .inr (HPATH.out (by first | trivial | rfl)))
            have hT8 := HT7.out.kept0 ((Kept.refl (fun _ => False) w7).drewN nn)
            obtain ⟨w9, hw9⟩ : ∃ w9, w7.drewN nn = w9 := ⟨_, rfl⟩
            rw [hw9] at hT8 ⊢
            obtain ⟨g', off', e', hg9, k0, k1, k2⟩ := (H2.out.kept hT8.kept (fun _ _ _ _ f => f)).at_ i g1
            injection e' with e'
            injection e' with e1 e2
            subst e1 e2
            rw [HX.out] at k0 k1 k2
            have HFB := Lib.hid (hT8.fire x HXS.out (by have := HL7.out.2.2; omega))
            clear hT8 hw9 c0 c1 c2
            go_wp2_with fail
            refine HFB.out.mono ?_
            rintro e w10 ⟨v10, rfl, hv10, ht10, hk10⟩
            rw [HAGAIN.out] at hv10
            obtain ⟨a10, c10, rfl⟩ := own_shape hv10
            have HT10 := Lib.hid ht10
            clear hv10 ht10 hk10
            go_wp2_with fail
            go_roundw
            case rel => exact ⟨i + 1, n, td + 1, _, by go_num, by omega, HT10.out, Nat.le_trans (tot_fire_le _ _ _) HL7.out.2.2, fun j hj => by rw [listW_fire (HTW.out.ok.fire _ _), HL7.out.1 j hj]; rfl, fun y hy => by
                rw [listW_fire (HTW.out.ok.fire _ _)] at hy
                exact HL7.out.2.1 y ((strikeW_sub _ _ _).subset hy), by go_num, by
                have h1 := HNOW.out
                have h2 : countW (fireL x.kind x.path (fireL x.kind x.path L)) 1 ≤ countW (fireL x.kind x.path L) 1 := by
                  unfold countW; rw [listW_fire (HTW.out.ok.fire _ _)]; exact (strikeW_sub _ _ _).length_le
                omega⟩
            case measure => simp [Go.RowKit.intOf]; omega
    · have hle : td ≤ had := by omega
      go_wp2_with fail
      go_ret
      exact ⟨rfl, HTW.out.kept⟩
end Go.Proofs.Ytjpoebajljbocaa
