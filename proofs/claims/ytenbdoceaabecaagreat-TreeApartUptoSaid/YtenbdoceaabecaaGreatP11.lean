/- The law's Events: two rows of events compared. The law's pick; the plain answers of awake. The law's awake. -/
import Derived.Test.YtenbdoceaabecaaGreatP10
import Derived.IntWalk
namespace Go.Proofs.YtenbdoceaabecaaGreat
open Go.ChangeShapes Go.WideShapes Go.ChangeAt Go.RowKit Go.Maps
set_option linter.unusedVariables false
set_option linter.unusedSimpArgs false
deriving instance DecidableEq for Ev
structure RowsE (w : World) (v : Value) (l : List Ev) : Prop where
  ex : ∃ a cap, v = .slice a l.length cap ∧ ∀ i (h : i < l.length), ∃ g off, a = some ⟨g, off, none⟩ ∧ g < w.heap.size ∧
    w.cell? ⟨g, off + i * 3, none⟩ = some (.int .i64 l[i].kind) ∧ w.cell? ⟨g, off + i * 3 + 1, none⟩ = some (.string l[i].path) ∧ w.cell? ⟨g, off + i * 3 + 2, none⟩ = some (.int .i64 l[i].zx)
  room : l.length ≤ 9223372036854775807
theorem evsC_at : ∀ (l : List Ev) (i : Nat) (h : i < l.length), (evsC l)[i * 3]? = some (.int .i64 l[i].kind) ∧ (evsC l)[i * 3 + 1]? = some (.string l[i].path) ∧ (evsC l)[i * 3 + 2]? = some (.int .i64 l[i].zx)
  | [], i, h => absurd h (by simp)
  | a :: l, 0, h => ⟨rfl, rfl, rfl⟩
  | a :: l, i + 1, h => by
    have := evsC_at l i (by simpa using h)
    have e : evsC (a :: l) = .int .i64 a.kind :: .string a.path :: .int .i64 a.zx :: evsC l := rfl
    rw [e, show (i + 1) * 3 = i * 3 + 1 + 1 + 1 by omega]
    simpa using this
theorem EvsAt.rows {B : Nat} {w : World} {v : Value} {l : List Ev} (h : EvsAt B w v l) : RowsE w v l := by
  rcases h.2 with ⟨hv, h0⟩ | ⟨g, cap, cur, hv, hb, hh, h1, h2, h3⟩
  · exact ⟨⟨none, 0, by rw [hv, h0], fun i h => absurd h (by omega)⟩, by omega⟩
  · have hc : ∀ j u, (evsC l)[j]? = some u → w.cell? ⟨g, j, none⟩ = some u := fun j u hj => by
      have e := World.ownsRow.cells h (g := g) (by rw [hv]; rfl) j u hj
      rwa [show (⟨g, 0, none⟩ : Addr).add j = ⟨g, j, none⟩ by cases j <;> simp [Addr.add]] at e
    refine ⟨⟨some ⟨g, 0, none⟩, cap, hv, fun i hi => ⟨g, 0, rfl, lt_of_block hh, ?_, ?_, ?_⟩⟩, by unfold maxLen at h2; omega⟩
    · rw [Nat.zero_add]; exact hc _ _ (evsC_at l i hi).1
    · rw [Nat.zero_add]; exact hc _ _ (evsC_at l i hi).2.1
    · rw [Nat.zero_add]; exact hc _ _ (evsC_at l i hi).2.2
structure EqRelE (w : World) (l1 l2 : List Ev) (iv : Value) (wr : World) : Prop where
  ex : ∃ k n : Nat, k ≤ l1.length ∧ iv = .int .i64 k ∧ wr = w.drewN n ∧ l1.take k = l2.take k
theorem RowsE.at_ {w : World} {a : Option Addr} {n cap : Nat} {l : List Ev} (h : RowsE w (.slice a n cap) l) {i : Nat} (hi : i < l.length) {r : Ev} (hr : l[i] = r) : ∃ g off, a = some ⟨g, off, none⟩ ∧ g < w.heap.size ∧
    w.cell? ⟨g, off + i * 3, none⟩ = some (.int .i64 r.kind) ∧ w.cell? ⟨g, off + i * 3 + 1, none⟩ = some (.string r.path) ∧ w.cell? ⟨g, off + i * 3 + 2, none⟩ = some (.int .i64 r.zx) := by
  obtain ⟨a', cap', hv, hc⟩ := h.ex
  injection hv with h1 h2 h3
  subst h1 hr
  exact hc i hi
set_option maxRecDepth 100000 in
set_option maxHeartbeats 2000000 in
theorem events_any {w : World} {v1 v2 : Value} {l1 l2 : List Ev} (h1 : RowsE w v1 l1) (h2 : RowsE w v2 l2) :
    Calls Tryz.prog 31 #[v1, v2] w fun e w' => e = .returned (.bool (decide (l1 = l2))) ∧ ∃ n, w' = w.drewN n := by
  have H1 := Lib.hid h1
  have H2 := Lib.hid h2
  have hr1 := h1.room
  have hr2 := h2.room
  obtain ⟨a, cap, rfl, _⟩ := h1.ex
  obtain ⟨b, bcap, rfl, _⟩ := h2.ex
  clear h1 h2
  by_cases hl : l1.length = l2.length
  · have HL := Lib.hid hl
    rw [← hl]
    clear hl
    go_enter Tryz.func31, Tryz.ntmps31
    go_wp2
    go_loopw [5] (fun iv wr => EqRelE w l1 l2 iv wr) (fun iv _ => l1.length - (intOf iv).toNat)
    case atStart => exact ⟨0, 0, Nat.zero_le _, rfl, rfl, rfl⟩
    case round =>
      obtain ⟨k, n, hk, rfl, rfl, heq⟩ := hrel.ex
      clear hrel
      have HEQ := Lib.hid heq; clear heq
      by_cases hlt : k < l1.length
      · obtain ⟨r, hr⟩ : ∃ r, l1[k] = r := ⟨_, rfl⟩
        have hlt2 : k < l2.length := by rw [← HL.out]; exact hlt
        obtain ⟨s, hs⟩ : ∃ s, l2[k] = s := ⟨_, rfl⟩
        have HR := Lib.hid hr
        have HS := Lib.hid hs
        obtain ⟨g, off, rfl, hg, hc1, hc2, hc5⟩ := H1.out.at_ hlt hr
        obtain ⟨g2, off2, rfl, hg2, hc3, hc4, hc6⟩ := H2.out.at_ hlt2 hs
        clear hr hs
        have hw1 : IntKind.i64.wrap (↑k + 1) = ↑k + 1 := IntWalk.i64_in _ (by omega)
        have HRS : Hid (∀ (h1 : r.kind = s.kind) (h2 : r.path.toList = s.path.toList) (h9 : r.zx = s.zx), r = s) := Lib.hid (fun h1 h2 h9 => by
          rw [Lib.toList_data, Lib.toList_data] at h2
          have h3 := ba_inj h2
          cases r; cases s; simp_all)
        have HNE : Hid (r ≠ s → decide (l1 = l2) = false) := Lib.hid (fun e => by
          simp only [decide_eq_false_iff_not]
          intro h; subst h; exact e (HR.out.symm.trans HS.out))
        have HNX : Hid (r = s → l1.take (k + 1) = l2.take (k + 1)) := Lib.hid (fun e => by
          rw [List.take_succ_eq_append_getElem hlt, List.take_succ_eq_append_getElem hlt2, HEQ.out, HR.out, HS.out, e])
        by_cases hp : r.kind = s.kind
        · by_cases hq : r.path.toList = s.path.toList
          · by_cases hz : r.zx = s.zx
            · have HRE := Lib.hid (HNX.out (HRS.out hp hq hz))
              go_wp2
              go_region
              all_goals go_wp2
              all_goals go_roundw
              case rel => exact ⟨k + 1, _, hlt, by push_cast; rfl, rfl, HRE.out⟩
              case measure => simp only [intOf]; omega
            · have HRE := Lib.hid (HNE.out (fun e => hz (by rw [e])))
              go_wp2
              go_region
              all_goals go_wp2
              all_goals go_ret
              all_goals exact ⟨ret_bool HRE.out.symm, _, rfl⟩
          · have HRE := Lib.hid (HNE.out (fun e => hq (by rw [e])))
            go_wp2
            go_region
            all_goals go_wp2
            all_goals go_ret
            all_goals exact ⟨ret_bool HRE.out.symm, _, rfl⟩
        · have HRE := Lib.hid (HNE.out (fun e => hp (by rw [e])))
          go_wp2
          go_region
          all_goals go_wp2
          all_goals go_ret
          all_goals exact ⟨ret_bool HRE.out.symm, _, rfl⟩
      · go_wp2
        go_ret
        refine ⟨ret_bool ?_, _, rfl⟩
        have he := HEQ.out
        rw [List.take_of_length_le (by omega), List.take_of_length_le (by have := HL.out; omega)] at he
        simp [he]
  · go_enter Tryz.func31, Tryz.ntmps31
    have b1 : ((l1.length : Int) != (l2.length : Int)) = true := by simp; omega
    have HN : Hid (decide (l1 = l2) = false) := Lib.hid (by simp; intro e; exact hl (by rw [e]))
    clear hl
    go_wp2
    go_ret
    exact ⟨ret_bool HN.out.symm, 0, rfl⟩
end Go.Proofs.YtenbdoceaabecaaGreat

namespace Go.Proofs.YtenbdoceaabecaaGreat
open Go.ChangeShapes Go.WideShapes Go.ChangeAt Go.RowKit Go.Maps
set_option linter.unusedVariables false
set_option linter.unusedSimpArgs false
def absN (f : Int) : Nat := (if f < 0 then -(f + 1) else f).toNat
theorem tpick_any (c n : Int) (w : World) (h1 : -9223372036854775808 ≤ c) (h2 : c ≤ 9223372036854775807) (hn : 0 < n) (hn2 : n ≤ 9223372036854775807) :
    Calls Tryz.prog 69 #[.int .i64 c, .int .i64 n] w fun e w' => e = .returned (.int .i64 ((absN c : Int) % n)) ∧ w = w' := by
  by_cases hc : c < 0
  · have HF : Hid (-(c + 1).tmod n = (absN c : Int) % n) := Lib.hid (by
      rw [← Int.neg_tmod, Int.tmod_eq_emod_of_nonneg (by omega)]
      unfold absN; rw [if_pos hc]; congr 1; omega)
    have hp : 0 ≤ -(c + 1) := by omega
    go_enter Tryz.func69, Tryz.ntmps69
    go_wp2
    go_ret
    exact ⟨ret_int HF.out, rfl⟩
  · have HF : Hid ((c % n) = (absN c : Int) % n) := Lib.hid (by unfold absN; rw [if_neg hc]; congr 1; omega)
    have hp : 0 ≤ c := by omega
    go_enter Tryz.func69, Tryz.ntmps69
    go_wp2
    go_ret
    exact ⟨ret_int HF.out, rfl⟩
theorem tpick_nat (c : Int) (n : Nat) (w : World) (h1 : -9223372036854775808 ≤ c) (h2 : c ≤ 9223372036854775807) (hn : 0 < n) (hn2 : n ≤ 1000000) {x : Nat} (hx : absN c % n = x) :
    Calls Tryz.prog 69 #[.int .i64 c, .int .i64 n] w fun e w' => e = .returned (.int .i64 x) ∧ w = w' := by
  have := tpick_any c n w h1 h2 (by omega) (by omega)
  rw [show (absN c : Int) % (n : Int) = (x : Int) by rw [← hx]; omega] at this
  exact this


/-! ### awake, plainly -/
def pa : ByteArray := ⟨#[47, 97]⟩
def pbc : ByteArray := ⟨#[47, 98, 47, 99]⟩
def aw1 : T1 := ⟨1, pa, ⟨#[120]⟩, [], 0, 1⟩
def aw2 : T1 := ⟨1, pbc, ⟨#[]⟩, [], 0, 1⟩
theorem ok_slash : okP slashS = true := by
  have h : checkS slashS = 0 := by decide
  unfold okP; rw [h]; rfl
theorem may_pa : mayCome pa = true := by
  have h : checkS pa = 0 := by decide
  unfold mayCome okP; rw [h]; decide
theorem may_pbc : mayCome pbc = true := by
  have h : checkS pbc = 0 := by decide
  unfold mayCome okP; rw [h]; decide
theorem par_pa : parS pa = slashS := by decide
theorem par_pbc : parS pbc = ⟨#[47, 98]⟩ := by decide
def aN1 : Nd := ⟨⟨#[120]⟩, [], ⟨5, 5, 5, 0, 0, 0, 0⟩⟩
def aRoot : Nd := ⟨⟨#[]⟩, [⟨31, worldB⟩], ⟨0, 0, 5, 0, 1, 0, 0⟩⟩
def awM : TM := { N := updN (updN newM.N slashS.data.toList (some aRoot)) pa.data.toList (some aN1), S := fun _ => none, z := 5 }
theorem new_root : newM.N slashS.data.toList = some ⟨⟨#[]⟩, [⟨31, worldB⟩], ⟨0, 0, 0, 0, 0, 0, 0⟩⟩ := by
  simp [newM, layM, ok_slash, updN]
theorem new_other {k : List UInt8} (h : k ≠ [47]) : newM.N k = none := by
  unfold newM layM; rw [if_pos ok_slash]; exact updN_other noM.N _ _ h
theorem aw_first : { (partM newM aw1 5).1 with z := 5 } = awM ∧ (partM newM aw1 5).2 = [⟨1, pa, 5⟩, ⟨4, slashS, 5⟩] := by
  have hk : kidsOf newM slashS 1 5 = { newM with N := updN newM.N slashS.data.toList (some aRoot) } := by
    unfold kidsOf; rw [new_root]; rfl
  have hh : hasN newM slashS = true := by unfold hasN; rw [new_root]; rfl
  have hpa : hasN ({ newM with N := updN newM.N slashS.data.toList (some aRoot) } : TM) pa = false := by
    unfold hasN
    show (updN newM.N slashS.data.toList (some aRoot) pa.data.toList).isSome = false
    rw [updN_other _ _ _ (by decide), new_other (by decide)]; rfl
  have hok : okP pa = true := by
    have h := may_pa
    unfold mayCome at h
    simp only [Bool.and_eq_true] at h; exact h.2
  have hc : createM newM aw1 5 = (layM { newM with N := updN newM.N slashS.data.toList (some aRoot) } pa ⟨#[120]⟩ [] ⟨5, 5, 5, 0, 0, 0, 0⟩, [⟨1, pa, 5⟩, ⟨4, slashS, 5⟩]) := by
    unfold createM
    simp only [aw1, par_pa]
    rw [if_pos ⟨may_pa, hh⟩, hk, hpa]; rfl
  unfold partM
  rw [if_pos (show aw1.kind = 1 from rfl), hc]
  refine ⟨?_, rfl⟩
  unfold layM
  rw [if_pos hok]; rfl
theorem aw_second : partM awM aw2 6 = (awM, []) := by
  have hh : hasN awM (parS pbc) = false := by
    unfold hasN
    rw [par_pbc]
    show (updN (updN newM.N slashS.data.toList (some aRoot)) pa.data.toList (some aN1) [47, 98]).isSome = false
    rw [updN_other _ _ _ (by decide), updN_other _ _ _ (by decide), new_other (by decide)]; rfl
  unfold partM
  rw [if_pos (show aw2.kind = 1 from rfl)]
  unfold createM
  rw [if_neg]
  rintro ⟨_, h⟩
  rw [show parS aw2.path = parS pbc from rfl, hh] at h; cases h
end Go.Proofs.YtenbdoceaabecaaGreat

namespace Go.Proofs.YtenbdoceaabecaaGreat
open Go.ChangeShapes Go.WideShapes Go.ChangeAt Go.RowKit Go.Maps
set_option linter.unusedVariables false
set_option linter.unusedSimpArgs false
theorem par_slash : parS slashS ≠ slashS := by decide
theorem aw_kids {l : List ByteArray} (h : Below1 awM slashS l) : l.length = 1 := by
  have hpa : pa ∈ l := (h.mem pa).2 ⟨by
    show (updN (updN newM.N slashS.data.toList (some aRoot)) pa.data.toList (some aN1) pa.data.toList).isSome = true
    rw [updN_same]; rfl, par_pa⟩
  have hall : ∀ x ∈ l, x = pa := fun x hx => by
    obtain ⟨h1, h2⟩ := (h.mem x).1 hx
    by_cases e : x.data.toList = pa.data.toList
    · exact ba_inj e
    · by_cases e2 : x.data.toList = slashS.data.toList
      · exact absurd (ba_inj e2 ▸ h2) par_slash
      · have h3 : (updN (updN newM.N slashS.data.toList (some aRoot)) pa.data.toList (some aN1) x.data.toList).isSome = true := h1
        rw [updN_other _ _ _ e, updN_other _ _ _ e2, new_other e2] at h3; cases h3
  have hn := h.one
  match l, hpa, hall, hn with
  | [a], _, _, _ => rfl
  | a :: b :: r, _, hall, hn =>
    have e1 := hall a (by simp)
    have e2 := hall b (by simp)
    subst e1
    simp [e2] at hn
theorem par_pa2 : parS pa ≠ pa := by decide
theorem par_slash2 : parS slashS ≠ pa := by decide
theorem aw_kids0 {l : List ByteArray} (h : Below1 awM pa l) : l.length = 0 := by
  cases l with
  | nil => rfl
  | cons x l =>
    obtain ⟨h1, h2⟩ := (h.mem x).1 (by simp)
    by_cases e : x.data.toList = pa.data.toList
    · exact absurd (ba_inj e ▸ h2) par_pa2
    · by_cases e2 : x.data.toList = slashS.data.toList
      · exact absurd (ba_inj e2 ▸ h2) par_slash2
      · have h3 : (updN (updN newM.N slashS.data.toList (some aRoot)) pa.data.toList (some aN1) x.data.toList).isSome = true := h1
        rw [updN_other _ _ _ e, updN_other _ _ _ e2, new_other e2] at h3; cases h3
theorem aw_pa : awM.N pa.data.toList = some aN1 := by
  show updN (updN newM.N slashS.data.toList (some aRoot)) pa.data.toList (some aN1) pa.data.toList = some aN1
  rw [updN_same]
theorem Below1.of {M : TM} {S : Int → Option (Int × ByteArray)} {z : Int} {p : ByteArray} {l : List ByteArray} (h : Below1 { N := M.N, S := S, z := z } p l) : Below1 M p l := ⟨h.one, h.mem⟩
theorem aw_root : awM.N slashS.data.toList = some aRoot := by
  show updN (updN newM.N slashS.data.toList (some aRoot)) pa.data.toList (some aN1) slashS.data.toList = some aRoot
  rw [updN_other _ _ _ (by decide), updN_same]
def tx0 : TX := ⟨none, 0, 0, 0, none, 0, 0⟩
theorem txAt0 (q : TB) (w : World) (x : T1) (h : x.acl = []) : TxAt q w x tx0 := ⟨⟨.inl ⟨rfl, h⟩, by rw [h]; decide⟩, fun a e => by cases e⟩
set_option maxRecDepth 100000 in
set_option maxHeartbeats 1000000 in
theorem tawake_any (w : World) : Calls Tryz.prog 7 #[] w (QPost true w) := by
  have HNw := Lib.hid (tnew_any w (B := w.heap.size) (Nat.le_refl _))
  go_enter Tryz.func7, Tryz.ntmps7
  go_wp2_with fail
  refine HNw.out.mono ?_
  rintro e w1 ⟨q, rfl, hT, hk, hq⟩
  have HQ := Lib.hid hq
  have HT1 := Lib.hid hT
  have HK1 := Lib.hid hk
  have HL1 := Lib.hid hT.lt
  clear hT hk hq
  go_wp2_with fail
  refine (apply_one HT1.out aw1 tx0 ⟨5, 0, 0⟩ (txAt0 _ _ _ rfl) (by decide) (by decide) (by decide) (by decide) (by decide) (by decide)).mono ?_
  rintro e w2 ⟨v, rfl, hv, hT, hk⟩
  rw [aw_first.1] at hT
  rw [aw_first.2] at hv
  have HT2 := Lib.hid hT
  have HV2 := Lib.hid hv
  have HK2 : Hid (Kept (fun _ => False) w w2) := Lib.hid (HK1.out.trans' hk (fun k hk e => by have := HQ.out k e; omega))
  have HL2 := Lib.hid hT.lt
  clear hT hv hk
  go_wp2_with fail
  refine (apply_one HT2.out aw2 tx0 ⟨6, 0, 0⟩ (txAt0 _ _ _ rfl) (by decide) (by decide) (by decide) (by decide) (by decide) (by decide)).mono ?_
  rintro e w3 ⟨v3, rfl, hv3, hT, hk⟩
  rw [aw_second] at hT hv3
  have HT3 := Lib.hid hT
  have HV3 := Lib.hid (ownKept HV2.out hk (fun k hk e => by have h1 := own_ge HV2.out hk; have h2 := HL1.out k e; omega))
  have HK3 : Hid (Kept (fun _ => False) w w3) := Lib.hid (HK2.out.trans' hk (fun k hk e => by have := HQ.out k e; omega))
  have HW3 : Hid (∃ a cap, v3 = .slice a 0 cap) := Lib.hid (by
    obtain ⟨a, cap, h, _⟩ := (EvsAt.rows hv3).ex
    exact ⟨a, cap, h⟩)
  clear hT hv3 hk
  obtain ⟨a3, cap3, rfl⟩ := HW3.out
  go_wp2_with fail
  refine (get_any HT3.out pa (by decide) (by decide)).mono ?_
  rintro e w4 ⟨hk4, hcase⟩
  have HG : Hid (e = .returned (.tuple #[.string ⟨#[120]⟩, .agg #[.int .i64 5, .int .i64 5, .int .i64 5, .int .i64 0, .int .i64 0, .int .i64 0, .int .i64 0, .int .i64 1, .int .i64 0], .int .i64 0])) := Lib.hid (by
    rcases hcase with ⟨h1, _⟩ | ⟨nd, l, h1, h2, h3⟩
    · rw [aw_pa] at h1; cases h1
    · rw [aw_pa] at h1; injection h1 with h1; subst h1
      rw [h3, aw_kids0 h2.of]; rfl)
  obtain rfl := HG.out
  have HT4 := Lib.hid (HT3.out.kept0 hk4)
  have HV4 := Lib.hid (ownKept HV3.out hk4 (fun _ _ f => f))
  have HK4 := Lib.hid (HK3.out.trans hk4)
  clear hk4 hcase HG
  go_wp2_with fail
  have hka : Kept (fun _ => False) w4 (w4.alloc (.cells #[.int .i64 5, .int .i64 5, .int .i64 5, .int .i64 0, .int .i64 0, .int .i64 0, .int .i64 0, .int .i64 1, .int .i64 0] 36)) := (Kept.refl _ w4).alloc _
  refine (stat_any (HT4.out.kept0 hka) slashS (by decide) (by decide)).mono ?_
  rintro e w5 ⟨hk5, hcase⟩
  have HG : Hid (e = .returned (.tuple #[.agg #[.int .i64 0, .int .i64 0, .int .i64 5, .int .i64 0, .int .i64 1, .int .i64 0, .int .i64 0, .int .i64 0, .int .i64 1], .bool true])) := Lib.hid (by
    rcases hcase with ⟨h1, _⟩ | ⟨nd, l, h1, h2, h3⟩
    · rw [aw_root] at h1; cases h1
    · rw [aw_root] at h1; injection h1 with h1; subst h1
      rw [h3, aw_kids h2.of]; rfl)
  obtain rfl := HG.out
  have hb5 : BoxS w5 w4.heap.size ⟨5, 5, 5, 0, 0, 0, 0⟩ 1 0 := (hk5.block _ (by simp) (fun f => f)).trans (heap_alloc_new w4 _)
  obtain ⟨b0, b1, b2, b3, b4, b5, b6, b7, b8, bf⟩ := hb5.nine
  have hbl : w4.heap.size < w5.heap.size := lt_of_block hb5
  have HT5 := Lib.hid ((HT4.out.kept0 hka).kept0 hk5)
  have HV5 := Lib.hid (ownKept (ownKept HV4.out hka (fun _ _ f => f)) hk5 (fun _ _ f => f))
  have HK5 := Lib.hid ((HK4.out.trans hka).trans hk5)
  clear hk5 hcase HG hka hb5
  go_wp2_with fail
  have hkb : Kept (fun _ => False) w5 ((w5.alloc (.cells #[.int .i64 0, .int .i64 0, .int .i64 5, .int .i64 0, .int .i64 1, .int .i64 0, .int .i64 0, .int .i64 0, .int .i64 1] 36)).alloc (.cells #[.int .i64 1, .string pa, .int .i64 5, .int .i64 4, .string slashS, .int .i64 5] 75)) := ((Kept.refl _ w5).alloc _).alloc _
  have hrow := (evsAt_new (w := w5.alloc (.cells #[.int .i64 0, .int .i64 0, .int .i64 5, .int .i64 0, .int .i64 1, .int .i64 0, .int .i64 0, .int .i64 0, .int .i64 1] 36)) (B := 0) (l := [⟨1, pa, 5⟩, ⟨4, slashS, 5⟩]) (Nat.zero_le _) two_le).rows
  rw [show (w5.alloc (.cells #[.int .i64 0, .int .i64 0, .int .i64 5, .int .i64 0, .int .i64 1, .int .i64 0, .int .i64 0, .int .i64 0, .int .i64 1] 36)).heap.size = w5.heap.size + 1 by simp] at hrow
  have hv6 := (EvsAt.rows (ownKept HV5.out hkb (fun _ _ f => f) : EvsAt w1.heap.size _ v [⟨1, pa, 5⟩, ⟨4, slashS, 5⟩]))
  refine (events_any hv6 hrow).mono ?_
  rintro e w7 ⟨rfl, n, rfl⟩
  have HKb := Lib.hid (hkb.drewN n)
  have HZX := Lib.hid (zxid_any (HT5.out.kept0 HKb.out))
  clear hrow hv6 hkb
  rw [decide_eq_true rfl]
  go_wp2_with fail
  refine HZX.out.mono ?_
  rintro e w8 ⟨rfl, rfl⟩
  go_wp2_with fail
  go_ret
  exact ⟨rfl, HK5.out.trans HKb.out⟩
end Go.Proofs.YtenbdoceaabecaaGreat
