/- The law's Events: two rows of events compared. The law's pick; the plain answers of awake. -/
import Derived.Test.YtjlffmkiiphfcaaP18
import Derived.IntWalk
namespace Go.Proofs.Ytjlffmkiiphfcaa
open Go.ChangeShapes Go.WideShapes Go.ChangeAt Go.RowKit Go.Maps
set_option linter.unusedVariables false
set_option linter.unusedSimpArgs false
deriving instance DecidableEq for Ev
structure RowsE (w : World) (v : Value) (l : List Ev) : Prop where
  ex : ∃ a cap, v = .slice a l.length cap ∧ ∀ i (h : i < l.length), ∃ g off, a = some ⟨g, off, none⟩ ∧ g < w.heap.size ∧
    w.cell? ⟨g, off + i * 3, none⟩ = some (.int .i64 l[i].kind) ∧ w.cell? ⟨g, off + i * 3 + 1, none⟩ = some (.string l[i].path) ∧ w.cell? ⟨g, off + i * 3 + 2, none⟩ = some (.int .i64 l[i].zx)
  room : l.length ≤ 9223372036854775807
theorem evsC_at : ∀ (l : List Ev) (i : Nat) (h : i < l.length), (evsC l)[i * 3]? = some (.int .i64 l[i].kind) ∧ (evsC l)[i * 3 + 1]? = some (.string l[i].path) ∧ (evsC l)[i * 3 + 2]? = some (.int .i64 l[i].zx)
  | [], i, h => absurd h (by simp)
  | a :: l, 0, h => ⟨rfl, rfl, rfl⟩
  | a :: l, i + 1, h => by
    have := evsC_at l i (by simpa using h)
    have e : evsC (a :: l) = .int .i64 a.kind :: .string a.path :: .int .i64 a.zx :: evsC l := rfl
    rw [e, show (i + 1) * 3 = i * 3 + 1 + 1 + 1 by omega]
    simpa using this
theorem EvsAt.rows {B : Nat} {w : World} {v : Value} {l : List Ev} (h : EvsAt B w v l) : RowsE w v l := by
  rcases h.2 with ⟨hv, h0⟩ | ⟨g, cap, cur, hv, hb, hh, h1, h2, h3⟩
  · exact ⟨⟨none, 0, by rw [hv, h0], fun i h => absurd h (by omega)⟩, by omega⟩
  · have hc : ∀ j u, (evsC l)[j]? = some u → w.cell? ⟨g, j, none⟩ = some u := fun j u hj => by
      have e := World.ownsRow.cells h (g := g) (by rw [hv]; rfl) j u hj
      rwa [show (⟨g, 0, none⟩ : Addr).add j = ⟨g, j, none⟩ by cases j <;> simp [Addr.add]] at e
    refine ⟨⟨some ⟨g, 0, none⟩, cap, hv, fun i hi => ⟨g, 0, rfl, lt_of_block hh, ?_, ?_, ?_⟩⟩, by unfold maxLen at h2; omega⟩
    · rw [Nat.zero_add]; exact hc _ _ (evsC_at l i hi).1
    · rw [Nat.zero_add]; exact hc _ _ (evsC_at l i hi).2.1
    · rw [Nat.zero_add]; exact hc _ _ (evsC_at l i hi).2.2
structure EqRelE (w : World) (l1 l2 : List Ev) (iv : Value) (wr : World) : Prop where
  ex : ∃ k n : Nat, k ≤ l1.length ∧ iv = .int .i64 k ∧ wr = w.drewN n ∧ l1.take k = l2.take k
theorem RowsE.at_ {w : World} {a : Option Addr} {n cap : Nat} {l : List Ev} (h : RowsE w (.slice a n cap) l) {i : Nat} (hi : i < l.length) {r : Ev} (hr : l[i] = r) : ∃ g off, a = some ⟨g, off, none⟩ ∧ g < w.heap.size ∧
    w.cell? ⟨g, off + i * 3, none⟩ = some (.int .i64 r.kind) ∧ w.cell? ⟨g, off + i * 3 + 1, none⟩ = some (.string r.path) ∧ w.cell? ⟨g, off + i * 3 + 2, none⟩ = some (.int .i64 r.zx) := by
  obtain ⟨a', cap', hv, hc⟩ := h.ex
  injection hv with h1 h2 h3
  subst h1 hr
  exact hc i hi
set_option maxRecDepth 100000 in
set_option maxHeartbeats 2000000 in
theorem events_any {w : World} {v1 v2 : Value} {l1 l2 : List Ev} (h1 : RowsE w v1 l1) (h2 : RowsE w v2 l2) :
    Calls Try.prog 35 #[v1, v2] w fun e w' => e = .returned (.bool (decide (l1 = l2))) ∧ ∃ n, w' = w.drewN n := by
  have H1 := Lib.hid h1
  have H2 := Lib.hid h2
  have hr1 := h1.room
  have hr2 := h2.room
  obtain ⟨a, cap, rfl, _⟩ := h1.ex
  obtain ⟨b, bcap, rfl, _⟩ := h2.ex
  clear h1 h2
  by_cases hl : l1.length = l2.length
  · have HL := Lib.hid hl
    rw [← hl]
    clear hl
    go_enter Try.func35, Try.ntmps35
    go_wp2
    go_loopw [5] (fun iv wr => EqRelE w l1 l2 iv wr) (fun iv _ => l1.length - (intOf iv).toNat)
    case atStart => exact ⟨0, 0, Nat.zero_le _, rfl, rfl, rfl⟩
    case round =>
      obtain ⟨k, n, hk, rfl, rfl, heq⟩ := hrel.ex
      clear hrel
      have HEQ := Lib.hid heq; clear heq
      by_cases hlt : k < l1.length
      · obtain ⟨r, hr⟩ : ∃ r, l1[k] = r := ⟨_, rfl⟩
        have hlt2 : k < l2.length := by rw [← HL.out]; exact hlt
        obtain ⟨s, hs⟩ : ∃ s, l2[k] = s := ⟨_, rfl⟩
        have HR := Lib.hid hr
        have HS := Lib.hid hs
        obtain ⟨g, off, rfl, hg, hc1, hc2, hc5⟩ := H1.out.at_ hlt hr
        obtain ⟨g2, off2, rfl, hg2, hc3, hc4, hc6⟩ := H2.out.at_ hlt2 hs
        clear hr hs
        have hw1 : IntKind.i64.wrap (↑k + 1) = ↑k + 1 := IntWalk.i64_in _ (by omega)
        have HRS : Hid (∀ (h1 : r.kind = s.kind) (h2 : r.path.toList = s.path.toList) (h9 : r.zx = s.zx), r = s) := Lib.hid (fun h1 h2 h9 => by
          rw [Lib.toList_data, Lib.toList_data] at h2
          have h3 := ba_inj h2
          cases r; cases s; simp_all)
        have HNE : Hid (r ≠ s → decide (l1 = l2) = false) := Lib.hid (fun e => by
          simp only [decide_eq_false_iff_not]
          intro h; subst h; exact e (HR.out.symm.trans HS.out))
        have HNX : Hid (r = s → l1.take (k + 1) = l2.take (k + 1)) := Lib.hid (fun e => by
          rw [List.take_succ_eq_append_getElem hlt, List.take_succ_eq_append_getElem hlt2, HEQ.out, HR.out, HS.out, e])
        by_cases hp : r.kind = s.kind
        · by_cases hq : r.path.toList = s.path.toList
          · by_cases hz : r.zx = s.zx
            · have HRE := Lib.hid (HNX.out (HRS.out hp hq hz))
              go_wp2
              go_region
              all_goals go_wp2
              all_goals go_roundw
              case rel => exact ⟨k + 1, _, hlt, by push_cast; rfl, rfl, HRE.out⟩
              case measure => simp only [intOf]; omega
            · have HRE := Lib.hid (HNE.out (fun e => hz (by rw [e])))
              go_wp2
              go_region
              all_goals go_wp2
              all_goals go_ret
              all_goals exact ⟨ret_bool HRE.out.symm, _, rfl⟩
          · have HRE := Lib.hid (HNE.out (fun e => hq (by rw [e])))
            go_wp2
            go_region
            all_goals go_wp2
            all_goals go_ret
            all_goals exact ⟨ret_bool HRE.out.symm, _, rfl⟩
        · have HRE := Lib.hid (HNE.out (fun e => hp (by rw [e])))
          go_wp2
          go_region
          all_goals go_wp2
          all_goals go_ret
          all_goals exact ⟨ret_bool HRE.out.symm, _, rfl⟩
      · go_wp2
        go_ret
        refine ⟨ret_bool ?_, _, rfl⟩
        have he := HEQ.out
        rw [List.take_of_length_le (by omega), List.take_of_length_le (by have := HL.out; omega)] at he
        simp [he]
  · go_enter Try.func35, Try.ntmps35
    have b1 : ((l1.length : Int) != (l2.length : Int)) = true := by simp; omega
    have HN : Hid (decide (l1 = l2) = false) := Lib.hid (by simp; intro e; exact hl (by rw [e]))
    clear hl
    go_wp2
    go_ret
    exact ⟨ret_bool HN.out.symm, 0, rfl⟩
end Go.Proofs.Ytjlffmkiiphfcaa

namespace Go.Proofs.Ytjlffmkiiphfcaa
open Go.ChangeShapes Go.WideShapes Go.ChangeAt Go.RowKit Go.Maps
set_option linter.unusedVariables false
set_option linter.unusedSimpArgs false
def absN (f : Int) : Nat := (if f < 0 then -(f + 1) else f).toNat
theorem tpick_any (c n : Int) (w : World) (h1 : -9223372036854775808 ≤ c) (h2 : c ≤ 9223372036854775807) (hn : 0 < n) (hn2 : n ≤ 9223372036854775807) :
    Calls Try.prog 13 #[.int .i64 c, .int .i64 n] w fun e w' => e = .returned (.int .i64 ((absN c : Int) % n)) ∧ w = w' := by
  by_cases hc : c < 0
  · have HF : Hid (-(c + 1).tmod n = (absN c : Int) % n) := Lib.hid (by
      rw [← Int.neg_tmod, Int.tmod_eq_emod_of_nonneg (by omega)]
      unfold absN; rw [if_pos hc]; congr 1; omega)
    have hp : 0 ≤ -(c + 1) := by omega
    go_enter Try.func13, Try.ntmps13
    go_wp2
    go_ret
    exact ⟨ret_int HF.out, rfl⟩
  · have HF : Hid ((c % n) = (absN c : Int) % n) := Lib.hid (by unfold absN; rw [if_neg hc]; congr 1; omega)
    have hp : 0 ≤ c := by omega
    go_enter Try.func13, Try.ntmps13
    go_wp2
    go_ret
    exact ⟨ret_int HF.out, rfl⟩
theorem tpick_nat (c : Int) (n : Nat) (w : World) (h1 : -9223372036854775808 ≤ c) (h2 : c ≤ 9223372036854775807) (hn : 0 < n) (hn2 : n ≤ 1000000) {x : Nat} (hx : absN c % n = x) :
    Calls Try.prog 13 #[.int .i64 c, .int .i64 n] w fun e w' => e = .returned (.int .i64 x) ∧ w = w' := by
  have := tpick_any c n w h1 h2 (by omega) (by omega)
  rw [show (absN c : Int) % (n : Int) = (x : Int) by rw [← hx]; omega] at this
  exact this


/-! ### awake, plainly -/
def pa : ByteArray := ⟨#[47, 97]⟩
def pbc : ByteArray := ⟨#[47, 98, 47, 99]⟩
def aw1 : T1 := ⟨1, pa, ⟨#[120]⟩, [], 0, 1⟩
def aw2 : T1 := ⟨1, pbc, ⟨#[]⟩, [], 0, 1⟩
theorem ok_slash : okP slashS = true := by
  have h : checkS slashS = 0 := by decide
  unfold okP; rw [h]; rfl
theorem may_pa : mayCome pa = true := by
  have h : checkS pa = 0 := by decide
  unfold mayCome okP; rw [h]; decide
theorem may_pbc : mayCome pbc = true := by
  have h : checkS pbc = 0 := by decide
  unfold mayCome okP; rw [h]; decide
theorem par_pa : parS pa = slashS := by decide
theorem par_pbc : parS pbc = ⟨#[47, 98]⟩ := by decide
def aN1 : Nd := ⟨⟨#[120]⟩, [], ⟨5, 5, 5, 0, 0, 0, 0⟩⟩
def aRoot : Nd := ⟨⟨#[]⟩, [⟨31, worldB⟩], ⟨0, 0, 5, 0, 1, 0, 0⟩⟩
def awM : TM := { N := updN (updN newM.N slashS.data.toList (some aRoot)) pa.data.toList (some aN1), S := fun _ => none, z := 5 }
theorem new_root : newM.N slashS.data.toList = some ⟨⟨#[]⟩, [⟨31, worldB⟩], ⟨0, 0, 0, 0, 0, 0, 0⟩⟩ := by
  simp [newM, layM, ok_slash, updN]
theorem new_other {k : List UInt8} (h : k ≠ [47]) : newM.N k = none := by
  unfold newM layM; rw [if_pos ok_slash]; exact updN_other noM.N _ _ h
theorem aw_first : { (partM newM aw1 5).1 with z := 5 } = awM ∧ (partM newM aw1 5).2 = [⟨1, pa, 5⟩, ⟨4, slashS, 5⟩] := by
  have hk : kidsOf newM slashS 1 5 = { newM with N := updN newM.N slashS.data.toList (some aRoot) } := by
    unfold kidsOf; rw [new_root]; rfl
  have hh : hasN newM slashS = true := by unfold hasN; rw [new_root]; rfl
  have hpa : hasN ({ newM with N := updN newM.N slashS.data.toList (some aRoot) } : TM) pa = false := by
    unfold hasN
    show (updN newM.N slashS.data.toList (some aRoot) pa.data.toList).isSome = false
    rw [updN_other _ _ _ (by decide), new_other (by decide)]; rfl
  have hok : okP pa = true := by
    have h := may_pa
    unfold mayCome at h
    simp only [Bool.and_eq_true] at h; exact h.2
  have hc : createM newM aw1 5 = (layM { newM with N := updN newM.N slashS.data.toList (some aRoot) } pa ⟨#[120]⟩ [] ⟨5, 5, 5, 0, 0, 0, 0⟩, [⟨1, pa, 5⟩, ⟨4, slashS, 5⟩]) := by
    unfold createM
    simp only [aw1, par_pa]
    rw [if_pos ⟨may_pa, hh⟩, hk, hpa]; rfl
  unfold partM
  rw [if_pos (show aw1.kind = 1 from rfl), hc]
  refine ⟨?_, rfl⟩
  unfold layM
  rw [if_pos hok]; rfl
theorem aw_second : partM awM aw2 6 = (awM, []) := by
  have hh : hasN awM (parS pbc) = false := by
    unfold hasN
    rw [par_pbc]
    show (updN (updN newM.N slashS.data.toList (some aRoot)) pa.data.toList (some aN1) [47, 98]).isSome = false
    rw [updN_other _ _ _ (by decide), updN_other _ _ _ (by decide), new_other (by decide)]; rfl
  unfold partM
  rw [if_pos (show aw2.kind = 1 from rfl)]
  unfold createM
  rw [if_neg]
  rintro ⟨_, h⟩
  rw [show parS aw2.path = parS pbc from rfl, hh] at h; cases h
end Go.Proofs.Ytjlffmkiiphfcaa
