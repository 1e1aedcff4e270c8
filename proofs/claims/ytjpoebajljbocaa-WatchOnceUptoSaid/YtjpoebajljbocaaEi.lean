/- The law's Told; awake. -/
import Derived.Test.YtjpoebajljbocaaEg
import Derived.IntWalk
namespace Go.Proofs.Ytjpoebajljbocaa
open Go.ChangeShapes Go.WideShapes Go.ChangeAt Go.RowKit Go.Maps
set_option linter.unusedVariables false
set_option linter.unusedSimpArgs false
theorem toC_at : ∀ (l : List To) (i : Nat) (h : i < l.length), (toC l)[i * 4]? = some (.int .i64 l[i].1) ∧ (toC l)[i * 4 + 1]? = some (.int .i64 l[i].2.kind) ∧ (toC l)[i * 4 + 2]? = some (.string l[i].2.path) ∧ (toC l)[i * 4 + 3]? = some (.int .i64 l[i].2.zx)
  | [], i, h => absurd h (by simp)
  | a :: l, 0, h => ⟨rfl, rfl, rfl, rfl⟩
  | a :: l, i + 1, h => by
    have := toC_at l i (by simpa using h)
    have e : toC (a :: l) = .int .i64 a.1 :: .int .i64 a.2.kind :: .string a.2.path :: .int .i64 a.2.zx :: toC l := rfl
    rw [e, show (i + 1) * 4 = i * 4 + 1 + 1 + 1 + 1 by omega]
    simpa using this
/-- one of the told, in memory -/
theorem to_cells {w : World} {B : Nat} {a : Option Addr} {n cap : Nat} {l : List To} (h : ToAt B w (.slice a n cap) l) {i : Nat} (hi : i < l.length) {r : To} (hr : l[i] = r) : ∃ g, a = some ⟨g, 0, none⟩ ∧ B ≤ g ∧ g < w.heap.size ∧
    w.cell? ⟨g, i * 4, none⟩ = some (.int .i64 r.1) ∧ w.cell? ⟨g, i * 4 + 1, none⟩ = some (.int .i64 r.2.kind) ∧ w.cell? ⟨g, i * 4 + 2, none⟩ = some (.string r.2.path) ∧ w.cell? ⟨g, i * 4 + 3, none⟩ = some (.int .i64 r.2.zx) := by
  subst hr
  obtain ⟨a', c', ev, hc⟩ := own_cell h
  injection ev with e1 e2 e3
  subst e1
  obtain ⟨t0, t1, t2, t3⟩ := toC_at l i hi
  obtain ⟨g, h1, h2, h3, h4, _⟩ := hc _ _ t0
  subst h1
  obtain ⟨g1, f1, _, _, k1, _⟩ := hc _ _ t1
  obtain ⟨g2, f2, _, _, k2, _⟩ := hc _ _ t2
  obtain ⟨g3, f3, _, _, k3, _⟩ := hc _ _ t3
  cases f1; cases f2; cases f3
  exact ⟨g, rfl, h2, h3, h4, k1, k2, k3⟩
theorem ba_injW {a b : ByteArray} (h : a.toList = b.toList) : a = b := by
  rw [Lib.toList_data, Lib.toList_data] at h
  exact ByteArray.ext (Array.toList_inj.1 h)
structure TdRel (w : World) (l1 l2 : List To) (iv : Value) (wr : World) : Prop where
  ex : ∃ k n : Nat, k ≤ l1.length ∧ iv = .int .i64 k ∧ wr = w.drewN n ∧ l1.take k = l2.take k
def BoolIff (P : Prop) (w : World) (e : Ending) (w' : World) : Prop := ∃ b : Bool, e = .returned (.bool b) ∧ (b = true ↔ P) ∧ ∃ n, w' = w.drewN n
set_option maxRecDepth 100000 in
set_option maxHeartbeats 2000000 in
theorem told_any {w : World} {B1 B2 : Nat} {v1 v2 : Value} {l1 l2 : List To} (h1 : ToAt B1 w v1 l1) (h2 : ToAt B2 w v2 l2) (hr1 : l1.length ≤ 9223372036854775807) :
    Calls Try.prog 33 #[v1, v2] w (BoolIff (l1 = l2) w) := by
  obtain ⟨a, cap, rfl⟩ := own_shape h1
  obtain ⟨b, bcap, rfl⟩ := own_shape h2
  have H1 := Lib.hid h1
  have H2 := Lib.hid h2
  clear h1 h2
  by_cases hl : l1.length = l2.length
  · have HL := Lib.hid hl
    rw [← hl] at H2 ⊢
    clear hl
    go_enter Try.func33, Try.ntmps33
    go_wp2
    go_loopw [5] (fun iv wr => TdRel w l1 l2 iv wr) (fun iv _ => l1.length - (Go.RowKit.intOf iv).toNat)
    case atStart => exact ⟨0, 0, Nat.zero_le _, rfl, rfl, rfl⟩
    case round =>
      obtain ⟨k, n, hk, rfl, rfl, heq⟩ := hrel.ex
      clear hrel
      have HEQ := Lib.hid heq; clear heq
      by_cases hlt : k < l1.length
      · obtain ⟨r, hr⟩ : ∃ r, l1[k] = r := ⟨_, rfl⟩
        have hlt2 : k < l2.length := by rw [← HL.out]; exact hlt
        obtain ⟨s, hs⟩ : ∃ s, l2[k] = s := ⟨_, rfl⟩
        have HR := Lib.hid hr
        have HS := Lib.hid hs
        obtain ⟨g, rfl, _, hg, hc0, hc1, hc2, hc3⟩ := to_cells H1.out hlt hr
        obtain ⟨g2, rfl, _, hg2, hd0, hd1, hd2, hd3⟩ := to_cells H2.out hlt2 hs
        clear hr hs
        have hw1 : IntKind.i64.wrap (↑k + 1) = ↑k + 1 := IntWalk.i64_in _ (by omega)
        have HRS : Hid (∀ (h0 : r.1 = s.1) (h1 : r.2.kind = s.2.kind) (h2 : r.2.path.toList = s.2.path.toList) (h9 : r.2.zx = s.2.zx), r = s) := Lib.hid (fun h0 h1 h2 h9 => by
          have h3 := ba_injW h2
          obtain ⟨r1, rk, rp, rz⟩ := r
          obtain ⟨s1, sk, sp, sz⟩ := s
          simp_all)
        have HNE : Hid (r ≠ s → ¬ l1 = l2) := Lib.hid (fun e h => by subst h; exact e (HR.out.symm.trans HS.out))
        have HNX : Hid (r = s → l1.take (k + 1) = l2.take (k + 1)) := Lib.hid (fun e => by
          rw [List.take_succ_eq_append_getElem hlt, List.take_succ_eq_append_getElem hlt2, HEQ.out, HR.out, HS.out, e])
        by_cases ht : r.1 = s.1
        · by_cases hp : r.2.kind = s.2.kind
          · by_cases hq : r.2.path.toList = s.2.path.toList
            · by_cases hz : r.2.zx = s.2.zx
              · have HRE := Lib.hid (HNX.out (HRS.out ht hp hq hz))
                go_wp2
                go_region
                all_goals go_wp2
                all_goals go_roundw
                case rel => exact ⟨k + 1, _, hlt, by push_cast; rfl, rfl, HRE.out⟩
                case measure => simp only [Go.RowKit.intOf]; omega
              · have HRE := Lib.hid (HNE.out (fun e => hz (by rw [e])))
                go_wp2
                go_region
                all_goals go_wp2
                all_goals go_ret
                all_goals exact ⟨false, rfl, (by simp [HRE.out]), _, rfl⟩
            · have HRE := Lib.hid (HNE.out (fun e => hq (by rw [e])))
              go_wp2
              go_region
              all_goals go_wp2
              all_goals go_ret
              all_goals exact ⟨false, rfl, (by simp [HRE.out]), _, rfl⟩
          · have HRE := Lib.hid (HNE.out (fun e => hp (by rw [e])))
            go_wp2
            go_region
            all_goals go_wp2
            all_goals go_ret
            all_goals exact ⟨false, rfl, (by simp [HRE.out]), _, rfl⟩
        · have HRE := Lib.hid (HNE.out (fun e => ht (by rw [e])))
          go_wp2
          go_region
          all_goals go_wp2
          all_goals go_ret
          all_goals exact ⟨false, rfl, (by simp [HRE.out]), _, rfl⟩
      · go_wp2
        go_ret
        refine ⟨true, rfl, ?_, _, rfl⟩
        have he := HEQ.out
        rw [List.take_of_length_le (by omega), List.take_of_length_le (by have := HL.out; omega)] at he
        simp [he]
  · go_enter Try.func33, Try.ntmps33
    have b1 : ((l1.length : Int) != (l2.length : Int)) = true := by simp; omega
    have HN : Hid (¬ l1 = l2) := Lib.hid (fun e => hl (by rw [e]))
    clear hl
    go_wp2
    go_ret
    exact ⟨false, rfl, (by simp [HN.out]), 0, rfl⟩
/-! awake -/
def pA : ByteArray := ⟨#[47, 97]⟩
def pB : ByteArray := ⟨#[47, 98]⟩
theorem chk_ab : checkS pA = 0 ∧ checkS pB = 0 := ⟨rfl, rfl⟩
def aw1 : WL := [⟨1, [(1, pA)]⟩]
def aw2 : WL := [⟨1, [(1, pA), (3, pA)]⟩]
def aw3 : WL := [⟨1, [(1, pA), (3, pA)]⟩, ⟨2, [(1, pA)]⟩]
def aw4 : WL := [⟨1, [(1, pA), (3, pA)]⟩, ⟨2, [(1, pA), (2, pB)]⟩]
def aw5 : WL := [⟨1, [(3, pA)]⟩, ⟨2, [(2, pB)]⟩]
def awE : Ev := ⟨3, pA, 4⟩
theorem aw_a : addE checkS [] 1 1 pA = 0 ∧ addW checkS [] 1 1 pA = aw1 := ⟨rfl, rfl⟩
theorem aw_b : addE checkS aw1 1 3 pA = 0 ∧ addW checkS aw1 1 3 pA = aw2 := ⟨rfl, rfl⟩
theorem aw_c : addE checkS aw2 2 1 pA = 0 ∧ addW checkS aw2 2 1 pA = aw3 := ⟨rfl, rfl⟩
theorem aw_d : addE checkS aw3 2 2 pB = 0 ∧ addW checkS aw3 2 2 pB = aw4 := ⟨rfl, rfl⟩
theorem aw_e : toldAll aw4 [awE] = [(1, awE), (2, awE)] ∧ fireAll aw4 [awE] = aw5 := ⟨rfl, rfl⟩
theorem aw_f : countW aw5 1 = 1 ∧ countW aw5 2 = 1 := ⟨rfl, rfl⟩
end Go.Proofs.Ytjpoebajljbocaa
