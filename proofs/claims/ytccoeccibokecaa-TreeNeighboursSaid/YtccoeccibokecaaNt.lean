/- Two ACLs compared; two nodes. -/
import Derived.Test.YtccoeccibokecaaNs
import Derived.IntWalk
import Derived.Deep.LoopGhost
namespace Go.Proofs.Ytccoeccibokecaa
open Go.ChangeShapes Go.WideShapes Go.ChangeAt Go.RowKit Go.Maps
set_option linter.unusedVariables false
set_option linter.unusedSimpArgs false
deriving instance DecidableEq for AR
deriving instance DecidableEq for St
def intOf : Value → Int
  | .int _ n => n
  | _ => 0
structure RowsA (w : World) (v : Value) (l : List AR) : Prop where
  ex : ∃ a cap, v = .slice a l.length cap ∧ ∀ i (h : i < l.length), ∃ g off, a = some ⟨g, off, none⟩ ∧ g < w.heap.size ∧
    w.cell? ⟨g, off + i * 2, none⟩ = some (.int .i64 l[i].perms) ∧ w.cell? ⟨g, off + i * 2 + 1, none⟩ = some (.string l[i].id)
  room : l.length ≤ 9223372036854775807
theorem aclC_at : ∀ (l : List AR) (i : Nat) (h : i < l.length), (aclC l)[i * 2]? = some (.int .i64 l[i].perms) ∧ (aclC l)[i * 2 + 1]? = some (.string l[i].id)
  | [], i, h => absurd h (by simp)
  | a :: l, 0, h => ⟨rfl, rfl⟩
  | a :: l, i + 1, h => by
    have := aclC_at l i (by simpa using h)
    have e : aclC (a :: l) = .int .i64 a.perms :: .string a.id :: aclC l := rfl
    rw [e, show (i + 1) * 2 = i * 2 + 1 + 1 by omega]
    simpa using this
theorem AclAt.rows {w : World} {Z : Nat → Prop} {v : Value} {l : List AR} (h : AclAt w Z v l) : RowsA w v l := by
  rcases h.1.2 with ⟨hv, h0⟩ | ⟨g, cap, cur, hv, hb, hh, h1, h2, h3⟩
  · exact ⟨⟨none, 0, by rw [hv, h0], fun i h => absurd h (by omega)⟩, by omega⟩
  · refine ⟨⟨some ⟨g, 0, none⟩, cap, hv, fun i hi => ⟨g, 0, rfl, lt_of_block hh, ?_, ?_⟩⟩, by unfold maxLen at h2; omega⟩
    · exact h.1.cells (g := g) (by rw [hv]; rfl) (i * 2) _ (aclC_at l i hi).1 |> fun e => by
        rw [show (⟨g, 0, none⟩ : Addr).add (i * 2) = ⟨g, i * 2, none⟩ by cases i <;> simp [Addr.add]] at e
        rw [Nat.zero_add]; exact e
    · exact h.1.cells (g := g) (by rw [hv]; rfl) (i * 2 + 1) _ (aclC_at l i hi).2 |> fun e => by
        rw [show (⟨g, 0, none⟩ : Addr).add (i * 2 + 1) = ⟨g, i * 2 + 1, none⟩ by simp [Addr.add]] at e
        rw [Nat.zero_add]; exact e
structure EqRel (w : World) (l1 l2 : List AR) (iv : Value) (wr : World) : Prop where
  ex : ∃ k n : Nat, k ≤ l1.length ∧ iv = .int .i64 k ∧ wr = w.drewN n ∧ l1.take k = l2.take k
theorem RowsA.at_ {w : World} {a : Option Addr} {n cap : Nat} {l : List AR} (h : RowsA w (.slice a n cap) l) {i : Nat} (hi : i < l.length) {r : AR} (hr : l[i] = r) : ∃ g off, a = some ⟨g, off, none⟩ ∧ g < w.heap.size ∧
    w.cell? ⟨g, off + i * 2, none⟩ = some (.int .i64 r.perms) ∧ w.cell? ⟨g, off + i * 2 + 1, none⟩ = some (.string r.id) := by
  obtain ⟨a', cap', hv, hc⟩ := h.ex
  injection hv with h1 h2 h3
  subst h1 hr
  exact hc i hi
set_option maxRecDepth 100000 in
set_option maxHeartbeats 2000000 in
theorem acleq_any {w : World} {v1 v2 : Value} {l1 l2 : List AR} (h1 : RowsA w v1 l1) (h2 : RowsA w v2 l2) :
    Calls Try.prog 59 #[v1, v2] w fun e w' => e = .returned (.bool (decide (l1 = l2))) ∧ ∃ n, w' = w.drewN n := by
  have H1 := Lib.hid h1
  have H2 := Lib.hid h2
  have hr1 := h1.room
  have hr2 := h2.room
  obtain ⟨a, cap, rfl, _⟩ := h1.ex
  obtain ⟨b, bcap, rfl, _⟩ := h2.ex
  clear h1 h2
  by_cases hl : l1.length = l2.length
  · have HL := Lib.hid hl
    rw [← hl]
    clear hl
    go_enter Try.func59, Try.ntmps59
    go_wp2
    go_loopw [13, 5] (fun iv _ wr => EqRel w l1 l2 iv wr) (fun iv _ _ => l1.length - (intOf iv).toNat)
    case atStart => exact ⟨0, 0, Nat.zero_le _, rfl, rfl, rfl⟩
    case round =>
      obtain ⟨k, n, hk, rfl, rfl, heq⟩ := hrel.ex
      clear hrel
      have HEQ := Lib.hid heq; clear heq
      by_cases hlt : k < l1.length
      · obtain ⟨r, hr⟩ : ∃ r, l1[k] = r := ⟨_, rfl⟩
        have hlt2 : k < l2.length := by rw [← HL.out]; exact hlt
        obtain ⟨s, hs⟩ : ∃ s, l2[k] = s := ⟨_, rfl⟩
        have HR := Lib.hid hr
        have HS := Lib.hid hs
        obtain ⟨g, off, rfl, hg, hc1, hc2⟩ := H1.out.at_ hlt hr
        obtain ⟨g2, off2, rfl, hg2, hc3, hc4⟩ := H2.out.at_ hlt2 hs
        clear hr hs
        have hw1 : IntKind.i64.wrap (↑k + 1) = ↑k + 1 := IntWalk.i64_in _ (by omega)
        have HRS : Hid (∀ (h1 : r.perms = s.perms) (h2 : r.id.toList = s.id.toList), r = s) := Lib.hid (fun h1 h2 => by
          rw [Lib.toList_data, Lib.toList_data] at h2
          have h3 := ba_inj h2
          cases r; cases s; simp_all)
        have HNE : Hid (r ≠ s → decide (l1 = l2) = false) := Lib.hid (fun e => by
          simp only [decide_eq_false_iff_not]
          intro h; subst h; exact e (HR.out.symm.trans HS.out))
        have HNX : Hid (r = s → l1.take (k + 1) = l2.take (k + 1)) := Lib.hid (fun e => by
          rw [List.take_succ_eq_append_getElem hlt, List.take_succ_eq_append_getElem hlt2, HEQ.out, HR.out, HS.out, e])
        by_cases hp : r.perms = s.perms
        · by_cases hq : r.id.toList = s.id.toList
          · have HRE := Lib.hid (HNX.out (HRS.out hp hq))
            go_wp2
            go_region
            all_goals go_wp2
            all_goals go_roundw
            case rel => exact ⟨k + 1, _, hlt, by push_cast; rfl, rfl, HRE.out⟩
            case measure => simp only [intOf]; omega
          · have HRE := Lib.hid (HNE.out (fun e => hq (by rw [e])))
            go_wp2
            go_region
            all_goals go_wp2
            all_goals go_ret
            all_goals exact ⟨ret_bool HRE.out.symm, _, rfl⟩
        · have HRE := Lib.hid (HNE.out (fun e => hp (by rw [e])))
          go_wp2
          go_region
          all_goals go_wp2
          all_goals go_ret
          all_goals exact ⟨ret_bool HRE.out.symm, _, rfl⟩
      · go_wp2
        go_ret
        refine ⟨ret_bool ?_, _, rfl⟩
        have he := HEQ.out
        rw [List.take_of_length_le (by omega), List.take_of_length_le (by have := HL.out; omega)] at he
        simp [he]
  · go_enter Try.func59, Try.ntmps59
    have b1 : ((l1.length : Int) != (l2.length : Int)) = true := by simp; omega
    have HN : Hid (decide (l1 = l2) = false) := Lib.hid (by simp; intro e; exact hl (by rw [e]))
    clear hl
    go_wp2
    go_ret
    exact ⟨ret_bool HN.out.symm, 0, rfl⟩
end Go.Proofs.Ytccoeccibokecaa
