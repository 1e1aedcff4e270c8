/- texts of the law; calls of a log on a disk that is not armed. -/
import Derived.Test.YtmfngbgdmlnlcaaJtb
import Derived.BigQuiet
namespace Go.Proofs.Ytmfngbgdmlnlcaa
open Go.ChangeShapes Go.WideShapes Go.ChangeAt Go.RowKit
set_option linter.unusedVariables false
set_option linter.unusedSimpArgs false
theorem TsAt.at_ {w : World} {ok : Nat → Prop} {a : Option Addr} {n cap : Nat} {l : List ByteArray} (h : TsAt w ok (.slice a n cap) l) {i : Nat} (hi : i < l.length) : n = l.length ∧ ∃ g off, a = some ⟨g, off, none⟩ ∧ ok g ∧ w.cell? ⟨g, off + i, none⟩ = some (.string l[i]) := by
  obtain ⟨a', cap', e, hc⟩ := h.ex
  obtain ⟨rfl, rfl, rfl⟩ : a = a' ∧ n = l.length ∧ cap = cap' := by injection e with e1 e2 e3; exact ⟨e1, e2, e3⟩
  exact ⟨rfl, hc i hi⟩
structure TxRel (w : World) (a b : List ByteArray) (iv : Value) (wr : World) : Prop where
  ex : ∃ k : Nat, k ≤ a.length ∧ iv = .int .i64 k ∧ a.take k = b.take k ∧ ∃ n, wr = w.drewN n
set_option maxRecDepth 100000 in
set_option maxHeartbeats 1000000 in
theorem texts_any {ok ok' : Nat → Prop} {u v : Value} {a b : List ByteArray} {w : World} (h : TsAt w ok u a) (g : TsAt w ok' v b) (ha : a.length ≤ 140737488355328) (hb : b.length ≤ 140737488355328) :
    Calls Try.prog 19 #[u, v] w fun e w' => e = .returned (.bool (decide (a = b))) ∧ ∃ n, w' = w.drewN n := by
  obtain ⟨ua, uc, rfl, hu⟩ := h.ex
  obtain ⟨va, vc, rfl, hv⟩ := g.ex
  have HU := Lib.hid hu
  have HV := Lib.hid hv
  clear h g hu hv
  by_cases hlen : a.length = b.length
  · have hlb : ((a.length : Int) == (b.length : Int)) = true := by simp; omega
    have hln : ((a.length : Int) != (b.length : Int)) = false := by simp; omega
    have HLE := Lib.hid hlen
    clear hlen
    go_enter Try.func19, Try.ntmps19
    go_wp2_with fail
    go_loopw [5] (fun iv wr => TxRel w a b iv wr) (fun iv _ => a.length - (Go.RowKit.intOf iv).toNat)
    case atStart => exact ⟨0, Nat.zero_le _, rfl, rfl, 0, rfl⟩
    case round =>
      obtain ⟨k, hk, rfl, he, n, rfl⟩ := hrel.ex
      clear hrel
      have HE := Lib.hid he
      clear he
      by_cases hlt : k < a.length
      · have hlt2 : k < b.length := by have := HLE.out; omega
        obtain ⟨g1, o1, rfl, _, hc1⟩ := HU.out k hlt
        obtain ⟨g2, o2, rfl, _, hc2⟩ := HV.out k hlt2
        have HT1 : Hid (a.take (k + 1) = a.take k ++ [a[k]]) := Lib.hid (List.take_succ_eq_append_getElem hlt)
        have HT2 : Hid (b.take (k + 1) = b.take k ++ [b[k]]) := Lib.hid (List.take_succ_eq_append_getElem hlt2)
        have HG1 : Hid (∀ x, a[k] = x → a[k]? = some x) := Lib.hid (fun x hx => by rw [List.getElem?_eq_getElem hlt, hx])
        have HG2 : Hid (∀ x, b[k] = x → b[k]? = some x) := Lib.hid (fun x hx => by rw [List.getElem?_eq_getElem hlt2, hx])
        obtain ⟨x, hx⟩ : ∃ x, a[k] = x := ⟨_, rfl⟩
        obtain ⟨y, hy⟩ : ∃ y, b[k] = y := ⟨_, rfl⟩
        have HX := Lib.hid (HG1.out x hx)
        have HY := Lib.hid (HG2.out y hy)
        rw [hx] at hc1 HT1
        rw [hy] at hc2 HT2
        have hd1 : (w.drewN n).cell? ⟨g1, o1 + k, none⟩ = some (.string x) := hc1
        have hd2 : (w.drewN n).cell? ⟨g2, o2 + k, none⟩ = some (.string y) := hc2
        clear hx hy HG1 HG2
        by_cases hxy : x = y
        · have hb1 : (x.toList == y.toList) = true := by rw [hxy]; simp
          have hb2 : (x.toList != y.toList) = false := by rw [hxy]; simp
          have HXY := Lib.hid hxy
          clear hxy
          go_wp2_with fail
          go_quiet (fail)
          go_wp2_with fail
          go_roundw
          case rel => exact ⟨k + 1, by omega, by go_num, by rw [HT1.out, HT2.out, HE.out, HXY.out], _, rfl⟩
          case measure => simp [Go.RowKit.intOf]; omega
        · have hne : ¬ x.toList = y.toList := fun e => hxy (by
            apply ByteArray.ext; apply Array.ext'
            rw [ByteArray.toList_eq, ByteArray.toList_eq] at e; exact e)
          have hb1 : (x.toList == y.toList) = false := by simpa using hne
          have hb2 : (x.toList != y.toList) = true := by simpa using hne
          have HXY := Lib.hid hxy
          clear hxy hne
          go_wp2_with fail
          go_quiet (fail)
          go_wp2_with fail
          go_ret
          refine ⟨ret_bool ?_, n + nq, by first | rfl | rw [World.drewN_drewN]⟩
          symm
          rw [decide_eq_false_iff_not]
          intro e
          have h1 := HX.out
          rw [e, HY.out] at h1
          exact HXY.out (Option.some.inj h1).symm
      · have e1 : a.take k = a := List.take_of_length_le (by omega)
        have e2 : b.take k = b := List.take_of_length_le (by have := HLE.out; omega)
        have HAB : Hid (a = b) := Lib.hid (by rw [← e1, HE.out, e2])
        clear e1 e2
        go_wp2_with fail
        go_ret
        exact ⟨ret_bool (by rw [HAB.out]; simp), _, rfl⟩
  · have hlb : ((a.length : Int) == (b.length : Int)) = false := by simp; omega
    have hln : ((a.length : Int) != (b.length : Int)) = true := by simp; omega
    have HLE : Hid (¬ a = b) := Lib.hid (fun e => hlen (by rw [e]))
    go_enter Try.func19, Try.ntmps19
    go_wp2_with fail
    go_ret
    exact ⟨ret_bool (by symm; rw [decide_eq_false_iff_not]; exact HLE.out), 0, rfl⟩

/-! ### a disk that is not armed -/
structure Calm (d d' : DSt) (g g' : LSt) : Prop where
  good : Good d' g'
  left : d'.left = 0
  n : d'.n = d.n
  c : g'.m.c ≤ g.m.c + 1
  acts : d'.acts ≤ d.acts + 1100000
theorem out_calm {d : DSt} {g : LSt} {r : DSt × Int} {L G : LSt} (h : Out d g r L G) (hl : d.left = 0) (hG : G.m.c ≤ g.m.c + 1) : r.2 = 0 ∧ Calm d r.1 g L := by
  by_cases h2 : r.2 = 2
  · exact absurd hl (h.die h2).1
  · obtain ⟨h0, rfl, hg⟩ := h.ok h2
    exact ⟨h0, hg, h.left hl, h.n, hG, h.acts⟩
theorem calm_same {d : DSt} {g : LSt} (h : Good d g) (hl : d.left = 0) : Calm d d g g := ⟨h, hl, rfl, by omega, by omega⟩
theorem do_calm {d : DSt} {g : LSt} (hf : Fine d g) (hl : d.left = 0) (k n f : Int) (hn : n ≤ 9223372036854775807) (hff : f ≤ 9223372036854775807) (l : List Int) : (doG k n f l g d).1 ≠ 2 ∧ Calm d (doG k n f l g d).2.2 g (doG k n f l g d).2.1 := by
  have hc : g.m.c + 2 < 4294967296 := by have := hf.c; omega
  have hs := calm_same hf.good hl
  have key : ∀ (r : DSt × Int) (L : LSt), r.2 = 0 ∧ Calm d r.1 g L → r.2 ≠ 2 ∧ Calm d r.1 g L := fun r L h => ⟨by rw [h.1]; decide, h.2⟩
  unfold doG
  split
  · split
    · exact ⟨by show (33 : Int) ≠ 2; decide, hs⟩
    · split
      · exact ⟨by show (30 : Int) ≠ 2; decide, hs⟩
      · exact key _ _ (out_calm (append_out hf.good _ (by omega)) hl (by show g.m.c ≤ _; omega))
  · split
    · split
      · exact ⟨by show (0 : Int) ≠ 2; decide, hs⟩
      · exact key _ _ (out_calm (sync_out hf.good hc) hl (Nat.le_refl _))
    · split
      · split
        · exact ⟨by show (32 : Int) ≠ 2; decide, hs⟩
        · split
          · exact ⟨by show (32 : Int) ≠ 2; decide, hs⟩
          · exact key _ _ (out_calm (cut_out hf.good _ hc) hl (Nat.le_refl _))
      · split
        · split
          · exact ⟨by show (33 : Int) ≠ 2; decide, hs⟩
          · rename_i hb
            split
            · exact ⟨by show (30 : Int) ≠ 2; decide, hs⟩
            · exact key _ _ (out_calm (renew_out hf.good _ ((allB_iff _).1 (by simpa using hb)) (by omega) hc) hl (Nat.le_refl _))
        · split
          · split
            · exact ⟨by show (1 : Int) ≠ 2; decide, hs⟩
            · split
              · exact ⟨by show (1 : Int) ≠ 2; decide, hs⟩
              · exact key _ _ (out_calm (mark_out hf.good _ _ (by omega) (by omega) hc) hl (Nat.le_refl _))
          · exact ⟨by show (0 : Int) ≠ 2; decide, hs⟩
end Go.Proofs.Ytmfngbgdmlnlcaa
