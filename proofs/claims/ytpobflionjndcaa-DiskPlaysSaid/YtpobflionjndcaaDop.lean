/- A script that came in, opened to its cells. -/
import Derived.Test.YtpobflionjndcaaDz
import Derived.Deep.Slices
import Derived.Deep.Fields
import Derived.SizedLaws
namespace Go.Proofs.Ytpobflionjndcaa
open Go.ChangeShapes Go.WideShapes Go.ChangeAt Go.RowKit
open Go.Maps Go.Sort Go.Shelf Go.Proofs
set_option linter.unusedVariables false
set_option linter.unusedSimpArgs false

section
variable {H : Type} {enc : TypeId × Value → H} {w : World} {base : Nat} {held : Bool}

/-- a struct of one-cell fields, field by field -/
theorem struct_read {spare : Nat → Bool} {P : Program} {t : TypeId} {fs : Array Field} {fuel : Nat} {cs : List Value} {x : DataW H × List MemPlace} (hu : P.underlying t = some (.struct fs)) (hone : Go.Deep.oneCellFields P fs = true) (hC : P.cellsOf t = fs.size)
    (h : DataW.trod enc P w base spare held fuel t cs = some x) :
    ∃ n ds, cs.length = fs.size ∧ x.1 = .agg ds ∧ ∀ (j : Nat) (f : Field), fs[j]? = some f → ∃ v y, cs[j]? = some v ∧ DataW.trod enc P w base spare held n f.type [v] = some y ∧ ds[j]? = some y.1 := by
  obtain ⟨xs, n, _, hxe, hlen, hxl, hf⟩ := DataW.trod_struct hu h
  rw [hC] at hlen
  refine ⟨n, xs.map (·.1), hlen, by rw [hxe], fun j f hj => ?_⟩
  obtain ⟨ho, hk⟩ := Go.Deep.hone_of hone j f hj
  have hjl : j < fs.size := (Array.getElem?_eq_some_iff.1 hj).1
  have h1 := hf j f hj
  rw [ho, hk, List.drop_eq_getElem_cons (by omega)] at h1
  exact ⟨cs[j], xs[j], List.getElem?_eq_getElem (by omega), h1.trans (List.getElem?_eq_getElem (by omega)), by rw [List.getElem?_map, List.getElem?_eq_getElem (by omega)]; rfl⟩

theorem weights_all {P : Program} {e : TypeId} {n : Nat} : ∀ {l : List (DataW H)} {i : Nat} {d : DataW H}, l[i]? = some d → n ∈ d.weights P e → n ∈ DataW.weightsAll P e l
  | [], _, _, hd, _ => by simp at hd
  | d0 :: l, 0, d, hd, hn => by
    simp only [List.getElem?_cons_zero, Option.some.injEq] at hd
    subst hd
    simp only [DataW.weightsAll, List.mem_append]
    exact .inl hn
  | d0 :: l, i + 1, d, hd, hn => by
    simp only [List.getElem?_cons_succ] at hd
    simp only [DataW.weightsAll, List.mem_append]
    exact .inr (weights_all hd hn)

theorem list_of {α : Type} {Q : Nat → α → Prop} : ∀ (n : Nat), (∀ i, i < n → ∃ x, Q i x) → ∃ l : List α, l.length = n ∧ ∀ i (h : i < l.length), Q i l[i]
  | 0, _ => ⟨[], rfl, fun i h => by simp at h⟩
  | n + 1, h => by
    obtain ⟨l, hl, hq⟩ := list_of n (fun i hi => h i (by omega))
    obtain ⟨x, hx⟩ := h n (by omega)
    refine ⟨l ++ [x], by simp [hl], fun i hi => ?_⟩
    by_cases hin : i < l.length
    · rw [List.getElem_append_left hin]; exact hq i hin
    · have : i = n := by simp at hi; omega
      subst this
      rw [List.getElem_append_right (by omega)]
      simpa [hl] using hx

theorem op_of {n : Nat} {cs : List Value} {x : DataW H × List MemPlace} (h : DataW.trod enc Try.prog w base (fun _ => true) held n 33 cs = some x) (hz : ∀ n ∈ x.1.weights Try.prog 33, n ≤ reachBytes) :
    ∃ (o : OpS) (hv : Value), o.Fits ∧ cs = o.cells hv ∧ HowAt w (fun k => k < w.heap.size) hv o.how := by
  obtain ⟨m, dd, hlen, hxd, hf⟩ := struct_read Try.underlying33 (by kernel_rfl) (by kernel_rfl) h
  have hl : cs.length = 6 := hlen
  match cs, hl with
  | [c0, c1, c2, c3, c4, c5], _ =>
    obtain ⟨v0, y0, e0, h0, u0⟩ := hf 0 _ rfl
    obtain ⟨v1, y1, e1, h1, u1⟩ := hf 1 _ rfl
    obtain ⟨v2, y2, e2, h2, u2⟩ := hf 2 _ rfl
    obtain ⟨v3, y3, e3, h3, u3⟩ := hf 3 _ rfl
    obtain ⟨v4, y4, e4, h4, u4⟩ := hf 4 _ rfl
    obtain ⟨v5, y5, e5, h5, u5⟩ := hf 5 _ rfl
    simp at e0 e1 e2 e3 e4 e5
    subst e0 e1 e2 e3 e4 e5
    obtain ⟨k, ek, _, wk⟩ := DataW.trod_int Try.underlying3 h0
    obtain ⟨n1, en, _, wn⟩ := DataW.trod_int Try.underlying3 h1
    obtain ⟨f, ef, _, wf⟩ := DataW.trod_int Try.underlying3 h2
    obtain ⟨s, es, _⟩ := DataW.trod_bool Try.underlying4 h3
    obtain ⟨t, et, _⟩ := DataW.trod_bool Try.underlying4 h4
    simp only [List.cons.injEq, and_true] at ek en ef es et
    subst ek en ef es et
    obtain ⟨a5, l5, c5', rfl, hl5⟩ : ∃ a l c, c5 = Value.slice a l c ∧ l * 8 ≤ reachBytes := by
      rcases Go.Deep.open_slice Try.underlying23 h5 with ⟨hc, _⟩ | ⟨a', len', cap', m, n, D, Pl, hc, _, _, _, _, hx5, _⟩
      · simp only [List.cons.injEq, and_true] at hc
        exact ⟨_, _, _, hc, by decide⟩
      · simp only [List.cons.injEq, and_true] at hc
        refine ⟨_, _, _, hc, ?_⟩
        have hb8 : Try.prog.bytesOf 3 = 8 := by kernel_rfl
        have hw := hz (((List.range len').map D).length * 8 + ((List.range (m - len')).map fun j => D (len' + j)).length * 8) (by
          rw [hxd]
          simp only [DataW.weights, Try.underlying33]
          refine DataW.weights_mem_each (j := 5) rfl u5 _ ?_
          rw [hx5]
          simp only [DataW.weights, Try.underlying23, hb8, Nat.add_mul]
          exact List.mem_cons_self)
        rw [List.length_map, List.length_range] at hw
        omega
    obtain ⟨zs, aa, cap1, e, hh, h1, h2⟩ := ints_of h5
    rw [e]
    have w1 := wn
    have w2 := wf
    simp [Lit.wf, IntKind.min, IntKind.max, IntKind.bits, IntKind.signed] at w1 w2
    refine ⟨⟨k, n1, f, s, t, zs⟩, _, ⟨?_, ?_, ?_, ?_, ?_⟩, rfl, hh⟩
    · show -9223372036854775808 ≤ n1; omega
    · show n1 ≤ 9223372036854775807; omega
    · show -9223372036854775808 ≤ f; omega
    · show f ≤ 9223372036854775807; omega
    · have e2 : l5 = zs.length := by injection e
      show zs.length * 8 ≤ 140737488351232
      rw [← e2]; exact hl5

theorem ops_of {fuel : Nat} {a : Option Addr} {len cap : Nat} {x : DataW H × List MemPlace}
    (h : DataW.trod enc Try.prog w base (fun _ => true) held fuel 22 [.slice a len cap] = some x) (hz : ∀ n ∈ x.1.weights Try.prog 22, n ≤ reachBytes) : ∃ l : List OpS, l.length = len ∧ OpsAt w.heap.size w a l := by
  rcases Go.Deep.open_slice Try.underlying22 h with ⟨hc, _⟩ | ⟨a', len', cap', m, n, D, Pl, hc, hb, hl, hm, hmm, hx, hi⟩
  · simp at hc
    obtain ⟨rfl, rfl, rfl⟩ := hc
    exact ⟨[], rfl, by simp, fun i h => by simp at h, by simp⟩
  · simp at hc
    obtain ⟨rfl, rfl, rfl⟩ := hc
    have e6 : Try.prog.cellsOf 33 = 6 := by kernel_rfl
    simp only [if_true] at hmm
    have key : ∀ i, i < len → ∃ o : OpS, o.Fits ∧ ∃ hv, (∀ j v, (o.cells hv)[j]? = some v → w.cell? ((a'.add (i * 6)).add j) = some v) ∧ HowAt w (fun k => k < w.heap.size) hv o.how := by
      intro i hil
      obtain ⟨cs', hcells, ht⟩ := hi i (by omega)
      obtain ⟨o, hv, hfit, rfl, hh⟩ := op_of ht (fun n hn => hz n (by
        rw [hx]
        simp only [DataW.weights, Try.underlying22]
        exact List.mem_cons_of_mem _ (List.mem_append_left _ (weights_all (l := (List.range len).map D) (i := i) (d := D i) (by simp [hil]) hn))))
      obtain ⟨_, _, hat⟩ := World.cells?_some hcells
      rw [e6] at hat
      refine ⟨o, hfit, hv, fun j v hj => ?_, hh⟩
      have hj6 : j < 6 := (List.getElem?_eq_some_iff.1 hj).1
      rw [hat j (by omega)]; exact hj
    obtain ⟨l, hil, hq⟩ := list_of len key
    have hlb : len ≤ reachBytes := by
      have hb1 : Try.prog.bytesOf 33 = 56 := by kernel_rfl
      have hw := hz (((List.range len).map D).length * 56 + ((List.range (m - len)).map fun j => D (len + j)).length * 56) (by
        rw [hx]
        simp only [DataW.weights, Try.underlying22, hb1, Nat.add_mul]
        exact List.mem_cons_self)
      rw [List.length_map, List.length_range] at hw
      omega
    refine ⟨l, hil, ?_, fun i hi2 => ?_, by rw [hil]; exact hlb⟩
    · intro y hy
      obtain ⟨i, hi2, rfl⟩ := List.getElem_of_mem hy
      exact (hq i hi2).1
    · obtain ⟨b, off, spot⟩ := a'
      obtain ⟨hv, hs, hh⟩ := (hq i hi2).2
      have hspot : spot = none := by
        obtain ⟨hv0, hs0, _⟩ := (hq 0 (by omega)).2
        have h0 := World.cell?_spot (hs0 0 _ rfl)
        simpa [Addr.add] using h0
      subst hspot
      have hadd : ∀ o j, (⟨b, o, none⟩ : Addr).add j = ⟨b, o + j, none⟩ := fun o j => by unfold Addr.add; split <;> simp_all
      simp only [hadd] at hs
      exact ⟨b, off, hv, rfl, World.block_lt_of_cell? w _ (hs 0 _ rfl), hs, hh⟩
end
end Go.Proofs.Ytpobflionjndcaa
