/- A script that came in, opened to its cells. -/
import Derived.Test.YtcjfpddmpiggoaaJta
import Derived.Deep.Slices
import Derived.Deep.Fields
import Derived.SizedLaws
import Derived.OpenShut
import Derived.ChangeOld
import Derived.Deep.Grids
namespace Go.Proofs.Ytcjfpddmpiggoaa
open Go.ChangeShapes Go.WideShapes Go.ChangeAt Go.RowKit
set_option linter.unusedVariables false
set_option linter.unusedSimpArgs false

theorem nums_of {H : Type} {enc : TypeId × Value → H} {W : World} {base fuel : Nat} {held : Bool} {a : Option Addr} {len cap : Nat} {x : DataW H × List MemPlace}
    (h : DataW.trod enc Try.prog W base (fun _ => true) held fuel 40 [.slice a len cap] = some x) : ∃ zs aa cap1, Value.slice a len cap = .slice aa (List.length zs) cap1 ∧ NumAt W (fun k => k < W.heap.size) (.slice aa (List.length zs) cap1) zs ∧ zs.length ≤ cap1 ∧ cap1 ≤ maxLen := by
  rcases open_ints Try.underlying40 Try.underlying3 (by kernel_rfl) h with ⟨hc, _⟩ | ⟨a', len', cap', zs, hc, hb, hl, hm, hz, hx, hi, hwf⟩
  · simp only [List.cons.injEq, Value.slice.injEq, and_true] at hc
    obtain ⟨rfl, rfl, rfl⟩ := hc
    exact ⟨[], Option.none, 0, rfl, ⟨⟨_, _, rfl, fun i h => absurd h (by simp)⟩, fun x hx => absurd hx (by simp)⟩, Nat.le_refl _, Nat.zero_le _⟩
  · simp only [List.cons.injEq, Value.slice.injEq, and_true] at hc
    obtain ⟨rfl, rfl, rfl⟩ := hc
    simp only [if_true] at hz
    have e : (zs.take len).length = len := by rw [List.length_take]; omega
    refine ⟨zs.take len, some a', cap, by rw [e], ⟨⟨_, _, rfl, fun i hi0 => ?_⟩, fun x hx => ?_⟩, by omega, hm⟩
    · have hil : i < len := by omega
      have hcell := hi i (by omega)
      obtain ⟨b, off, spot⟩ := a'
      have hspot : spot = Option.none := by simpa [Addr.add] using World.cell?_spot (hi 0 (by omega))
      subst hspot
      have hadd : (⟨b, off, Option.none⟩ : Addr).add i = ⟨b, off + i, Option.none⟩ := by unfold Addr.add; split <;> simp_all
      rw [hadd] at hcell
      refine ⟨b, off, rfl, World.block_lt_of_cell? W _ hcell, ?_⟩
      rw [hcell, List.getElem_take]
      simp [List.getD, List.getElem?_eq_getElem (show i < zs.length by omega)]
    · have := hwf x (List.mem_of_mem_take hx)
      simp [Lit.wf, IntKind.min, IntKind.max, IntKind.bits, IntKind.signed] at this
      omega

section
variable {H : Type} {enc : TypeId × Value → H} {w : World} {base : Nat} {held : Bool}

/-- a struct of one-cell fields, field by field -/
theorem struct_read {spare : Nat → Bool} {P : Program} {t : TypeId} {fs : Array Field} {fuel : Nat} {cs : List Value} {x : DataW H × List MemPlace} (hu : P.underlying t = some (.struct fs)) (hone : Go.Deep.oneCellFields P fs = true) (hC : P.cellsOf t = fs.size)
    (h : DataW.trod enc P w base spare held fuel t cs = some x) :
    ∃ n ds, cs.length = fs.size ∧ x.1 = .agg ds ∧ ∀ (j : Nat) (f : Field), fs[j]? = some f → ∃ v y, cs[j]? = some v ∧ DataW.trod enc P w base spare held n f.type [v] = some y ∧ ds[j]? = some y.1 := by
  obtain ⟨xs, n, _, hxe, hlen, hxl, hf⟩ := DataW.trod_struct hu h
  rw [hC] at hlen
  refine ⟨n, xs.map (·.1), hlen, by rw [hxe], fun j f hj => ?_⟩
  obtain ⟨ho, hk⟩ := Go.Deep.hone_of hone j f hj
  have hjl : j < fs.size := (Array.getElem?_eq_some_iff.1 hj).1
  have h1 := hf j f hj
  rw [ho, hk, List.drop_eq_getElem_cons (by omega)] at h1
  exact ⟨cs[j], xs[j], List.getElem?_eq_getElem (by omega), h1.trans (List.getElem?_eq_getElem (by omega)), by rw [List.getElem?_map, List.getElem?_eq_getElem (by omega)]; rfl⟩

theorem weights_all {P : Program} {e : TypeId} {n : Nat} : ∀ {l : List (DataW H)} {i : Nat} {d : DataW H}, l[i]? = some d → n ∈ d.weights P e → n ∈ DataW.weightsAll P e l
  | [], _, _, hd, _ => by simp at hd
  | d0 :: l, 0, d, hd, hn => by
    simp only [List.getElem?_cons_zero, Option.some.injEq] at hd
    subst hd
    simp only [DataW.weightsAll, List.mem_append]
    exact .inl hn
  | d0 :: l, i + 1, d, hd, hn => by
    simp only [List.getElem?_cons_succ] at hd
    simp only [DataW.weightsAll, List.mem_append]
    exact .inr (weights_all hd hn)

theorem list_of {α : Type} {Q : Nat → α → Prop} : ∀ (n : Nat), (∀ i, i < n → ∃ x, Q i x) → ∃ l : List α, l.length = n ∧ ∀ i (h : i < l.length), Q i l[i]
  | 0, _ => ⟨[], rfl, fun i h => by simp at h⟩
  | n + 1, h => by
    obtain ⟨l, hl, hq⟩ := list_of n (fun i hi => h i (by omega))
    obtain ⟨x, hx⟩ := h n (by omega)
    refine ⟨l ++ [x], by simp [hl], fun i hi => ?_⟩
    by_cases hin : i < l.length
    · rw [List.getElem_append_left hin]; exact hq i hin
    · have : i = n := by simp at hi; omega
      subst this
      rw [List.getElem_append_right (by omega)]
      simpa [hl] using hx

end

/-- a step of a script -/
structure OpW where
  k : Int
  n : Int
  f : Int
  l : List Int
  how : List Int
def OpW.cells (o : OpW) (lv hv : Value) : List Value := [.int .i64 o.k, .int .i64 o.n, .int .i64 o.f, lv, hv]
structure OpW.Fits (o : OpW) : Prop where
  k : -9223372036854775808 ≤ o.k ∧ o.k ≤ 9223372036854775807
  n : -9223372036854775808 ≤ o.n ∧ o.n ≤ 9223372036854775807
  f : -9223372036854775808 ≤ o.f ∧ o.f ≤ 9223372036854775807
  l : o.l.length * 8 ≤ 140737488351232
  how : o.how.length * 8 ≤ 140737488351232
structure OpsW (B : Nat) (w : World) (a : Option Addr) (l : List OpW) : Prop where
  fits : ∀ o ∈ l, o.Fits
  at_ : ∀ (i : Nat) (h : i < l.length), ∃ g off lv hv, a = some ⟨g, off, none⟩ ∧ g < B ∧ (∀ j v, (l[i].cells lv hv)[j]? = some v → w.cell? ⟨g, off + i * 5 + j, none⟩ = some v) ∧ NumAt w (fun k => k < B) lv l[i].l ∧ NumAt w (fun k => k < B) hv l[i].how
  len : l.length ≤ 140737488351232
theorem OpsW.kept {X : Nat → Prop} {B : Nat} {w w' : World} {a : Option Addr} {l : List OpW} (h : OpsW B w a l) (hk : Kept X w w') (hx : ∀ k, k < B → ¬ X k) : OpsW B w' a l := by
  refine ⟨h.fits, fun i hi => ?_, h.len⟩
  obtain ⟨g, off, lv, hv, ha, hg, hc, h1, h2⟩ := h.at_ i hi
  exact ⟨g, off, lv, hv, ha, hg, fun j v hj => by
    have := hc j v hj
    rw [World.cell?_of_block (w := w) (hk.block g (World.block_lt_of_cell? w _ this) (hx g hg))]; exact this, h1.kept hk hx, h2.kept hk hx⟩

section
variable {H : Type} {enc : TypeId × Value → H} {w : World} {base : Nat} {held : Bool}
theorem opw_of {n : Nat} {cs : List Value} {x : DataW H × List MemPlace} (h : DataW.trod enc Try.prog w base (fun _ => true) held n 42 cs = some x) (hz : ∀ n ∈ x.1.weights Try.prog 42, n ≤ reachBytes) :
    ∃ (o : OpW) (lv hv : Value), o.Fits ∧ cs = o.cells lv hv ∧ NumAt w (fun k => k < w.heap.size) lv o.l ∧ NumAt w (fun k => k < w.heap.size) hv o.how := by
  obtain ⟨m, dd, hlen, hxd, hf⟩ := struct_read Try.underlying42 (by kernel_rfl) (by kernel_rfl) h
  have hl : cs.length = 5 := hlen
  match cs, hl with
  | [c0, c1, c2, c3, c4], _ =>
    obtain ⟨v0, y0, e0, h0, u0⟩ := hf 0 _ rfl
    obtain ⟨v1, y1, e1, h1, u1⟩ := hf 1 _ rfl
    obtain ⟨v2, y2, e2, h2, u2⟩ := hf 2 _ rfl
    obtain ⟨v3, y3, e3, h3, u3⟩ := hf 3 _ rfl
    obtain ⟨v4, y4, e4, h4, u4⟩ := hf 4 _ rfl
    simp at e0 e1 e2 e3 e4
    subst e0 e1 e2 e3 e4
    obtain ⟨k, ek, _, wk⟩ := DataW.trod_int Try.underlying3 h0
    obtain ⟨n1, en, _, wn⟩ := DataW.trod_int Try.underlying3 h1
    obtain ⟨f, ef, _, wf⟩ := DataW.trod_int Try.underlying3 h2
    simp only [List.cons.injEq, and_true] at ek en ef
    subst ek en ef
    obtain ⟨a3, l3, c3', rfl, hl3⟩ : ∃ a l c, c3 = Value.slice a l c ∧ l * 8 ≤ reachBytes := by
      rcases Go.Deep.open_slice Try.underlying40 h3 with ⟨hc, _⟩ | ⟨a', len', cap', m, n, D, Pl, hc, _, _, _, _, hx5, _⟩
      · simp only [List.cons.injEq, and_true] at hc
        exact ⟨_, _, _, hc, by decide⟩
      · simp only [List.cons.injEq, and_true] at hc
        refine ⟨_, _, _, hc, ?_⟩
        have hb8 : Try.prog.bytesOf 3 = 8 := by kernel_rfl
        have hw := hz (((List.range len').map D).length * 8 + ((List.range (m - len')).map fun j => D (len' + j)).length * 8) (by
          rw [hxd]
          simp only [DataW.weights, Try.underlying42]
          refine DataW.weights_mem_each (j := 3) rfl u3 _ ?_
          rw [hx5]
          simp only [DataW.weights, Try.underlying40, hb8, Nat.add_mul]
          exact List.mem_cons_self)
        rw [List.length_map, List.length_range] at hw
        omega
    obtain ⟨zs3, aa3, cap3, e32, hh3, _, _⟩ := nums_of h3
    rw [e32]
    obtain ⟨a4, l4, c4', rfl, hl4⟩ : ∃ a l c, c4 = Value.slice a l c ∧ l * 8 ≤ reachBytes := by
      rcases Go.Deep.open_slice Try.underlying40 h4 with ⟨hc, _⟩ | ⟨a', len', cap', m, n, D, Pl, hc, _, _, _, _, hx5, _⟩
      · simp only [List.cons.injEq, and_true] at hc
        exact ⟨_, _, _, hc, by decide⟩
      · simp only [List.cons.injEq, and_true] at hc
        refine ⟨_, _, _, hc, ?_⟩
        have hb8 : Try.prog.bytesOf 3 = 8 := by kernel_rfl
        have hw := hz (((List.range len').map D).length * 8 + ((List.range (m - len')).map fun j => D (len' + j)).length * 8) (by
          rw [hxd]
          simp only [DataW.weights, Try.underlying42]
          refine DataW.weights_mem_each (j := 4) rfl u4 _ ?_
          rw [hx5]
          simp only [DataW.weights, Try.underlying40, hb8, Nat.add_mul]
          exact List.mem_cons_self)
        rw [List.length_map, List.length_range] at hw
        omega
    obtain ⟨zs4, aa4, cap4, e42, hh4, _, _⟩ := nums_of h4
    rw [e42]
    have w0 := wk
    have w1 := wn
    have w2 := wf
    simp [Lit.wf, IntKind.min, IntKind.max, IntKind.bits, IntKind.signed] at w0 w1 w2
    refine ⟨⟨k, n1, f, zs3, zs4⟩, _, _, ⟨⟨?_, ?_⟩, ⟨?_, ?_⟩, ⟨?_, ?_⟩, ?_, ?_⟩, rfl, hh3, hh4⟩
    · show -9223372036854775808 ≤ k; omega
    · show k ≤ 9223372036854775807; omega
    · show -9223372036854775808 ≤ n1; omega
    · show n1 ≤ 9223372036854775807; omega
    · show -9223372036854775808 ≤ f; omega
    · show f ≤ 9223372036854775807; omega
    · have e9 : l3 = zs3.length := by injection e32
      show zs3.length * 8 ≤ 140737488351232
      rw [← e9]; exact hl3
    · have e9 : l4 = zs4.length := by injection e42
      show zs4.length * 8 ≤ 140737488351232
      rw [← e9]; exact hl4
theorem opsw_of {fuel : Nat} {a : Option Addr} {len cap : Nat} {x : DataW H × List MemPlace}
    (h : DataW.trod enc Try.prog w base (fun _ => true) held fuel 45 [.slice a len cap] = some x) (hz : ∀ n ∈ x.1.weights Try.prog 45, n ≤ reachBytes) : ∃ l : List OpW, l.length = len ∧ OpsW w.heap.size w a l := by
  rcases Go.Deep.open_slice Try.underlying45 h with ⟨hc, _⟩ | ⟨a', len', cap', m, n, D, Pl, hc, hb, hl, hm, hmm, hx, hi⟩
  · simp at hc
    obtain ⟨rfl, rfl, rfl⟩ := hc
    exact ⟨[], rfl, by simp, fun i h => by simp at h, by simp⟩
  · simp at hc
    obtain ⟨rfl, rfl, rfl⟩ := hc
    have e6 : Try.prog.cellsOf 42 = 5 := by kernel_rfl
    simp only [if_true] at hmm
    have key : ∀ i, i < len → ∃ o : OpW, o.Fits ∧ ∃ lv hv, (∀ j v, (o.cells lv hv)[j]? = some v → w.cell? ((a'.add (i * 5)).add j) = some v) ∧ NumAt w (fun k => k < w.heap.size) lv o.l ∧ NumAt w (fun k => k < w.heap.size) hv o.how := by
      intro i hil
      obtain ⟨cs', hcells, ht⟩ := hi i (by omega)
      obtain ⟨o, lv, hv, hfit, rfl, hhl, hh⟩ := opw_of ht (fun n hn => hz n (by
        rw [hx]
        simp only [DataW.weights, Try.underlying45]
        exact List.mem_cons_of_mem _ (List.mem_append_left _ (weights_all (l := (List.range len).map D) (i := i) (d := D i) (by simp [hil]) hn))))
      obtain ⟨_, _, hat⟩ := World.cells?_some hcells
      rw [e6] at hat
      refine ⟨o, hfit, lv, hv, fun j v hj => ?_, hhl, hh⟩
      have hj6 : j < 5 := (List.getElem?_eq_some_iff.1 hj).1
      rw [hat j (by omega)]; exact hj
    obtain ⟨l, hil, hq⟩ := list_of len key
    have hlb : len ≤ reachBytes := by
      have hb1 : Try.prog.bytesOf 42 = 72 := by kernel_rfl
      have hw := hz (((List.range len).map D).length * 72 + ((List.range (m - len)).map fun j => D (len + j)).length * 72) (by
        rw [hx]
        simp only [DataW.weights, Try.underlying45, hb1, Nat.add_mul]
        exact List.mem_cons_self)
      rw [List.length_map, List.length_range] at hw
      omega
    refine ⟨l, hil, ?_, fun i hi2 => ?_, by rw [hil]; exact hlb⟩
    · intro y hy
      obtain ⟨i, hi2, rfl⟩ := List.getElem_of_mem hy
      exact (hq i hi2).1
    · obtain ⟨b, off, spot⟩ := a'
      obtain ⟨lv, hv, hs, hhl, hh⟩ := (hq i hi2).2
      have hspot : spot = none := by
        obtain ⟨lv0, hv0, hs0, _⟩ := (hq 0 (by omega)).2
        have h0 := World.cell?_spot (hs0 0 _ rfl)
        simpa [Addr.add] using h0
      subst hspot
      have hadd : ∀ o j, (⟨b, o, none⟩ : Addr).add j = ⟨b, o + j, none⟩ := fun o j => by unfold Addr.add; split <;> simp_all
      simp only [hadd] at hs
      exact ⟨b, off, lv, hv, rfl, World.block_lt_of_cell? w _ (hs 0 _ rfl), hs, hhl, hh⟩
end
end Go.Proofs.Ytcjfpddmpiggoaa
