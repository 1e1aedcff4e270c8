/- A list of acts that came in, opened to its cells. -/
import Derived.Test.YtjlffmkiiphfcaaP27
import Derived.Deep.Slices
import Derived.Deep.Fields
import Derived.SizedLaws
import Derived.OpenShut
import Derived.ChangeOld
import Derived.Deep.Grids
namespace Go.Proofs.Ytjlffmkiiphfcaa
open Go.ChangeShapes Go.WideShapes Go.ChangeAt Go.RowKit
set_option linter.unusedVariables false
set_option linter.unusedSimpArgs false
section
variable {H : Type} {enc : TypeId × Value → H} {w : World} {base : Nat} {held : Bool}
/-- a struct of one-cell fields, field by field -/
theorem struct_read {spare : Nat → Bool} {P : Program} {t : TypeId} {fs : Array Field} {fuel : Nat} {cs : List Value} {x : DataW H × List MemPlace} (hu : P.underlying t = some (.struct fs)) (hone : Go.Deep.oneCellFields P fs = true) (hC : P.cellsOf t = fs.size)
    (h : DataW.trod enc P w base spare held fuel t cs = some x) :
    ∃ n ds, cs.length = fs.size ∧ x.1 = .agg ds ∧ ∀ (j : Nat) (f : Field), fs[j]? = some f → ∃ v y, cs[j]? = some v ∧ DataW.trod enc P w base spare held n f.type [v] = some y ∧ ds[j]? = some y.1 := by
  obtain ⟨xs, n, _, hxe, hlen, hxl, hf⟩ := DataW.trod_struct hu h
  rw [hC] at hlen
  refine ⟨n, xs.map (·.1), hlen, by rw [hxe], fun j f hj => ?_⟩
  obtain ⟨ho, hk⟩ := Go.Deep.hone_of hone j f hj
  have hjl : j < fs.size := (Array.getElem?_eq_some_iff.1 hj).1
  have h1 := hf j f hj
  rw [ho, hk, List.drop_eq_getElem_cons (by omega)] at h1
  exact ⟨cs[j], xs[j], List.getElem?_eq_getElem (by omega), h1.trans (List.getElem?_eq_getElem (by omega)), by rw [List.getElem?_map, List.getElem?_eq_getElem (by omega)]; rfl⟩

theorem weights_all {P : Program} {e : TypeId} {n : Nat} : ∀ {l : List (DataW H)} {i : Nat} {d : DataW H}, l[i]? = some d → n ∈ d.weights P e → n ∈ DataW.weightsAll P e l
  | [], _, _, hd, _ => by simp at hd
  | d0 :: l, 0, d, hd, hn => by
    simp only [List.getElem?_cons_zero, Option.some.injEq] at hd
    subst hd
    simp only [DataW.weightsAll, List.mem_append]
    exact .inl hn
  | d0 :: l, i + 1, d, hd, hn => by
    simp only [List.getElem?_cons_succ] at hd
    simp only [DataW.weightsAll, List.mem_append]
    exact .inr (weights_all hd hn)

theorem list_of {α : Type} {Q : Nat → α → Prop} : ∀ (n : Nat), (∀ i, i < n → ∃ x, Q i x) → ∃ l : List α, l.length = n ∧ ∀ i (h : i < l.length), Q i l[i]
  | 0, _ => ⟨[], rfl, fun i h => by simp at h⟩
  | n + 1, h => by
    obtain ⟨l, hl, hq⟩ := list_of n (fun i hi => h i (by omega))
    obtain ⟨x, hx⟩ := h n (by omega)
    refine ⟨l ++ [x], by simp [hl], fun i hi => ?_⟩
    by_cases hin : i < l.length
    · rw [List.getElem_append_left hin]; exact hq i hin
    · have : i = n := by simp at hi; omega
      subst this
      rw [List.getElem_append_right (by omega)]
      simpa [hl] using hx

end
/-- an act: its word, and its parts' words -/
structure ActD where
  o : OpN
  subs : List OpN
structure ActD.Fits (x : ActD) : Prop where
  o : x.o.Fits
  s : x.o.s.size ≤ maxLen
  subs : ∀ k ∈ x.subs, k.Fits ∧ k.s.size ≤ maxLen
  len : x.subs.length ≤ 140737488351232
/-- parts' words in memory -/
structure SubsD (w : World) (v : Value) (l : List OpN) : Prop where
  ex : ∃ a cap, v = .slice a l.length cap ∧ ∀ (i : Nat) (h : i < l.length), ∃ g off x y z, a = some ⟨g, off, none⟩ ∧ g < w.heap.size ∧ ∀ j v, (l[i].cells ++ [.slice x y z])[j]? = some v → w.cell? ⟨g, off + i * 5 + j, none⟩ = some v
structure ActsD (w : World) (a : Option Addr) (l : List ActD) : Prop where
  fits : ∀ x ∈ l, x.Fits
  at_ : ∀ (i : Nat) (h : i < l.length), ∃ g off sv, a = some ⟨g, off, none⟩ ∧ g < w.heap.size ∧ (∀ j v, (l[i].o.cells ++ [sv])[j]? = some v → w.cell? ⟨g, off + i * 5 + j, none⟩ = some v) ∧ SubsD w sv l[i].subs
  len : l.length ≤ 140737488351232
theorem SubsD.kept0 {w w' : World} {v : Value} {l : List OpN} (h : SubsD w v l) (hk : Kept (fun _ => False) w w') : SubsD w' v l := by
  obtain ⟨a, cap, rfl, hc⟩ := h.ex
  refine ⟨a, cap, rfl, fun i hi => ?_⟩
  obtain ⟨g, off, x, y, z, ha, hg, hj⟩ := hc i hi
  exact ⟨g, off, x, y, z, ha, Nat.lt_of_lt_of_le hg hk.size, fun j v h => by rw [World.cell?_of_block (w := w) (hk.block g hg (fun f => f))]; exact hj j v h⟩
theorem ActsD.kept0 {w w' : World} {a : Option Addr} {l : List ActD} (h : ActsD w a l) (hk : Kept (fun _ => False) w w') : ActsD w' a l := by
  refine ⟨h.fits, fun i hi => ?_, h.len⟩
  obtain ⟨g, off, sv, ha, hg, hc, hs⟩ := h.at_ i hi
  exact ⟨g, off, sv, ha, Nat.lt_of_lt_of_le hg hk.size, fun j v hj => by rw [World.cell?_of_block (w := w) (hk.block g hg (fun f => f))]; exact hc j v hj, hs.kept0 hk⟩
/-- the words alone -/
theorem ActsD.ops {w : World} {a : Option Addr} {l : List ActD} (h : ActsD w a l) : OpsN w a (l.map (·.o)) := by
  refine ⟨fun o ho => ?_, fun i hi => ?_, by rw [List.length_map]; exact h.len⟩
  · obtain ⟨x, hx, rfl⟩ := List.mem_map.1 ho
    exact (h.fits x hx).o
  · rw [List.length_map] at hi
    obtain ⟨g, off, sv, ha, hg, hc, hs⟩ := h.at_ i hi
    refine ⟨g, off, ha, hg, fun j v hj => hc j v ?_⟩
    rw [List.getElem_map] at hj
    rw [List.getElem?_append_left (List.getElem?_eq_some_iff.1 hj).1]; exact hj
section
variable {H : Type} {enc : TypeId × Value → H} {w : World} {base : Nat} {held : Bool}
theorem act_of {n : Nat} {cs : List Value} {x : DataW H × List MemPlace} (h : DataW.trod enc Try.prog w base (fun _ => true) held n 81 cs = some x) :
    ∃ (o : OpN) (m : Nat) (y : DataW H × List MemPlace) (ds : List (DataW H)) (a : Option Addr) (len cap : Nat), o.Fits ∧ o.s.size ≤ maxLen ∧ cs = o.cells ++ [.slice a len cap] ∧ DataW.trod enc Try.prog w base (fun _ => true) held m 22 [.slice a len cap] = some y ∧ x.1 = .agg ds ∧ ds[4]? = some y.1 := by
  obtain ⟨m, dd, hlen, hxd, hf⟩ := struct_read Try.underlying81 (by kernel_rfl) (by kernel_rfl) h
  have hl : cs.length = 5 := hlen
  match cs, hl with
  | [c0, c1, c2, c3, c4], _ =>
    obtain ⟨v0, y0, e0, h0, u0⟩ := hf 0 _ rfl
    obtain ⟨v1, y1, e1, h1, u1⟩ := hf 1 _ rfl
    obtain ⟨v2, y2, e2, h2, u2⟩ := hf 2 _ rfl
    obtain ⟨v3, y3, e3, h3, u3⟩ := hf 3 _ rfl
    obtain ⟨v4, y4, e4, h4, u4⟩ := hf 4 _ rfl
    simp at e0 e1 e2 e3 e4
    subst e0 e1 e2 e3 e4
    obtain ⟨k, ek, _, wk⟩ := DataW.trod_int Try.underlying3 h0
    obtain ⟨n1, en, _, wn⟩ := DataW.trod_int Try.underlying3 h1
    obtain ⟨f, ef, _, wf⟩ := DataW.trod_int Try.underlying3 h2
    obtain ⟨s, es, _, ws⟩ := DataW.trod_string Try.underlying9 h3
    simp only [List.cons.injEq, and_true] at ek en ef es
    subst ek en ef es
    obtain ⟨a4, l4, c4', rfl⟩ : ∃ a l c, c4 = Value.slice a l c := by
      rcases Go.Deep.open_slice Try.underlying22 h4 with ⟨hc, _⟩ | ⟨a', len', cap', m, n, D, Pl, hc, _, _, _, _, hx5, _⟩
      · simp only [List.cons.injEq, and_true] at hc
        exact ⟨_, _, _, hc⟩
      · simp only [List.cons.injEq, and_true] at hc
        exact ⟨_, _, _, hc⟩
    have w0 := wk
    have w1 := wn
    have w2 := wf
    simp [Lit.wf, IntKind.min, IntKind.max, IntKind.bits, IntKind.signed] at w0 w1 w2
    refine ⟨⟨k, n1, f, s⟩, m, y4, dd, a4, l4, c4', ⟨⟨?_, ?_⟩, ⟨?_, ?_⟩, ⟨?_, ?_⟩⟩, ws, rfl, h4, hxd, u4⟩
    · show -9223372036854775808 ≤ k; omega
    · show k ≤ 9223372036854775807; omega
    · show -9223372036854775808 ≤ n1; omega
    · show n1 ≤ 9223372036854775807; omega
    · show -9223372036854775808 ≤ f; omega
    · show f ≤ 9223372036854775807; omega
/-- elements, one by one; and how long -/
theorem acts_elems {fuel : Nat} {a : Option Addr} {len cap : Nat} {x : DataW H × List MemPlace}
    (h : DataW.trod enc Try.prog w base (fun _ => true) held fuel 22 [.slice a len cap] = some x) (hz : ∀ n ∈ x.1.weights Try.prog 22, n ≤ reachBytes) :
    len ≤ 140737488351232 ∧ ∀ i, i < len → ∃ g off n cs y, a = some ⟨g, off, none⟩ ∧ g < w.heap.size ∧ (∀ j v, cs[j]? = some v → w.cell? ⟨g, off + i * 5 + j, none⟩ = some v) ∧ DataW.trod enc Try.prog w base (fun _ => true) held n 81 cs = some y ∧ ∀ n ∈ y.1.weights Try.prog 81, n ≤ reachBytes := by
  rcases Go.Deep.open_slice Try.underlying22 h with ⟨hc, _⟩ | ⟨a', len', cap', m, n, D, Pl, hc, hb, hl, hm, hmm, hx, hi⟩
  · simp at hc
    obtain ⟨rfl, rfl, rfl⟩ := hc
    exact ⟨by decide, fun i h => by simp at h⟩
  · simp at hc
    obtain ⟨rfl, rfl, rfl⟩ := hc
    have e5 : Try.prog.cellsOf 81 = 5 := by kernel_rfl
    simp only [if_true] at hmm
    have hlb : len ≤ reachBytes := by
      have hb1 : Try.prog.bytesOf 81 = 64 := by kernel_rfl
      have hw := hz (((List.range len).map D).length * 64 + ((List.range (m - len)).map fun j => D (len + j)).length * 64) (by
        rw [hx]
        simp only [DataW.weights, Try.underlying22, hb1, Nat.add_mul]
        exact List.mem_cons_self)
      rw [List.length_map, List.length_range] at hw
      omega
    refine ⟨hlb, fun i hil => ?_⟩
    rw [e5] at hi
    obtain ⟨cs', hcells, ht⟩ := hi i (by omega)
    obtain ⟨_, hlen', hat⟩ := World.cells?_some hcells
    have hat' : ∀ j v, cs'[j]? = some v → w.cell? ((a'.add (i * 5)).add j) = some v := fun j v hj => by
      have hj5 : j < 5 := by have := (List.getElem?_eq_some_iff.1 hj).1; omega
      rw [hat j (by omega)]; exact hj
    obtain ⟨b, off, spot⟩ := a'
    have hspot : spot = none := by
      obtain ⟨cs0, hc0, _⟩ := hi 0 (by omega)
      obtain ⟨_, hl0, hat0⟩ := World.cells?_some hc0
      have h0 := hat0 0 (by omega)
      obtain ⟨v0, hv0⟩ : ∃ v, cs0[0]? = some v := ⟨cs0[0]'(by omega), List.getElem?_eq_getElem _⟩
      have h1 := World.cell?_spot (h0.trans hv0)
      simpa [Addr.add] using h1
    subst hspot
    have hadd : ∀ o j, (⟨b, o, none⟩ : Addr).add j = ⟨b, o + j, none⟩ := fun o j => by unfold Addr.add; split <;> simp_all
    simp only [hadd] at hat'
    refine ⟨b, off, n, cs', (D i, Pl i), rfl, World.block_lt_of_cell? w _ (hat' 0 _ (List.getElem?_eq_getElem (by omega))), hat', ht, fun n hn => hz n ?_⟩
    rw [hx]
    simp only [DataW.weights, Try.underlying22]
    exact List.mem_cons_of_mem _ (List.mem_append_left _ (weights_all (l := (List.range len).map D) (i := i) (d := D i) (by simp [hil]) hn))
theorem subs_of {fuel : Nat} {a : Option Addr} {len cap : Nat} {x : DataW H × List MemPlace}
    (h : DataW.trod enc Try.prog w base (fun _ => true) held fuel 22 [.slice a len cap] = some x) (hz : ∀ n ∈ x.1.weights Try.prog 22, n ≤ reachBytes) :
    ∃ l : List OpN, l.length = len ∧ l.length ≤ 140737488351232 ∧ (∀ k ∈ l, k.Fits ∧ k.s.size ≤ maxLen) ∧ SubsD w (.slice a len cap) l := by
  obtain ⟨hlen, hall⟩ := acts_elems h hz
  obtain ⟨l, hl, hq⟩ := list_of (α := OpN) (Q := fun i o => (o.Fits ∧ o.s.size ≤ maxLen) ∧ ∃ g off x y z, a = some ⟨g, off, none⟩ ∧ g < w.heap.size ∧ ∀ j v, (o.cells ++ [.slice x y z])[j]? = some v → w.cell? ⟨g, off + i * 5 + j, none⟩ = some v) len (fun i hi => by
    obtain ⟨g, off, n, cs, y, ha, hg, hc, ht, _⟩ := hall i hi
    obtain ⟨o, m, y', ds, a', len', cap', hf, hs, rfl, _⟩ := act_of ht
    exact ⟨o, ⟨hf, hs⟩, g, off, _, _, _, ha, hg, hc⟩)
  refine ⟨l, hl, by omega, fun k hk => ?_, ⟨a, cap, by rw [hl], fun i hi => (hq i hi).2⟩⟩
  obtain ⟨i, hi, rfl⟩ := List.getElem_of_mem hk
  exact (hq i hi).1
theorem acts_of {fuel : Nat} {a : Option Addr} {len cap : Nat} {x : DataW H × List MemPlace}
    (h : DataW.trod enc Try.prog w base (fun _ => true) held fuel 22 [.slice a len cap] = some x) (hz : ∀ n ∈ x.1.weights Try.prog 22, n ≤ reachBytes) :
    ∃ l : List ActD, l.length = len ∧ ActsD w a l := by
  obtain ⟨hlen, hall⟩ := acts_elems h hz
  obtain ⟨l, hl, hq⟩ := list_of (α := ActD) (Q := fun i x => x.Fits ∧ ∃ g off sv, a = some ⟨g, off, none⟩ ∧ g < w.heap.size ∧ (∀ j v, (x.o.cells ++ [sv])[j]? = some v → w.cell? ⟨g, off + i * 5 + j, none⟩ = some v) ∧ SubsD w sv x.subs) len (fun i hi => by
    obtain ⟨g, off, n, cs, y, ha, hg, hc, ht, hw⟩ := hall i hi
    obtain ⟨o, m, y', ds, a', len', cap', hf, hs, rfl, ht', hyd, hd4⟩ := act_of ht
    obtain ⟨sl, hsl, hsb, hsf, hsd⟩ := subs_of ht' (fun n hn => hw n (by
      rw [hyd]
      simp only [DataW.weights, Try.underlying81]
      exact DataW.weights_mem_each (j := 4) rfl hd4 _ hn))
    exact ⟨⟨o, sl⟩, ⟨hf, hs, hsf, hsb⟩, g, off, _, ha, hg, hc, hsd⟩)
  refine ⟨l, hl, fun k hk => ?_, fun i hi => (hq i hi).2, by omega⟩
  obtain ⟨i, hi, rfl⟩ := List.getElem_of_mem hk
  exact (hq i hi).1
end
end Go.Proofs.Ytjlffmkiiphfcaa
