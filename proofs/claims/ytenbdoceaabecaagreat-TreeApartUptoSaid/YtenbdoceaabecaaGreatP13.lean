/- A list of acts that came in, opened to its cells. Rows that the call owns, of whatever elements: append to them, in a plain region and in one that draws. -/
import Derived.Test.YtenbdoceaabecaaGreatP12
import Derived.Deep.Slices
import Derived.Deep.Fields
import Derived.SizedLaws
import Derived.OpenShut
import Derived.ChangeOld
import Derived.Deep.Grids
import Derived.Test.YtenbdoceaabecaaGreatP04
import Derived.Deep.AppendSrc
import Derived.Deep.Upon
namespace Go.Proofs.YtenbdoceaabecaaGreat
open Go.ChangeShapes Go.WideShapes Go.ChangeAt Go.RowKit
set_option linter.unusedVariables false
set_option linter.unusedSimpArgs false
section
variable {H : Type} {enc : TypeId × Value → H} {w : World} {base : Nat} {held : Bool}
/-- a struct of one-cell fields, field by field -/
theorem struct_read {spare : Nat → Bool} {P : Program} {t : TypeId} {fs : Array Field} {fuel : Nat} {cs : List Value} {x : DataW H × List MemPlace} (hu : P.underlying t = some (.struct fs)) (hone : Go.Deep.oneCellFields P fs = true) (hC : P.cellsOf t = fs.size)
    (h : DataW.trod enc P w base spare held fuel t cs = some x) :
    ∃ n ds, cs.length = fs.size ∧ x.1 = .agg ds ∧ ∀ (j : Nat) (f : Field), fs[j]? = some f → ∃ v y, cs[j]? = some v ∧ DataW.trod enc P w base spare held n f.type [v] = some y ∧ ds[j]? = some y.1 := by
  obtain ⟨xs, n, _, hxe, hlen, hxl, hf⟩ := DataW.trod_struct hu h
  rw [hC] at hlen
  refine ⟨n, xs.map (·.1), hlen, by rw [hxe], fun j f hj => ?_⟩
  obtain ⟨ho, hk⟩ := Go.Deep.hone_of hone j f hj
  have hjl : j < fs.size := (Array.getElem?_eq_some_iff.1 hj).1
  have h1 := hf j f hj
  rw [ho, hk, List.drop_eq_getElem_cons (by omega)] at h1
  exact ⟨cs[j], xs[j], List.getElem?_eq_getElem (by omega), h1.trans (List.getElem?_eq_getElem (by omega)), by rw [List.getElem?_map, List.getElem?_eq_getElem (by omega)]; rfl⟩

theorem weights_all {P : Program} {e : TypeId} {n : Nat} : ∀ {l : List (DataW H)} {i : Nat} {d : DataW H}, l[i]? = some d → n ∈ d.weights P e → n ∈ DataW.weightsAll P e l
  | [], _, _, hd, _ => by simp at hd
  | d0 :: l, 0, d, hd, hn => by
    simp only [List.getElem?_cons_zero, Option.some.injEq] at hd
    subst hd
    simp only [DataW.weightsAll, List.mem_append]
    exact .inl hn
  | d0 :: l, i + 1, d, hd, hn => by
    simp only [List.getElem?_cons_succ] at hd
    simp only [DataW.weightsAll, List.mem_append]
    exact .inr (weights_all hd hn)

theorem list_of {α : Type} {Q : Nat → α → Prop} : ∀ (n : Nat), (∀ i, i < n → ∃ x, Q i x) → ∃ l : List α, l.length = n ∧ ∀ i (h : i < l.length), Q i l[i]
  | 0, _ => ⟨[], rfl, fun i h => by simp at h⟩
  | n + 1, h => by
    obtain ⟨l, hl, hq⟩ := list_of n (fun i hi => h i (by omega))
    obtain ⟨x, hx⟩ := h n (by omega)
    refine ⟨l ++ [x], by simp [hl], fun i hi => ?_⟩
    by_cases hin : i < l.length
    · rw [List.getElem_append_left hin]; exact hq i hin
    · have : i = n := by simp at hi; omega
      subst this
      rw [List.getElem_append_right (by omega)]
      simpa [hl] using hx

end
/-- an act: its word, and its parts' words -/
structure ActD where
  o : OpN
  subs : List OpN
structure ActD.Fits (x : ActD) : Prop where
  o : x.o.Fits
  s : x.o.s.size ≤ maxLen
  subs : ∀ k ∈ x.subs, k.Fits ∧ k.s.size ≤ maxLen
  len : x.subs.length ≤ 140737488351232
/-- parts' words in memory -/
structure SubsD (w : World) (v : Value) (l : List OpN) : Prop where
  ex : ∃ a cap, v = .slice a l.length cap ∧ ∀ (i : Nat) (h : i < l.length), ∃ g off x y z, a = some ⟨g, off, none⟩ ∧ g < w.heap.size ∧ ∀ j v, (l[i].cells ++ [.slice x y z])[j]? = some v → w.cell? ⟨g, off + i * 5 + j, none⟩ = some v
structure ActsD (w : World) (a : Option Addr) (l : List ActD) : Prop where
  fits : ∀ x ∈ l, x.Fits
  at_ : ∀ (i : Nat) (h : i < l.length), ∃ g off sv, a = some ⟨g, off, none⟩ ∧ g < w.heap.size ∧ (∀ j v, (l[i].o.cells ++ [sv])[j]? = some v → w.cell? ⟨g, off + i * 5 + j, none⟩ = some v) ∧ SubsD w sv l[i].subs
  len : l.length ≤ 140737488351232
theorem SubsD.kept0 {w w' : World} {v : Value} {l : List OpN} (h : SubsD w v l) (hk : Kept (fun _ => False) w w') : SubsD w' v l := by
  obtain ⟨a, cap, rfl, hc⟩ := h.ex
  refine ⟨a, cap, rfl, fun i hi => ?_⟩
  obtain ⟨g, off, x, y, z, ha, hg, hj⟩ := hc i hi
  exact ⟨g, off, x, y, z, ha, Nat.lt_of_lt_of_le hg hk.size, fun j v h => by rw [World.cell?_of_block (w := w) (hk.block g hg (fun f => f))]; exact hj j v h⟩
theorem ActsD.kept0 {w w' : World} {a : Option Addr} {l : List ActD} (h : ActsD w a l) (hk : Kept (fun _ => False) w w') : ActsD w' a l := by
  refine ⟨h.fits, fun i hi => ?_, h.len⟩
  obtain ⟨g, off, sv, ha, hg, hc, hs⟩ := h.at_ i hi
  exact ⟨g, off, sv, ha, Nat.lt_of_lt_of_le hg hk.size, fun j v hj => by rw [World.cell?_of_block (w := w) (hk.block g hg (fun f => f))]; exact hc j v hj, hs.kept0 hk⟩
/-- the words alone -/
theorem ActsD.ops {w : World} {a : Option Addr} {l : List ActD} (h : ActsD w a l) : OpsN w a (l.map (·.o)) := by
  refine ⟨fun o ho => ?_, fun i hi => ?_, by rw [List.length_map]; exact h.len⟩
  · obtain ⟨x, hx, rfl⟩ := List.mem_map.1 ho
    exact (h.fits x hx).o
  · rw [List.length_map] at hi
    obtain ⟨g, off, sv, ha, hg, hc, hs⟩ := h.at_ i hi
    refine ⟨g, off, ha, hg, fun j v hj => hc j v ?_⟩
    rw [List.getElem_map] at hj
    rw [List.getElem?_append_left (List.getElem?_eq_some_iff.1 hj).1]; exact hj
section
variable {H : Type} {enc : TypeId × Value → H} {w : World} {base : Nat} {held : Bool}
theorem act_of {n : Nat} {cs : List Value} {x : DataW H × List MemPlace} (h : DataW.trod enc Tryz.prog w base (fun _ => true) held n 145 cs = some x) :
    ∃ (o : OpN) (m : Nat) (y : DataW H × List MemPlace) (ds : List (DataW H)) (a : Option Addr) (len cap : Nat), o.Fits ∧ o.s.size ≤ maxLen ∧ cs = o.cells ++ [.slice a len cap] ∧ DataW.trod enc Tryz.prog w base (fun _ => true) held m 63 [.slice a len cap] = some y ∧ x.1 = .agg ds ∧ ds[4]? = some y.1 := by
  obtain ⟨m, dd, hlen, hxd, hf⟩ := struct_read Tryz.underlying145 (by kernel_rfl) (by kernel_rfl) h
  have hl : cs.length = 5 := hlen
  match cs, hl with
  | [c0, c1, c2, c3, c4], _ =>
    obtain ⟨v0, y0, e0, h0, u0⟩ := hf 0 _ rfl
    obtain ⟨v1, y1, e1, h1, u1⟩ := hf 1 _ rfl
    obtain ⟨v2, y2, e2, h2, u2⟩ := hf 2 _ rfl
    obtain ⟨v3, y3, e3, h3, u3⟩ := hf 3 _ rfl
    obtain ⟨v4, y4, e4, h4, u4⟩ := hf 4 _ rfl
    simp at e0 e1 e2 e3 e4
    subst e0 e1 e2 e3 e4
    obtain ⟨k, ek, _, wk⟩ := DataW.trod_int Tryz.underlying3 h0
    obtain ⟨n1, en, _, wn⟩ := DataW.trod_int Tryz.underlying3 h1
    obtain ⟨f, ef, _, wf⟩ := DataW.trod_int Tryz.underlying3 h2
    obtain ⟨s, es, _, ws⟩ := DataW.trod_string Tryz.underlying9 h3
    simp only [List.cons.injEq, and_true] at ek en ef es
    subst ek en ef es
    obtain ⟨a4, l4, c4', rfl⟩ : ∃ a l c, c4 = Value.slice a l c := by
      rcases Go.Deep.open_slice Tryz.underlying63 h4 with ⟨hc, _⟩ | ⟨a', len', cap', m, n, D, Pl, hc, _, _, _, _, hx5, _⟩
      · simp only [List.cons.injEq, and_true] at hc
        exact ⟨_, _, _, hc⟩
      · simp only [List.cons.injEq, and_true] at hc
        exact ⟨_, _, _, hc⟩
    have w0 := wk
    have w1 := wn
    have w2 := wf
    simp [Lit.wf, IntKind.min, IntKind.max, IntKind.bits, IntKind.signed] at w0 w1 w2
    refine ⟨⟨k, n1, f, s⟩, m, y4, dd, a4, l4, c4', ⟨⟨?_, ?_⟩, ⟨?_, ?_⟩, ⟨?_, ?_⟩⟩, ws, rfl, h4, hxd, u4⟩
    · show -9223372036854775808 ≤ k; omega
    · show k ≤ 9223372036854775807; omega
    · show -9223372036854775808 ≤ n1; omega
    · show n1 ≤ 9223372036854775807; omega
    · show -9223372036854775808 ≤ f; omega
    · show f ≤ 9223372036854775807; omega
/-- elements, one by one; and how long -/
theorem acts_elems {fuel : Nat} {a : Option Addr} {len cap : Nat} {x : DataW H × List MemPlace}
    (h : DataW.trod enc Tryz.prog w base (fun _ => true) held fuel 63 [.slice a len cap] = some x) (hz : ∀ n ∈ x.1.weights Tryz.prog 63, n ≤ reachBytes) :
    len ≤ 140737488351232 ∧ ∀ i, i < len → ∃ g off n cs y, a = some ⟨g, off, none⟩ ∧ g < w.heap.size ∧ (∀ j v, cs[j]? = some v → w.cell? ⟨g, off + i * 5 + j, none⟩ = some v) ∧ DataW.trod enc Tryz.prog w base (fun _ => true) held n 145 cs = some y ∧ ∀ n ∈ y.1.weights Tryz.prog 145, n ≤ reachBytes := by
  rcases Go.Deep.open_slice Tryz.underlying63 h with ⟨hc, _⟩ | ⟨a', len', cap', m, n, D, Pl, hc, hb, hl, hm, hmm, hx, hi⟩
  · simp at hc
    obtain ⟨rfl, rfl, rfl⟩ := hc
    exact ⟨by decide, fun i h => by simp at h⟩
  · simp at hc
    obtain ⟨rfl, rfl, rfl⟩ := hc
    have e5 : Tryz.prog.cellsOf 145 = 5 := by kernel_rfl
    simp only [if_true] at hmm
    have hlb : len ≤ reachBytes := by
      have hb1 : Tryz.prog.bytesOf 145 = 64 := by kernel_rfl
      have hw := hz (((List.range len).map D).length * 64 + ((List.range (m - len)).map fun j => D (len + j)).length * 64) (by
        rw [hx]
        simp only [DataW.weights, Tryz.underlying63, hb1, Nat.add_mul]
        exact List.mem_cons_self)
      rw [List.length_map, List.length_range] at hw
      omega
    refine ⟨hlb, fun i hil => ?_⟩
    rw [e5] at hi
    obtain ⟨cs', hcells, ht⟩ := hi i (by omega)
    obtain ⟨_, hlen', hat⟩ := World.cells?_some hcells
    have hat' : ∀ j v, cs'[j]? = some v → w.cell? ((a'.add (i * 5)).add j) = some v := fun j v hj => by
      have hj5 : j < 5 := by have := (List.getElem?_eq_some_iff.1 hj).1; omega
      rw [hat j (by omega)]; exact hj
    obtain ⟨b, off, spot⟩ := a'
    have hspot : spot = none := by
      obtain ⟨cs0, hc0, _⟩ := hi 0 (by omega)
      obtain ⟨_, hl0, hat0⟩ := World.cells?_some hc0
      have h0 := hat0 0 (by omega)
      obtain ⟨v0, hv0⟩ : ∃ v, cs0[0]? = some v := ⟨cs0[0]'(by omega), List.getElem?_eq_getElem _⟩
      have h1 := World.cell?_spot (h0.trans hv0)
      simpa [Addr.add] using h1
    subst hspot
    have hadd : ∀ o j, (⟨b, o, none⟩ : Addr).add j = ⟨b, o + j, none⟩ := fun o j => by unfold Addr.add; split <;> simp_all
    simp only [hadd] at hat'
    refine ⟨b, off, n, cs', (D i, Pl i), rfl, World.block_lt_of_cell? w _ (hat' 0 _ (List.getElem?_eq_getElem (by omega))), hat', ht, fun n hn => hz n ?_⟩
    rw [hx]
    simp only [DataW.weights, Tryz.underlying63]
    exact List.mem_cons_of_mem _ (List.mem_append_left _ (weights_all (l := (List.range len).map D) (i := i) (d := D i) (by simp [hil]) hn))
theorem subs_of {fuel : Nat} {a : Option Addr} {len cap : Nat} {x : DataW H × List MemPlace}
    (h : DataW.trod enc Tryz.prog w base (fun _ => true) held fuel 63 [.slice a len cap] = some x) (hz : ∀ n ∈ x.1.weights Tryz.prog 63, n ≤ reachBytes) :
    ∃ l : List OpN, l.length = len ∧ l.length ≤ 140737488351232 ∧ (∀ k ∈ l, k.Fits ∧ k.s.size ≤ maxLen) ∧ SubsD w (.slice a len cap) l := by
  obtain ⟨hlen, hall⟩ := acts_elems h hz
  obtain ⟨l, hl, hq⟩ := list_of (α := OpN) (Q := fun i o => (o.Fits ∧ o.s.size ≤ maxLen) ∧ ∃ g off x y z, a = some ⟨g, off, none⟩ ∧ g < w.heap.size ∧ ∀ j v, (o.cells ++ [.slice x y z])[j]? = some v → w.cell? ⟨g, off + i * 5 + j, none⟩ = some v) len (fun i hi => by
    obtain ⟨g, off, n, cs, y, ha, hg, hc, ht, _⟩ := hall i hi
    obtain ⟨o, m, y', ds, a', len', cap', hf, hs, rfl, _⟩ := act_of ht
    exact ⟨o, ⟨hf, hs⟩, g, off, _, _, _, ha, hg, hc⟩)
  refine ⟨l, hl, by omega, fun k hk => ?_, ⟨a, cap, by rw [hl], fun i hi => (hq i hi).2⟩⟩
  obtain ⟨i, hi, rfl⟩ := List.getElem_of_mem hk
  exact (hq i hi).1
theorem acts_of {fuel : Nat} {a : Option Addr} {len cap : Nat} {x : DataW H × List MemPlace}
    (h : DataW.trod enc Tryz.prog w base (fun _ => true) held fuel 63 [.slice a len cap] = some x) (hz : ∀ n ∈ x.1.weights Tryz.prog 63, n ≤ reachBytes) :
    ∃ l : List ActD, l.length = len ∧ ActsD w a l := by
  obtain ⟨hlen, hall⟩ := acts_elems h hz
  obtain ⟨l, hl, hq⟩ := list_of (α := ActD) (Q := fun i x => x.Fits ∧ ∃ g off sv, a = some ⟨g, off, none⟩ ∧ g < w.heap.size ∧ (∀ j v, (x.o.cells ++ [sv])[j]? = some v → w.cell? ⟨g, off + i * 5 + j, none⟩ = some v) ∧ SubsD w sv x.subs) len (fun i hi => by
    obtain ⟨g, off, n, cs, y, ha, hg, hc, ht, hw⟩ := hall i hi
    obtain ⟨o, m, y', ds, a', len', cap', hf, hs, rfl, ht', hyd, hd4⟩ := act_of ht
    obtain ⟨sl, hsl, hsb, hsf, hsd⟩ := subs_of ht' (fun n hn => hw n (by
      rw [hyd]
      simp only [DataW.weights, Tryz.underlying145]
      exact DataW.weights_mem_each (j := 4) rfl hd4 _ hn))
    exact ⟨⟨o, sl⟩, ⟨hf, hs, hsf, hsb⟩, g, off, _, ha, hg, hc, hsd⟩)
  refine ⟨l, hl, fun k hk => ?_, fun i hi => (hq i hi).2, by omega⟩
  obtain ⟨i, hi, rfl⟩ := List.getElem_of_mem hk
  exact (hq i hi).1
end
end Go.Proofs.YtenbdoceaabecaaGreat

namespace Go.Proofs.YtenbdoceaabecaaGreat
open Go.ChangeShapes Go.WideShapes Go.ChangeAt Go.RowKit Go.Maps
set_option linter.unusedVariables false
set_option linter.unusedSimpArgs false
/-- a slice's type, its elements' type, cells and bytes -/
structure RowTy (P : Program) (tS e : TypeId) (size bytes : Nat) : Prop where
  und : P.underlying tS = some (.slice e)
  inf : ∃ i z, P.info? e = some i ∧ i.zero = some z ∧ i.size = size ∧ i.bytes = bytes ∧ z.cells.size = size
  pos : 0 < size
theorem RowTy.of {P : Program} {tS e : TypeId} {size bytes : Nat} {z : Value} (und : P.underlying tS = some (.slice e)) (h : (P.info? e).map (fun i => (i.zero, i.size, i.bytes)) = some (some z, size, bytes)) (hz : z.cells.size = size) (pos : 0 < size) : RowTy P tS e size bytes := by
  refine ⟨und, ?_, pos⟩
  cases hi : P.info? e with
  | none => rw [hi] at h; cases h
  | some i =>
    rw [hi] at h
    simp only [Option.map_some, Option.some.injEq, Prod.mk.injEq] at h
    exact ⟨i, z, rfl, h.1, h.2.1, h.2.2, hz⟩
section
variable {P : Program} {w w' : World} {tS e : TypeId} {size bytes B n : Nat} {v : Value} {xs : List Value}
/-- append of whatever row -/
theorem run_app (R : RowTy P tS e size bytes) (ty : TypeId) (hown : w.ownsRow B e size v n xs) {a : Option Addr} {m c : Nat} {news : List Value} (hl : news.length = m * size)
    (hn : m = 0 ∨ ∃ g off, a = some ⟨g, off, none⟩ ∧ ∀ j u, news[j]? = some u → w.cell? ⟨g, off + j, none⟩ = some u) (h1 : ∀ u ∈ news, u.oneCell' = true)
    (h63 : n + m ≤ maxLen) (hbytes : (n + m) * bytes ≤ 140737488355328) (hbase : B ≤ w.heap.size) :
    ∃ v' w', (Builtin.append_ #[tS, tS] ty #[v, .slice a m c]).run P w = .ok v' w' ∧ w'.ownsRow B e size v' (n + m) (xs ++ news) ∧ w.grownBy w' v.ownBlock := by
  obtain ⟨i, z, hi, hz, hsize, hby, hzs⟩ := R.inf
  rcases hn with rfl | ⟨g, off, rfl, hc⟩
  · have hnil : news = [] := List.eq_nil_of_length_eq_zero (by simpa using hl)
    subst hnil
    have hs : Src P i.size tS (.slice a 0 c) 0 [] w := by
      cases a with
      | none => exact Src.ofNil w R.und c
      | some a => exact Src.ofSlice w R.und a 0 c [] (by simp) (fun j u hu => by simp at hu) (by simp)
    refine ⟨v, w, ?_, by simpa using hown, ⟨rfl, rfl, rfl, Nat.le_refl _, fun _ _ _ => rfl⟩⟩
    rcases hown.2 with ⟨rfl, _⟩ | ⟨g, cap, cur, rfl, hb, hh, hnc, hcm, hcs, htake⟩
    · exact run_append_nothing w tS tS ty e i R.und hi none 0 0 (Nat.le_refl _) (.slice a 0 c) hs
    · exact run_append_nothing w tS tS ty e i R.und hi (some ⟨g, 0, none⟩) n cap hnc (.slice a 0 c) hs
  · obtain ⟨v', w', hr, h2, h3, _⟩ := run_append_own (P := P) w B tS ty e i z size bytes R.und hi hz hsize hby hzs R.pos v n xs hown ⟨g, off, none⟩ m c news hl (fun j u hj => by rw [Addr.add_mid]; exact hc j u hj) h1 h63 hbytes hbase
    exact ⟨v', w', hr, h2, h3⟩
section
variable {ops : Array Oper} {rest : List Oper} {o : Oper} {a : Act} {Q : Exit → Act → World → Prop} {K : Act → World → Prop} {F : Prop}
/-- at a plain region -/
theorem wpList_rows (R : RowTy P tS e size bytes) (hgd : o.guard = none) (s x : Operand) (ho : o.op = .call { callee := .builtin .append, args := #[s, x], argTypes := #[tS, tS] })
    (hs : a.eval s = v) (hown : w.ownsRow B e size v n xs) (ad : Option Addr) (m c : Nat) (news : List Value) (hx : a.eval x = .slice ad m c) (hl : news.length = m * size)
    (hn : m = 0 ∨ ∃ g off, ad = some ⟨g, off, none⟩ ∧ ∀ j u, news[j]? = some u → w.cell? ⟨g, off + j, none⟩ = some u) (h1 : ∀ u ∈ news, u.oneCell' = true)
    (h63 : n + m ≤ maxLen) (hbytes : (n + m) * bytes ≤ 140737488355328) (hbase : B ≤ w.heap.size)
    (h : ∀ v' w', w'.ownsRow B e size v' (n + m) (xs ++ news) → w.grownBy w' v.ownBlock → wpList P ops Q rest (a.put o.dst v') w') : wpList P ops Q (o :: rest) a w := by
  refine wpList_plain hgd fun K hK => ?_
  obtain ⟨v', w', hr, h2, h3⟩ := run_app (P := P) R o.type hown (a := ad) (c := c) hl hn h1 h63 hbytes hbase
  unfold Oper.wp execOp
  simp only [ho, resolve, invoke, builtin, Sem.run_bind, Sem.run_pure, Result.andThen_ok, List.map_toArray, List.map_cons, List.map_nil, hs, hx, hr]
  exact hK _ _ (h v' w' h2 h3)
/-- at a region that draws -/
theorem step_rows (R : RowTy P tS e size bytes) (hgd : o.guard = none) (s x : Operand) (ho : o.op = .call { callee := .builtin .append, args := #[s, x], argTypes := #[tS, tS] })
    (hs : a.eval s = v) (hown : w.ownsRow B e size v n xs) (ad : Option Addr) (m c : Nat) (news : List Value) (hx : a.eval x = .slice ad m c) (hl : news.length = m * size)
    (hn : m = 0 ∨ ∃ g off, ad = some ⟨g, off, none⟩ ∧ ∀ j u, news[j]? = some u → w.cell? ⟨g, off + j, none⟩ = some u) (h1 : ∀ u ∈ news, u.oneCell' = true)
    (h63 : n + m ≤ maxLen) (hbytes : (n + m) * bytes ≤ 140737488355328) (hbase : B ≤ w.heap.size)
    (h : ∀ v' w', w'.ownsRow B e size v' (n + m) (xs ++ news) → w.grownBy w' v.ownBlock → K (a.put o.dst v') w') :
    if Region.wanted o (yielded ops a.tmps) = true then Oper.wp P o a w K Q else F := by
  have hw : Region.wanted o (yielded ops a.tmps) = true := by simp [Region.wanted, hgd]
  rw [if_pos hw]
  obtain ⟨v', w', hr, h2, h3⟩ := run_app (P := P) R o.type hown (a := ad) (c := c) hl hn h1 h63 hbytes hbase
  unfold Oper.wp execOp
  simp only [ho, resolve, invoke, builtin, Sem.run_bind, Sem.run_pure, Result.andThen_ok, List.map_toArray, List.map_cons, List.map_nil, hs, hx, hr]
  exact h v' w' h2 h3
theorem new_cells (w : World) (c1 : List Value) (e : TypeId) : ∀ j u, c1[j]? = some u → (w.alloc (.cells c1.toArray e)).cell? ⟨w.heap.size, 0 + j, none⟩ = some u := by
  intro j u hj
  rw [Nat.zero_add, cell_of_row _ w.heap.size j _ _ (0, 0) (heap_alloc_new w _), ← Array.getElem?_toList]; exact hj
/-- one more, just built -/
theorem wpList_row1 (R : RowTy P tS e size bytes) (hgd : o.guard = none) (s x : Operand) (ho : o.op = .call { callee := .builtin .append, args := #[s, x], argTypes := #[tS, tS] })
    (hs : a.eval s = v) (hown : w.ownsRow B e size v n xs) (c1 : List Value) (hx : a.eval x = .slice (some ⟨w.heap.size, 0, none⟩) 1 1) (hl : c1.length = size) (h1 : ∀ u ∈ c1, u.oneCell' = true)
    (hb : (n + 1) * bytes ≤ 140737488355328) (hm : n + 1 ≤ maxLen) (hbase : B ≤ w.heap.size)
    (h : ∀ v' w', w'.ownsRow B e size v' (n + 1) (xs ++ c1) → (w.alloc (.cells c1.toArray e)).grownBy w' v.ownBlock → wpList P ops Q rest (a.put o.dst v') w') : wpList P ops Q (o :: rest) a (w.alloc (.cells c1.toArray e)) :=
  wpList_rows R hgd s x ho hs (ownKept hown ((Kept.refl (fun _ => False) w).alloc _) (fun _ _ f => f)) (some ⟨w.heap.size, 0, none⟩) 1 1 c1 hx (by omega) (.inr ⟨_, _, rfl, new_cells w c1 e⟩) h1 hm hb (by simp; omega) h
theorem step_row1 (R : RowTy P tS e size bytes) (hgd : o.guard = none) (s x : Operand) (ho : o.op = .call { callee := .builtin .append, args := #[s, x], argTypes := #[tS, tS] })
    (hs : a.eval s = v) (hown : w.ownsRow B e size v n xs) (c1 : List Value) (hx : a.eval x = .slice (some ⟨w.heap.size, 0, none⟩) 1 1) (hl : c1.length = size) (h1 : ∀ u ∈ c1, u.oneCell' = true)
    (hb : (n + 1) * bytes ≤ 140737488355328) (hm : n + 1 ≤ maxLen) (hbase : B ≤ w.heap.size)
    (h : ∀ v' w', w'.ownsRow B e size v' (n + 1) (xs ++ c1) → (w.alloc (.cells c1.toArray e)).grownBy w' v.ownBlock → K (a.put o.dst v') w') :
    if Region.wanted o (yielded ops a.tmps) = true then Oper.wp P o a (w.alloc (.cells c1.toArray e)) K Q else F :=
  step_rows R hgd s x ho hs (ownKept hown ((Kept.refl (fun _ => False) w).alloc _) (fun _ _ f => f)) (some ⟨w.heap.size, 0, none⟩) 1 1 c1 hx (by omega) (.inr ⟨_, _, rfl, new_cells w c1 e⟩) h1 hm hb (by simp; omega) h
theorem step_row1d (R : RowTy P tS e size bytes) (hgd : o.guard = none) (s x : Operand) (ho : o.op = .call { callee := .builtin .append, args := #[s, x], argTypes := #[tS, tS] })
    (hs : a.eval s = v) (hown : w.ownsRow B e size v n xs) (c1 : List Value) (hx : a.eval x = .slice (some ⟨w.heap.size, 0, none⟩) 1 1) (hl : c1.length = size) (h1 : ∀ u ∈ c1, u.oneCell' = true)
    (hb : (n + 1) * bytes ≤ 140737488355328) (hm : n + 1 ≤ maxLen) (hbase : B ≤ w.heap.size)
    (h : ∀ v' w', w'.ownsRow B e size v' (n + 1) (xs ++ c1) → (w.alloc (.cells c1.toArray e)).drew.grownBy w' v.ownBlock → K (a.put o.dst v') w') :
    if Region.wanted o (yielded ops a.tmps) = true then Oper.wp P o a (w.alloc (.cells c1.toArray e)).drew K Q else F :=
  step_rows (w := (w.alloc (.cells c1.toArray e)).drew) R hgd s x ho hs (ownKept hown (((Kept.refl (fun _ => False) w).alloc _).drew) (fun _ _ f => f)) (some ⟨w.heap.size, 0, none⟩) 1 1 c1 hx (by omega) (.inr ⟨_, _, rfl, new_cells w c1 e⟩) h1 hm hb (by show B ≤ (w.alloc _).heap.size; simp; omega) h
end
theorem own_lo {w : World} (h : w.ownsRow B e size v n xs) {k : Nat} (hk : v.ownBlock = some k) : B ≤ k ∧ k < w.heap.size ∧ ∃ cur, w.heap[k]? = some (.cells cur e (0, 0)) := by
  rcases h.2 with ⟨rfl, _⟩ | ⟨g, cap, cur, rfl, hb, hh, r⟩
  · simp [Value.ownBlock] at hk
  · simp only [Value.ownBlock, Option.some.injEq] at hk
    subst hk
    exact ⟨hb, lt_of_block hh, _, hh⟩
theorem own_shape {w : World} (h : w.ownsRow B e size v n xs) : ∃ a cap, v = .slice a n cap := by
  rcases h.2 with ⟨rfl, rfl⟩ | ⟨g, cap, cur, rfl, hb, hh, r⟩
  · exact ⟨_, _, rfl⟩
  · exact ⟨_, _, rfl⟩
/-- what an append leaves: all but the row's own block -/
theorem kept_own {X : Nat → Prop} {w0 w w' : World} (h : Kept X w0 w) (hv : w.ownsRow B e size v n xs) (hB : w0.heap.size ≤ B) (hg : w.grownBy w' v.ownBlock) : Kept X w0 w' :=
  h.trans' (Kept.of_grownBy hg) (fun k hk e => by have := (own_lo hv e.symm).1; omega)
theorem kept_own1 {X : Nat → Prop} {w0 w w' : World} {ob : Obj} (h : Kept X w0 w) (hv : w.ownsRow B e size v n xs) (hB : w0.heap.size ≤ B) (hg : (w.alloc ob).grownBy w' v.ownBlock) : Kept X w0 w' :=
  (h.alloc ob).trans' (Kept.of_grownBy hg) (fun k hk e => by have := (own_lo hv e.symm).1; omega)
theorem kept_own1d {X : Nat → Prop} {w0 w w' : World} {ob : Obj} (h : Kept X w0 w) (hv : w.ownsRow B e size v n xs) (hB : w0.heap.size ≤ B) (hg : (w.alloc ob).drew.grownBy w' v.ownBlock) : Kept X w0 w' :=
  ((h.alloc ob).drew).trans' (Kept.of_grownBy hg) (fun k hk e => by have := (own_lo hv e.symm).1; omega)
/-- a cell of an owned row -/
theorem own_cell {w : World} (h : w.ownsRow B e size v n xs) : ∃ a cap, v = .slice a n cap ∧ ∀ j u, xs[j]? = some u → ∃ g, a = some ⟨g, 0, none⟩ ∧ B ≤ g ∧ g < w.heap.size ∧ w.cell? ⟨g, j, none⟩ = some u ∧ w.frozen? ⟨g, j, none⟩ = false := by
  have hl := h.1
  rcases h.2 with ⟨rfl, rfl⟩ | ⟨g, cap, cur, rfl, hb, hh, hnc, hcm, hcs, htake⟩
  · have hx : xs = [] := List.eq_nil_of_length_eq_zero (by simpa using hl)
    exact ⟨_, _, rfl, fun j u hj => by rw [hx] at hj; simp at hj⟩
  · refine ⟨_, _, rfl, fun j u hj => ⟨g, rfl, hb, lt_of_block hh, ?_, by simp [World.frozen?, hh]⟩⟩
    rw [cell_of_row w g j _ _ (0, 0) hh, ← Array.getElem?_toList]
    have hj' : j < xs.length := (List.getElem?_eq_some_iff.1 hj).1
    rw [← htake, List.getElem?_take] at hj
    split at hj
    · exact hj
    · cases hj
end
end Go.Proofs.YtenbdoceaabecaaGreat
