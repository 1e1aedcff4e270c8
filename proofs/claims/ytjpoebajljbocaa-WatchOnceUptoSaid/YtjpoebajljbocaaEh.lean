/- Rows of events and of armed watches that came in. -/
import Derived.Test.YtjpoebajljbocaaEg
import Derived.IntWalk
import Derived.Deep.Slices
import Derived.Deep.Fields
import Derived.SizedLaws
import Derived.OpenShut
namespace Go.Proofs.Ytjpoebajljbocaa
open Go.ChangeShapes Go.WideShapes Go.ChangeAt Go.RowKit Go.Maps
set_option linter.unusedVariables false
set_option linter.unusedSimpArgs false
structure Am where
  k : Int
  p : ByteArray
  cz : Int
  mz : Int
  pz : Int
structure ArmR (w : World) (a : Option Addr) (l : List Am) : Prop where
  at_ : ∀ i (h : i < l.length), ∃ g off, a = some ⟨g, off, none⟩ ∧ g < w.heap.size ∧
    w.cell? ⟨g, off + i * 5, none⟩ = some (.int .i64 l[i].k) ∧ w.cell? ⟨g, off + i * 5 + 1, none⟩ = some (.string l[i].p) ∧ w.cell? ⟨g, off + i * 5 + 2, none⟩ = some (.int .i64 l[i].cz) ∧
    w.cell? ⟨g, off + i * 5 + 3, none⟩ = some (.int .i64 l[i].mz) ∧ w.cell? ⟨g, off + i * 5 + 4, none⟩ = some (.int .i64 l[i].pz)
  room : l.length ≤ 9223372036854775807
  small : ∀ e ∈ l, e.p.size ≤ 140737488355328
theorem ArmR.kept {w w' : World} {X : Nat → Prop} {a : Option Addr} {l : List Am} (h : ArmR w a l) (hk : Kept X w w') (hx : ∀ b off s, a = some ⟨b, off, s⟩ → ¬ X b) : ArmR w' a l :=
  ⟨fun i hi => by
    obtain ⟨g, off, ha, hg, h0, h1, h2, h3, h4⟩ := h.at_ i hi
    have k : ∀ o, w'.cell? ⟨g, o, none⟩ = w.cell? ⟨g, o, none⟩ := fun o => World.cell?_of_block (w := w) (hk.block g hg (hx g off none ha))
    exact ⟨g, off, ha, Nat.lt_of_lt_of_le hg hk.size, by rw [k]; exact h0, by rw [k]; exact h1, by rw [k]; exact h2, by rw [k]; exact h3, by rw [k]; exact h4⟩, h.room, h.small⟩
section
variable {H : Type} {enc : TypeId × Value → H} {w : World} {base : Nat} {held : Bool}
/-- a struct of one-cell fields, field by field -/
theorem struct_readW {spare : Nat → Bool} {P : Program} {t : TypeId} {fs : Array Field} {fuel : Nat} {cs : List Value} {x : DataW H × List MemPlace} (hu : P.underlying t = some (.struct fs)) (hone : Go.Deep.oneCellFields P fs = true) (hC : P.cellsOf t = fs.size)
    (h : DataW.trod enc P w base spare held fuel t cs = some x) :
    ∃ n ds, cs.length = fs.size ∧ x.1 = .agg ds ∧ ∀ (j : Nat) (f : Field), fs[j]? = some f → ∃ v y, cs[j]? = some v ∧ DataW.trod enc P w base spare held n f.type [v] = some y ∧ ds[j]? = some y.1 := by
  obtain ⟨xs, n, _, hxe, hlen, hxl, hf⟩ := DataW.trod_struct hu h
  rw [hC] at hlen
  refine ⟨n, xs.map (·.1), hlen, by rw [hxe], fun j f hj => ?_⟩
  obtain ⟨ho, hk⟩ := Go.Deep.hone_of hone j f hj
  have hjl : j < fs.size := (Array.getElem?_eq_some_iff.1 hj).1
  have h1 := hf j f hj
  rw [ho, hk, List.drop_eq_getElem_cons (by omega)] at h1
  exact ⟨cs[j], xs[j], List.getElem?_eq_getElem (by omega), h1.trans (List.getElem?_eq_getElem (by omega)), by rw [List.getElem?_map, List.getElem?_eq_getElem (by omega)]; rfl⟩
theorem weights_allW {P : Program} {e : TypeId} {n : Nat} : ∀ {l : List (DataW H)} {i : Nat} {d : DataW H}, l[i]? = some d → n ∈ d.weights P e → n ∈ DataW.weightsAll P e l
  | [], _, _, hd, _ => by simp at hd
  | d0 :: l, 0, d, hd, hn => by
    simp only [List.getElem?_cons_zero, Option.some.injEq] at hd
    subst hd
    simp only [DataW.weightsAll, List.mem_append]
    exact .inl hn
  | d0 :: l, i + 1, d, hd, hn => by
    simp only [List.getElem?_cons_succ] at hd
    simp only [DataW.weightsAll, List.mem_append]
    exact .inr (weights_allW hd hn)
theorem list_ofW {α : Type} {Q : Nat → α → Prop} : ∀ (n : Nat), (∀ i, i < n → ∃ x, Q i x) → ∃ l : List α, l.length = n ∧ ∀ i (h : i < l.length), Q i l[i]
  | 0, _ => ⟨[], rfl, fun i h => by simp at h⟩
  | n + 1, h => by
    obtain ⟨l, hl, hq⟩ := list_ofW n (fun i hi => h i (by omega))
    obtain ⟨x, hx⟩ := h n (by omega)
    refine ⟨l ++ [x], by simp [hl], fun i hi => ?_⟩
    by_cases hin : i < l.length
    · rw [List.getElem_append_left hin]; exact hq i hin
    · have : i = n := by simp at hi; omega
      subst this
      rw [List.getElem_append_right (by omega)]
      simpa [hl] using hx
theorem ev_of {n : Nat} {cs : List Value} {x : DataW H × List MemPlace} (h : DataW.trod enc Try.prog w base (fun _ => true) held n 70 cs = some x) (hz : ∀ n ∈ x.1.weights Try.prog 70, n ≤ reachBytes) :
    ∃ s : Ev, s.path.size ≤ 140737488355328 ∧ cs = [.int .i64 s.kind, .string s.path, .int .i64 s.zx] := by
  obtain ⟨m, dd, hlen, hxd, hf⟩ := struct_readW Try.underlying70 (by kernel_rfl) (by kernel_rfl) h
  have hl : cs.length = 3 := hlen
  match cs, hl with
  | [c0, c1, c2], _ =>
    obtain ⟨v0, y0, e0, h0, u0⟩ := hf 0 _ rfl
    obtain ⟨v1, y1, e1, h1, u1⟩ := hf 1 _ rfl
    obtain ⟨v2, y2, e2, h2, u2⟩ := hf 2 _ rfl
    simp at e0 e1 e2
    subst e0 e1 e2
    obtain ⟨a0, q0, _, _⟩ := DataW.trod_int Try.underlying3 h0
    obtain ⟨a1, q1, r1, _⟩ := DataW.trod_string Try.underlying9 h1
    obtain ⟨a2, q2, _, _⟩ := DataW.trod_int Try.underlying3 h2
    simp only [List.cons.injEq, and_true] at q0 q1 q2
    subst q0 q1 q2
    refine ⟨⟨a0, a1, a2⟩, ?_, rfl⟩
    have hw := hz a1.data.toList.length (by
      rw [hxd]
      simp only [DataW.weights, Try.underlying70]
      refine DataW.weights_mem_each (j := 1) rfl u1 _ ?_
      rw [r1]
      simp [DataW.weights])
    unfold reachBytes at hw
    show a1.size ≤ _
    have : a1.size = a1.data.toList.length := (Array.length_toList (xs := a1.data)).symm
    omega
theorem evs_of {fuel : Nat} {a : Option Addr} {len cap : Nat} {x : DataW H × List MemPlace} (h : DataW.trod enc Try.prog w base (fun _ => true) held fuel 31 [.slice a len cap] = some x) (hz : ∀ n ∈ x.1.weights Try.prog 31, n ≤ reachBytes) :
    ∃ l : List Ev, l.length = len ∧ EvR w a l ∧ l.length * 32 ≤ 140737488355328 := by
  rcases Go.Deep.open_slice Try.underlying31 h with ⟨hc, _⟩ | ⟨a', len', cap', m, n, D, Pl, hc, hb, hl, hm, hmm, hx, hi⟩
  · simp at hc
    obtain ⟨rfl, rfl, rfl⟩ := hc
    exact ⟨[], rfl, ⟨(fun i hi => absurd hi (by simp)), Nat.zero_le _, (fun e he => nomatch he)⟩, by simp⟩
  · simp at hc
    obtain ⟨rfl, rfl, rfl⟩ := hc
    have eC : Try.prog.cellsOf 70 = 3 := by kernel_rfl
    simp only [if_true] at hmm
    have hbt : Try.prog.bytesOf 70 = 32 := by kernel_rfl
    have hlb : len * 32 ≤ reachBytes := by
      have hw := hz (((List.range len).map D).length * 32 + ((List.range (m - len)).map fun j => D (len + j)).length * 32) (by
        rw [hx]
        simp only [DataW.weights, Try.underlying31, hbt, Nat.add_mul]
        exact List.mem_cons_self)
      rw [List.length_map, List.length_range] at hw
      omega
    unfold reachBytes at hlb
    have key : ∀ i, i < len → ∃ s : Ev, s.path.size ≤ 140737488355328 ∧ ∃ g off, (some a' : Option Addr) = some ⟨g, off, none⟩ ∧ g < w.heap.size ∧ w.cell? ⟨g, off + i * 3, none⟩ = some (.int .i64 s.kind) ∧ w.cell? ⟨g, off + i * 3 + 1, none⟩ = some (.string s.path) ∧ w.cell? ⟨g, off + i * 3 + 2, none⟩ = some (.int .i64 s.zx) := by
      intro i hil
      rw [eC] at hi
      obtain ⟨cs', hcells, ht⟩ := hi i (by omega)
      obtain ⟨s, hs, rfl⟩ := ev_of ht (fun n hn => hz n (by
        rw [hx]
        simp only [DataW.weights, Try.underlying31]
        exact List.mem_cons_of_mem _ (List.mem_append_left _ (weights_allW (l := (List.range len).map D) (i := i) (d := D i) (by simp [hil]) hn))))
      obtain ⟨_, _, hat⟩ := World.cells?_some hcells
      have k0 := hat 0 (by omega)
      have k1 := hat 1 (by omega)
      have k2 := hat 2 (by omega)
      simp only [Go.Deep.add_add] at k0 k1 k2
      obtain ⟨b, off, spot⟩ := a'
      have hspot : spot = none := by
        obtain ⟨cs0, hc0, _⟩ := hi 0 (by omega)
        obtain ⟨_, hl0, hat0⟩ := World.cells?_some hc0
        have h0 := hat0 0 (by omega)
        obtain ⟨v0, hv0⟩ : ∃ v, cs0[0]? = some v := ⟨cs0[0]'(by omega), List.getElem?_eq_getElem _⟩
        have h1 := World.cell?_spot (h0.trans hv0)
        simpa [Addr.add] using h1
      subst hspot
      have hadd : ∀ j, (⟨b, off, none⟩ : Addr).add j = ⟨b, off + j, none⟩ := fun j => by unfold Addr.add; split <;> simp_all
      simp only [hadd, Nat.add_zero, ← Nat.add_assoc] at k0 k1 k2
      exact ⟨s, hs, b, off, rfl, World.block_lt_of_cell? w _ k0, k0, k1, k2⟩
    obtain ⟨l, hll, hq⟩ := list_ofW len key
    refine ⟨l, hll, ⟨fun i hi => (hq i hi).2, by omega, fun e he => ?_⟩, by omega⟩
    obtain ⟨i, hi, rfl⟩ := List.getElem_of_mem he
    exact (hq i hi).1
theorem arm_of {n : Nat} {cs : List Value} {x : DataW H × List MemPlace} (h : DataW.trod enc Try.prog w base (fun _ => true) held n 65 cs = some x) (hz : ∀ n ∈ x.1.weights Try.prog 65, n ≤ reachBytes) :
    ∃ s : Am, s.p.size ≤ 140737488355328 ∧ cs = [.int .i64 s.k, .string s.p, .int .i64 s.cz, .int .i64 s.mz, .int .i64 s.pz] := by
  obtain ⟨m, dd, hlen, hxd, hf⟩ := struct_readW Try.underlying65 (by kernel_rfl) (by kernel_rfl) h
  have hl : cs.length = 5 := hlen
  match cs, hl with
  | [c0, c1, c2, c3, c4], _ =>
    obtain ⟨v0, y0, e0, h0, u0⟩ := hf 0 _ rfl
    obtain ⟨v1, y1, e1, h1, u1⟩ := hf 1 _ rfl
    obtain ⟨v2, y2, e2, h2, u2⟩ := hf 2 _ rfl
    obtain ⟨v3, y3, e3, h3, u3⟩ := hf 3 _ rfl
    obtain ⟨v4, y4, e4, h4, u4⟩ := hf 4 _ rfl
    simp at e0 e1 e2 e3 e4
    subst e0 e1 e2 e3 e4
    obtain ⟨a0, q0, _, _⟩ := DataW.trod_int Try.underlying3 h0
    obtain ⟨a1, q1, r1, _⟩ := DataW.trod_string Try.underlying9 h1
    obtain ⟨a2, q2, _, _⟩ := DataW.trod_int Try.underlying3 h2
    obtain ⟨a3, q3, _, _⟩ := DataW.trod_int Try.underlying3 h3
    obtain ⟨a4, q4, _, _⟩ := DataW.trod_int Try.underlying3 h4
    simp only [List.cons.injEq, and_true] at q0 q1 q2 q3 q4
    subst q0 q1 q2 q3 q4
    refine ⟨⟨a0, a1, a2, a3, a4⟩, ?_, rfl⟩
    have hw := hz a1.data.toList.length (by
      rw [hxd]
      simp only [DataW.weights, Try.underlying65]
      refine DataW.weights_mem_each (j := 1) rfl u1 _ ?_
      rw [r1]
      simp [DataW.weights])
    unfold reachBytes at hw
    show a1.size ≤ _
    have : a1.size = a1.data.toList.length := (Array.length_toList (xs := a1.data)).symm
    omega
theorem arms_of {fuel : Nat} {a : Option Addr} {len cap : Nat} {x : DataW H × List MemPlace} (h : DataW.trod enc Try.prog w base (fun _ => true) held fuel 60 [.slice a len cap] = some x) (hz : ∀ n ∈ x.1.weights Try.prog 60, n ≤ reachBytes) :
    ∃ l : List Am, l.length = len ∧ ArmR w a l ∧ l.length * 48 ≤ 140737488355328 := by
  rcases Go.Deep.open_slice Try.underlying60 h with ⟨hc, _⟩ | ⟨a', len', cap', m, n, D, Pl, hc, hb, hl, hm, hmm, hx, hi⟩
  · simp at hc
    obtain ⟨rfl, rfl, rfl⟩ := hc
    exact ⟨[], rfl, ⟨(fun i hi => absurd hi (by simp)), Nat.zero_le _, (fun e he => nomatch he)⟩, by simp⟩
  · simp at hc
    obtain ⟨rfl, rfl, rfl⟩ := hc
    have eC : Try.prog.cellsOf 65 = 5 := by kernel_rfl
    simp only [if_true] at hmm
    have hbt : Try.prog.bytesOf 65 = 48 := by kernel_rfl
    have hlb : len * 48 ≤ reachBytes := by
      have hw := hz (((List.range len).map D).length * 48 + ((List.range (m - len)).map fun j => D (len + j)).length * 48) (by
        rw [hx]
        simp only [DataW.weights, Try.underlying60, hbt, Nat.add_mul]
        exact List.mem_cons_self)
      rw [List.length_map, List.length_range] at hw
      omega
    unfold reachBytes at hlb
    have key : ∀ i, i < len → ∃ s : Am, s.p.size ≤ 140737488355328 ∧ ∃ g off, (some a' : Option Addr) = some ⟨g, off, none⟩ ∧ g < w.heap.size ∧ w.cell? ⟨g, off + i * 5, none⟩ = some (.int .i64 s.k) ∧ w.cell? ⟨g, off + i * 5 + 1, none⟩ = some (.string s.p) ∧ w.cell? ⟨g, off + i * 5 + 2, none⟩ = some (.int .i64 s.cz) ∧ w.cell? ⟨g, off + i * 5 + 3, none⟩ = some (.int .i64 s.mz) ∧ w.cell? ⟨g, off + i * 5 + 4, none⟩ = some (.int .i64 s.pz) := by
      intro i hil
      rw [eC] at hi
      obtain ⟨cs', hcells, ht⟩ := hi i (by omega)
      obtain ⟨s, hs, rfl⟩ := arm_of ht (fun n hn => hz n (by
        rw [hx]
        simp only [DataW.weights, Try.underlying60]
        exact List.mem_cons_of_mem _ (List.mem_append_left _ (weights_allW (l := (List.range len).map D) (i := i) (d := D i) (by simp [hil]) hn))))
      obtain ⟨_, _, hat⟩ := World.cells?_some hcells
      have k0 := hat 0 (by omega)
      have k1 := hat 1 (by omega)
      have k2 := hat 2 (by omega)
      have k3 := hat 3 (by omega)
      have k4 := hat 4 (by omega)
      simp only [Go.Deep.add_add] at k0 k1 k2 k3 k4
      obtain ⟨b, off, spot⟩ := a'
      have hspot : spot = none := by
        obtain ⟨cs0, hc0, _⟩ := hi 0 (by omega)
        obtain ⟨_, hl0, hat0⟩ := World.cells?_some hc0
        have h0 := hat0 0 (by omega)
        obtain ⟨v0, hv0⟩ : ∃ v, cs0[0]? = some v := ⟨cs0[0]'(by omega), List.getElem?_eq_getElem _⟩
        have h1 := World.cell?_spot (h0.trans hv0)
        simpa [Addr.add] using h1
      subst hspot
      have hadd : ∀ j, (⟨b, off, none⟩ : Addr).add j = ⟨b, off + j, none⟩ := fun j => by unfold Addr.add; split <;> simp_all
      simp only [hadd, Nat.add_zero, ← Nat.add_assoc] at k0 k1 k2 k3 k4
      exact ⟨s, hs, b, off, rfl, World.block_lt_of_cell? w _ k0, k0, k1, k2, k3, k4⟩
    obtain ⟨l, hll, hq⟩ := list_ofW len key
    refine ⟨l, hll, ⟨fun i hi => (hq i hi).2, by omega, fun e he => ?_⟩, by omega⟩
    obtain ⟨i, hi, rfl⟩ := List.getElem_of_mem he
    exact (hq i hi).1
end
end Go.Proofs.Ytjpoebajljbocaa
