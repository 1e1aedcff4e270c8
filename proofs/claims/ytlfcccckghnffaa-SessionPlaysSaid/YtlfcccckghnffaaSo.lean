/- Numbers and steps that came in. -/
import Derived.Test.YtlfcccckghnffaaSe
import Derived.SizedLaws
namespace Go.Proofs.Ytlfcccckghnffaa
open Go.ChangeShapes Go.WideShapes Go.ChangeAt Go.RowKit Go.Maps
set_option linter.unusedVariables false
set_option linter.unusedSimpArgs false
theorem i64_wf {x : Int} (h : (Lit.int .i64 x).wf = true) : I64 x := by
  simp [Lit.wf, IntKind.min, IntKind.max, IntKind.bits, IntKind.signed] at h
  unfold I64; omega
structure IntsAt (w : World) (a : Option Addr) (l : List Int) : Prop where
  fits : ∀ x ∈ l, I64 x
  room : l.length ≤ 9223372036854775807
  at_ : l.length = 0 ∨ ∃ b off, a = some ⟨b, off, none⟩ ∧ b < w.heap.size ∧ ∀ i (h : i < l.length), w.cell? ⟨b, off + i, none⟩ = some (.int .i64 l[i])
theorem IntsAt.kept {w w' : World} {a : Option Addr} {l : List Int} (h : IntsAt w a l) (hk : Kept (fun _ => False) w w') : IntsAt w' a l := by
  refine ⟨h.fits, h.room, ?_⟩
  rcases h.at_ with h0 | ⟨b, off, ha, hlt, hc⟩
  · exact .inl h0
  · exact .inr ⟨b, off, ha, Nat.lt_of_lt_of_le hlt hk.size, fun i hi => by rw [World.cell?_of_block (w := w) (hk.block b hlt (fun f => f))]; exact hc i hi⟩
structure St4 where
  what : Int
  id : Int
  to : Int
  now : Int
structure StepsAt (w : World) (a : Option Addr) (l : List St4) : Prop where
  fits : ∀ x ∈ l, I64 x.what ∧ I64 x.id ∧ I64 x.to ∧ I64 x.now
  room : l.length ≤ 140737488351232
  at_ : l.length = 0 ∨ ∃ b off, a = some ⟨b, off, none⟩ ∧ b < w.heap.size ∧ ∀ i (h : i < l.length),
    w.cell? ⟨b, off + i * 4, none⟩ = some (.int .i64 l[i].what) ∧ w.cell? ⟨b, off + i * 4 + 1, none⟩ = some (.int .i64 l[i].id) ∧
    w.cell? ⟨b, off + i * 4 + 2, none⟩ = some (.int .i64 l[i].to) ∧ w.cell? ⟨b, off + i * 4 + 3, none⟩ = some (.int .i64 l[i].now)
theorem StepsAt.kept {w w' : World} {a : Option Addr} {l : List St4} (h : StepsAt w a l) (hk : Kept (fun _ => False) w w') : StepsAt w' a l := by
  refine ⟨h.fits, h.room, ?_⟩
  rcases h.at_ with h0 | ⟨b, off, ha, hlt, hc⟩
  · exact .inl h0
  · refine .inr ⟨b, off, ha, Nat.lt_of_lt_of_le hlt hk.size, fun i hi => ?_⟩
    obtain ⟨h1, h2, h3, h4⟩ := hc i hi
    have k : ∀ o, w'.cell? ⟨b, o, none⟩ = w.cell? ⟨b, o, none⟩ := fun o => World.cell?_of_block (w := w) (hk.block b hlt (fun f => f))
    exact ⟨by rw [k]; exact h1, by rw [k]; exact h2, by rw [k]; exact h3, by rw [k]; exact h4⟩
section
variable {H : Type} {enc : TypeId × Value → H} {w : World} {base : Nat} {spare : Nat → Bool} {held : Bool}
theorem ints_of {fuel : Nat} {a : Option Addr} {len cap : Nat} {x : DataW H × List MemPlace}
    (h : DataW.trod enc Try.prog w base (fun _ => true) held fuel 37 [.slice a len cap] = some x) : ∃ l : List Int, l.length = len ∧ IntsAt w a l := by
  rcases open_ints Try.underlying37 Try.underlying3 (by kernel_rfl) h with ⟨hc, _⟩ | ⟨a', len', cap', zs, hc, hb, hl, hm, hz, hx, hi, hwf⟩
  · simp only [List.cons.injEq, Value.slice.injEq, and_true] at hc
    obtain ⟨rfl, rfl, rfl⟩ := hc
    exact ⟨[], rfl, ⟨(fun x hx => by cases hx), Nat.zero_le _, .inl rfl⟩⟩
  · simp only [List.cons.injEq, Value.slice.injEq, and_true] at hc
    obtain ⟨rfl, rfl, rfl⟩ := hc
    simp only [if_true] at hz
    have e : (zs.take len).length = len := by rw [List.length_take]; omega
    refine ⟨zs.take len, e, fun x hx => i64_wf (hwf x (List.mem_of_mem_take hx)), by unfold maxLen at hm; omega, ?_⟩
    rcases Nat.eq_zero_or_pos len with h0 | hp
    · exact .inl (by omega)
    · right
      obtain ⟨b, off, spot⟩ := a'
      have hspot : spot = none := by simpa [Addr.add] using World.cell?_spot (hi 0 (by omega))
      subst hspot
      refine ⟨b, off, rfl, World.block_lt_of_cell? w _ (hi 0 (by omega)), fun i hi0 => ?_⟩
      have hcell := hi i (by omega)
      have hadd : (⟨b, off, none⟩ : Addr).add i = ⟨b, off + i, none⟩ := by unfold Addr.add; split <;> simp_all
      rw [hadd] at hcell
      rw [hcell, List.getElem_take]
      simp [List.getD, List.getElem?_eq_getElem (show i < zs.length by omega)]
/-- a struct of one-cell fields, field by field -/
theorem struct_read {P : Program} {t : TypeId} {fs : Array Field} {fuel : Nat} {cs : List Value} {x : DataW H × List MemPlace} (hu : P.underlying t = some (.struct fs)) (hone : Go.Deep.oneCellFields P fs = true) (hC : P.cellsOf t = fs.size)
    (h : DataW.trod enc P w base spare held fuel t cs = some x) :
    ∃ n, cs.length = fs.size ∧ ∀ (j : Nat) (f : Field), fs[j]? = some f → ∃ v y, cs[j]? = some v ∧ DataW.trod enc P w base spare held n f.type [v] = some y := by
  obtain ⟨xs, n, _, _, hlen, hxl, hf⟩ := DataW.trod_struct hu h
  rw [hC] at hlen
  refine ⟨n, hlen, fun j f hj => ?_⟩
  obtain ⟨ho, hk⟩ := Go.Deep.hone_of hone j f hj
  have hjl : j < fs.size := (Array.getElem?_eq_some_iff.1 hj).1
  have h1 := hf j f hj
  rw [ho, hk, List.drop_eq_getElem_cons (by omega)] at h1
  exact ⟨cs[j], xs[j], List.getElem?_eq_getElem (by omega), h1.trans (List.getElem?_eq_getElem (by omega))⟩
theorem step_of {n : Nat} {cs : List Value} {x : DataW H × List MemPlace} (h : DataW.trod enc Try.prog w base spare held n 31 cs = some x) :
    ∃ s : St4, (I64 s.what ∧ I64 s.id ∧ I64 s.to ∧ I64 s.now) ∧ cs = [.int .i64 s.what, .int .i64 s.id, .int .i64 s.to, .int .i64 s.now] := by
  obtain ⟨m, hlen, hf⟩ := struct_read Try.underlying31 (by kernel_rfl) (by kernel_rfl) h
  have hl : cs.length = 4 := hlen
  match cs, hl with
  | [c0, c1, c2, c3], _ =>
    obtain ⟨v0, y0, e0, h0⟩ := hf 0 _ rfl
    obtain ⟨v1, y1, e1, h1⟩ := hf 1 _ rfl
    obtain ⟨v2, y2, e2, h2⟩ := hf 2 _ rfl
    obtain ⟨v3, y3, e3, h3⟩ := hf 3 _ rfl
    simp at e0 e1 e2 e3
    subst e0 e1 e2 e3
    obtain ⟨a, ea, _, wa⟩ := DataW.trod_int Try.underlying3 h0
    obtain ⟨b, eb, _, wb⟩ := DataW.trod_int Try.underlying3 h1
    obtain ⟨c, ec, _, wc⟩ := DataW.trod_int Try.underlying3 h2
    obtain ⟨d, ed, _, wd⟩ := DataW.trod_int Try.underlying3 h3
    simp only [List.cons.injEq, and_true] at ea eb ec ed
    subst ea eb ec ed
    exact ⟨⟨a, b, c, d⟩, ⟨i64_wf wa, i64_wf wb, i64_wf wc, i64_wf wd⟩, rfl⟩
theorem list_of {α : Type} {Q : Nat → α → Prop} : ∀ (n : Nat), (∀ i, i < n → ∃ x, Q i x) → ∃ l : List α, l.length = n ∧ ∀ i (h : i < l.length), Q i l[i]
  | 0, _ => ⟨[], rfl, fun i h => by simp at h⟩
  | n + 1, h => by
    obtain ⟨l, hl, hq⟩ := list_of n (fun i hi => h i (by omega))
    obtain ⟨x, hx⟩ := h n (by omega)
    refine ⟨l ++ [x], by simp [hl], fun i hi => ?_⟩
    by_cases hin : i < l.length
    · rw [List.getElem_append_left hin]; exact hq i hin
    · have : i = n := by simp at hi; omega
      subst this
      rw [List.getElem_append_right (by omega)]
      simpa [hl] using hx
theorem steps_of {fuel : Nat} {a : Option Addr} {len cap : Nat} {x : DataW H × List MemPlace} (h : DataW.trod enc Try.prog w base (fun _ => true) held fuel 22 [.slice a len cap] = some x) (hz : ∀ n ∈ x.1.weights Try.prog 22, n ≤ reachBytes) : ∃ l : List St4, l.length = len ∧ StepsAt w a l := by
  rcases Go.Deep.open_slice Try.underlying22 h with ⟨hc, _⟩ | ⟨a', len', cap', m, n, D, Pl, hc, hb, hl, hm, hmm, hx, hi⟩
  · simp at hc
    obtain ⟨rfl, rfl, rfl⟩ := hc
    exact ⟨[], rfl, ⟨(fun x hx => by cases hx), Nat.zero_le _, .inl rfl⟩⟩
  · simp at hc
    obtain ⟨rfl, rfl, rfl⟩ := hc
    have e4 : Try.prog.cellsOf 31 = 4 := by kernel_rfl
    simp only [if_true] at hmm
    have key : ∀ i, i < len → ∃ s : St4, (I64 s.what ∧ I64 s.id ∧ I64 s.to ∧ I64 s.now) ∧ w.cell? (a'.add (i * 4 + 0)) = some (.int .i64 s.what) ∧ w.cell? (a'.add (i * 4 + 1)) = some (.int .i64 s.id) ∧ w.cell? (a'.add (i * 4 + 2)) = some (.int .i64 s.to) ∧ w.cell? (a'.add (i * 4 + 3)) = some (.int .i64 s.now) := by
      intro i hil
      obtain ⟨cs', hcells, ht⟩ := hi i (by omega)
      obtain ⟨it, hfit, rfl⟩ := step_of ht
      obtain ⟨_, _, hat⟩ := World.cells?_some hcells
      rw [e4] at hat
      have h0 := hat 0 (by omega)
      have h1 := hat 1 (by omega)
      have h2 := hat 2 (by omega)
      have h3 := hat 3 (by omega)
      simp only [Go.Deep.add_add] at h0 h1 h2 h3
      exact ⟨it, hfit, h0, h1, h2, h3⟩
    obtain ⟨its, hil, hq⟩ := list_of len key
    have hlb : len ≤ reachBytes := by
      have hb1 : Try.prog.bytesOf 31 = 32 := by kernel_rfl
      have hw := hz (((List.range len).map D).length * 32 + ((List.range (m - len)).map fun j => D (len + j)).length * 32) (by
        rw [hx]
        simp only [DataW.weights, Try.underlying22, hb1, Nat.add_mul]
        exact List.mem_cons_self)
      rw [List.length_map, List.length_range] at hw
      omega
    unfold reachBytes at hlb
    refine ⟨its, hil, ?_, by omega, ?_⟩
    · intro y hy
      obtain ⟨i, hi2, rfl⟩ := List.getElem_of_mem hy
      exact (hq i hi2).1
    · rcases Nat.eq_zero_or_pos len with h0 | hp
      · exact .inl (by omega)
      · right
        obtain ⟨b, off, spot⟩ := a'
        have c0 := (hq 0 (by omega)).2.1
        have hspot : spot = none := by simpa [Addr.add] using World.cell?_spot c0
        subst hspot
        have hadd : ∀ j, (⟨b, off, none⟩ : Addr).add j = ⟨b, off + j, none⟩ := fun j => by unfold Addr.add; split <;> simp_all
        refine ⟨b, off, rfl, World.block_lt_of_cell? w _ c0, fun i hi2 => ?_⟩
        have hs := (hq i hi2).2
        simp only [hadd, Nat.add_zero, ← Nat.add_assoc] at hs
        exact hs
end
end Go.Proofs.Ytlfcccckghnffaa
