/- A slice of items that came in, opened to its cells. -/
import Derived.Test.YtkfpkfbahkmakaaFoot
import Derived.Deep.Slices
import Derived.Deep.Fields
namespace Go.Proofs.Ytkfpkfbahkmakaa
open Go.ChangeShapes Go.WideShapes Go.ChangeAt Go.RowKit
set_option linter.unusedVariables false

structure Item where
  kind : Int
  n : Int
  flag : Bool
  s : ByteArray

def I64 (x : Int) : Prop := -9223372036854775808 ≤ x ∧ x ≤ 9223372036854775807
theorem I64.of_wf {x : Int} (h : (Lit.int .i64 x).wf = true) : I64 x := by
  simp [Lit.wf, IntKind.min, IntKind.max, IntKind.bits, IntKind.signed] at h
  unfold I64; omega

structure Item.Fits (x : Item) : Prop where
  kind : I64 x.kind
  n : I64 x.n
  s : x.s.size ≤ maxLen

/-- the items its lie, one behind the other, where the slice says -/
structure ItemsAt (w : World) (a : Option Addr) (len : Nat) (its : List Item) : Prop where
  length : its.length = len
  fits : ∀ x ∈ its, x.Fits
  room : len ≤ 9223372036854775807
  at_ : len = 0 ∨ ∃ b off, a = some ⟨b, off, none⟩ ∧ b < w.heap.size ∧ ∀ i (h : i < its.length),
    w.cell? ⟨b, off + i * 4, none⟩ = some (.int .i64 its[i].kind) ∧ w.cell? ⟨b, off + i * 4 + 1, none⟩ = some (.int .i64 its[i].n) ∧
    w.cell? ⟨b, off + i * 4 + 2, none⟩ = some (.bool its[i].flag) ∧ w.cell? ⟨b, off + i * 4 + 3, none⟩ = some (.string its[i].s)

theorem ItemsAt.below {w w' : World} {a : Option Addr} {len : Nat} {its : List Item} (h : ItemsAt w a len its) (hb : Below w.heap.size w w') : ItemsAt w' a len its := by
  refine ⟨h.length, h.fits, h.room, ?_⟩
  rcases h.at_ with h0 | ⟨b, off, ha, hlt, hc⟩
  · exact Or.inl h0
  · refine Or.inr ⟨b, off, ha, Nat.lt_of_lt_of_le hlt hb.size, fun i hi => ?_⟩
    obtain ⟨h1, h2, h3, h4⟩ := hc i hi
    have k : ∀ o, w'.cell? ⟨b, o, none⟩ = w.cell? ⟨b, o, none⟩ := fun o => hb.cell (p := ⟨b, o, none⟩) hlt
    exact ⟨by rw [k]; exact h1, by rw [k]; exact h2, by rw [k]; exact h3, by rw [k]; exact h4⟩

section
variable {H : Type} {enc : TypeId × Value → H} {w : World} {base : Nat} {spare : Nat → Bool} {held : Bool}

/-- a struct of one-cell fields, field by field -/
theorem struct_read {P : Program} {t : TypeId} {fs : Array Field} {fuel : Nat} {cs : List Value} {x : DataW H × List MemPlace} (hu : P.underlying t = some (.struct fs)) (hone : Go.Deep.oneCellFields P fs = true) (hC : P.cellsOf t = fs.size)
    (h : DataW.trod enc P w base spare held fuel t cs = some x) :
    ∃ n, cs.length = fs.size ∧ ∀ (j : Nat) (f : Field), fs[j]? = some f → ∃ v y, cs[j]? = some v ∧ DataW.trod enc P w base spare held n f.type [v] = some y := by
  obtain ⟨xs, n, _, _, hlen, hxl, hf⟩ := DataW.trod_struct hu h
  rw [hC] at hlen
  refine ⟨n, hlen, fun j f hj => ?_⟩
  obtain ⟨ho, hk⟩ := Go.Deep.hone_of hone j f hj
  have hjl : j < fs.size := (Array.getElem?_eq_some_iff.1 hj).1
  have h1 := hf j f hj
  rw [ho, hk, List.drop_eq_getElem_cons (by omega)] at h1
  exact ⟨cs[j], xs[j], List.getElem?_eq_getElem (by omega), h1.trans (List.getElem?_eq_getElem (by omega))⟩

/-- one item of four cells -/
theorem item_of {n : Nat} {cs : List Value} {x : DataW H × List MemPlace} (h : DataW.trod enc Try.prog w base spare held n 29 cs = some x) :
    ∃ it : Item, it.Fits ∧ cs = [.int .i64 it.kind, .int .i64 it.n, .bool it.flag, .string it.s] := by
  obtain ⟨m, hlen, hf⟩ := struct_read Try.underlying29 (by kernel_rfl) (by kernel_rfl) h
  have hl : cs.length = 4 := hlen
  match cs, hl with
  | [c0, c1, c2, c3], _ =>
    obtain ⟨v0, y0, e0, h0⟩ := hf 0 _ rfl
    obtain ⟨v1, y1, e1, h1⟩ := hf 1 _ rfl
    obtain ⟨v2, y2, e2, h2⟩ := hf 2 _ rfl
    obtain ⟨v3, y3, e3, h3⟩ := hf 3 _ rfl
    simp at e0 e1 e2 e3
    subst e0 e1 e2 e3
    obtain ⟨k, ek, _, wk⟩ := DataW.trod_int Try.underlying3 h0
    obtain ⟨q, eq, _, wq⟩ := DataW.trod_int Try.underlying3 h1
    obtain ⟨f, ef, _⟩ := DataW.trod_bool Try.underlying4 h2
    obtain ⟨s, es, _, ws⟩ := DataW.trod_string Try.underlying9 h3
    simp only [List.cons.injEq, and_true] at ek eq ef es
    subst ek eq ef es
    exact ⟨⟨k, q, f, s⟩, ⟨I64.of_wf wk, I64.of_wf wq, ws⟩, rfl⟩

theorem list_of {α : Type} {Q : Nat → α → Prop} : ∀ (n : Nat), (∀ i, i < n → ∃ x, Q i x) → ∃ l : List α, l.length = n ∧ ∀ i (h : i < l.length), Q i l[i]
  | 0, _ => ⟨[], rfl, fun i h => by simp at h⟩
  | n + 1, h => by
    obtain ⟨l, hl, hq⟩ := list_of n (fun i hi => h i (by omega))
    obtain ⟨x, hx⟩ := h n (by omega)
    refine ⟨l ++ [x], by simp [hl], fun i hi => ?_⟩
    by_cases hin : i < l.length
    · rw [List.getElem_append_left hin]; exact hq i hin
    · have : i = n := by simp at hi; omega
      subst this
      rw [List.getElem_append_right (by omega)]
      simpa [hl] using hx

theorem items_of {fuel : Nat} {a : Option Addr} {len cap : Nat} {x : DataW H × List MemPlace} (hsp : ∀ b, spare b = true)
    (h : DataW.trod enc Try.prog w base spare held fuel 22 [.slice a len cap] = some x) : ∃ its, ItemsAt w a len its := by
  rcases Go.Deep.open_slice Try.underlying22 h with ⟨hc, _⟩ | ⟨a', len', cap', m, n, D, Pl, hc, hb, hl, hm, hmm, hx, hi⟩
  · simp at hc
    obtain ⟨rfl, rfl, rfl⟩ := hc
    exact ⟨[], rfl, by simp, Nat.zero_le _, Or.inl rfl⟩
  · simp at hc
    obtain ⟨rfl, rfl, rfl⟩ := hc
    have e4 : Try.prog.cellsOf 29 = 4 := by kernel_rfl
    rw [hsp, if_pos rfl] at hmm
    have key : ∀ i, i < len → ∃ it : Item, it.Fits ∧ w.cell? (a'.add (i * 4 + 0)) = some (.int .i64 it.kind) ∧ w.cell? (a'.add (i * 4 + 1)) = some (.int .i64 it.n) ∧ w.cell? (a'.add (i * 4 + 2)) = some (.bool it.flag) ∧ w.cell? (a'.add (i * 4 + 3)) = some (.string it.s) := by
      intro i hil
      obtain ⟨cs', hcells, ht⟩ := hi i (by omega)
      obtain ⟨it, hfit, rfl⟩ := item_of ht
      obtain ⟨_, _, hat⟩ := World.cells?_some hcells
      rw [e4] at hat
      have h0 := hat 0 (by omega)
      have h1 := hat 1 (by omega)
      have h2 := hat 2 (by omega)
      have h3 := hat 3 (by omega)
      simp only [Go.Deep.add_add] at h0 h1 h2 h3
      exact ⟨it, hfit, h0, h1, h2, h3⟩
    obtain ⟨its, hil, hq⟩ := list_of len key
    refine ⟨its, hil, ?_, by unfold maxLen at hm; omega, ?_⟩
    · intro y hy
      obtain ⟨i, hi2, rfl⟩ := List.getElem_of_mem hy
      exact (hq i hi2).1
    · rcases Nat.eq_zero_or_pos len with h0 | hp
      · exact Or.inl h0
      · right
        obtain ⟨b, off, spot⟩ := a'
        have c0 := (hq 0 (by omega)).2.1
        have hspot : spot = none := by simpa [Addr.add] using World.cell?_spot c0
        subst hspot
        have hadd : ∀ j, (⟨b, off, none⟩ : Addr).add j = ⟨b, off + j, none⟩ := fun j => by unfold Addr.add; split <;> simp_all
        refine ⟨b, off, rfl, World.block_lt_of_cell? w _ c0, fun i hi2 => ?_⟩
        have hs := (hq i hi2).2
        simp only [hadd, Nat.add_zero, ← Nat.add_assoc] at hs
        exact hs
end
end Go.Proofs.Ytkfpkfbahkmakaa
