/- Rows and IDs that came in, opened to their cells. -/
import Derived.Test.YtpjanfclobpkjaaDoorUg
import Derived.Test.YtpjanfclobpkjaaDoorRows
import Derived.SliceStrings
import Derived.SizedLaws
namespace Go.Proofs.YtpjanfclobpkjaaDoor
open Go.ChangeShapes Go.WideShapes Go.ChangeAt Go.RowKit
set_option linter.unusedVariables false
set_option linter.unusedSimpArgs false
section
variable {H : Type} {enc : TypeId × Value → H} {w : World} {base : Nat} {spare : Nat → Bool} {held : Bool}

/-- a struct of one-cell fields, field by field -/
theorem struct_read {P : Program} {t : TypeId} {fs : Array Field} {fuel : Nat} {cs : List Value} {x : DataW H × List MemPlace} (hu : P.underlying t = some (.struct fs)) (hone : Go.Deep.oneCellFields P fs = true) (hC : P.cellsOf t = fs.size)
    (h : DataW.trod enc P w base spare held fuel t cs = some x) :
    ∃ n, cs.length = fs.size ∧ ∀ (j : Nat) (f : Field), fs[j]? = some f → ∃ v y, cs[j]? = some v ∧ DataW.trod enc P w base spare held n f.type [v] = some y := by
  obtain ⟨xs, n, _, _, hlen, hxl, hf⟩ := DataW.trod_struct hu h
  rw [hC] at hlen
  refine ⟨n, hlen, fun j f hj => ?_⟩
  obtain ⟨ho, hk⟩ := Go.Deep.hone_of hone j f hj
  have hjl : j < fs.size := (Array.getElem?_eq_some_iff.1 hj).1
  have h1 := hf j f hj
  rw [ho, hk, List.drop_eq_getElem_cons (by omega)] at h1
  exact ⟨cs[j], xs[j], List.getElem?_eq_getElem (by omega), h1.trans (List.getElem?_eq_getElem (by omega))⟩

theorem row_of {n : Nat} {cs : List Value} {x : DataW H × List MemPlace} (h : DataW.trod enc Tryd.prog w base spare held n 27 cs = some x) :
    ∃ r : Row, r.Fits ∧ cs = [.int .i64 r.perms, .string r.id] := by
  obtain ⟨m, hlen, hf⟩ := struct_read Tryd.underlying27 (by kernel_rfl) (by kernel_rfl) h
  have hl : cs.length = 2 := hlen
  match cs, hl with
  | [c0, c1], _ =>
    obtain ⟨v0, y0, e0, h0⟩ := hf 0 _ rfl
    obtain ⟨v1, y1, e1, h1⟩ := hf 1 _ rfl
    simp at e0 e1
    subst e0 e1
    obtain ⟨k, ek, _, wk⟩ := DataW.trod_int Tryd.underlying3 h0
    obtain ⟨s, es, _, ws⟩ := DataW.trod_string Tryd.underlying9 h1
    simp only [List.cons.injEq, and_true] at ek es
    subst ek es
    have hw := wk
    simp [Lit.wf, IntKind.min, IntKind.max, IntKind.bits, IntKind.signed] at hw
    exact ⟨⟨k, s⟩, ⟨by show -9223372036854775808 ≤ k; omega, by show k ≤ 9223372036854775807; omega, ws⟩, rfl⟩

theorem list_of {α : Type} {Q : Nat → α → Prop} : ∀ (n : Nat), (∀ i, i < n → ∃ x, Q i x) → ∃ l : List α, l.length = n ∧ ∀ i (h : i < l.length), Q i l[i]
  | 0, _ => ⟨[], rfl, fun i h => by simp at h⟩
  | n + 1, h => by
    obtain ⟨l, hl, hq⟩ := list_of n (fun i hi => h i (by omega))
    obtain ⟨x, hx⟩ := h n (by omega)
    refine ⟨l ++ [x], by simp [hl], fun i hi => ?_⟩
    by_cases hin : i < l.length
    · rw [List.getElem_append_left hin]; exact hq i hin
    · have : i = n := by simp at hi; omega
      subst this
      rw [List.getElem_append_right (by omega)]
      simpa [hl] using hx

theorem rows_of {fuel : Nat} {a : Option Addr} {len cap : Nat} {x : DataW H × List MemPlace} (hsp : ∀ b, spare b = true)
    (h : DataW.trod enc Tryd.prog w base spare held fuel 22 [.slice a len cap] = some x) : ∃ l : List Row, l.length = len ∧ RowsAt w (.slice a len cap) l ∧ (len = 0 ∨ ∃ el sp, x.1 = .slice el sp ∧ el.length = len) := by
  rcases Go.Deep.open_slice Tryd.underlying22 h with ⟨hc, _⟩ | ⟨a', len', cap', m, n, D, Pl, hc, hb, hl, hm, hmm, hx, hi⟩
  · simp at hc
    obtain ⟨rfl, rfl, rfl⟩ := hc
    exact ⟨[], rfl, RowsAt.nil _, .inl rfl⟩
  · simp at hc
    obtain ⟨rfl, rfl, rfl⟩ := hc
    have e2 : Tryd.prog.cellsOf 27 = 2 := by kernel_rfl
    rw [hsp, if_pos rfl] at hmm
    have key : ∀ i, i < len → ∃ r : Row, r.Fits ∧ w.cell? (a'.add (i * 2 + 0)) = some (.int .i64 r.perms) ∧ w.cell? (a'.add (i * 2 + 1)) = some (.string r.id) := by
      intro i hil
      obtain ⟨cs', hcells, ht⟩ := hi i (by omega)
      obtain ⟨r, hfit, rfl⟩ := row_of ht
      obtain ⟨_, _, hat⟩ := World.cells?_some hcells
      rw [e2] at hat
      have h0 := hat 0 (by omega)
      have h1 := hat 1 (by omega)
      simp only [Go.Deep.add_add] at h0 h1
      exact ⟨r, hfit, h0, h1⟩
    obtain ⟨l, hil, hq⟩ := list_of len key
    refine ⟨l, hil, ⟨⟨_, _, by rw [hil], fun i hi2 => ?_⟩, ?_, by unfold maxLen at hm; omega⟩, .inr ⟨_, _, by rw [hx], by simp⟩⟩
    · obtain ⟨b, off, spot⟩ := a'
      have hs := (hq i hi2).2
      have hspot : spot = none := by simpa [Addr.add] using World.cell?_spot (hq 0 (by omega)).2.1
      subst hspot
      have hadd : ∀ j, (⟨b, off, none⟩ : Addr).add j = ⟨b, off + j, none⟩ := fun j => by unfold Addr.add; split <;> simp_all
      simp only [hadd, Nat.add_zero, ← Nat.add_assoc] at hs
      exact ⟨b, off, rfl, World.block_lt_of_cell? w _ hs.1, hs.1, hs.2⟩
    · intro y hy
      obtain ⟨i, hi2, rfl⟩ := List.getElem_of_mem hy
      exact (hq i hi2).1

theorem ids_of {fuel : Nat} {a : Option Addr} {len cap : Nat} {x : DataW H × List MemPlace} (hsp : ∀ b, spare b = true)
    (h : DataW.trod enc Tryd.prog w base spare held fuel 25 [.slice a len cap] = some x) : ∃ l : List ByteArray, l.length = len ∧ IdsAt w (.slice a len cap) l ∧ (∀ s ∈ l, s.size ≤ maxLen) ∧ (len = 0 ∨ ∃ el sp, x.1 = .slice el sp ∧ el.length = len) := by
  rcases Go.ChangeShapes.open_strings Tryd.underlying25 Tryd.underlying9 (by kernel_rfl) h with ⟨hc, _⟩ | ⟨a', len', cap', ss, hc, hb, hl, hm, hlen, hx, hi, hsz⟩
  · simp at hc
    obtain ⟨rfl, rfl, rfl⟩ := hc
    exact ⟨[], rfl, IdsAt.nil _, by simp, .inl rfl⟩
  · simp at hc
    obtain ⟨rfl, rfl, rfl⟩ := hc
    rw [hsp, if_pos rfl] at hlen
    have hil : (ss.take len).length = len := by rw [List.length_take]; omega
    refine ⟨ss.take len, hil, ⟨⟨_, _, by rw [hil], fun i hi2 => ?_⟩, by unfold maxLen at hm; omega⟩, fun s hs => hsz s (List.mem_of_mem_take hs), .inr ⟨_, _, by rw [hx], by simp [strs]; omega⟩⟩
    have hin : i < ss.length := by omega
    have hs := hi i hin
    obtain ⟨b, off, spot⟩ := a'
    have hspot : spot = none := by simpa [Addr.add] using World.cell?_spot (hi 0 (by omega))
    subst hspot
    rw [show (⟨b, off, none⟩ : Addr).add i = ⟨b, off + i, none⟩ by unfold Addr.add; split <;> simp_all] at hs
    refine ⟨b, off, rfl, World.block_lt_of_cell? w _ hs, ?_⟩
    rw [hs, List.getElem_take, List.getD, List.getElem?_eq_getElem hin]; rfl
end

theorem bulk_pos {H : Type} (d : DataW H) : 1 ≤ Rows.uptoBulk d := by
  cases d with
  | lit l => cases l <;> simp [Rows.uptoBulk]
  | _ => simp [Rows.uptoBulk]
theorem bulk_len {H : Type} : ∀ (l : List (DataW H)), l.length ≤ Rows.uptoBulkAll l
  | [] => Nat.zero_le _
  | d :: l => by
    have := bulk_len l
    have h1 := bulk_pos d
    simp only [List.length_cons, Rows.uptoBulkAll]
    omega
end Go.Proofs.YtpjanfclobpkjaaDoor
