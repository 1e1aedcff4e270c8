/- What came in, opened: a tree of data as the relations of XMem, and what it is laid as, by its bulk. -/
import Derived.Test.YtpmemcpfoapjmaaGreatRows
import Derived.Test.YtpmemcpfoapjmaaGreatV03
import Derived.Deep.Slices
import Derived.Deep.Fields
namespace Go.Proofs.YtpmemcpfoapjmaaGreat
open Go.ChangeShapes Go.WideShapes Go.ChangeAt Go.RowKit
set_option linter.unusedVariables false

def Old1 (w : World) : Nat → Prop := fun k => k < w.heap.size

theorem bulk_pos {H : Type} (d : DataW H) : 1 ≤ Rows.uptoBulk d := by
  cases d with
  | lit l => cases l <;> simp [Rows.uptoBulk]
  | nil => simp [Rows.uptoBulk]
  | ptr d => simp [Rows.uptoBulk]
  | slice elems spare => simp [Rows.uptoBulk]
  | agg parts => simp [Rows.uptoBulk]
  | iface t d => simp [Rows.uptoBulk]
  | map entries => simp [Rows.uptoBulk]
  | held h => simp [Rows.uptoBulk]
theorem bulk_all {H : Type} (l r : List (DataW H)) : Rows.uptoBulkAll (l ++ r) = Rows.uptoBulkAll l + Rows.uptoBulkAll r := by
  induction l with
  | nil => simp [Rows.uptoBulkAll]
  | cons x l ih => simp only [List.cons_append, Rows.uptoBulkAll, ih]; omega

theorem bulk_mem {H : Type} {D : Nat → DataW H} {n i : Nat} (h : i < n) : Rows.uptoBulk (D i) ≤ Rows.uptoBulkAll ((List.range n).map D) := by
  obtain ⟨k, rfl⟩ : ∃ k, n = i + (1 + k) := ⟨n - i - 1, by omega⟩
  rw [List.range_add, List.map_append, bulk_all, List.range_add, List.map_append, List.map_append, bulk_all]
  simp [Rows.uptoBulkAll]
  omega

theorem pick_list {α : Type} {Q : Nat → α → Prop} : ∀ (n : Nat), (∀ i, i < n → ∃ x, Q i x) → ∃ l : List α, l.length = n ∧ ∀ i (h : i < l.length), Q i l[i]
  | 0, _ => ⟨[], rfl, fun i h => by simp at h⟩
  | n + 1, h => by
    obtain ⟨l, hl, hq⟩ := pick_list n (fun i hi => h i (by omega))
    obtain ⟨x, hx⟩ := h n (by omega)
    refine ⟨l ++ [x], by simp [hl], fun i hi => ?_⟩
    by_cases hin : i < l.length
    · rw [List.getElem_append_left hin]; exact hq i hin
    · have : i = n := by simp at hi; omega
      subst this
      rw [List.getElem_append_right (by omega)]
      simpa [hl] using hx

theorem sum_lay' {H : Type} {α : Type} {f : Fmt α} {D : Nat → DataW H} : ∀ (l : List α) (k : Nat), (∀ i (h : i < l.length), (f.lay l[i]).length ≤ 16 * Rows.uptoBulk (D (k + i))) → (layN f l).length ≤ 16 * Rows.uptoBulkAll ((List.range' k l.length).map D) := by
  intro l
  induction l with
  | nil => intro k _; simp [layN]
  | cons x l ih =>
    intro k h
    have h1 := ih (k + 1) (fun i hi => by
      have := h (i + 1) (by simpa using hi)
      simp only [List.getElem_cons_succ] at this
      rwa [show k + 1 + i = k + (i + 1) from by omega])
    have h2 := h 0 (by simp)
    simp only [List.getElem_cons_zero, Nat.add_zero] at h2
    have h3 : layN f (x :: l) = f.lay x ++ layN f l := by simp [layN]
    rw [h3, List.length_append, List.length_cons, List.range'_succ, List.map_cons]
    simp only [Rows.uptoBulkAll]
    omega
theorem sum_lay {H : Type} {α : Type} {f : Fmt α} {D : Nat → DataW H} (l : List α) (h : ∀ i (h : i < l.length), (f.lay l[i]).length ≤ 16 * Rows.uptoBulk (D i)) : (layN f l).length ≤ 16 * Rows.uptoBulkAll ((List.range l.length).map D) := by
  rw [List.range_eq_range']
  exact sum_lay' l 0 (fun i hi => by rw [Nat.zero_add]; exact h i hi)

section
variable {H : Type} {enc : TypeId × Value → H} {w : World} {base : Nat} {spare : Nat → Bool} {held : Bool}

/-- how one kind of thing is opened -/
def Opens (H : Type) (enc : TypeId × Value → H) (w : World) (base : Nat) (spare : Nat → Bool) (held : Bool) {α : Type} (E : CellsOf α) (f : Fmt α) (T : TypeId) (sz : Nat) : Prop :=
  ∀ (n : Nat) (cs : List Value) (x : DataW H × List MemPlace), DataW.trod enc Tryz.prog w base spare held n T cs = some x → Rows.uptoBulk x.1 ≤ 1048576 → w.noneFrozen x.2 →
    ∃ y : α, E w (Old1 w) cs y ∧ (f.lay y).length ≤ 16 * Rows.uptoBulk x.1 ∧ cs.length = sz

theorem opens_list {α : Type} {E : CellsOf α} {f : Fmt α} {st T : TypeId} {sz : Nat} (hsp : ∀ b, spare b = true) (hu : Tryz.prog.underlying st = some (.slice T)) (hC : Tryz.prog.cellsOf T = sz) (hpos : 0 < sz)
    (hel : Opens H enc w base spare held E f T sz) : Opens H enc w base spare held (fun w ok cs (l : List α) => ∃ v, cs = [v] ∧ ListR E w ok sz v l) (listF f) st 1 := by
  intro fuel cs x h hbk hz
  rcases Go.Deep.open_slice hu h with ⟨rfl, rfl⟩ | ⟨a, len, cap, m, n, D, Pl, rfl, hb, hl, hm, hmm, rfl, hi⟩
  · refine ⟨[], ⟨_, rfl, ListR.nil _ _ _ _⟩, ?_, rfl⟩
    simp only [listF, layN, List.length_nil, List.flatMap_nil, List.append_nil, Rows.uptoBulk]
    have := sev_length_u64 (n := 0) (by omega)
    omega
  · rw [hsp, if_pos rfl] at hmm
    have key : ∀ i, i < len → ∃ r : List Value × α, r.1.length = sz ∧ (∀ j (hj : j < r.1.length), w.cell? (a.add (i * sz + j)) = some r.1[j]) ∧ E w (Old1 w) r.1 r.2 ∧ (f.lay r.2).length ≤ 16 * Rows.uptoBulk (D i) := by
      intro i hil
      obtain ⟨cs', hcells, ht⟩ := hi i (by omega)
      obtain ⟨y, hE, hlay, hlen⟩ := hel _ _ _ ht (by have := bulk_mem (D := D) hil; simp only [Rows.uptoBulk] at hbk ⊢; omega) (fun b o hm' => hz b o (List.mem_append_right _ (List.mem_flatMap.2 ⟨i, List.mem_range.2 (by omega), hm'⟩)))
      obtain ⟨_, hcl, hat⟩ := World.cells?_some hcells
      rw [hC] at hat hcl
      refine ⟨(cs', y), hlen, fun j hj => ?_, hE, hlay⟩
      have := hat j (by simp only at hj; omega)
      rw [Go.Deep.add_add] at this
      rw [this, List.getElem?_eq_getElem hj]
    obtain ⟨rs, hrl, hq⟩ := pick_list len key
    have hlist : (layN f (rs.map (·.2))).length ≤ 16 * Rows.uptoBulkAll ((List.range len).map D) := by
      have := sum_lay (D := D) (f := f) (rs.map (·.2)) (fun i hi => by
        have := (hq i (by simpa using hi)).2.2.2
        simpa using this)
      simpa [hrl] using this
    refine ⟨rs.map (·.2), ⟨_, rfl, rs.map (·.1), ⟨some a, cap, by simp [hrl], by simp [hrl]; exact hl, hm, ?_⟩, by simp, fun i h1 h2 => by
      have := (hq i (by simpa using h1)).2.2.1
      simpa using this⟩, ?_, rfl⟩
    · rcases Nat.eq_zero_or_pos len with h0 | hp
      · refine Or.inl ⟨List.eq_nil_of_length_eq_zero (by simp [hrl, h0]), ?_⟩
        rcases Nat.eq_zero_or_pos cap with hc0 | hc0
        · exact Or.inl hc0
        · obtain ⟨cs', hcells, _⟩ := hi 0 (by omega)
          obtain ⟨_, hcl, hat⟩ := World.cells?_some hcells
          rw [hC] at hat hcl
          have hlt := hat 0 (by omega)
          rw [List.getElem?_eq_getElem (by omega)] at hlt
          have h0w : 0 < w.heap.size := by have := World.block_lt_of_cell? w _ hlt; omega
          exact Or.inr ⟨h0w, h0w⟩
      · right
        obtain ⟨b, off, spot⟩ := a
        have c0 := (hq 0 (by omega)).2.1 0 (by have := (hq 0 (by omega)).1; omega)
        have hspot : spot = none := by simpa [Addr.add] using World.cell?_spot c0
        subst hspot
        have hadd : ∀ j, (⟨b, off, none⟩ : Addr).add j = ⟨b, off + j, none⟩ := fun j => by unfold Addr.add; split <;> simp_all
        have hblt : b < w.heap.size := by
          rw [hadd] at c0
          exact World.block_lt_of_cell? w _ c0
        refine ⟨b, off, rfl, ⟨hblt, fun k hk => hz b (off + k) (List.mem_append_left _ (List.mem_map.2 ⟨k, List.mem_range.2 (by rw [hC]; rw [List.length_map, hrl] at hk; exact Nat.lt_of_lt_of_le hk (Nat.mul_le_mul_right _ (by omega))), rfl⟩)), fun h0 => absurd (show 0 < w.heap.size by omega) h0⟩, hblt, fun i hi2 => ?_⟩
        have hir : i < rs.length := by simpa using hi2
        have hs := hq i hir
        simp only [hadd, ← Nat.add_assoc] at hs
        simp only [List.getElem_map]
        exact ⟨hs.1, hs.2.1⟩
    · simp only [listF, List.length_append, List.length_map, hrl, Rows.uptoBulk]
      have hln : len ≤ 9223372036854775807 := by unfold maxLen at hm; omega
      have := sev_length_u64 (n := len) (by omega)
      omega

theorem opens_int {T : TypeId} (hu : Tryz.prog.underlying T = some (.int .i64)) : Opens H enc w base spare held intE numF T 1 := by
  intro n cs x h _ _
  obtain ⟨k, rfl, rfl, wf⟩ := DataW.trod_int hu h
  have hi := I64.of_wf wf
  refine ⟨k, ⟨rfl, hi⟩, ?_, rfl⟩
  have := sev_length_u64 (zz_le hi.1 hi.2)
  simp only [numF, Rows.uptoBulk]
  omega
theorem opens_text {most : Nat} {T : TypeId} (hu : Tryz.prog.underlying T = some .string) : Opens H enc w base spare held textE (textF most) T 1 := by
  intro n cs x h hb _
  obtain ⟨s, rfl, rfl, hm⟩ := DataW.trod_string hu h
  simp only [Rows.uptoBulk, str_len] at hb ⊢
  refine ⟨s, ⟨rfl, by unfold Str; omega⟩, ?_, rfl⟩
  have := sev_length_u64 (n := s.size) (by omega)
  simp only [textF, List.length_append, str_len]
  omega
def boolE : CellsOf Bool := fun _ _ cs x => cs = [.bool x]
theorem opens_bool {T : TypeId} (hu : Tryz.prog.underlying T = some .bool) : Opens H enc w base spare held boolE flagF T 1 := by
  intro n cs x h hb _
  obtain ⟨s, rfl, rfl⟩ := DataW.trod_bool hu h
  exact ⟨s, rfl, by simp [flagF, Rows.uptoBulk], rfl⟩
theorem opens_sl {st T : TypeId} (hu : Tryz.prog.underlying st = some (.slice T)) {n : Nat} {cs : List Value} {x : DataW H × List MemPlace} (h : DataW.trod enc Tryz.prog w base spare held n st cs = some x) : ∃ A n c, cs = [.slice A n c] := by
  rcases Go.Deep.open_slice hu h with ⟨rfl, rfl⟩ | ⟨a, len, cap, m, n, D, Pl, rfl, _⟩
  · exact ⟨_, _, _, rfl⟩
  · exact ⟨_, _, _, rfl⟩
set_option maxRecDepth 100000 in
theorem opens_acl (hsp : ∀ b, spare b = true) : Opens H enc w base spare held aclE aclF 56 2 := by
  intro fuel cs x h hb hz
  obtain ⟨xs, n, _, rfl, hlen, hxl, hf⟩ := DataW.trod_struct Tryz.underlying56 h
  have hl : cs.length = 2 := hlen.trans (by kernel_rfl)
  match cs, hl, xs, hxl with
  | [c0, c1], _, [y0, y1], _ =>
    simp only [List.map_cons, List.map_nil, Rows.uptoBulk, Rows.uptoBulkAll] at hb ⊢
    have h0 : DataW.trod enc Tryz.prog w base spare held n 3 [c0] = some y0 := by
      have h := hf 0 _ rfl
      have e : Tryz.prog.cellsOf 3 = 1 := by kernel_rfl
      simpa [e] using h
    obtain ⟨x0, ⟨e0, i0⟩, l0, _⟩ := opens_int Tryz.underlying3 _ _ _ h0 (by omega) (fun b o hm' => hz b o (List.mem_flatMap.2 ⟨y0, by simp, hm'⟩))
    simp only [List.cons.injEq, and_true] at e0
    subst e0
    have h1 : DataW.trod enc Tryz.prog w base spare held n 9 [c1] = some y1 := by
      have h := hf 1 _ rfl
      have e : Tryz.prog.cellsOf 9 = 1 := by kernel_rfl
      simpa [e] using h
    obtain ⟨x1, ⟨e1, i1⟩, l1, _⟩ := opens_text (most := 4096) Tryz.underlying9 _ _ _ h1 (by omega) (fun b o hm' => hz b o (List.mem_flatMap.2 ⟨y1, by simp, hm'⟩))
    simp only [List.cons.injEq, and_true] at e1
    subst e1
    exact ⟨⟨x0, x1⟩, ⟨rfl, i0, i1⟩, by simp only [aclF, isoF, seqF, List.length_append]; omega, rfl⟩
set_option maxRecDepth 100000 in
theorem opens_stat (hsp : ∀ b, spare b = true) : Opens H enc w base spare held statE statF 75 9 := by
  intro fuel cs x h hb hz
  obtain ⟨xs, n, _, rfl, hlen, hxl, hf⟩ := DataW.trod_struct Tryz.underlying75 h
  have hl : cs.length = 9 := hlen.trans (by kernel_rfl)
  match cs, hl, xs, hxl with
  | [c0, c1, c2, c3, c4, c5, c6, c7, c8], _, [y0, y1, y2, y3, y4, y5, y6, y7, y8], _ =>
    simp only [List.map_cons, List.map_nil, Rows.uptoBulk, Rows.uptoBulkAll] at hb ⊢
    have h0 : DataW.trod enc Tryz.prog w base spare held n 3 [c0] = some y0 := by
      have h := hf 0 _ rfl
      have e : Tryz.prog.cellsOf 3 = 1 := by kernel_rfl
      simpa [e] using h
    obtain ⟨x0, ⟨e0, i0⟩, l0, _⟩ := opens_int Tryz.underlying3 _ _ _ h0 (by omega) (fun b o hm' => hz b o (List.mem_flatMap.2 ⟨y0, by simp, hm'⟩))
    simp only [List.cons.injEq, and_true] at e0
    subst e0
    have h1 : DataW.trod enc Tryz.prog w base spare held n 3 [c1] = some y1 := by
      have h := hf 1 _ rfl
      have e : Tryz.prog.cellsOf 3 = 1 := by kernel_rfl
      simpa [e] using h
    obtain ⟨x1, ⟨e1, i1⟩, l1, _⟩ := opens_int Tryz.underlying3 _ _ _ h1 (by omega) (fun b o hm' => hz b o (List.mem_flatMap.2 ⟨y1, by simp, hm'⟩))
    simp only [List.cons.injEq, and_true] at e1
    subst e1
    have h2 : DataW.trod enc Tryz.prog w base spare held n 3 [c2] = some y2 := by
      have h := hf 2 _ rfl
      have e : Tryz.prog.cellsOf 3 = 1 := by kernel_rfl
      simpa [e] using h
    obtain ⟨x2, ⟨e2, i2⟩, l2, _⟩ := opens_int Tryz.underlying3 _ _ _ h2 (by omega) (fun b o hm' => hz b o (List.mem_flatMap.2 ⟨y2, by simp, hm'⟩))
    simp only [List.cons.injEq, and_true] at e2
    subst e2
    have h3 : DataW.trod enc Tryz.prog w base spare held n 3 [c3] = some y3 := by
      have h := hf 3 _ rfl
      have e : Tryz.prog.cellsOf 3 = 1 := by kernel_rfl
      simpa [e] using h
    obtain ⟨x3, ⟨e3, i3⟩, l3, _⟩ := opens_int Tryz.underlying3 _ _ _ h3 (by omega) (fun b o hm' => hz b o (List.mem_flatMap.2 ⟨y3, by simp, hm'⟩))
    simp only [List.cons.injEq, and_true] at e3
    subst e3
    have h4 : DataW.trod enc Tryz.prog w base spare held n 3 [c4] = some y4 := by
      have h := hf 4 _ rfl
      have e : Tryz.prog.cellsOf 3 = 1 := by kernel_rfl
      simpa [e] using h
    obtain ⟨x4, ⟨e4, i4⟩, l4, _⟩ := opens_int Tryz.underlying3 _ _ _ h4 (by omega) (fun b o hm' => hz b o (List.mem_flatMap.2 ⟨y4, by simp, hm'⟩))
    simp only [List.cons.injEq, and_true] at e4
    subst e4
    have h5 : DataW.trod enc Tryz.prog w base spare held n 3 [c5] = some y5 := by
      have h := hf 5 _ rfl
      have e : Tryz.prog.cellsOf 3 = 1 := by kernel_rfl
      simpa [e] using h
    obtain ⟨x5, ⟨e5, i5⟩, l5, _⟩ := opens_int Tryz.underlying3 _ _ _ h5 (by omega) (fun b o hm' => hz b o (List.mem_flatMap.2 ⟨y5, by simp, hm'⟩))
    simp only [List.cons.injEq, and_true] at e5
    subst e5
    have h6 : DataW.trod enc Tryz.prog w base spare held n 3 [c6] = some y6 := by
      have h := hf 6 _ rfl
      have e : Tryz.prog.cellsOf 3 = 1 := by kernel_rfl
      simpa [e] using h
    obtain ⟨x6, ⟨e6, i6⟩, l6, _⟩ := opens_int Tryz.underlying3 _ _ _ h6 (by omega) (fun b o hm' => hz b o (List.mem_flatMap.2 ⟨y6, by simp, hm'⟩))
    simp only [List.cons.injEq, and_true] at e6
    subst e6
    have h7 : DataW.trod enc Tryz.prog w base spare held n 3 [c7] = some y7 := by
      have h := hf 7 _ rfl
      have e : Tryz.prog.cellsOf 3 = 1 := by kernel_rfl
      simpa [e] using h
    obtain ⟨x7, ⟨e7, i7⟩, l7, _⟩ := opens_int Tryz.underlying3 _ _ _ h7 (by omega) (fun b o hm' => hz b o (List.mem_flatMap.2 ⟨y7, by simp, hm'⟩))
    simp only [List.cons.injEq, and_true] at e7
    subst e7
    have h8 : DataW.trod enc Tryz.prog w base spare held n 3 [c8] = some y8 := by
      have h := hf 8 _ rfl
      have e : Tryz.prog.cellsOf 3 = 1 := by kernel_rfl
      simpa [e] using h
    obtain ⟨x8, ⟨e8, i8⟩, l8, _⟩ := opens_int Tryz.underlying3 _ _ _ h8 (by omega) (fun b o hm' => hz b o (List.mem_flatMap.2 ⟨y8, by simp, hm'⟩))
    simp only [List.cons.injEq, and_true] at e8
    subst e8
    exact ⟨⟨x0, x1, x2, x3, x4, x5, x6, x7, x8⟩, ⟨rfl, i0, i1, i2, i3, i4, i5, i6, i7, i8⟩, by simp only [statF, isoF, seqF, List.length_append]; omega, rfl⟩
set_option maxRecDepth 100000 in
theorem opens_armed (hsp : ∀ b, spare b = true) : Opens H enc w base spare held armedE armedF 73 5 := by
  intro fuel cs x h hb hz
  obtain ⟨xs, n, _, rfl, hlen, hxl, hf⟩ := DataW.trod_struct Tryz.underlying73 h
  have hl : cs.length = 5 := hlen.trans (by kernel_rfl)
  match cs, hl, xs, hxl with
  | [c0, c1, c2, c3, c4], _, [y0, y1, y2, y3, y4], _ =>
    simp only [List.map_cons, List.map_nil, Rows.uptoBulk, Rows.uptoBulkAll] at hb ⊢
    have h0 : DataW.trod enc Tryz.prog w base spare held n 3 [c0] = some y0 := by
      have h := hf 0 _ rfl
      have e : Tryz.prog.cellsOf 3 = 1 := by kernel_rfl
      simpa [e] using h
    obtain ⟨x0, ⟨e0, i0⟩, l0, _⟩ := opens_int Tryz.underlying3 _ _ _ h0 (by omega) (fun b o hm' => hz b o (List.mem_flatMap.2 ⟨y0, by simp, hm'⟩))
    simp only [List.cons.injEq, and_true] at e0
    subst e0
    have h1 : DataW.trod enc Tryz.prog w base spare held n 9 [c1] = some y1 := by
      have h := hf 1 _ rfl
      have e : Tryz.prog.cellsOf 9 = 1 := by kernel_rfl
      simpa [e] using h
    obtain ⟨x1, ⟨e1, i1⟩, l1, _⟩ := opens_text (most := 4096) Tryz.underlying9 _ _ _ h1 (by omega) (fun b o hm' => hz b o (List.mem_flatMap.2 ⟨y1, by simp, hm'⟩))
    simp only [List.cons.injEq, and_true] at e1
    subst e1
    have h2 : DataW.trod enc Tryz.prog w base spare held n 3 [c2] = some y2 := by
      have h := hf 2 _ rfl
      have e : Tryz.prog.cellsOf 3 = 1 := by kernel_rfl
      simpa [e] using h
    obtain ⟨x2, ⟨e2, i2⟩, l2, _⟩ := opens_int Tryz.underlying3 _ _ _ h2 (by omega) (fun b o hm' => hz b o (List.mem_flatMap.2 ⟨y2, by simp, hm'⟩))
    simp only [List.cons.injEq, and_true] at e2
    subst e2
    have h3 : DataW.trod enc Tryz.prog w base spare held n 3 [c3] = some y3 := by
      have h := hf 3 _ rfl
      have e : Tryz.prog.cellsOf 3 = 1 := by kernel_rfl
      simpa [e] using h
    obtain ⟨x3, ⟨e3, i3⟩, l3, _⟩ := opens_int Tryz.underlying3 _ _ _ h3 (by omega) (fun b o hm' => hz b o (List.mem_flatMap.2 ⟨y3, by simp, hm'⟩))
    simp only [List.cons.injEq, and_true] at e3
    subst e3
    have h4 : DataW.trod enc Tryz.prog w base spare held n 3 [c4] = some y4 := by
      have h := hf 4 _ rfl
      have e : Tryz.prog.cellsOf 3 = 1 := by kernel_rfl
      simpa [e] using h
    obtain ⟨x4, ⟨e4, i4⟩, l4, _⟩ := opens_int Tryz.underlying3 _ _ _ h4 (by omega) (fun b o hm' => hz b o (List.mem_flatMap.2 ⟨y4, by simp, hm'⟩))
    simp only [List.cons.injEq, and_true] at e4
    subst e4
    exact ⟨⟨x0, x1, x2, x3, x4⟩, ⟨rfl, i0, i1, i2, i3, i4⟩, by simp only [armedF, isoF, seqF, List.length_append]; omega, rfl⟩
set_option maxRecDepth 100000 in
theorem opens_event (hsp : ∀ b, spare b = true) : Opens H enc w base spare held eventE eventF 46 3 := by
  intro fuel cs x h hb hz
  obtain ⟨xs, n, _, rfl, hlen, hxl, hf⟩ := DataW.trod_struct Tryz.underlying46 h
  have hl : cs.length = 3 := hlen.trans (by kernel_rfl)
  match cs, hl, xs, hxl with
  | [c0, c1, c2], _, [y0, y1, y2], _ =>
    simp only [List.map_cons, List.map_nil, Rows.uptoBulk, Rows.uptoBulkAll] at hb ⊢
    have h0 : DataW.trod enc Tryz.prog w base spare held n 3 [c0] = some y0 := by
      have h := hf 0 _ rfl
      have e : Tryz.prog.cellsOf 3 = 1 := by kernel_rfl
      simpa [e] using h
    obtain ⟨x0, ⟨e0, i0⟩, l0, _⟩ := opens_int Tryz.underlying3 _ _ _ h0 (by omega) (fun b o hm' => hz b o (List.mem_flatMap.2 ⟨y0, by simp, hm'⟩))
    simp only [List.cons.injEq, and_true] at e0
    subst e0
    have h1 : DataW.trod enc Tryz.prog w base spare held n 9 [c1] = some y1 := by
      have h := hf 1 _ rfl
      have e : Tryz.prog.cellsOf 9 = 1 := by kernel_rfl
      simpa [e] using h
    obtain ⟨x1, ⟨e1, i1⟩, l1, _⟩ := opens_text (most := 4096) Tryz.underlying9 _ _ _ h1 (by omega) (fun b o hm' => hz b o (List.mem_flatMap.2 ⟨y1, by simp, hm'⟩))
    simp only [List.cons.injEq, and_true] at e1
    subst e1
    have h2 : DataW.trod enc Tryz.prog w base spare held n 3 [c2] = some y2 := by
      have h := hf 2 _ rfl
      have e : Tryz.prog.cellsOf 3 = 1 := by kernel_rfl
      simpa [e] using h
    obtain ⟨x2, ⟨e2, i2⟩, l2, _⟩ := opens_int Tryz.underlying3 _ _ _ h2 (by omega) (fun b o hm' => hz b o (List.mem_flatMap.2 ⟨y2, by simp, hm'⟩))
    simp only [List.cons.injEq, and_true] at e2
    subst e2
    exact ⟨⟨x0, x1, x2⟩, ⟨rfl, i0, i1, i2⟩, by simp only [eventF, isoF, seqF, List.length_append]; omega, rfl⟩
set_option maxRecDepth 100000 in
theorem opens_hello (hsp : ∀ b, spare b = true) : Opens H enc w base spare held helloE helloF 51 4 := by
  intro fuel cs x h hb hz
  obtain ⟨xs, n, _, rfl, hlen, hxl, hf⟩ := DataW.trod_struct Tryz.underlying51 h
  have hl : cs.length = 4 := hlen.trans (by kernel_rfl)
  match cs, hl, xs, hxl with
  | [c0, c1, c2, c3], _, [y0, y1, y2, y3], _ =>
    simp only [List.map_cons, List.map_nil, Rows.uptoBulk, Rows.uptoBulkAll] at hb ⊢
    have h0 : DataW.trod enc Tryz.prog w base spare held n 3 [c0] = some y0 := by
      have h := hf 0 _ rfl
      have e : Tryz.prog.cellsOf 3 = 1 := by kernel_rfl
      simpa [e] using h
    obtain ⟨x0, ⟨e0, i0⟩, l0, _⟩ := opens_int Tryz.underlying3 _ _ _ h0 (by omega) (fun b o hm' => hz b o (List.mem_flatMap.2 ⟨y0, by simp, hm'⟩))
    simp only [List.cons.injEq, and_true] at e0
    subst e0
    have h1 : DataW.trod enc Tryz.prog w base spare held n 3 [c1] = some y1 := by
      have h := hf 1 _ rfl
      have e : Tryz.prog.cellsOf 3 = 1 := by kernel_rfl
      simpa [e] using h
    obtain ⟨x1, ⟨e1, i1⟩, l1, _⟩ := opens_int Tryz.underlying3 _ _ _ h1 (by omega) (fun b o hm' => hz b o (List.mem_flatMap.2 ⟨y1, by simp, hm'⟩))
    simp only [List.cons.injEq, and_true] at e1
    subst e1
    have h2 : DataW.trod enc Tryz.prog w base spare held n 3 [c2] = some y2 := by
      have h := hf 2 _ rfl
      have e : Tryz.prog.cellsOf 3 = 1 := by kernel_rfl
      simpa [e] using h
    obtain ⟨x2, ⟨e2, i2⟩, l2, _⟩ := opens_int Tryz.underlying3 _ _ _ h2 (by omega) (fun b o hm' => hz b o (List.mem_flatMap.2 ⟨y2, by simp, hm'⟩))
    simp only [List.cons.injEq, and_true] at e2
    subst e2
    have h3 : DataW.trod enc Tryz.prog w base spare held n 9 [c3] = some y3 := by
      have h := hf 3 _ rfl
      have e : Tryz.prog.cellsOf 9 = 1 := by kernel_rfl
      simpa [e] using h
    obtain ⟨x3, ⟨e3, i3⟩, l3, _⟩ := opens_text (most := 4096) Tryz.underlying9 _ _ _ h3 (by omega) (fun b o hm' => hz b o (List.mem_flatMap.2 ⟨y3, by simp, hm'⟩))
    simp only [List.cons.injEq, and_true] at e3
    subst e3
    exact ⟨⟨x0, x1, x2, x3⟩, ⟨rfl, i0, i1, i2, i3⟩, by simp only [helloF, isoF, seqF, List.length_append]; omega, rfl⟩
set_option maxRecDepth 100000 in
theorem opens_note (hsp : ∀ b, spare b = true) : Opens H enc w base spare held noteE noteF 54 6 := by
  intro fuel cs x h hb hz
  obtain ⟨xs, n, _, rfl, hlen, hxl, hf⟩ := DataW.trod_struct Tryz.underlying54 h
  have hl : cs.length = 6 := hlen.trans (by kernel_rfl)
  match cs, hl, xs, hxl with
  | [c0, c1, c2, c3, c4, c5], _, [y0, y1, y2, y3, y4, y5], _ =>
    simp only [List.map_cons, List.map_nil, Rows.uptoBulk, Rows.uptoBulkAll] at hb ⊢
    have h0 : DataW.trod enc Tryz.prog w base spare held n 3 [c0] = some y0 := by
      have h := hf 0 _ rfl
      have e : Tryz.prog.cellsOf 3 = 1 := by kernel_rfl
      simpa [e] using h
    obtain ⟨x0, ⟨e0, i0⟩, l0, _⟩ := opens_int Tryz.underlying3 _ _ _ h0 (by omega) (fun b o hm' => hz b o (List.mem_flatMap.2 ⟨y0, by simp, hm'⟩))
    simp only [List.cons.injEq, and_true] at e0
    subst e0
    have h1 : DataW.trod enc Tryz.prog w base spare held n 3 [c1] = some y1 := by
      have h := hf 1 _ rfl
      have e : Tryz.prog.cellsOf 3 = 1 := by kernel_rfl
      simpa [e] using h
    obtain ⟨x1, ⟨e1, i1⟩, l1, _⟩ := opens_int Tryz.underlying3 _ _ _ h1 (by omega) (fun b o hm' => hz b o (List.mem_flatMap.2 ⟨y1, by simp, hm'⟩))
    simp only [List.cons.injEq, and_true] at e1
    subst e1
    have h2 : DataW.trod enc Tryz.prog w base spare held n 3 [c2] = some y2 := by
      have h := hf 2 _ rfl
      have e : Tryz.prog.cellsOf 3 = 1 := by kernel_rfl
      simpa [e] using h
    obtain ⟨x2, ⟨e2, i2⟩, l2, _⟩ := opens_int Tryz.underlying3 _ _ _ h2 (by omega) (fun b o hm' => hz b o (List.mem_flatMap.2 ⟨y2, by simp, hm'⟩))
    simp only [List.cons.injEq, and_true] at e2
    subst e2
    have h3 : DataW.trod enc Tryz.prog w base spare held n 3 [c3] = some y3 := by
      have h := hf 3 _ rfl
      have e : Tryz.prog.cellsOf 3 = 1 := by kernel_rfl
      simpa [e] using h
    obtain ⟨x3, ⟨e3, i3⟩, l3, _⟩ := opens_int Tryz.underlying3 _ _ _ h3 (by omega) (fun b o hm' => hz b o (List.mem_flatMap.2 ⟨y3, by simp, hm'⟩))
    simp only [List.cons.injEq, and_true] at e3
    subst e3
    have h4 : DataW.trod enc Tryz.prog w base spare held n 3 [c4] = some y4 := by
      have h := hf 4 _ rfl
      have e : Tryz.prog.cellsOf 3 = 1 := by kernel_rfl
      simpa [e] using h
    obtain ⟨x4, ⟨e4, i4⟩, l4, _⟩ := opens_int Tryz.underlying3 _ _ _ h4 (by omega) (fun b o hm' => hz b o (List.mem_flatMap.2 ⟨y4, by simp, hm'⟩))
    simp only [List.cons.injEq, and_true] at e4
    subst e4
    have h5 : DataW.trod enc Tryz.prog w base spare held n 3 [c5] = some y5 := by
      have h := hf 5 _ rfl
      have e : Tryz.prog.cellsOf 3 = 1 := by kernel_rfl
      simpa [e] using h
    obtain ⟨x5, ⟨e5, i5⟩, l5, _⟩ := opens_int Tryz.underlying3 _ _ _ h5 (by omega) (fun b o hm' => hz b o (List.mem_flatMap.2 ⟨y5, by simp, hm'⟩))
    simp only [List.cons.injEq, and_true] at e5
    subst e5
    exact ⟨⟨x0, x1, x2, x3, x4, x5⟩, ⟨rfl, i0, i1, i2, i3, i4, i5⟩, by simp only [noteF, isoF, seqF, List.length_append]; omega, rfl⟩
set_option maxRecDepth 100000 in
theorem opens_part (hsp : ∀ b, spare b = true) : Opens H enc w base spare held partE partF 36 8 := by
  intro fuel cs x h hb hz
  obtain ⟨xs, n, _, rfl, hlen, hxl, hf⟩ := DataW.trod_struct Tryz.underlying36 h
  have hl : cs.length = 8 := hlen.trans (by kernel_rfl)
  match cs, hl, xs, hxl with
  | [c0, c1, c2, c3, c4, c5, c6, c7], _, [y0, y1, y2, y3, y4, y5, y6, y7], _ =>
    simp only [List.map_cons, List.map_nil, Rows.uptoBulk, Rows.uptoBulkAll] at hb ⊢
    have h0 : DataW.trod enc Tryz.prog w base spare held n 3 [c0] = some y0 := by
      have h := hf 0 _ rfl
      have e : Tryz.prog.cellsOf 3 = 1 := by kernel_rfl
      simpa [e] using h
    obtain ⟨x0, ⟨e0, i0⟩, l0, _⟩ := opens_int Tryz.underlying3 _ _ _ h0 (by omega) (fun b o hm' => hz b o (List.mem_flatMap.2 ⟨y0, by simp, hm'⟩))
    simp only [List.cons.injEq, and_true] at e0
    subst e0
    have h1 : DataW.trod enc Tryz.prog w base spare held n 9 [c1] = some y1 := by
      have h := hf 1 _ rfl
      have e : Tryz.prog.cellsOf 9 = 1 := by kernel_rfl
      simpa [e] using h
    obtain ⟨x1, ⟨e1, i1⟩, l1, _⟩ := opens_text (most := 4096) Tryz.underlying9 _ _ _ h1 (by omega) (fun b o hm' => hz b o (List.mem_flatMap.2 ⟨y1, by simp, hm'⟩))
    simp only [List.cons.injEq, and_true] at e1
    subst e1
    have h2 : DataW.trod enc Tryz.prog w base spare held n 9 [c2] = some y2 := by
      have h := hf 2 _ rfl
      have e : Tryz.prog.cellsOf 9 = 1 := by kernel_rfl
      simpa [e] using h
    obtain ⟨x2, ⟨e2, i2⟩, l2, _⟩ := opens_text (most := 4096) Tryz.underlying9 _ _ _ h2 (by omega) (fun b o hm' => hz b o (List.mem_flatMap.2 ⟨y2, by simp, hm'⟩))
    simp only [List.cons.injEq, and_true] at e2
    subst e2
    have h3 : DataW.trod enc Tryz.prog w base spare held n 24 [c3] = some y3 := by
      have h := hf 3 _ rfl
      have e : Tryz.prog.cellsOf 24 = 1 := by kernel_rfl
      simpa [e] using h
    obtain ⟨x3, ⟨v3, e3, i3⟩, l3, _⟩ := opens_list hsp Tryz.underlying24 (by kernel_rfl) (by decide) (opens_acl hsp) _ _ _ h3 (by omega) (fun b o hm' => hz b o (List.mem_flatMap.2 ⟨y3, by simp, hm'⟩))
    simp only [List.cons.injEq, and_true] at e3
    subst e3
    have h4 : DataW.trod enc Tryz.prog w base spare held n 3 [c4] = some y4 := by
      have h := hf 4 _ rfl
      have e : Tryz.prog.cellsOf 3 = 1 := by kernel_rfl
      simpa [e] using h
    obtain ⟨x4, ⟨e4, i4⟩, l4, _⟩ := opens_int Tryz.underlying3 _ _ _ h4 (by omega) (fun b o hm' => hz b o (List.mem_flatMap.2 ⟨y4, by simp, hm'⟩))
    simp only [List.cons.injEq, and_true] at e4
    subst e4
    have h5 : DataW.trod enc Tryz.prog w base spare held n 3 [c5] = some y5 := by
      have h := hf 5 _ rfl
      have e : Tryz.prog.cellsOf 3 = 1 := by kernel_rfl
      simpa [e] using h
    obtain ⟨x5, ⟨e5, i5⟩, l5, _⟩ := opens_int Tryz.underlying3 _ _ _ h5 (by omega) (fun b o hm' => hz b o (List.mem_flatMap.2 ⟨y5, by simp, hm'⟩))
    simp only [List.cons.injEq, and_true] at e5
    subst e5
    have h6 : DataW.trod enc Tryz.prog w base spare held n 33 [c6] = some y6 := by
      have h := hf 6 _ rfl
      have e : Tryz.prog.cellsOf 33 = 1 := by kernel_rfl
      simpa [e] using h
    obtain ⟨x6, ⟨e6, i6⟩, l6, _⟩ := opens_int Tryz.underlying33 _ _ _ h6 (by omega) (fun b o hm' => hz b o (List.mem_flatMap.2 ⟨y6, by simp, hm'⟩))
    simp only [List.cons.injEq, and_true] at e6
    subst e6
    have h7 : DataW.trod enc Tryz.prog w base spare held n 34 [c7] = some y7 := by
      have h := hf 7 _ rfl
      have e : Tryz.prog.cellsOf 34 = 1 := by kernel_rfl
      simpa [e] using h
    obtain ⟨A7, n7, d7, e7⟩ := opens_sl Tryz.underlying34 h7
    simp only [List.cons.injEq, and_true] at e7
    subst e7
    exact ⟨⟨x0, x1, x2, x3, x4, x5, x6⟩, ⟨_, _, rfl, i3, i0, i1, i2, i4, i5, i6, ⟨_, _, _, rfl⟩⟩, by simp only [partF, isoF, seqF, List.length_append]; omega, rfl⟩
set_option maxRecDepth 100000 in
theorem opens_txn (hsp : ∀ b, spare b = true) : Opens H enc w base spare held txnE txnF 36 8 := by
  intro fuel cs x h hb hz
  obtain ⟨xs, n, _, rfl, hlen, hxl, hf⟩ := DataW.trod_struct Tryz.underlying36 h
  have hl : cs.length = 8 := hlen.trans (by kernel_rfl)
  match cs, hl, xs, hxl with
  | [c0, c1, c2, c3, c4, c5, c6, c7], _, [y0, y1, y2, y3, y4, y5, y6, y7], _ =>
    simp only [List.map_cons, List.map_nil, Rows.uptoBulk, Rows.uptoBulkAll] at hb ⊢
    have h0 : DataW.trod enc Tryz.prog w base spare held n 3 [c0] = some y0 := by
      have h := hf 0 _ rfl
      have e : Tryz.prog.cellsOf 3 = 1 := by kernel_rfl
      simpa [e] using h
    obtain ⟨x0, ⟨e0, i0⟩, l0, _⟩ := opens_int Tryz.underlying3 _ _ _ h0 (by omega) (fun b o hm' => hz b o (List.mem_flatMap.2 ⟨y0, by simp, hm'⟩))
    simp only [List.cons.injEq, and_true] at e0
    subst e0
    have h1 : DataW.trod enc Tryz.prog w base spare held n 9 [c1] = some y1 := by
      have h := hf 1 _ rfl
      have e : Tryz.prog.cellsOf 9 = 1 := by kernel_rfl
      simpa [e] using h
    obtain ⟨x1, ⟨e1, i1⟩, l1, _⟩ := opens_text (most := 4096) Tryz.underlying9 _ _ _ h1 (by omega) (fun b o hm' => hz b o (List.mem_flatMap.2 ⟨y1, by simp, hm'⟩))
    simp only [List.cons.injEq, and_true] at e1
    subst e1
    have h2 : DataW.trod enc Tryz.prog w base spare held n 9 [c2] = some y2 := by
      have h := hf 2 _ rfl
      have e : Tryz.prog.cellsOf 9 = 1 := by kernel_rfl
      simpa [e] using h
    obtain ⟨x2, ⟨e2, i2⟩, l2, _⟩ := opens_text (most := 4096) Tryz.underlying9 _ _ _ h2 (by omega) (fun b o hm' => hz b o (List.mem_flatMap.2 ⟨y2, by simp, hm'⟩))
    simp only [List.cons.injEq, and_true] at e2
    subst e2
    have h3 : DataW.trod enc Tryz.prog w base spare held n 24 [c3] = some y3 := by
      have h := hf 3 _ rfl
      have e : Tryz.prog.cellsOf 24 = 1 := by kernel_rfl
      simpa [e] using h
    obtain ⟨x3, ⟨v3, e3, i3⟩, l3, _⟩ := opens_list hsp Tryz.underlying24 (by kernel_rfl) (by decide) (opens_acl hsp) _ _ _ h3 (by omega) (fun b o hm' => hz b o (List.mem_flatMap.2 ⟨y3, by simp, hm'⟩))
    simp only [List.cons.injEq, and_true] at e3
    subst e3
    have h4 : DataW.trod enc Tryz.prog w base spare held n 3 [c4] = some y4 := by
      have h := hf 4 _ rfl
      have e : Tryz.prog.cellsOf 3 = 1 := by kernel_rfl
      simpa [e] using h
    obtain ⟨x4, ⟨e4, i4⟩, l4, _⟩ := opens_int Tryz.underlying3 _ _ _ h4 (by omega) (fun b o hm' => hz b o (List.mem_flatMap.2 ⟨y4, by simp, hm'⟩))
    simp only [List.cons.injEq, and_true] at e4
    subst e4
    have h5 : DataW.trod enc Tryz.prog w base spare held n 3 [c5] = some y5 := by
      have h := hf 5 _ rfl
      have e : Tryz.prog.cellsOf 3 = 1 := by kernel_rfl
      simpa [e] using h
    obtain ⟨x5, ⟨e5, i5⟩, l5, _⟩ := opens_int Tryz.underlying3 _ _ _ h5 (by omega) (fun b o hm' => hz b o (List.mem_flatMap.2 ⟨y5, by simp, hm'⟩))
    simp only [List.cons.injEq, and_true] at e5
    subst e5
    have h6 : DataW.trod enc Tryz.prog w base spare held n 33 [c6] = some y6 := by
      have h := hf 6 _ rfl
      have e : Tryz.prog.cellsOf 33 = 1 := by kernel_rfl
      simpa [e] using h
    obtain ⟨x6, ⟨e6, i6⟩, l6, _⟩ := opens_int Tryz.underlying33 _ _ _ h6 (by omega) (fun b o hm' => hz b o (List.mem_flatMap.2 ⟨y6, by simp, hm'⟩))
    simp only [List.cons.injEq, and_true] at e6
    subst e6
    have h7 : DataW.trod enc Tryz.prog w base spare held n 34 [c7] = some y7 := by
      have h := hf 7 _ rfl
      have e : Tryz.prog.cellsOf 34 = 1 := by kernel_rfl
      simpa [e] using h
    obtain ⟨x7, ⟨v7, e7, i7⟩, l7, _⟩ := opens_list hsp Tryz.underlying34 (by kernel_rfl) (by decide) (opens_part hsp) _ _ _ h7 (by omega) (fun b o hm' => hz b o (List.mem_flatMap.2 ⟨y7, by simp, hm'⟩))
    simp only [List.cons.injEq, and_true] at e7
    subst e7
    have hs : (txnF.lay ⟨⟨x0, x1, x2, x3, x4, x5, x6⟩, x7⟩).length = (partF.lay ⟨x0, x1, x2, x3, x4, x5, x6⟩).length + ((listF partF).lay x7).length := by simp only [txnF, isoF, seqF, List.length_append]
    have hq : (partF.lay ⟨x0, x1, x2, x3, x4, x5, x6⟩).length ≤ 16 * (Rows.uptoBulk y0.1 + Rows.uptoBulk y1.1 + Rows.uptoBulk y2.1 + Rows.uptoBulk y3.1 + Rows.uptoBulk y4.1 + Rows.uptoBulk y5.1 + Rows.uptoBulk y6.1) := by simp only [partF, isoF, seqF, List.length_append]; omega
    exact ⟨⟨⟨x0, x1, x2, x3, x4, x5, x6⟩, x7⟩, ⟨_, ⟨_, rfl, i3, i0, i1, i2, i4, i5, i6, i7.shape⟩, i7⟩, by rw [hs]; omega, rfl⟩
set_option maxRecDepth 100000 in
theorem opens_entry (hsp : ∀ b, spare b = true) : Opens H enc w base spare held entryE entryF 38 11 := by
  intro fuel cs x h hb hz
  obtain ⟨xs, n, _, rfl, hlen, hxl, hf⟩ := DataW.trod_struct Tryz.underlying38 h
  have hl : cs.length = 11 := hlen.trans (by kernel_rfl)
  match cs, hl, xs, hxl with
  | [c0, c1, c2, c3, c4, c5, c6, c7, c8, c9, c10], _, [y0, y1, y2, y3], _ =>
    simp only [List.map_cons, List.map_nil, Rows.uptoBulk, Rows.uptoBulkAll] at hb ⊢
    have h0 : DataW.trod enc Tryz.prog w base spare held n 3 [c0] = some y0 := by
      have h := hf 0 _ rfl
      have e : Tryz.prog.cellsOf 3 = 1 := by kernel_rfl
      simpa [e] using h
    obtain ⟨x0, ⟨e0, i0⟩, l0, _⟩ := opens_int Tryz.underlying3 _ _ _ h0 (by omega) (fun b o hm' => hz b o (List.mem_flatMap.2 ⟨y0, by simp, hm'⟩))
    simp only [List.cons.injEq, and_true] at e0
    subst e0
    have h1 : DataW.trod enc Tryz.prog w base spare held n 3 [c1] = some y1 := by
      have h := hf 1 _ rfl
      have e : Tryz.prog.cellsOf 3 = 1 := by kernel_rfl
      simpa [e] using h
    obtain ⟨x1, ⟨e1, i1⟩, l1, _⟩ := opens_int Tryz.underlying3 _ _ _ h1 (by omega) (fun b o hm' => hz b o (List.mem_flatMap.2 ⟨y1, by simp, hm'⟩))
    simp only [List.cons.injEq, and_true] at e1
    subst e1
    have h2 : DataW.trod enc Tryz.prog w base spare held n 3 [c2] = some y2 := by
      have h := hf 2 _ rfl
      have e : Tryz.prog.cellsOf 3 = 1 := by kernel_rfl
      simpa [e] using h
    obtain ⟨x2, ⟨e2, i2⟩, l2, _⟩ := opens_int Tryz.underlying3 _ _ _ h2 (by omega) (fun b o hm' => hz b o (List.mem_flatMap.2 ⟨y2, by simp, hm'⟩))
    simp only [List.cons.injEq, and_true] at e2
    subst e2
    have h3 : DataW.trod enc Tryz.prog w base spare held n 36 [c3, c4, c5, c6, c7, c8, c9, c10] = some y3 := by
      have h := hf 3 _ rfl
      have e : Tryz.prog.cellsOf 36 = 8 := by kernel_rfl
      simpa [e] using h
    obtain ⟨x3, i3, l3, _⟩ := opens_txn hsp _ _ _ h3 (by omega) (fun b o hm' => hz b o (List.mem_flatMap.2 ⟨y3, by simp, hm'⟩))
    exact ⟨⟨x0, x1, x2, x3⟩, ⟨_, rfl, i3, i0, i1, i2⟩, by simp only [entryF, isoF, seqF, List.length_append]; omega, rfl⟩
set_option maxRecDepth 100000 in
theorem opens_oper1 (hsp : ∀ b, spare b = true) : Opens H enc w base spare held oper1E oper1F 28 10 := by
  intro fuel cs x h hb hz
  obtain ⟨xs, n, _, rfl, hlen, hxl, hf⟩ := DataW.trod_struct Tryz.underlying28 h
  have hl : cs.length = 10 := hlen.trans (by kernel_rfl)
  match cs, hl, xs, hxl with
  | [c0, c1, c2, c3, c4, c5, c6, c7, c8, c9], _, [y0, y1, y2, y3, y4, y5, y6, y7, y8, y9], _ =>
    simp only [List.map_cons, List.map_nil, Rows.uptoBulk, Rows.uptoBulkAll] at hb ⊢
    have h0 : DataW.trod enc Tryz.prog w base spare held n 3 [c0] = some y0 := by
      have h := hf 0 _ rfl
      have e : Tryz.prog.cellsOf 3 = 1 := by kernel_rfl
      simpa [e] using h
    obtain ⟨x0, ⟨e0, i0⟩, l0, _⟩ := opens_int Tryz.underlying3 _ _ _ h0 (by omega) (fun b o hm' => hz b o (List.mem_flatMap.2 ⟨y0, by simp, hm'⟩))
    simp only [List.cons.injEq, and_true] at e0
    subst e0
    have h1 : DataW.trod enc Tryz.prog w base spare held n 3 [c1] = some y1 := by
      have h := hf 1 _ rfl
      have e : Tryz.prog.cellsOf 3 = 1 := by kernel_rfl
      simpa [e] using h
    obtain ⟨x1, ⟨e1, i1⟩, l1, _⟩ := opens_int Tryz.underlying3 _ _ _ h1 (by omega) (fun b o hm' => hz b o (List.mem_flatMap.2 ⟨y1, by simp, hm'⟩))
    simp only [List.cons.injEq, and_true] at e1
    subst e1
    have h2 : DataW.trod enc Tryz.prog w base spare held n 9 [c2] = some y2 := by
      have h := hf 2 _ rfl
      have e : Tryz.prog.cellsOf 9 = 1 := by kernel_rfl
      simpa [e] using h
    obtain ⟨x2, ⟨e2, i2⟩, l2, _⟩ := opens_text (most := 4096) Tryz.underlying9 _ _ _ h2 (by omega) (fun b o hm' => hz b o (List.mem_flatMap.2 ⟨y2, by simp, hm'⟩))
    simp only [List.cons.injEq, and_true] at e2
    subst e2
    have h3 : DataW.trod enc Tryz.prog w base spare held n 9 [c3] = some y3 := by
      have h := hf 3 _ rfl
      have e : Tryz.prog.cellsOf 9 = 1 := by kernel_rfl
      simpa [e] using h
    obtain ⟨x3, ⟨e3, i3⟩, l3, _⟩ := opens_text (most := 4096) Tryz.underlying9 _ _ _ h3 (by omega) (fun b o hm' => hz b o (List.mem_flatMap.2 ⟨y3, by simp, hm'⟩))
    simp only [List.cons.injEq, and_true] at e3
    subst e3
    have h4 : DataW.trod enc Tryz.prog w base spare held n 24 [c4] = some y4 := by
      have h := hf 4 _ rfl
      have e : Tryz.prog.cellsOf 24 = 1 := by kernel_rfl
      simpa [e] using h
    obtain ⟨x4, ⟨v4, e4, i4⟩, l4, _⟩ := opens_list hsp Tryz.underlying24 (by kernel_rfl) (by decide) (opens_acl hsp) _ _ _ h4 (by omega) (fun b o hm' => hz b o (List.mem_flatMap.2 ⟨y4, by simp, hm'⟩))
    simp only [List.cons.injEq, and_true] at e4
    subst e4
    have h5 : DataW.trod enc Tryz.prog w base spare held n 3 [c5] = some y5 := by
      have h := hf 5 _ rfl
      have e : Tryz.prog.cellsOf 3 = 1 := by kernel_rfl
      simpa [e] using h
    obtain ⟨x5, ⟨e5, i5⟩, l5, _⟩ := opens_int Tryz.underlying3 _ _ _ h5 (by omega) (fun b o hm' => hz b o (List.mem_flatMap.2 ⟨y5, by simp, hm'⟩))
    simp only [List.cons.injEq, and_true] at e5
    subst e5
    have h6 : DataW.trod enc Tryz.prog w base spare held n 3 [c6] = some y6 := by
      have h := hf 6 _ rfl
      have e : Tryz.prog.cellsOf 3 = 1 := by kernel_rfl
      simpa [e] using h
    obtain ⟨x6, ⟨e6, i6⟩, l6, _⟩ := opens_int Tryz.underlying3 _ _ _ h6 (by omega) (fun b o hm' => hz b o (List.mem_flatMap.2 ⟨y6, by simp, hm'⟩))
    simp only [List.cons.injEq, and_true] at e6
    subst e6
    have h7 : DataW.trod enc Tryz.prog w base spare held n 4 [c7] = some y7 := by
      have h := hf 7 _ rfl
      have e : Tryz.prog.cellsOf 4 = 1 := by kernel_rfl
      simpa [e] using h
    obtain ⟨x7, e7, l7, _⟩ := opens_bool Tryz.underlying4 _ _ _ h7 (by omega) (fun b o hm' => hz b o (List.mem_flatMap.2 ⟨y7, by simp, hm'⟩))
    replace e7 : [c7] = [Value.bool x7] := e7
    simp only [List.cons.injEq, and_true] at e7
    subst e7
    have h8 : DataW.trod enc Tryz.prog w base spare held n 25 [c8] = some y8 := by
      have h := hf 8 _ rfl
      have e : Tryz.prog.cellsOf 25 = 1 := by kernel_rfl
      simpa [e] using h
    obtain ⟨A8, n8, d8, e8⟩ := opens_sl Tryz.underlying25 h8
    simp only [List.cons.injEq, and_true] at e8
    subst e8
    have h9 : DataW.trod enc Tryz.prog w base spare held n 26 [c9] = some y9 := by
      have h := hf 9 _ rfl
      have e : Tryz.prog.cellsOf 26 = 1 := by kernel_rfl
      simpa [e] using h
    obtain ⟨A9, n9, d9, e9⟩ := opens_sl Tryz.underlying26 h9
    simp only [List.cons.injEq, and_true] at e9
    subst e9
    exact ⟨⟨x0, x1, x2, x3, x4, x5, x6, x7⟩, ⟨_, _, _, rfl, i4, i0, i1, i2, i3, i5, i6, ⟨_, _, _, rfl⟩, ⟨_, _, _, rfl⟩⟩, by simp only [oper1F, isoF, seqF, List.length_append]; omega, rfl⟩
set_option maxRecDepth 100000 in
theorem opens_req (hsp : ∀ b, spare b = true) : Opens H enc w base spare held reqE reqF 28 10 := by
  intro fuel cs x h hb hz
  obtain ⟨xs, n, _, rfl, hlen, hxl, hf⟩ := DataW.trod_struct Tryz.underlying28 h
  have hl : cs.length = 10 := hlen.trans (by kernel_rfl)
  match cs, hl, xs, hxl with
  | [c0, c1, c2, c3, c4, c5, c6, c7, c8, c9], _, [y0, y1, y2, y3, y4, y5, y6, y7, y8, y9], _ =>
    simp only [List.map_cons, List.map_nil, Rows.uptoBulk, Rows.uptoBulkAll] at hb ⊢
    have h0 : DataW.trod enc Tryz.prog w base spare held n 3 [c0] = some y0 := by
      have h := hf 0 _ rfl
      have e : Tryz.prog.cellsOf 3 = 1 := by kernel_rfl
      simpa [e] using h
    obtain ⟨x0, ⟨e0, i0⟩, l0, _⟩ := opens_int Tryz.underlying3 _ _ _ h0 (by omega) (fun b o hm' => hz b o (List.mem_flatMap.2 ⟨y0, by simp, hm'⟩))
    simp only [List.cons.injEq, and_true] at e0
    subst e0
    have h1 : DataW.trod enc Tryz.prog w base spare held n 3 [c1] = some y1 := by
      have h := hf 1 _ rfl
      have e : Tryz.prog.cellsOf 3 = 1 := by kernel_rfl
      simpa [e] using h
    obtain ⟨x1, ⟨e1, i1⟩, l1, _⟩ := opens_int Tryz.underlying3 _ _ _ h1 (by omega) (fun b o hm' => hz b o (List.mem_flatMap.2 ⟨y1, by simp, hm'⟩))
    simp only [List.cons.injEq, and_true] at e1
    subst e1
    have h2 : DataW.trod enc Tryz.prog w base spare held n 9 [c2] = some y2 := by
      have h := hf 2 _ rfl
      have e : Tryz.prog.cellsOf 9 = 1 := by kernel_rfl
      simpa [e] using h
    obtain ⟨x2, ⟨e2, i2⟩, l2, _⟩ := opens_text (most := 4096) Tryz.underlying9 _ _ _ h2 (by omega) (fun b o hm' => hz b o (List.mem_flatMap.2 ⟨y2, by simp, hm'⟩))
    simp only [List.cons.injEq, and_true] at e2
    subst e2
    have h3 : DataW.trod enc Tryz.prog w base spare held n 9 [c3] = some y3 := by
      have h := hf 3 _ rfl
      have e : Tryz.prog.cellsOf 9 = 1 := by kernel_rfl
      simpa [e] using h
    obtain ⟨x3, ⟨e3, i3⟩, l3, _⟩ := opens_text (most := 4096) Tryz.underlying9 _ _ _ h3 (by omega) (fun b o hm' => hz b o (List.mem_flatMap.2 ⟨y3, by simp, hm'⟩))
    simp only [List.cons.injEq, and_true] at e3
    subst e3
    have h4 : DataW.trod enc Tryz.prog w base spare held n 24 [c4] = some y4 := by
      have h := hf 4 _ rfl
      have e : Tryz.prog.cellsOf 24 = 1 := by kernel_rfl
      simpa [e] using h
    obtain ⟨x4, ⟨v4, e4, i4⟩, l4, _⟩ := opens_list hsp Tryz.underlying24 (by kernel_rfl) (by decide) (opens_acl hsp) _ _ _ h4 (by omega) (fun b o hm' => hz b o (List.mem_flatMap.2 ⟨y4, by simp, hm'⟩))
    simp only [List.cons.injEq, and_true] at e4
    subst e4
    have h5 : DataW.trod enc Tryz.prog w base spare held n 3 [c5] = some y5 := by
      have h := hf 5 _ rfl
      have e : Tryz.prog.cellsOf 3 = 1 := by kernel_rfl
      simpa [e] using h
    obtain ⟨x5, ⟨e5, i5⟩, l5, _⟩ := opens_int Tryz.underlying3 _ _ _ h5 (by omega) (fun b o hm' => hz b o (List.mem_flatMap.2 ⟨y5, by simp, hm'⟩))
    simp only [List.cons.injEq, and_true] at e5
    subst e5
    have h6 : DataW.trod enc Tryz.prog w base spare held n 3 [c6] = some y6 := by
      have h := hf 6 _ rfl
      have e : Tryz.prog.cellsOf 3 = 1 := by kernel_rfl
      simpa [e] using h
    obtain ⟨x6, ⟨e6, i6⟩, l6, _⟩ := opens_int Tryz.underlying3 _ _ _ h6 (by omega) (fun b o hm' => hz b o (List.mem_flatMap.2 ⟨y6, by simp, hm'⟩))
    simp only [List.cons.injEq, and_true] at e6
    subst e6
    have h7 : DataW.trod enc Tryz.prog w base spare held n 4 [c7] = some y7 := by
      have h := hf 7 _ rfl
      have e : Tryz.prog.cellsOf 4 = 1 := by kernel_rfl
      simpa [e] using h
    obtain ⟨x7, e7, l7, _⟩ := opens_bool Tryz.underlying4 _ _ _ h7 (by omega) (fun b o hm' => hz b o (List.mem_flatMap.2 ⟨y7, by simp, hm'⟩))
    replace e7 : [c7] = [Value.bool x7] := e7
    simp only [List.cons.injEq, and_true] at e7
    subst e7
    have h8 : DataW.trod enc Tryz.prog w base spare held n 25 [c8] = some y8 := by
      have h := hf 8 _ rfl
      have e : Tryz.prog.cellsOf 25 = 1 := by kernel_rfl
      simpa [e] using h
    obtain ⟨x8, ⟨v8, e8, i8⟩, l8, _⟩ := opens_list hsp Tryz.underlying25 (by kernel_rfl) (by decide) (opens_oper1 hsp) _ _ _ h8 (by omega) (fun b o hm' => hz b o (List.mem_flatMap.2 ⟨y8, by simp, hm'⟩))
    simp only [List.cons.injEq, and_true] at e8
    subst e8
    have h9 : DataW.trod enc Tryz.prog w base spare held n 26 [c9] = some y9 := by
      have h := hf 9 _ rfl
      have e : Tryz.prog.cellsOf 26 = 1 := by kernel_rfl
      simpa [e] using h
    obtain ⟨x9, ⟨v9, e9, i9⟩, l9, _⟩ := opens_list hsp Tryz.underlying26 (by kernel_rfl) (by decide) (opens_armed hsp) _ _ _ h9 (by omega) (fun b o hm' => hz b o (List.mem_flatMap.2 ⟨y9, by simp, hm'⟩))
    simp only [List.cons.injEq, and_true] at e9
    subst e9
    have hs : (reqF.lay ⟨⟨x0, x1, x2, x3, x4, x5, x6, x7⟩, x8, x9⟩).length = (oper1F.lay ⟨x0, x1, x2, x3, x4, x5, x6, x7⟩).length + (((listF oper1F).lay x8).length + ((listF armedF).lay x9).length) := by simp only [reqF, isoF, seqF, List.length_append]
    have hq : (oper1F.lay ⟨x0, x1, x2, x3, x4, x5, x6, x7⟩).length ≤ 16 * (Rows.uptoBulk y0.1 + Rows.uptoBulk y1.1 + Rows.uptoBulk y2.1 + Rows.uptoBulk y3.1 + Rows.uptoBulk y4.1 + Rows.uptoBulk y5.1 + Rows.uptoBulk y6.1 + Rows.uptoBulk y7.1) := by simp only [oper1F, isoF, seqF, List.length_append]; omega
    exact ⟨⟨⟨x0, x1, x2, x3, x4, x5, x6, x7⟩, x8, x9⟩, ⟨_, _, ⟨_, rfl, i4, i0, i1, i2, i3, i5, i6, i8.shape, i9.shape⟩, i8, i9⟩, by rw [hs]; omega, rfl⟩
set_option maxRecDepth 100000 in
theorem opens_ans (hsp : ∀ b, spare b = true) : Opens H enc w base spare held ansE ansF 78 17 := by
  intro fuel cs x h hb hz
  obtain ⟨xs, n, _, rfl, hlen, hxl, hf⟩ := DataW.trod_struct Tryz.underlying78 h
  have hl : cs.length = 17 := hlen.trans (by kernel_rfl)
  match cs, hl, xs, hxl with
  | [c0, c1, c2, c3, c4, c5, c6, c7, c8, c9, c10, c11, c12, c13, c14, c15, c16], _, [y0, y1, y2, y3, y4, y5, y6, y7, y8], _ =>
    simp only [List.map_cons, List.map_nil, Rows.uptoBulk, Rows.uptoBulkAll] at hb ⊢
    have h0 : DataW.trod enc Tryz.prog w base spare held n 3 [c0] = some y0 := by
      have h := hf 0 _ rfl
      have e : Tryz.prog.cellsOf 3 = 1 := by kernel_rfl
      simpa [e] using h
    obtain ⟨x0, ⟨e0, i0⟩, l0, _⟩ := opens_int Tryz.underlying3 _ _ _ h0 (by omega) (fun b o hm' => hz b o (List.mem_flatMap.2 ⟨y0, by simp, hm'⟩))
    simp only [List.cons.injEq, and_true] at e0
    subst e0
    have h1 : DataW.trod enc Tryz.prog w base spare held n 3 [c1] = some y1 := by
      have h := hf 1 _ rfl
      have e : Tryz.prog.cellsOf 3 = 1 := by kernel_rfl
      simpa [e] using h
    obtain ⟨x1, ⟨e1, i1⟩, l1, _⟩ := opens_int Tryz.underlying3 _ _ _ h1 (by omega) (fun b o hm' => hz b o (List.mem_flatMap.2 ⟨y1, by simp, hm'⟩))
    simp only [List.cons.injEq, and_true] at e1
    subst e1
    have h2 : DataW.trod enc Tryz.prog w base spare held n 33 [c2] = some y2 := by
      have h := hf 2 _ rfl
      have e : Tryz.prog.cellsOf 33 = 1 := by kernel_rfl
      simpa [e] using h
    obtain ⟨x2, ⟨e2, i2⟩, l2, _⟩ := opens_int Tryz.underlying33 _ _ _ h2 (by omega) (fun b o hm' => hz b o (List.mem_flatMap.2 ⟨y2, by simp, hm'⟩))
    simp only [List.cons.injEq, and_true] at e2
    subst e2
    have h3 : DataW.trod enc Tryz.prog w base spare held n 9 [c3] = some y3 := by
      have h := hf 3 _ rfl
      have e : Tryz.prog.cellsOf 9 = 1 := by kernel_rfl
      simpa [e] using h
    obtain ⟨x3, ⟨e3, i3⟩, l3, _⟩ := opens_text (most := 4096) Tryz.underlying9 _ _ _ h3 (by omega) (fun b o hm' => hz b o (List.mem_flatMap.2 ⟨y3, by simp, hm'⟩))
    simp only [List.cons.injEq, and_true] at e3
    subst e3
    have h4 : DataW.trod enc Tryz.prog w base spare held n 9 [c4] = some y4 := by
      have h := hf 4 _ rfl
      have e : Tryz.prog.cellsOf 9 = 1 := by kernel_rfl
      simpa [e] using h
    obtain ⟨x4, ⟨e4, i4⟩, l4, _⟩ := opens_text (most := 4096) Tryz.underlying9 _ _ _ h4 (by omega) (fun b o hm' => hz b o (List.mem_flatMap.2 ⟨y4, by simp, hm'⟩))
    simp only [List.cons.injEq, and_true] at e4
    subst e4
    have h5 : DataW.trod enc Tryz.prog w base spare held n 75 [c5, c6, c7, c8, c9, c10, c11, c12, c13] = some y5 := by
      have h := hf 5 _ rfl
      have e : Tryz.prog.cellsOf 75 = 9 := by kernel_rfl
      simpa [e] using h
    obtain ⟨x5, i5, l5, _⟩ := opens_stat hsp _ _ _ h5 (by omega) (fun b o hm' => hz b o (List.mem_flatMap.2 ⟨y5, by simp, hm'⟩))
    have h6 : DataW.trod enc Tryz.prog w base spare held n 24 [c14] = some y6 := by
      have h := hf 6 _ rfl
      have e : Tryz.prog.cellsOf 24 = 1 := by kernel_rfl
      simpa [e] using h
    obtain ⟨x6, ⟨v6, e6, i6⟩, l6, _⟩ := opens_list hsp Tryz.underlying24 (by kernel_rfl) (by decide) (opens_acl hsp) _ _ _ h6 (by omega) (fun b o hm' => hz b o (List.mem_flatMap.2 ⟨y6, by simp, hm'⟩))
    simp only [List.cons.injEq, and_true] at e6
    subst e6
    have h7 : DataW.trod enc Tryz.prog w base spare held n 29 [c15] = some y7 := by
      have h := hf 7 _ rfl
      have e : Tryz.prog.cellsOf 29 = 1 := by kernel_rfl
      simpa [e] using h
    obtain ⟨x7, ⟨v7, e7, i7⟩, l7, _⟩ := opens_list hsp Tryz.underlying29 (by kernel_rfl) (by decide) (opens_text (most := 4096) Tryz.underlying9) _ _ _ h7 (by omega) (fun b o hm' => hz b o (List.mem_flatMap.2 ⟨y7, by simp, hm'⟩))
    simp only [List.cons.injEq, and_true] at e7
    subst e7
    have h8 : DataW.trod enc Tryz.prog w base spare held n 76 [c16] = some y8 := by
      have h := hf 8 _ rfl
      have e : Tryz.prog.cellsOf 76 = 1 := by kernel_rfl
      simpa [e] using h
    obtain ⟨A8, n8, d8, e8⟩ := opens_sl Tryz.underlying76 h8
    simp only [List.cons.injEq, and_true] at e8
    subst e8
    obtain ⟨es, st⟩ := i5
    simp only [List.cons.injEq, and_true] at es
    obtain ⟨rfl, rfl, rfl, rfl, rfl, rfl, rfl, rfl, rfl⟩ := es
    exact ⟨⟨x0, x1, x2, x3, x4, x5, x6, x7⟩, ⟨_, _, _, rfl, i6, i7, i0, i1, i2, i3, i4, st.1, st.2.1, st.2.2.1, st.2.2.2.1, st.2.2.2.2.1, st.2.2.2.2.2.1, st.2.2.2.2.2.2.1, st.2.2.2.2.2.2.2.1, st.2.2.2.2.2.2.2.2, ⟨_, _, _, rfl⟩⟩, by simp only [ansF, isoF, seqF, List.length_append]; omega, rfl⟩
set_option maxRecDepth 100000 in
theorem opens_reply (hsp : ∀ b, spare b = true) : Opens H enc w base spare held replyE replyF 78 17 := by
  intro fuel cs x h hb hz
  obtain ⟨xs, n, _, rfl, hlen, hxl, hf⟩ := DataW.trod_struct Tryz.underlying78 h
  have hl : cs.length = 17 := hlen.trans (by kernel_rfl)
  match cs, hl, xs, hxl with
  | [c0, c1, c2, c3, c4, c5, c6, c7, c8, c9, c10, c11, c12, c13, c14, c15, c16], _, [y0, y1, y2, y3, y4, y5, y6, y7, y8], _ =>
    simp only [List.map_cons, List.map_nil, Rows.uptoBulk, Rows.uptoBulkAll] at hb ⊢
    have h0 : DataW.trod enc Tryz.prog w base spare held n 3 [c0] = some y0 := by
      have h := hf 0 _ rfl
      have e : Tryz.prog.cellsOf 3 = 1 := by kernel_rfl
      simpa [e] using h
    obtain ⟨x0, ⟨e0, i0⟩, l0, _⟩ := opens_int Tryz.underlying3 _ _ _ h0 (by omega) (fun b o hm' => hz b o (List.mem_flatMap.2 ⟨y0, by simp, hm'⟩))
    simp only [List.cons.injEq, and_true] at e0
    subst e0
    have h1 : DataW.trod enc Tryz.prog w base spare held n 3 [c1] = some y1 := by
      have h := hf 1 _ rfl
      have e : Tryz.prog.cellsOf 3 = 1 := by kernel_rfl
      simpa [e] using h
    obtain ⟨x1, ⟨e1, i1⟩, l1, _⟩ := opens_int Tryz.underlying3 _ _ _ h1 (by omega) (fun b o hm' => hz b o (List.mem_flatMap.2 ⟨y1, by simp, hm'⟩))
    simp only [List.cons.injEq, and_true] at e1
    subst e1
    have h2 : DataW.trod enc Tryz.prog w base spare held n 33 [c2] = some y2 := by
      have h := hf 2 _ rfl
      have e : Tryz.prog.cellsOf 33 = 1 := by kernel_rfl
      simpa [e] using h
    obtain ⟨x2, ⟨e2, i2⟩, l2, _⟩ := opens_int Tryz.underlying33 _ _ _ h2 (by omega) (fun b o hm' => hz b o (List.mem_flatMap.2 ⟨y2, by simp, hm'⟩))
    simp only [List.cons.injEq, and_true] at e2
    subst e2
    have h3 : DataW.trod enc Tryz.prog w base spare held n 9 [c3] = some y3 := by
      have h := hf 3 _ rfl
      have e : Tryz.prog.cellsOf 9 = 1 := by kernel_rfl
      simpa [e] using h
    obtain ⟨x3, ⟨e3, i3⟩, l3, _⟩ := opens_text (most := 4096) Tryz.underlying9 _ _ _ h3 (by omega) (fun b o hm' => hz b o (List.mem_flatMap.2 ⟨y3, by simp, hm'⟩))
    simp only [List.cons.injEq, and_true] at e3
    subst e3
    have h4 : DataW.trod enc Tryz.prog w base spare held n 9 [c4] = some y4 := by
      have h := hf 4 _ rfl
      have e : Tryz.prog.cellsOf 9 = 1 := by kernel_rfl
      simpa [e] using h
    obtain ⟨x4, ⟨e4, i4⟩, l4, _⟩ := opens_text (most := 4096) Tryz.underlying9 _ _ _ h4 (by omega) (fun b o hm' => hz b o (List.mem_flatMap.2 ⟨y4, by simp, hm'⟩))
    simp only [List.cons.injEq, and_true] at e4
    subst e4
    have h5 : DataW.trod enc Tryz.prog w base spare held n 75 [c5, c6, c7, c8, c9, c10, c11, c12, c13] = some y5 := by
      have h := hf 5 _ rfl
      have e : Tryz.prog.cellsOf 75 = 9 := by kernel_rfl
      simpa [e] using h
    obtain ⟨x5, i5, l5, _⟩ := opens_stat hsp _ _ _ h5 (by omega) (fun b o hm' => hz b o (List.mem_flatMap.2 ⟨y5, by simp, hm'⟩))
    have h6 : DataW.trod enc Tryz.prog w base spare held n 24 [c14] = some y6 := by
      have h := hf 6 _ rfl
      have e : Tryz.prog.cellsOf 24 = 1 := by kernel_rfl
      simpa [e] using h
    obtain ⟨x6, ⟨v6, e6, i6⟩, l6, _⟩ := opens_list hsp Tryz.underlying24 (by kernel_rfl) (by decide) (opens_acl hsp) _ _ _ h6 (by omega) (fun b o hm' => hz b o (List.mem_flatMap.2 ⟨y6, by simp, hm'⟩))
    simp only [List.cons.injEq, and_true] at e6
    subst e6
    have h7 : DataW.trod enc Tryz.prog w base spare held n 29 [c15] = some y7 := by
      have h := hf 7 _ rfl
      have e : Tryz.prog.cellsOf 29 = 1 := by kernel_rfl
      simpa [e] using h
    obtain ⟨x7, ⟨v7, e7, i7⟩, l7, _⟩ := opens_list hsp Tryz.underlying29 (by kernel_rfl) (by decide) (opens_text (most := 4096) Tryz.underlying9) _ _ _ h7 (by omega) (fun b o hm' => hz b o (List.mem_flatMap.2 ⟨y7, by simp, hm'⟩))
    simp only [List.cons.injEq, and_true] at e7
    subst e7
    have h8 : DataW.trod enc Tryz.prog w base spare held n 76 [c16] = some y8 := by
      have h := hf 8 _ rfl
      have e : Tryz.prog.cellsOf 76 = 1 := by kernel_rfl
      simpa [e] using h
    obtain ⟨x8, ⟨v8, e8, i8⟩, l8, _⟩ := opens_list hsp Tryz.underlying76 (by kernel_rfl) (by decide) (opens_ans hsp) _ _ _ h8 (by omega) (fun b o hm' => hz b o (List.mem_flatMap.2 ⟨y8, by simp, hm'⟩))
    simp only [List.cons.injEq, and_true] at e8
    subst e8
    obtain ⟨es, st⟩ := i5
    simp only [List.cons.injEq, and_true] at es
    obtain ⟨rfl, rfl, rfl, rfl, rfl, rfl, rfl, rfl, rfl⟩ := es
    have hs : (replyF.lay ⟨⟨x0, x1, x2, x3, x4, x5, x6, x7⟩, x8⟩).length = (ansF.lay ⟨x0, x1, x2, x3, x4, x5, x6, x7⟩).length + ((listF ansF).lay x8).length := by simp only [replyF, isoF, seqF, List.length_append]
    have hq : (ansF.lay ⟨x0, x1, x2, x3, x4, x5, x6, x7⟩).length ≤ 16 * (Rows.uptoBulk y0.1 + Rows.uptoBulk y1.1 + Rows.uptoBulk y2.1 + Rows.uptoBulk y3.1 + Rows.uptoBulk y4.1 + Rows.uptoBulk y5.1 + Rows.uptoBulk y6.1 + Rows.uptoBulk y7.1) := by simp only [ansF, isoF, seqF, List.length_append]; omega
    exact ⟨⟨⟨x0, x1, x2, x3, x4, x5, x6, x7⟩, x8⟩, ⟨_, ⟨_, _, rfl, i6, i7, i0, i1, i2, i3, i4, st.1, st.2.1, st.2.2.1, st.2.2.2.1, st.2.2.2.2.1, st.2.2.2.2.2.1, st.2.2.2.2.2.2.1, st.2.2.2.2.2.2.2.1, st.2.2.2.2.2.2.2.2, i8.shape⟩, i8⟩, by rw [hs]; omega, rfl⟩
set_option maxRecDepth 100000 in
theorem opens_message (hsp : ∀ b, spare b = true) : Opens H enc w base spare held messageE messageF 31 19 := by
  intro fuel cs x h hb hz
  obtain ⟨xs, n, _, rfl, hlen, hxl, hf⟩ := DataW.trod_struct Tryz.underlying31 h
  have hl : cs.length = 19 := hlen.trans (by kernel_rfl)
  match cs, hl, xs, hxl with
  | [c0, c1, c2, c3, c4, c5, c6, c7, c8, c9, c10, c11, c12, c13, c14, c15, c16, c17, c18], _, [y0, y1, y2, y3, y4, y5, y6, y7, y8, y9], _ =>
    simp only [List.map_cons, List.map_nil, Rows.uptoBulk, Rows.uptoBulkAll] at hb ⊢
    have h0 : DataW.trod enc Tryz.prog w base spare held n 3 [c0] = some y0 := by
      have h := hf 0 _ rfl
      have e : Tryz.prog.cellsOf 3 = 1 := by kernel_rfl
      simpa [e] using h
    obtain ⟨x0, ⟨e0, i0⟩, l0, _⟩ := opens_int Tryz.underlying3 _ _ _ h0 (by omega) (fun b o hm' => hz b o (List.mem_flatMap.2 ⟨y0, by simp, hm'⟩))
    simp only [List.cons.injEq, and_true] at e0
    subst e0
    have h1 : DataW.trod enc Tryz.prog w base spare held n 3 [c1] = some y1 := by
      have h := hf 1 _ rfl
      have e : Tryz.prog.cellsOf 3 = 1 := by kernel_rfl
      simpa [e] using h
    obtain ⟨x1, ⟨e1, i1⟩, l1, _⟩ := opens_int Tryz.underlying3 _ _ _ h1 (by omega) (fun b o hm' => hz b o (List.mem_flatMap.2 ⟨y1, by simp, hm'⟩))
    simp only [List.cons.injEq, and_true] at e1
    subst e1
    have h2 : DataW.trod enc Tryz.prog w base spare held n 3 [c2] = some y2 := by
      have h := hf 2 _ rfl
      have e : Tryz.prog.cellsOf 3 = 1 := by kernel_rfl
      simpa [e] using h
    obtain ⟨x2, ⟨e2, i2⟩, l2, _⟩ := opens_int Tryz.underlying3 _ _ _ h2 (by omega) (fun b o hm' => hz b o (List.mem_flatMap.2 ⟨y2, by simp, hm'⟩))
    simp only [List.cons.injEq, and_true] at e2
    subst e2
    have h3 : DataW.trod enc Tryz.prog w base spare held n 3 [c3] = some y3 := by
      have h := hf 3 _ rfl
      have e : Tryz.prog.cellsOf 3 = 1 := by kernel_rfl
      simpa [e] using h
    obtain ⟨x3, ⟨e3, i3⟩, l3, _⟩ := opens_int Tryz.underlying3 _ _ _ h3 (by omega) (fun b o hm' => hz b o (List.mem_flatMap.2 ⟨y3, by simp, hm'⟩))
    simp only [List.cons.injEq, and_true] at e3
    subst e3
    have h4 : DataW.trod enc Tryz.prog w base spare held n 3 [c4] = some y4 := by
      have h := hf 4 _ rfl
      have e : Tryz.prog.cellsOf 3 = 1 := by kernel_rfl
      simpa [e] using h
    obtain ⟨x4, ⟨e4, i4⟩, l4, _⟩ := opens_int Tryz.underlying3 _ _ _ h4 (by omega) (fun b o hm' => hz b o (List.mem_flatMap.2 ⟨y4, by simp, hm'⟩))
    simp only [List.cons.injEq, and_true] at e4
    subst e4
    have h5 : DataW.trod enc Tryz.prog w base spare held n 22 [c5] = some y5 := by
      have h := hf 5 _ rfl
      have e : Tryz.prog.cellsOf 22 = 1 := by kernel_rfl
      simpa [e] using h
    obtain ⟨x5, ⟨v5, e5, i5⟩, l5, _⟩ := opens_list hsp Tryz.underlying22 (by kernel_rfl) (by decide) (opens_int Tryz.underlying3) _ _ _ h5 (by omega) (fun b o hm' => hz b o (List.mem_flatMap.2 ⟨y5, by simp, hm'⟩))
    simp only [List.cons.injEq, and_true] at e5
    subst e5
    have h6 : DataW.trod enc Tryz.prog w base spare held n 9 [c6] = some y6 := by
      have h := hf 6 _ rfl
      have e : Tryz.prog.cellsOf 9 = 1 := by kernel_rfl
      simpa [e] using h
    obtain ⟨x6, ⟨e6, i6⟩, l6, _⟩ := opens_text (most := 65536) Tryz.underlying9 _ _ _ h6 (by omega) (fun b o hm' => hz b o (List.mem_flatMap.2 ⟨y6, by simp, hm'⟩))
    simp only [List.cons.injEq, and_true] at e6
    subst e6
    have h7 : DataW.trod enc Tryz.prog w base spare held n 23 [c7] = some y7 := by
      have h := hf 7 _ rfl
      have e : Tryz.prog.cellsOf 23 = 1 := by kernel_rfl
      simpa [e] using h
    obtain ⟨x7, ⟨v7, e7, i7⟩, l7, _⟩ := opens_list hsp Tryz.underlying23 (by kernel_rfl) (by decide) (opens_entry hsp) _ _ _ h7 (by omega) (fun b o hm' => hz b o (List.mem_flatMap.2 ⟨y7, by simp, hm'⟩))
    simp only [List.cons.injEq, and_true] at e7
    subst e7
    have h8 : DataW.trod enc Tryz.prog w base spare held n 28 [c8, c9, c10, c11, c12, c13, c14, c15, c16, c17] = some y8 := by
      have h := hf 8 _ rfl
      have e : Tryz.prog.cellsOf 28 = 10 := by kernel_rfl
      simpa [e] using h
    obtain ⟨x8, i8, l8, _⟩ := opens_req hsp _ _ _ h8 (by omega) (fun b o hm' => hz b o (List.mem_flatMap.2 ⟨y8, by simp, hm'⟩))
    have h9 : DataW.trod enc Tryz.prog w base spare held n 29 [c18] = some y9 := by
      have h := hf 9 _ rfl
      have e : Tryz.prog.cellsOf 29 = 1 := by kernel_rfl
      simpa [e] using h
    obtain ⟨x9, ⟨v9, e9, i9⟩, l9, _⟩ := opens_list hsp Tryz.underlying29 (by kernel_rfl) (by decide) (opens_text (most := 4096) Tryz.underlying9) _ _ _ h9 (by omega) (fun b o hm' => hz b o (List.mem_flatMap.2 ⟨y9, by simp, hm'⟩))
    simp only [List.cons.injEq, and_true] at e9
    subst e9
    exact ⟨⟨x0, x1, x2, x3, x4, x5, x6, x7, x8, x9⟩, ⟨_, _, _, _, rfl, i5, i7, i8, i9, i0, i1, i2, i3, i4, i6⟩, by simp only [messageF, isoF, seqF, List.length_append]; omega, rfl⟩
end
end Go.Proofs.YtpmemcpfoapjmaaGreat
