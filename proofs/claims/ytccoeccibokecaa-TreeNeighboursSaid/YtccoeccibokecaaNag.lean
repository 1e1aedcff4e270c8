/- Two trees side by side, and entries that are applied to one or the other. -/
import Derived.Test.YtccoeccibokecaaNae
namespace Go.Proofs.Ytccoeccibokecaa
open Go.ChangeShapes Go.WideShapes Go.ChangeAt Go.RowKit Go.Maps
set_option linter.unusedVariables false
set_option linter.unusedSimpArgs false
theorem entL_len (e : T1 × Int) : (entL e).length = 11 := rfl
theorem entC_at : ∀ (l : List (T1 × Int)) (i : Nat) (hi : i < l.length) (j : Nat) (u : Value), (entL l[i])[j]? = some u → (entC l)[i * 11 + j]? = some u
  | [], i, hi, _, _, _ => absurd hi (by simp)
  | e :: l, 0, _, j, u, h => by
    have hj : j < 11 := (List.getElem?_eq_some_iff.1 h).1
    show (entL e ++ entC l)[0 * 11 + j]? = some u
    rw [Nat.zero_mul, Nat.zero_add, List.getElem?_append_left (by rw [entL_len]; exact hj)]; exact h
  | e :: l, i + 1, hi, j, u, h => by
    show (entL e ++ entC l)[(i + 1) * 11 + j]? = some u
    rw [List.getElem?_append_right (by rw [entL_len]; omega), entL_len, show (i + 1) * 11 + j - 11 = i * 11 + j by omega]
    exact entC_at l i (by simpa using hi) j u h
theorem ent_cells {B : Nat} {w : World} {v : Value} {l : List (T1 × Int)} (h : EntsAt B w v l) : ∃ a cap, v = .slice a l.length cap ∧ ∀ i, i < l.length → ∃ g e, a = some ⟨g, 0, none⟩ ∧ g < w.heap.size ∧ l[i]? = some e ∧ ∀ j u, (entL e)[j]? = some u → w.cell? ⟨g, i * 11 + j, none⟩ = some u := by
  obtain ⟨a, cap, hv, hc⟩ := own_cell h
  refine ⟨a, cap, hv, fun i hi => ?_⟩
  obtain ⟨g, ha, _, hg, _⟩ := hc (i * 11 + 0) _ (entC_at l i hi 0 _ rfl)
  refine ⟨g, l[i], ha, hg, List.getElem?_eq_getElem hi, fun j u hu => ?_⟩
  obtain ⟨g', ha', _, _, h', _⟩ := hc (i * 11 + j) _ (entC_at l i hi j u hu)
  rw [ha] at ha'
  injection ha' with ha'
  injection ha' with e1
  rw [e1]; exact h'
theorem runT_snoc (l : List (T1 × Int)) : ∀ (M : TM) (e : T1 × Int), runT M (l ++ [e]) = { (partM (runT M l) e.1 e.2).1 with z := e.2 } := by
  induction l with
  | nil => intro M e; rfl
  | cons x l ih => intro M e; exact ih _ e
theorem runT_take {l : List (T1 × Int)} {k : Nat} {e : T1 × Int} (h : l[k]? = some e) (M : TM) : runT M (l.take (k + 1)) = { (partM (runT M (l.take k)) e.1 e.2).1 with z := e.2 } := by
  obtain ⟨hk, rfl⟩ := List.getElem?_eq_some_iff.1 h
  rw [List.take_succ_eq_append_getElem hk, runT_snoc]
/-- two trees, and rows of entries that lie elsewhere -/
structure NbS (w : World) (B : Nat) (rs : List (Value × List (T1 × Int))) (q r : TB) (M N : TM) (c : Nat) (wr : World) : Prop where
  t : TAt (fun k => B ≤ k) wr q M c
  u : TAt (fun k => B ≤ k) wr r N c
  ap : ∀ k, TBs q k → ¬ TBs r k
  rows : ∀ p ∈ rs, EntsAt w.heap.size wr p.1 p.2 ∧ (∀ k, p.1.ownBlock = some k → ¬ TBs q k ∧ ¬ TBs r k)
  lo : ∀ k, TBs q k ∨ TBs r k → w.heap.size ≤ k
  kept : Kept (fun _ => False) w wr
section
variable {w wr wr' : World} {B : Nat} {rs : List (Value × List (T1 × Int))} {q r : TB} {M N M' N' : TM} {c c' : Nat}
theorem NbS.left (h : NbS w B rs q r M N c wr) (ht : TAt (fun k => B ≤ k) wr' q M' c') (hc : c ≤ c') (hk : Kept (TBs q) wr wr') : NbS w B rs q r M' N c' wr' :=
  ⟨ht, (h.u.aside h.t hk (fun k h1 h2 => h.ap k h2 h1)).mono hc, h.ap, fun p hp => ⟨ownKept (h.rows p hp).1 hk (fun k hk' => ((h.rows p hp).2 k hk').1), (h.rows p hp).2⟩, h.lo, h.kept.trans' hk (fun k hk' e => by have := h.lo k (.inl e); omega)⟩
theorem NbS.right (h : NbS w B rs q r M N c wr) (hu : TAt (fun k => B ≤ k) wr' r N' c') (hc : c ≤ c') (hk : Kept (TBs r) wr wr') : NbS w B rs q r M N' c' wr' :=
  ⟨(h.t.aside h.u hk (fun k h1 h2 => h.ap k h1 h2)).mono hc, hu, h.ap, fun p hp => ⟨ownKept (h.rows p hp).1 hk (fun k hk' => ((h.rows p hp).2 k hk').2), (h.rows p hp).2⟩, h.lo, h.kept.trans' hk (fun k hk' e => by have := h.lo k (.inr e); omega)⟩
theorem NbS.kept0 (h : NbS w B rs q r M N c wr) (hk : Kept (fun _ => False) wr wr') : NbS w B rs q r M N c wr' :=
  ⟨h.t.kept0 hk, h.u.kept0 hk, h.ap, fun p hp => ⟨ownKept (h.rows p hp).1 hk (fun _ _ f => f), (h.rows p hp).2⟩, h.lo, h.kept.trans hk⟩
structure Mild (e : T1 × Int) : Prop where
  acl : e.1.acl = []
  k5 : e.1.kind ≠ 5
  k6 : e.1.kind ≠ 6
  k7 : e.1.kind ≠ 7
  k8 : e.1.kind ≠ 8
  path : e.1.path.size ≤ 100
def NbPost (w : World) (B : Nat) (rs : List (Value × List (T1 × Int))) (q r : TB) (M N : TM) (c : Nat) (e : Ending) (w' : World) : Prop := ∃ v, e = .returned (.tuple #[v, .int .i64 0]) ∧ NbS w B rs q r M N c w'
abbrev entV1 (e : T1 × Int) : Value := .agg #[.int .i64 e.2, .int .i64 0, .int .i64 0, .int .i64 e.1.kind, .string e.1.path, .string e.1.data, .slice none 0 0, .int .i64 e.1.owner, .int .i64 e.1.number, .int .i64 0, .slice none 0 0]
theorem nb_left (h : NbS w B rs q r M N c wr) (e : T1 × Int) (he : Mild e) (hc : c ≤ 100000) :
    Calls Try.prog 12 #[.pointer (some ⟨q.t, 0, none⟩), entV1 e] wr (NbPost w B rs q r { (partM M e.1 e.2).1 with z := e.2 } N (c + 2)) := by
  refine (apply_one h.t e.1 tx0 ⟨e.2, 0, 0⟩ (txAt0 _ _ _ he.acl) (by have := he.path; omega) (by omega) he.k5 he.k6 he.k7 he.k8).mono ?_
  rintro e' w' ⟨v, he', _, ht, hk⟩
  exact ⟨v, he', h.left ht (by omega) hk⟩
theorem nb_right (h : NbS w B rs q r M N c wr) (e : T1 × Int) (he : Mild e) (hc : c ≤ 100000) :
    Calls Try.prog 12 #[.pointer (some ⟨r.t, 0, none⟩), entV1 e] wr (NbPost w B rs q r M { (partM N e.1 e.2).1 with z := e.2 } (c + 2)) := by
  refine (apply_one h.u e.1 tx0 ⟨e.2, 0, 0⟩ (txAt0 _ _ _ he.acl) (by have := he.path; omega) (by omega) he.k5 he.k6 he.k7 he.k8).mono ?_
  rintro e' w' ⟨v, he', _, ht, hk⟩
  exact ⟨v, he', h.right ht (by omega) hk⟩
/-- the two creates -/
def begL : List (T1 × Int) := [(⟨1, topB 97, ⟨#[]⟩, [], 0, 1⟩, 1), (⟨1, topB 98, ⟨#[]⟩, [], 0, 2⟩, 2)]
theorem mild_beg : ∀ e ∈ begL, Mild e := by
  intro e he
  simp only [begL, List.mem_cons, List.not_mem_nil, or_false] at he
  rcases he with rfl | rfl <;> exact ⟨rfl, by decide, by decide, by decide, by decide, by decide⟩
theorem mild_und (c : UInt8) (l : List OpN) : ∀ e ∈ undL c l, Mild e := fun e he => by
  obtain ⟨h1, h2, h3, h4, h5, h6⟩ := undL_kind c l e he
  exact ⟨h1, h2, h3, h4, h5, h6⟩
theorem mild_at {l : List (T1 × Int)} (h : ∀ e ∈ l, Mild e) {k : Nat} {e : T1 × Int} (hk : l[k]? = some e) : Mild e := h e (List.mem_of_getElem? hk)
/-- a new row of entries -/
theorem entsAt_new {w : World} {B : Nat} {l : List (T1 × Int)} (hB : B ≤ w.heap.size) (hm : l.length ≤ maxLen) : EntsAt B (w.alloc (.cells (entC l).toArray 40)) (.slice (some ⟨w.heap.size, 0, none⟩) l.length l.length) l := by
  have hl : (entC l).length = l.length * 11 := by
    induction l with
    | nil => rfl
    | cons e l ih =>
      show (entL e ++ entC l).length = _
      rw [List.length_append, ih (by simp at hm; omega), entL_len, List.length_cons]; omega
  exact ⟨hl, .inr ⟨w.heap.size, l.length, _, rfl, hB, heap_alloc_new w _, Nat.le_refl _, hm, by simp [hl], by simp [← hl]⟩⟩
end
end Go.Proofs.Ytccoeccibokecaa
