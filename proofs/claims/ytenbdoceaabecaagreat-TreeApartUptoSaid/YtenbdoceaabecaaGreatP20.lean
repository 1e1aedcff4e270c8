/- The document's own tree: Lay. -/
import Derived.Test.YtenbdoceaabecaaGreatP19
import Derived.Deep.RegionHeld3
namespace Go.Proofs.YtenbdoceaabecaaGreat
open Go.ChangeShapes Go.WideShapes Go.ChangeAt Go.RowKit Go.Maps
set_option linter.unusedVariables false
set_option linter.unusedSimpArgs false
theorem snoc_ind {α : Type} {P : List α → Prop} (h0 : P []) (h1 : ∀ l x, P l → P (l ++ [x])) (l : List α) : P l := by
  have : ∀ (r : List α), P r.reverse := by
    intro r
    induction r with
    | nil => exact h0
    | cons x r ih => rw [List.reverse_cons]; exact h1 _ _ ih
  have h := this l.reverse
  rwa [List.reverse_reverse] at h
theorem row0 {w : World} {B n m : Nat} {e : TypeId} {v : Value} {xs : List Value} (h : w.ownsRow B e n v m xs) : w.ownsRow 0 e n v m xs := row_mono h (Nat.zero_le _)
/-- Lay, element by element; key: the path -/
def layStep {α : Type} (key : α → ByteArray) (n : α) (s : List α × Bool) (x : α) : List α × Bool :=
  ((s.1 ++ (if s.2 = false ∧ Op.bytesLess (key x).toList (key n).toList = false then [n] else [])) ++ (if key x = key n then [] else [x]), s.2 || !(Op.bytesLess (key x).toList (key n).toList))
def layFold {α : Type} (key : α → ByteArray) (n : α) (l : List α) : List α × Bool := l.foldl (layStep key n) ([], false)
def layF {α : Type} (key : α → ByteArray) (n : α) (l : List α) : List α := if (layFold key n l).2 = true then (layFold key n l).1 else (layFold key n l).1 ++ [n]
theorem layFold_snoc {α : Type} (key : α → ByteArray) (n : α) (l : List α) (x : α) : layFold key n (l ++ [x]) = layStep key n (layFold key n l) x := by
  unfold layFold; rw [List.foldl_append]; rfl
theorem layFold_map {α β : Type} (key : β → ByteArray) (f : α → β) (n : α) (l : List α) : layFold key (f n) (l.map f) = ((layFold (fun a => key (f a)) n l).1.map f, (layFold (fun a => key (f a)) n l).2) := by
  induction l using snoc_ind with
  | h0 => rfl
  | h1 l x ih =>
    rw [List.map_append, List.map_singleton, layFold_snoc, layFold_snoc, ih]
    unfold layStep
    simp only
    congr 1
    rw [List.map_append, List.map_append]
    congr 1
    · congr 1
      split <;> rfl
    · split <;> rfl
theorem layF_map {α β : Type} (key : β → ByteArray) (f : α → β) (n : α) (l : List α) : (layF (fun a => key (f a)) n l).map f = layF key (f n) (l.map f) := by
  unfold layF
  rw [layFold_map]
  simp only
  split
  · rfl
  · rw [List.map_append]; rfl
theorem lay_len {α : Type} (key : α → ByteArray) (n : α) (l : List α) : (layFold key n l).1.length ≤ l.length + 1 ∧ ((layFold key n l).2 = false → (layFold key n l).1.length ≤ l.length) := by
  induction l using snoc_ind with
  | h0 => exact ⟨by simp [layFold], fun _ => by simp [layFold]⟩
  | h1 l x ih =>
    rw [layFold_snoc]
    unfold layStep
    cases hs : (layFold key n l).2 <;> cases hb : Op.bytesLess (key x).toList (key n).toList <;> simp [hs] at ih ⊢ <;> (split <;> simp <;> omega)
theorem layF_len {α : Type} (key : α → ByteArray) (n : α) (l : List α) : (layF key n l).length ≤ l.length + 1 := by
  have h := lay_len key n l
  unfold layF
  split
  · exact h.1
  · rename_i hs
    have := h.2 (by simpa using hs)
    simp; omega
theorem lay_mem {α : Type} (key : α → ByteArray) (n : α) (l : List α) : ∀ x ∈ (layFold key n l).1, x = n ∨ x ∈ l := by
  induction l using snoc_ind with
  | h0 => intro x hx; simp [layFold] at hx
  | h1 l y ih =>
    intro x hx
    rw [layFold_snoc] at hx
    unfold layStep at hx
    simp only [List.mem_append] at hx
    rcases hx with (hx | hx) | hx
    · rcases ih x hx with h | h
      · exact .inl h
      · exact .inr (by simp [h])
    · split at hx
      · exact .inl (by simpa using hx)
      · simp at hx
    · split at hx
      · simp at hx
      · exact .inr (by simp at hx; simp [hx])
theorem layF_mem {α : Type} (key : α → ByteArray) (n : α) (l : List α) : ∀ x ∈ layF key n l, x = n ∨ x ∈ l := by
  intro x hx
  unfold layF at hx
  split at hx
  · exact lay_mem key n l x hx
  · simp only [List.mem_append, List.mem_singleton] at hx
    rcases hx with h | h
    · exact lay_mem key n l x h
    · exact .inl h
theorem ndC_app (l m : List (RN × Value)) : ndC (l ++ m) = ndC l ++ ndC m := List.flatMap_append
theorem ndC_one1 (p : RN × Value) : ndC [p] = ndL p := by simp [ndC]
abbrev key2 (p : RN × Value) : ByteArray := p.1.path
structure LayRel (w : World) (L : List (RN × Value)) (n : RN × Value) (lv inv iv : Value) (wr : World) : Prop where
  ex : ∃ k : Nat, k ≤ L.length ∧ iv = .int .i64 k ∧ inv = .bool (layFold key2 n (L.take k)).2 ∧ wr.ownsRow w.heap.size 91 12 lv (layFold key2 n (L.take k)).1.length (ndC (layFold key2 n (L.take k)).1) ∧ Kept (fun _ => False) w wr
abbrev rnO (p : RN × Value) : Obj := .cells #[.string p.1.path, .string p.1.data, p.2, .int .i64 p.1.st.cz, .int .i64 p.1.st.mz, .int .i64 p.1.st.pz, .int .i64 p.1.st.ver, .int .i64 p.1.st.cver, .int .i64 p.1.st.aver, .int .i64 p.1.st.owner, .int .i64 0, .int .i64 0] 91
structure BoxN (w : World) (b : Nat) (p : RN × Value) : Prop where
  b0 : w.cell? ⟨b, 0, none⟩ = some (.string p.1.path)
  b1 : w.cell? ⟨b, 1, none⟩ = some (.string p.1.data)
  b2 : w.cell? ⟨b, 2, none⟩ = some p.2
  b3 : w.cell? ⟨b, 3, none⟩ = some (.int .i64 p.1.st.cz)
  b4 : w.cell? ⟨b, 4, none⟩ = some (.int .i64 p.1.st.mz)
  b5 : w.cell? ⟨b, 5, none⟩ = some (.int .i64 p.1.st.pz)
  b6 : w.cell? ⟨b, 6, none⟩ = some (.int .i64 p.1.st.ver)
  b7 : w.cell? ⟨b, 7, none⟩ = some (.int .i64 p.1.st.cver)
  b8 : w.cell? ⟨b, 8, none⟩ = some (.int .i64 p.1.st.aver)
  b9 : w.cell? ⟨b, 9, none⟩ = some (.int .i64 p.1.st.owner)
  b10 : w.cell? ⟨b, 10, none⟩ = some (.int .i64 0)
  b11 : w.cell? ⟨b, 11, none⟩ = some (.int .i64 0)
theorem boxN {w : World} {b : Nat} {p : RN × Value} (h : w.heap[b]? = some (rnO p)) : BoxN w b p := by
  have e : ∀ i, w.cell? ⟨b, i, none⟩ = (ndL p)[i]? := fun i => by
    rw [cell_of_row w b i _ _ (0, 0) h, ← Array.getElem?_toList]; rfl
  exact ⟨e 0, e 1, e 2, e 3, e 4, e 5, e 6, e 7, e 8, e 9, e 10, e 11⟩
theorem ndL_one (p : RN × Value) (hp : ∃ a n c, p.2 = .slice a n c) : ∀ u ∈ ndL p, u.oneCell' = true := by
  intro u hu
  obtain ⟨a, n, c, e⟩ := hp
  simp only [ndL, List.mem_cons, List.not_mem_nil, or_false] at hu
  rcases hu with rfl | rfl | rfl | rfl | rfl | rfl | rfl | rfl | rfl | rfl | rfl | rfl
  · rfl
  · rfl
  · rw [e]; rfl
  all_goals rfl
end Go.Proofs.YtenbdoceaabecaaGreat
