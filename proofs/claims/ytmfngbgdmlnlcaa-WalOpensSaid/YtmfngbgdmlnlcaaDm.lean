/- A disk in memory: sectors in one block, 64 cells each; what a call leaves of other blocks. -/
import Derived.Test.YtmfngbgdmlnlcaaProg
import Derived.WalkKit
import Derived.ProofKit
import Derived.Lib.Hide
import Derived.Outline
import Derived.Deep.Light
import Derived.Below
import Derived.Deep.Draws
import Derived.Laws.Tables
import Derived.Deep.WholeRow
import Derived.Deep.MidRow
import Derived.Maps.OwnSet
import Derived.Maps.Keyed
namespace Go.Proofs.Ytmfngbgdmlnlcaa
open Go.ChangeShapes Go.WideShapes Go.ChangeAt Go.RowKit
set_option linter.unusedVariables false
set_option linter.unusedSimpArgs false

theorem ret_val {a b : Value} (h : a = b) : Ending.returned a = .returned b := by rw [h]
theorem ret_bool {a b : Bool} (h : a = b) : Ending.returned (.bool a) = .returned (.bool b) := by rw [h]
theorem ret_int {k : IntKind} {a b : Int} (h : a = b) : Ending.returned (.int k a) = .returned (.int k b) := by rw [h]
theorem size_toList (s : ByteArray) : s.data.toList.length = s.size := rfl
theorem lt_of_block {w : World} {k : Nat} {o : Obj} (h : w.heap[k]? = some o) : k < w.heap.size := (Array.getElem?_eq_some_iff.1 h).1

/-- all blocks that were there are as they were, but those in S -/
structure Kept (S : Nat → Prop) (w w' : World) : Prop where
  os : w'.os = w.os
  tape : w'.tape = w.tape
  output : w'.output = w.output
  size : w.heap.size ≤ w'.heap.size
  block : ∀ k, k < w.heap.size → ¬ S k → w'.heap[k]? = w.heap[k]?
theorem Kept.refl (S : Nat → Prop) (w : World) : Kept S w w := ⟨rfl, rfl, rfl, Nat.le_refl _, fun _ _ _ => rfl⟩
theorem Kept.mono {S T : Nat → Prop} {w w' : World} (h : Kept S w w') (hst : ∀ k, k < w.heap.size → S k → T k) : Kept T w w' :=
  ⟨h.os, h.tape, h.output, h.size, fun k hk hn => h.block k hk fun s => hn (hst k hk s)⟩
theorem Kept.trans {S : Nat → Prop} {w w1 w2 : World} (h : Kept S w w1) (g : Kept S w1 w2) : Kept S w w2 :=
  ⟨g.os.trans h.os, g.tape.trans h.tape, g.output.trans h.output, Nat.le_trans h.size g.size, fun k hk hn => (g.block k (Nat.lt_of_lt_of_le hk h.size) hn).trans (h.block k hk hn)⟩
theorem Kept.trans' {S T : Nat → Prop} {w w1 w2 : World} (h : Kept S w w1) (g : Kept T w1 w2) (hst : ∀ k, k < w.heap.size → T k → S k) : Kept S w w2 :=
  ⟨g.os.trans h.os, g.tape.trans h.tape, g.output.trans h.output, Nat.le_trans h.size g.size, fun k hk hn => (g.block k (Nat.lt_of_lt_of_le hk h.size) fun t => hn (hst k hk t)).trans (h.block k hk hn)⟩
theorem Kept.of_grownBy {w w' : World} {row : Option Nat} (h : w.grownBy w' row) : Kept (fun k => some k = row) w w' :=
  ⟨h.os, h.tape, h.output, h.size, fun k hk hn => h.block k hk hn⟩
theorem Kept.alloc {S : Nat → Prop} {w w' : World} (h : Kept S w w') (o : Obj) : Kept S w (w'.alloc o) :=
  ⟨h.os, h.tape, h.output, Nat.le_trans h.size (by simp), fun k hk hn => by rw [Below.heap_alloc _ _ _ (Nat.lt_of_lt_of_le hk h.size)]; exact h.block k hk hn⟩
theorem Kept.drew {S : Nat → Prop} {w w' : World} (h : Kept S w w') : Kept S w w'.drew := ⟨h.os, h.tape, h.output, h.size, h.block⟩
theorem Kept.drewN {S : Nat → Prop} {w w' : World} (h : Kept S w w') (n : Nat) : Kept S w (w'.drewN n) := ⟨h.os, h.tape, h.output, h.size, h.block⟩
theorem Kept.setCell {S : Nat → Prop} {w w' : World} (h : Kept S w w') {a : Addr} (ha : S a.block ∨ w.heap.size ≤ a.block) (u : Value) : Kept S w (w'.setCell a u) :=
  ⟨h.os, h.tape, h.output, by simp [World.setCell]; exact h.size, fun k hk hn => by
    rw [Below.heap_setCell _ _ _ _ (fun e => by subst e; rcases ha with ha | ha; exact hn ha; omega)]; exact h.block k hk hn⟩
theorem Kept.setCells {S : Nat → Prop} {b : Nat} : ∀ (vs : List Value) (o : Nat) {w w' : World}, Kept S w w' → (S b ∨ w.heap.size ≤ b) → Kept S w (w'.setCells b o vs)
  | [], _, _, _, h, _ => h
  | v :: r, o, w, w', h, hb => by rw [World.setCells]; exact Kept.setCells r (o + 1) (h.setCell (a := ⟨b, o, none⟩) hb v) hb
theorem Kept.below {S : Nat → Prop} {w w' : World} {B : Nat} (h : Kept S w w') (hS : ∀ k, S k → B ≤ k) (hB : B ≤ w.heap.size) : Below B w w' :=
  ⟨h.os, h.tape, h.output, h.size, fun k hk => h.block k (by omega) fun s => by have := hS k s; omega⟩

/-! ### 64 cells a sector -/
def bcell (b : UInt8) : Value := .int .u8 (b.toNat : Int)
def secL (l : List UInt8) : List Value := l.map bcell
def sec (l : List UInt8) : Value := .agg (secL l).toArray
def secs (n : Nat) (S : Nat → List UInt8) : List Value := (List.range n).flatMap fun i => secL (S i)
def upd {α : Type} (f : Nat → α) (i : Nat) (x : α) : Nat → α := fun k => if k = i then x else f k
theorem upd_same {α : Type} (f : Nat → α) (i : Nat) (x : α) : upd f i x i = x := if_pos rfl
theorem upd_other {α : Type} (f : Nat → α) (i : Nat) (x : α) {k : Nat} (h : k ≠ i) : upd f i x k = f k := if_neg h

theorem bcell_inj {a b : UInt8} (h : bcell a = bcell b) : a = b := by
  simp only [bcell, Value.int.injEq, true_and] at h
  exact UInt8.toNat_inj.1 (by omega)
theorem secL_inj : ∀ {a b : List UInt8}, secL a = secL b → a = b
  | [], [], _ => rfl
  | [], _ :: _, h => by simp [secL] at h
  | _ :: _, [], h => by simp [secL] at h
  | x :: a, y :: b, h => by
    simp only [secL, List.map_cons, List.cons.injEq] at h
    rw [bcell_inj h.1, secL_inj (a := a) (b := b) h.2]
theorem sec_inj {a b : List UInt8} (h : sec a = sec b) : a = b := by
  simp only [sec, Value.agg.injEq] at h
  exact secL_inj (by simpa using congrArg Array.toList h)
theorem secL_one (l : List UInt8) : ∀ v ∈ secL l, v.oneCell' = true := by
  intro v hv
  obtain ⟨b, _, rfl⟩ := List.mem_map.1 hv
  rfl

theorem secs_succ (n : Nat) (S : Nat → List UInt8) : secs (n + 1) S = secs n S ++ secL (S n) := by simp [secs, List.range_succ]
theorem secs_length (n : Nat) (S : Nat → List UInt8) (h : ∀ i, i < n → (S i).length = 64) : (secs n S).length = n * 64 := by
  induction n with
  | zero => rfl
  | succ n ih =>
    rw [secs_succ, List.length_append, ih (fun i hi => h i (by omega))]
    simp [secL, h n (by omega)]; omega
theorem secs_get (n : Nat) (S : Nat → List UInt8) (h : ∀ i, i < n → (S i).length = 64) (i j : Nat) (hi : i < n) (hj : j < 64) : (secs n S)[i * 64 + j]? = (secL (S i))[j]? := by
  induction n with
  | zero => omega
  | succ n ih =>
    have hl := secs_length n S (fun i hi => h i (by omega))
    rw [secs_succ]
    by_cases e : i < n
    · rw [List.getElem?_append_left (by rw [hl]; omega)]
      exact ih (fun i hi => h i (by omega)) e
    · obtain rfl : i = n := by omega
      rw [List.getElem?_append_right (by rw [hl]; omega), hl, show i * 64 + j - i * 64 = j by omega]

/-- the sectors lie in block sb -/
structure Sec (w : World) (sb n : Nat) (S : Nat → List UInt8) : Prop where
  at_ : w.heap[sb]? = some (.cells (secs n S).toArray 64 (0, 0))
  len : ∀ i, i < n → (S i).length = 64

theorem Sec.range {w : World} {sb n : Nat} {S : Nat → List UInt8} (h : Sec w sb n S) {i : Nat} (hi : i < n) : w.rangeAt sb (i * 64) (secL (S i)) := by
  intro j v hv
  have hj : j < 64 := by
    have := (List.getElem?_eq_some_iff.1 hv).1
    simpa [secL, h.len i hi] using this
  rw [cell_of_row w sb (i * 64 + j) _ _ (0, 0) h.at_]
  rw [List.getElem?_toArray, secs_get n S h.len i j hi hj]; exact hv
theorem Sec.there {w : World} {sb n : Nat} {S : Nat → List UInt8} (h : Sec w sb n S) {i : Nat} (hi : i < n) : w.there sb (i * 64) 64 := by
  intro j hj
  have hl := secs_length n S h.len
  refine ⟨?_, ?_⟩
  · rw [cell_of_row w sb (i * 64 + j) _ _ (0, 0) h.at_, List.getElem?_toArray, List.getElem?_eq_getElem (by omega)]; rfl
  · simp [World.frozen?, h.at_]

theorem setCell_row {w : World} {g i : Nat} {c : List Value} {T : TypeId} {v : Value} (h : w.heap[g]? = some (.cells c.toArray T (0, 0))) : w.setCell ⟨g, i, none⟩ v = w.setRow g (c.set i v).toArray := by
  unfold World.setCell World.setRow
  congr 1
  apply Array.ext_getElem?
  intro k
  rw [Array.getElem?_modify, Array.getElem?_modify]
  by_cases hk : g = k
  · subst hk
    rw [if_pos rfl, if_pos rfl, h]
    simp
  · rw [if_neg hk, if_neg hk]

theorem setCells_block (w : World) (b o : Nat) (vs : List Value) {cur : Array Value} {T : TypeId} (h : w.heap[b]? = some (.cells cur T (0, 0))) : ∃ cur', (w.setCells b o vs).heap[b]? = some (.cells cur' T (0, 0)) ∧ cur'.size = cur.size := by
  induction vs generalizing o w cur with
  | nil => exact ⟨cur, h, rfl⟩
  | cons v vs ih =>
    rw [World.setCells]
    have h1 := setCell_row (w := w) (g := b) (i := o) (c := cur.toList) (T := T) (v := v) (by simpa using h)
    rw [h1]
    obtain ⟨cur', h2, h3⟩ := ih (w.setRow b (cur.toList.set o v).toArray) (o + 1) (setRow_heap _ _ _ _ _ _ h)
    exact ⟨cur', h2, by rw [h3]; simp⟩

theorem Sec.set {w : World} {sb n : Nat} {S : Nat → List UInt8} (h : Sec w sb n S) {i : Nat} (hi : i < n) {l : List UInt8} (hl : l.length = 64) : Sec (w.setCells sb (i * 64) (secL l)) sb n (upd S i l) := by
  have hlen : ∀ k, k < n → (upd S i l k).length = 64 := by
    intro k hk
    by_cases e : k = i
    · subst e; rw [upd_same]; exact hl
    · rw [upd_other _ _ _ e]; exact h.len k hk
  refine ⟨?_, hlen⟩
  obtain ⟨cur', h1, h2⟩ := setCells_block w sb (i * 64) (secL l) h.at_
  have hsl : (secL l).length = 64 := by simp [secL, hl]
  have hth := h.there hi
  rw [h1]
  congr 2
  apply Array.ext_getElem?
  intro j
  have hc := cell_of_row _ sb j _ _ (0, 0) h1
  rw [← hc]
  have hz : cur'.size = n * 64 := by rw [h2]; simpa using secs_length n S h.len
  by_cases hj : j < n * 64
  · obtain ⟨q, r, hq, hr, rfl⟩ : ∃ q r, q < n ∧ r < 64 ∧ j = q * 64 + r := ⟨j / 64, j % 64, by omega, by omega, by omega⟩
    rw [List.getElem?_toArray, secs_get n _ hlen q r hq hr]
    by_cases e : q = i
    · subst e
      rw [upd_same, World.cell?_setCells_in sb (secL l) (q * 64) w (fun k hk => (hth k (by omega)).1) r (by omega), List.getElem?_eq_getElem]
    · rw [upd_other _ _ _ e, World.cell?_setCells_out sb (secL l) (i * 64) w _ (fun _ _ => by
        show q * 64 + r < i * 64 ∨ i * 64 + (secL l).length ≤ q * 64 + r
        omega)]
      have := cell_of_row w sb (q * 64 + r) _ _ (0, 0) h.at_
      rw [this, List.getElem?_toArray, secs_get n S h.len q r hq hr]
  · rw [hc, Array.getElem?_eq_none (by omega), Array.getElem?_eq_none (by simp [secs_length n _ hlen]; omega)]

theorem Sec.kept {X : Nat → Prop} {w w' : World} {sb n : Nat} {S : Nat → List UInt8} (h : Sec w sb n S) (hk : Kept X w w') (hx : ¬ X sb) : Sec w' sb n S :=
  ⟨by rw [hk.block sb (lt_of_block h.at_) hx]; exact h.at_, h.len⟩

/-! ### What a crash may bring back -/
open Classical in
noncomputable def RB (v : Value) : Option (DataW Unit × List MemPlace) := if h : ∃ l, v = sec l then some (.lit (.string (Classical.choose h)), []) else none
theorem RB_sec (l : List UInt8) : RB (sec l) = some (.lit (.string l), []) := by
  have h : ∃ l', sec l = sec l' := ⟨l, rfl⟩
  unfold RB
  rw [dif_pos h]
  have := Classical.choose_spec h
  rw [← sec_inj this]
theorem RB_inv {v : Value} {d : DataW Unit} {ps : List MemPlace} (h : RB v = some (d, ps)) : ∃ l, v = sec l ∧ d = .lit (.string l) := by
  unfold RB at h
  by_cases e : ∃ l, v = sec l
  · rw [dif_pos e] at h
    simp only [Option.some.injEq, Prod.mk.injEq] at h
    exact ⟨_, Classical.choose_spec e, h.1.symm⟩
  · rw [dif_neg e] at h; cases h

def kI (k : Int) : Lit := .int .i64 k
/-- block mb is the map of those that are pending -/
structure OldAt (w : World) (mb nn : Nat) (O : Nat → Option (List UInt8)) : Prop where
  ex : ∃ D : DataW Unit, w.ownsMap Try.prog 3 RB mb nn D ∧ (∀ k : Int, Maps.has D (kI k) = true ↔ 0 ≤ k ∧ (O k.toNat).isSome = true) ∧ ∀ (k : Nat) l, O k = some l → ∀ z, D.atKey (kI k) z = .lit (.string l)
theorem OldAt.kept {X : Nat → Prop} {w w' : World} {mb nn : Nat} {O : Nat → Option (List UInt8)} (h : OldAt w mb nn O) (hk : Kept X w w') (hx : ¬ X mb) : OldAt w' mb nn O := by
  obtain ⟨D, h1, h2⟩ := h.ex
  have hl := h1.lt
  obtain ⟨es, clock, hb, r⟩ := h1
  exact ⟨D, ⟨es, clock, by rw [hk.block mb hl hx]; exact hb, r⟩, h2⟩
theorem OldAt.lt {w : World} {mb nn : Nat} {O : Nat → Option (List UInt8)} (h : OldAt w mb nn O) : mb < w.heap.size := by
  obtain ⟨D, h1, h2⟩ := h.ex; exact h1.lt
end Go.Proofs.Ytmfngbgdmlnlcaa
