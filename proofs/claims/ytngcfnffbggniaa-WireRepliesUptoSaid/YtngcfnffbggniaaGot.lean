/- What a law holds of what Get answered: whole and lying in a block, or refused. -/
import Derived.Test.YtngcfnffbggniaaIo
import Derived.Deep.MidRow
namespace Go.Proofs.Ytngcfnffbggniaa
open Go.ChangeShapes Go.WideShapes Go.ChangeAt Go.RowKit
set_option linter.unusedVariables false

/-- Q, but for the normal end, where R is asked -/
def AtEnd (R : Act → World → Prop) (Q : Exit → Act → World → Prop) : Exit → Act → World → Prop
  | .normal, a, w => R a w
  | e, a, w => Q e a w

theorem upon_cut {P : Program} {o : Oper} {a : Act} {w : World} {K K' : Act → World → Prop} {R : Act → World → Prop} {Q : Exit → Act → World → Prop} (h : ∀ a w, K a w → K' a w)
    (hh : o.wp P a w K (AtEnd R Q)) : o.wp P a w K' Q := by
  unfold Oper.wp at *
  generalize (execOp a.eval o).run P w = r at *
  cases r with
  | ok n w' =>
    cases n <;> simp only [Oper.upon] at hh ⊢ <;>
      first
        | exact h _ _ hh
        | exact Calls.mono hh (fun e w'' he => by cases e <;> first | exact h _ _ he | exact he)
        | exact Rows.mono hh (fun _ _ he => h _ _ he)
  | halt x w' => cases x <;> simp only [Oper.upon] at hh ⊢ <;> exact hh

theorem wpList_cut {P : Program} {ops : Array Oper} {R : Act → World → Prop} {Q : Exit → Act → World → Prop} : ∀ (n : Nat) (l : List Oper) (a : Act) (w : World),
    wpList P ops (AtEnd R Q) (l.take n) a w → (∀ a' w', R a' w' → wpList P ops Q (l.drop n) a' w') → wpList P ops Q l a w := by
  intro n
  induction n with
  | zero => intro l a w h1 h2; exact h2 a w h1
  | succ n ih =>
    intro l a w h1 h2
    cases l with
    | nil => exact h2 a w h1
    | cons o l =>
      simp only [List.take_succ_cons, wpList] at h1
      simp only [wpList]
      split
      · rename_i hw
        rw [if_pos hw] at h1
        rcases h1 with h1 | ⟨h1, h3⟩
        · exact Or.inl (upon_cut (fun a' w' q => ih l a' w' q (by simpa using h2)) h1)
        · exact Or.inr ⟨h1, h3⟩
      · rename_i hw
        rw [if_neg hw] at h1
        exact ih l _ _ h1 (by simpa using h2)

/-- a call that is asked for or not: what follows knows that the last slot says yes -/
theorem wpList_or {P : Program} {ops : Array Oper} {Q : Exit → Act → World → Prop} {o : Oper} {l : List Oper} {a : Act} {w : World} (d1 d2 d3 d4 d5 : Nat) (hd : o.dst = some d1) (S : World → Prop)
    (h1 : ∀ Q2 : Exit → Act → World → Prop, (∀ v1 v2 v3 v4 w', S w' → Q2 .normal (((((a.put (some d1) v1).put (some d2) v2).put (some d3) v3).put (some d4) v4).put (some d5) (.bool true)) w') → wpList P ops Q2 (o :: l.take 4) a w)
    (h2 : ∀ v1 v2 v3 v4 w', S w' → wpList P ops Q (l.drop 4) (((((a.put (some d1) v1).put (some d2) v2).put (some d3) v3).put (some d4) v4).put (some d5) (.bool true)) w') : wpList P ops Q (o :: l) a w :=
  wpList_cut (R := fun a' w' => ∃ v1 v2 v3 v4, a' = ((((a.put (some d1) v1).put (some d2) v2).put (some d3) v3).put (some d4) v4).put (some d5) (.bool true) ∧ S w') 5 (o :: l) a w
    (h1 _ (fun v1 v2 v3 v4 w' hs => ⟨v1, v2, v3, v4, rfl, hs⟩)) (fun a' w' ⟨v1, v2, v3, v4, e, hs⟩ => by subst e; exact h2 v1 v2 v3 v4 w' hs)
/-- a struct loaded as a whole, where what guards the load says yes -/
theorem wpList_load_guarded {P : Program} {ops : Array Oper} {rest : List Oper} {op : Oper} {a : Act} {w : World} {Q : Exit → Act → World → Prop} (hw : Region.wanted op (yielded ops a.tmps) = true) (ty : TypeId) (x : Operand) (ho : op.op = .load ty x)
    (b o : Nat) (hx : a.eval x = .pointer (some ⟨b, o, none⟩)) (cs : List Value) (d : TypeDesc) (hc : w.rangeAt b o cs)
    (hu : P.underlying ty = some d) (hd : d.isRow = true) (hi : (P.info? ty).map (·.size) = some cs.length)
    (h : wpList P ops Q rest (a.put op.dst (.agg cs.toArray)) w) : wpList P ops Q (op :: rest) a w := by
  simp only [wpList, hw, if_true]
  exact Or.inl (wp_load_mid ty x ho b o hx cs d hc hu hd hi h)
theorem info_len {P : Program} {T : TypeId} {n : Nat} {cs : List Value} (h : (P.info? T).map (·.size) = some n) (hl : cs.length = n) : (P.info? T).map (·.size) = some cs.length := by rw [hl]; exact h
theorem at_end {R : Act → World → Prop} {Q : Exit → Act → World → Prop} {a : Act} {w : World} (h : R a w) : AtEnd R Q .normal a w := h

/-- the thing and its number, as Get answers them: o is what the bytes are -/
def GotPost {α : Type} (E : CellsOf α) (n : Nat) (o : Option α) (w : World) (en : Ending) (w' : World) : Prop :=
  ∃ cs e, en = .returned (.tuple #[.agg cs.toArray, .int .i64 e]) ∧ Old w w' ∧ Flat n cs ∧
    ((e = 0 ∧ ∃ x, o = some x ∧ E w' (fun k => k < w'.heap.size) cs x) ∨ (e = 120 ∧ o = none))

theorem got_of_taken {α : Type} {E : CellsOf α} {n : Nat} {o : Option α} {z : α} {w w' : World} {en : Ending} (hE : E.Ok) (hfl : ∀ {w : World} {ok : Nat → Prop} {cs : List Value} {x : α}, E w ok cs x → Flat n cs)
    (h : TakenPost E z w o en w') : GotPost E n o w en w' := by
  obtain ⟨cs, he, hO, hx⟩ := h
  refine ⟨cs, _, he, hO, hfl hx, ?_⟩
  cases o with
  | none => exact Or.inr ⟨rfl, rfl⟩
  | some x => exact Or.inl ⟨rfl, x, rfl, hE.mono hx (fun k hk _ => hk)⟩

/-- the same, later, the cells in the block g -/
def Got {α : Type} (E : CellsOf α) (T : TypeId) (o : Option α) (g : Nat) (cs : List Value) (e : Int) (W : World) : Prop :=
  W.heap[g]? = some (.cells cs.toArray T (0, 0)) ∧ ((e = 0 ∧ ∃ x B, o = some x ∧ B ≤ W.heap.size ∧ E W (fun k => k < B) cs x) ∨ (e = 120 ∧ o = none))

theorem Got.old {α : Type} {E : CellsOf α} (hE : E.Ok) {T : TypeId} {o : Option α} {g : Nat} {cs : List Value} {e : Int} {W W' : World} (h : Got E T o g cs e W) (hO : Old W W') : Got E T o g cs e W' := by
  obtain ⟨h1, h2⟩ := h
  refine ⟨(hO.block _ (lt_of_block h1) id).trans h1, ?_⟩
  rcases h2 with ⟨h0, x, B, h3, h4, h5⟩ | h2
  · exact Or.inl ⟨h0, x, B, h3, Nat.le_trans h4 hO.size, hE.keep h5 hO (disj_none _)⟩
  · exact Or.inr h2
theorem Got.mk {α : Type} {E : CellsOf α} (hE : E.Ok) {T : TypeId} {o : Option α} {cs : List Value} {e : Int} {w' : World}
    (h : (e = 0 ∧ ∃ x, o = some x ∧ E w' (fun k => k < w'.heap.size) cs x) ∨ (e = 120 ∧ o = none)) : Got E T o w'.heap.size cs e (w'.alloc (.cells cs.toArray T)) := by
  refine ⟨heap_alloc_new w' _, ?_⟩
  rcases h with ⟨h0, x, h3, h5⟩ | h
  · exact Or.inl ⟨h0, x, w'.heap.size, h3, by simp, hE.keep h5 ((Kept.refl (fun _ => False) w').alloc _) (disj_none _)⟩
  · exact Or.inr h
theorem in_lt {W : World} {B : Nat} (h : B ≤ W.heap.size) : In W (fun k => k < B) := fun k hk => Nat.lt_of_lt_of_le hk h

theorem lay_str {α : Type} {f : Fmt α} (hf : f.Ok) {s : ByteArray} {x : α} (h : f.read s = some x) : (⟨(f.lay x).toArray⟩ : ByteArray) = s := by
  have := (Fmt.read_some hf h).1
  exact str_eq (by simp [this])
theorem lay_facts {α : Type} {f : Fmt α} (hf : f.Ok) {s : ByteArray} {o : Option α} (ho : f.read s = o) : ∀ x, o = some x → (⟨(f.lay x).toArray⟩ : ByteArray) = s ∧ (f.lay x).length = s.size := fun x hx => by
  subst ho
  refine ⟨lay_str hf hx, ?_⟩
  have := (Fmt.read_some hf hx).1
  rw [← this, str_len]
theorem lay_len {α : Type} {f : Fmt α} (hf : f.Ok) {s : ByteArray} {x : α} (h : f.read s = some x) : (f.lay x).length = s.size := by
  have := (Fmt.read_some hf h).1
  rw [← this, str_len]
end Go.Proofs.Ytngcfnffbggniaa
