/- Footprints: which blocks a writer and a reader have; what a call on one leaves of the others. -/
import Derived.Test.YtngcfnffbggniaaRead
namespace Go.Proofs.Ytngcfnffbggniaa
open Go.ChangeShapes Go.WideShapes Go.ChangeAt Go.RowKit
set_option linter.unusedVariables false

def Disj (S T : Nat → Prop) : Prop := ∀ k, S k → ¬ T k
def In (w : World) (S : Nat → Prop) : Prop := ∀ k, S k → k < w.heap.size
def Off (base : Nat) (S : Nat → Prop) : Prop := ∀ k, S k → base ≤ k

theorem Disj.symm {S T : Nat → Prop} (h : Disj S T) : Disj T S := fun k t s => h k s t
theorem In.kept {S T : Nat → Prop} {w w' : World} (h : In w S) (hk : Kept T w w') : In w' S := fun k s => Nat.lt_of_lt_of_le (h k s) hk.size
theorem Off.disj {S T : Nat → Prop} {w : World} (h : Off w.heap.size S) (hi : In w T) : Disj S T := fun k s t => by have := h k s; have := hi k t; omega

theorem WAt.inn {w : World} {b : Nat} {v : Value} {l : List UInt8} (h : WAt w b v l) : In w (WS b v) := by
  intro k hk
  rcases hk with rfl | hk
  · exact lt_of_block h.at_
  · exact (World.ownsRow.lt h.row k hk.symm).2
theorem RAt.inn {w : World} {b : Nat} {v : Value} {l : List UInt8} {p e : Nat} (h : RAt w b v l p e) : In w (WS b v) := by
  intro k hk
  rcases hk with rfl | hk
  · exact lt_of_block h.at_
  · obtain ⟨p1, c, rfl, _, _, hp⟩ := h.row.ex
    rcases hp with ⟨rfl, _⟩ | ⟨g, rfl, hg, _⟩
    · simp [Value.ownBlock] at hk
    · simp only [Value.ownBlock, Option.some.injEq] at hk; omega

theorem WAt.keep {S : Nat → Prop} {w w' : World} {b : Nat} {v : Value} {l : List UInt8} (h : WAt w b v l) (hk : Kept S w w') (hd : Disj (WS b v) S) : WAt w' b v l :=
  h.kept hk (hd b (Or.inl rfl)) (fun k e => hd k (Or.inr e.symm))
theorem RAt.keep {S : Nat → Prop} {w w' : World} {b : Nat} {v : Value} {l : List UInt8} {p e : Nat} (h : RAt w b v l p e) (hk : Kept S w w') (hd : Disj (WS b v) S) : RAt w' b v l p e :=
  h.kept hk (hd b (Or.inl rfl)) (fun k e => hd k (Or.inr e.symm))

theorem disj_none (S : Nat → Prop) : Disj S (fun _ => False) := fun _ _ f => f
theorem Disj.rs {S : Nat → Prop} {b : Nat} {v : Value} (h : Disj S (WS b v)) : Disj S (RS b) := fun k s e => h k s (Or.inl e)

/-- a writer's new footprint is apart from whatever the old one was apart from -/
theorem Disj.sep {T : Nat → Prop} {w : World} {b : Nat} {v v' : Value} (h : Disj (WS b v) T) (hi : In w T) (hs : Sep w v.ownBlock v') : Disj (WS b v') T := by
  intro k hk ht
  have hlt := hi k ht
  rcases hk with rfl | hk
  · exact h k (Or.inl rfl) ht
  · rcases hs with hs | hs
    · exact h k (Or.inr (by rw [hk, hs])) ht
    · have := hs k hk.symm; omega
theorem Off.sep {base : Nat} {w : World} {b : Nat} {v v' : Value} (h : Off base (WS b v)) (hb : base ≤ w.heap.size) (hs : Sep w v.ownBlock v') : Off base (WS b v') := by
  intro k hk
  rcases hk with rfl | hk
  · exact h k (Or.inl rfl)
  · rcases hs with hs | hs
    · exact h k (Or.inr (by rw [hk, hs]))
    · have := hs k hk.symm; omega

/-- since w0 nothing that was there has turned -/
def Old (w0 w : World) : Prop := Kept (fun _ => False) w0 w
theorem Old.refl (w : World) : Old w w := Kept.refl _ _
theorem Old.step {S : Nat → Prop} {w0 w w' : World} (h : Old w0 w) (hk : Kept S w w') (ho : Off w0.heap.size S) : Old w0 w' :=
  Kept.trans' h hk (fun k hk s => by have := ho k s; omega)
theorem Old.rs {w0 w w' : World} {b : Nat} {v : Value} (h : Old w0 w) (hk : Kept (RS b) w w') (ho : Off w0.heap.size (WS b v)) : Old w0 w' :=
  h.step hk (fun k s => ho k (Or.inl s))
theorem Old.drewN {w0 w : World} (h : Old w0 w) (n : Nat) : Old w0 (w.drewN n) := Kept.drewN h n
theorem Old.none {w0 w w' : World} (h : Old w0 w) (hk : Kept (fun _ => False) w w') : Old w0 w' := h.step hk (fun _ f => f.elim)
theorem Old.below {w w' : World} (h : Old w w') : Below w.heap.size w w' := ⟨h.os, h.tape, h.output, h.size, fun k hk => h.block k hk id⟩

theorem new_off (w0 w : World) (h : Old w0 w) : Off w0.heap.size (WS w.heap.size (.slice none 0 0)) := by
  intro k hk
  rcases hk with rfl | hk
  · exact h.size
  · simp [Value.ownBlock] at hk
theorem new_off' (w : World) : Off w.heap.size (WS w.heap.size (.slice none 0 0)) := new_off w w (Old.refl w)
theorem off_of {w0 w : World} {b : Nat} {v : Value} (h : Old w0 w) (hb : w.heap.size ≤ b) (hv : ∀ k, v.ownBlock = some k → w.heap.size ≤ k) : Off w0.heap.size (WS b v) := by
  intro k hk
  have := h.size
  rcases hk with rfl | hk
  · omega
  · have := hv k hk.symm; omega
theorem WAt.drewN {w : World} {b : Nat} {v : Value} {l : List UInt8} (h : WAt w b v l) (n : Nat) : WAt (w.drewN n) b v l := ⟨h.at_, h.row, h.apart⟩
end Go.Proofs.Ytngcfnffbggniaa
