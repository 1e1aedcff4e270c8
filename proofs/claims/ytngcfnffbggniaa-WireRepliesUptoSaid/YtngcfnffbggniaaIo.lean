/- What Put and Get answer; plain mathematics, and the worlds between. -/
import Derived.Test.YtngcfnffbggniaaGacl
import Derived.Test.YtngcfnffbggniaaRefs
import Derived.Test.YtngcfnffbggniaaRefw
namespace Go.Proofs.Ytngcfnffbggniaa
open Go.ChangeShapes Go.WideShapes Go.ChangeAt Go.RowKit
set_option linter.unusedVariables false

theorem i64_zero : I64 0 := by unfold I64; omega
theorem str_empty : Str ⟨#[]⟩ := by unfold Str; simp [ByteArray.size]

/-- what the bytes s are, as a whole -/
def Fmt.read {α : Type} (f : Fmt α) (s : ByteArray) : Option α :=
  if rEndE s.data.toList.length (f.get s.data.toList 0 0).2.1 (f.get s.data.toList 0 0).2.2 = 0 then some (f.get s.data.toList 0 0).1 else none

theorem Fmt.read_some {α : Type} {f : Fmt α} (hf : f.Ok) {s : ByteArray} {x : α} (h : f.read s = some x) : s.data.toList = f.lay x ∧ f.fits x := by
  unfold Fmt.read at h
  split at h
  · rename_i h0
    obtain ⟨h1, h2⟩ := rEndE_zero h0
    have h3 := hf.back _ 0 0 (Nat.zero_le _) h1
    simp only [Option.some.injEq] at h
    rw [h2, List.take_length, h] at h3
    exact ⟨by simpa using h3.2.1, h3.2.2⟩
  · simp at h
theorem Fmt.read_lay {α : Type} {f : Fmt α} (hf : f.Ok) {s : ByteArray} {x : α} (h : s.data.toList = f.lay x) (hx : f.fits x) : f.read s = some x := by
  have h1 := hf.fwd x s.data.toList 0 [] hx (by simpa using h)
  unfold Fmt.read
  rw [h1, if_pos]
  simp only [Nat.zero_add, ← h]
  unfold rEndE
  rw [if_pos rfl]

/-- the number that goes along -/
def errOf {α : Type} (o : Option α) : Int := if o.isSome then 0 else 120

/-- what Get answers -/
def TakenPost {α : Type} (E : CellsOf α) (z : α) (w : World) (o : Option α) (en : Ending) (w' : World) : Prop :=
  ∃ cs, en = .returned (.tuple #[.agg cs.toArray, .int .i64 (errOf o)]) ∧ Old w w' ∧ E w' (New w) cs (o.getD z)

section
variable {w w1 w2 w4 : World} {b : Nat} {v : Value} {l : List UInt8} {T : TypeId} {zc : Array Value} {cs : List Value}
structure TakenSt (w w1 w2 w4 : World) (b : Nat) (v : Value) (l : List UInt8) (T : TypeId) (zc : Array Value) (cs : List Value) : Prop where
  rd : RAt w1 b v l 0 0
  k1 : Kept (fun _ => False) (w.alloc (.cells zc T)) w1
  ge : w.heap.size + 1 ≤ b
  k2 : Kept (RS b) w1 w2
  k4 : Kept (RS b) (w2.alloc (.cells cs.toArray T)) w4

theorem TakenSt.sizes (h : TakenSt w w1 w2 w4 b v l T zc cs) : w.heap.size + 1 ≤ w1.heap.size ∧ w1.heap.size ≤ w2.heap.size ∧ w2.heap.size + 1 ≤ w4.heap.size ∧ b < w1.heap.size := by
  have h1 := h.k1.size
  have h2 := h.k2.size
  have h4 := h.k4.size
  have e1 : (w.alloc (.cells zc T)).heap.size = w.heap.size + 1 := by simp
  have e2 : (w2.alloc (.cells cs.toArray T)).heap.size = w2.heap.size + 1 := by simp
  exact ⟨by omega, h2, by omega, h.rd.lt⟩
theorem TakenSt.kept (h : TakenSt w w1 w2 w4 b v l T zc cs) : Kept (RS b) (w.alloc (.cells zc T)) w4 :=
  Kept.trans' (Kept.trans' (h.k1.mono (fun _ _ f => f.elim)) (h.k2.alloc _) (fun _ _ s => s)) h.k4 (fun _ _ s => s)
theorem TakenSt.res (h : TakenSt w w1 w2 w4 b v l T zc cs) : w4.heap[w.heap.size]? = some (.cells zc T (0, 0)) := by
  have := h.ge
  rw [h.kept.block _ (by simp) (fun hs => by have hs' : w.heap.size = b := hs; omega)]
  exact heap_alloc_new w _
theorem TakenSt.box (h : TakenSt w w1 w2 w4 b v l T zc cs) : w4.heap[w2.heap.size]? = some (.cells cs.toArray T (0, 0)) := by
  obtain ⟨h1, h2, h3, h4⟩ := h.sizes
  rw [h.k4.block _ (by simp) (fun hs => by have hs' : w2.heap.size = b := hs; omega)]
  exact heap_alloc_new w2 _
theorem old_setRow {w w4 : World} (h : Old w w4) (c : Array Value) : Old w (w4.setRow w.heap.size c) :=
  Kept.trans' h (setRow_kept w4 w.heap.size c) (fun k hk hs => by have hs' : k = w.heap.size := hs; omega)
theorem TakenSt.old (h : TakenSt w w1 w2 w4 b v l T zc cs) : Old w w4 := by
  have := h.ge
  exact Kept.trans' ((Kept.refl (fun _ => False) w).alloc _) h.kept (fun k hk hs => by have hs' : k = b := hs; omega)
theorem TakenSt.rel {α : Type} {E : CellsOf α} (hE : E.Ok) {x : α} (h : TakenSt w w1 w2 w4 b v l T zc cs) (hx : E w2 (New w1) cs x) (c : Array Value) : E (w4.setRow w.heap.size c) (New w) cs x := by
  obtain ⟨h1, h2, h3, h4⟩ := h.sizes
  have hk : Kept (RS b) w2 w4 := Kept.trans' ((Kept.refl (RS b) w2).alloc _) h.k4 (fun _ _ s => s)
  have h5 := hE.keep hx hk (new_rs h.rd)
  exact hE.mono (hE.keep h5 (setRow_kept w4 w.heap.size c) (fun k hk hs => by have hk' : w1.heap.size ≤ k := hk; have hs' : k = w.heap.size := hs; omega)) (fun k _ hk => by have hk' : w1.heap.size ≤ k := hk; unfold New; omega)
end


end Go.Proofs.Ytngcfnffbggniaa
