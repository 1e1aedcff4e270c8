/- The document's own answers of layer 2: a thing taken up field by field, in a block of its own. -/
import Derived.Test.YtngcfnffbggniaaRwk
namespace Go.Proofs.Ytngcfnffbggniaa
open Go.ChangeShapes Go.WideShapes Go.ChangeAt Go.RowKit
set_option linter.unusedVariables false

structure FB (w : World) (b : Nat) (s : ByteArray) (T : TypeId) (zc : List Value) (W : World) (cur : List Value) (p e : Nat) : Prop where
  old : b < w.heap.size
  rd : FAt W b s p e
  kept : Kept (RS b) w W
  res : W.heap[w.heap.size]? = some (.cells zc.toArray T (0, 0))
  box : W.heap[w.heap.size + 1]? = some (.cells cur.toArray T (0, 0))

def Ok2 (w : World) : Nat → Prop := fun k => w.heap.size + 2 ≤ k

theorem FB.start {w : World} {b : Nat} {s : ByteArray} {p e : Nat} (hF : FAt w b s p e) (T : TypeId) (zc cur : List Value) : FB w b s T zc ((w.alloc (.cells zc.toArray T)).alloc (.cells cur.toArray T)) cur p e := by
  have hb := lt_of_block hF.at_
  have hK : Kept (RS b) w ((w.alloc (.cells zc.toArray T)).alloc (.cells cur.toArray T)) := ((Kept.refl _ w).alloc _).alloc _
  refine ⟨hb, hF.keep (((Kept.refl (fun _ => False) w).alloc _).alloc _) id, hK, ?_, ?_⟩
  · rw [((Old.refl (w.alloc (.cells zc.toArray T))).make _).block _ (by simp) id]; exact heap_alloc_new w _
  · have h := heap_alloc_new (w.alloc (.cells zc.toArray T)) (.cells cur.toArray T)
    rwa [show (w.alloc (.cells zc.toArray T)).heap.size = w.heap.size + 1 from by simp] at h

section
variable {w W W' : World} {b : Nat} {s : ByteArray} {T : TypeId} {zc cur : List Value} {p e p' e' : Nat}
theorem FB.size (h : FB w b s T zc W cur p e) : w.heap.size + 2 ≤ W.heap.size := by have := lt_of_block h.box; omega
theorem FB.call (h : FB w b s T zc W cur p e) (hF : FAt W' b s p' e') (hk : Kept (RS b) W W') : FB w b s T zc W' cur p' e' :=
  ⟨h.old, hF, h.kept.trans hk, by rw [hk.block _ (lt_of_block h.res) (fun hs => by have hs' : w.heap.size = b := hs; have := h.old; omega)]; exact h.res,
    by rw [hk.block _ (lt_of_block h.box) (fun hs => by have hs' : w.heap.size + 1 = b := hs; have := h.old; omega)]; exact h.box⟩
theorem FB.set (h : FB w b s T zc W cur p e) (c : List Value) : FB w b s T zc (W.setRow (w.heap.size + 1) c.toArray) c p e := by
  have hk := setRow_kept W (w.heap.size + 1) c.toArray
  have hb := h.old
  exact ⟨h.old, h.rd.keep hk (by omega), Kept.trans' h.kept hk (fun k hk1 hs => by have hs' : k = w.heap.size + 1 := hs; omega), by rw [hk.block _ (lt_of_block h.res) (by omega)]; exact h.res, setRow_heap _ _ _ _ _ _ h.box⟩
theorem FB.new {W0 : World} (h : FB w b s T zc W0 cur p e) {k : Nat} (hk : New W0 k) : Ok2 w k := Nat.le_trans h.size hk
theorem ok2_rs (hb : b < w.heap.size) : Disj (Ok2 w) (RS b) := fun k hk hs => by have hk' : w.heap.size + 2 ≤ k := hk; have hs' : k = b := hs; omega
theorem ok2_box (w : World) : Disj (Ok2 w) (fun k => k = w.heap.size + 1) := fun k hk hs => by have hk' : w.heap.size + 2 ≤ k := hk; have hs' : k = w.heap.size + 1 := hs; omega
theorem ok2_res (w : World) : Disj (Ok2 w) (fun k => k = w.heap.size) := fun k hk hs => by have hk' : w.heap.size + 2 ≤ k := hk; have hs' : k = w.heap.size := hs; omega

section
variable {α : Type} {E : CellsOf α} {sz : Nat} {sv : Value} {xs : List α} {n : Nat}
/-- a list that lies apart, if nothing was wrong when it was taken up -/
structure LB (E : CellsOf α) (w W : World) (sz : Nat) (sv : Value) (xs : List α) (n : Nat) : Prop where
  shape : IsSl sv
  list : n = 0 → ListR E W (Ok2 w) sz sv xs
theorem LB.mk' (hE : E.Ok) {W0 : World} (h : FB w b s T zc W0 cur p e) (hs : IsSl sv) (hL : n = 0 → ListR E W (New W0) sz sv xs) : LB E w W sz sv xs n :=
  ⟨hs, fun h0 => (hL h0).mono hE (fun k _ hk => h.new hk)⟩
theorem LB.call (hE : E.Ok) (h : LB E w W sz sv xs n) (hb : b < w.heap.size) (hk : Kept (RS b) W W') : LB E w W' sz sv xs n := ⟨h.shape, fun h0 => (h.list h0).keep hE hk (ok2_rs hb)⟩
theorem LB.set (hE : E.Ok) (h : LB E w W sz sv xs n) (c : Array Value) : LB E w (W.setRow (w.heap.size + 1) c) sz sv xs n := ⟨h.shape, fun h0 => (h.list h0).keep hE (setRow_kept _ _ _) (ok2_box w)⟩
theorem LB.fin (hE : E.Ok) (h : LB E w W sz sv xs n) (c : Array Value) (h0 : n = 0) : ListR E (W.setRow w.heap.size c) (New w) sz sv xs :=
  ((h.list h0).keep hE (setRow_kept _ _ _) (ok2_res w)).mono hE (fun k _ hk => by have hk' : w.heap.size + 2 ≤ k := hk; unfold New; omega)
end

/-- several numbers that lie apart -/
structure TB (w W : World) (g : Nat) (xs : List Int) : Prop where
  blk : W.heap[g]? = some (.cells (intsOf xs).toArray 3 (0, 0))
  gt : w.heap.size + 2 ≤ g
theorem TB.call {g : Nat} {xs : List Int} (h : TB w W g xs) (hb : b < w.heap.size) (hk : Kept (RS b) W W') : TB w W' g xs := ⟨by rw [hk.block _ (lt_of_block h.blk) (fun hs => by have hs' : g = b := hs; have := h.gt; omega)]; exact h.blk, h.gt⟩
theorem TB.set {g : Nat} {xs : List Int} (h : TB w W g xs) (c : Array Value) : TB w (W.setRow (w.heap.size + 1) c) g xs := ⟨by rw [(setRow_kept W (w.heap.size + 1) c).block _ (lt_of_block h.blk) (by have := h.gt; omega)]; exact h.blk, h.gt⟩
theorem TB.cell {g : Nat} {xs : List Int} (h : TB w W g xs) (j : Nat) (x : Int) (hx : xs[j]? = some x) : W.cell? ⟨g, j, none⟩ = some (.int .i64 x) := by
  rw [cell_of_row _ g j _ _ (0, 0) h.blk]
  simp [intsOf, hx]
end

theorem wpList_store_to {P : Program} {ops : Array Oper} {rest : List Oper} {op : Oper} {a : Act} {w : World} {Q : Exit → Act → World → Prop} (hgd : op.guard = none) (ty : TypeId) (x y : Operand) (ho : op.op = .store ty x y)
    (g i : Nat) (v : Value) (hx : a.eval x = .pointer (some ⟨g, i, none⟩)) (hy : a.eval y = v) (hv : v.oneCell' = true) (c : List Value) (T : TypeId) (hg : w.heap[g]? = some (.cells c.toArray T (0, 0))) (hil : i < c.length) (hi : (P.info? ty).map (·.size) = some 1)
    (c1 : List Value) (hc1 : c.set i v = c1) (w1 : World) (hw : w.setRow g c1.toArray = w1) (h : wpList P ops Q rest (a.put op.dst undef) w1) : wpList P ops Q (op :: rest) a w := by
  subst hc1
  subst hw
  exact wpList_store_at hgd ty x y ho g i v hx hy hv c T hg hil hi h

theorem back0 {α : Type} {f : Fmt α} (hf : f.Ok) {l : List UInt8} {p e q e' : Nat} {x : α} (g : f.get l p e = (x, q, e')) (h : e' = 0) : e = 0 := by
  by_cases h0 : e = 0
  · exact h0
  · have := hf.stays l p e h0
    rw [g] at this
    simp only at this
    omega

theorem fflag_of {s : ByteArray} {pos e q e' : Nat} {a : Bool} (g : flagF.get s.data.toList pos e = (a, q, e')) : ∀ (W : World) (b p : Nat), FAt W b s p e → (e = 0 → p = pos) →
    Calls Try.prog 152 #[.pointer (some ⟨b, 0, none⟩)] W (FPost W b s (.bool a) q e') := fun W b p hF hp => by
  have h := fflag_any W b s p pos e hF hp
  have h1 : (rFlag s.data.toList pos e).1 = a := congrArg (·.1) g
  have h2 : (rFlag s.data.toList pos e).2.1 = q := congrArg (·.2.1) g
  have h3 : (rFlag s.data.toList pos e).2.2 = e' := congrArg (·.2.2) g
  rw [h1, h2, h3] at h
  exact h
theorem facls_of {s : ByteArray} {pos e q e' : Nat} {xs : List Acl} (g : (listF aclF).get s.data.toList pos e = (xs, q, e')) : ∀ (W : World) (b p : Nat), FAt W b s p e → (e = 0 → p = pos) →
    Calls Try.prog 136 #[.pointer (some ⟨b, 0, none⟩)] W (FLPost aclE 2 W b s xs q e') := fun W b p hF hp => reftake_acls W b s p pos e hF hp g
end Go.Proofs.Ytngcfnffbggniaa
