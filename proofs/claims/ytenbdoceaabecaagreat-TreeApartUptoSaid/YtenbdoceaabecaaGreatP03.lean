/- A tree, plainly: what its calls do to nodes and sessions. Maps whose elements are kept as the values that they are; laws for the walk. What a call leaves of other blocks. -/
import Derived.Test.YtenbdoceaabecaaGreatP02
import Derived.WalkKit
import Derived.ProofKit
import Derived.Maps.RangeWalk
import Derived.Sort.KeysCollected
import Derived.Lib.Hide
import Derived.Below
import Derived.Deep.Draws
import Derived.Laws.Tables
import Derived.Deep.WholeRow
import Derived.Deep.MidRow
namespace Go.Proofs.YtenbdoceaabecaaGreat
set_option linter.unusedVariables false
set_option linter.unusedSimpArgs false
/-- a row of an ACL -/
structure AR where
  perms : Int
  id : ByteArray
structure St where
  cz : Int
  mz : Int
  pz : Int
  ver : Int
  cver : Int
  aver : Int
  owner : Int
structure Nd where
  data : ByteArray
  acl : List AR
  st : St
structure TM where
  N : List UInt8 → Option Nd
  S : Int → Option (Int × ByteArray)
  z : Int
structure Ev where
  kind : Int
  path : ByteArray
  zx : Int
/-- a transaction, but for its parts -/
structure T1 where
  kind : Int
  path : ByteArray
  data : ByteArray
  acl : List AR
  owner : Int
  number : Int
structure Tx where
  t : T1
  err : Int
  subs : List T1
def updN {α β : Type} [DecidableEq α] (f : α → Option β) (k : α) (v : Option β) : α → Option β := fun x => if x = k then v else f x
theorem updN_same {α β : Type} [DecidableEq α] (f : α → Option β) (k : α) (v : Option β) : updN f k v k = v := if_pos rfl
theorem updN_other {α β : Type} [DecidableEq α] (f : α → Option β) (k : α) (v : Option β) {x : α} (h : x ≠ k) : updN f k v x = f x := if_neg h
def okP (p : ByteArray) : Bool := decide (checkS p = 0)
def mayCome (p : ByteArray) : Bool := decide (p.data.toList ≠ [47]) && okP p
def layM (M : TM) (p data : ByteArray) (acl : List AR) (s : St) : TM := if okP p = true then { M with N := updN M.N p.data.toList (some ⟨data, acl, s⟩) } else M
def kidsOf (M : TM) (p : ByteArray) (cv zx : Int) : TM := match M.N p.data.toList with
  | none => M
  | some nd => { M with N := updN M.N p.data.toList (some { nd with st := { nd.st with cver := cv, pz := zx } }) }
def hasN (M : TM) (p : ByteArray) : Bool := (M.N p.data.toList).isSome
def createM (M : TM) (x : T1) (zx : Int) : TM × List Ev :=
  if mayCome x.path = true ∧ hasN M (parS x.path) = true then
    (layM (kidsOf M (parS x.path) x.number zx) x.path x.data x.acl ⟨zx, zx, zx, 0, 0, 0, x.owner⟩, [⟨if hasN (kidsOf M (parS x.path) x.number zx) x.path = true then 3 else 1, x.path, zx⟩, ⟨4, parS x.path, zx⟩])
  else (M, [])
def underL (k : List UInt8) (p : ByteArray) : Bool := underS ⟨k.toArray⟩ p
def dropM (M : TM) (p : ByteArray) : TM := { M with N := fun k => if k = p.data.toList ∨ underL k p = true then none else M.N k }
def removeM (M : TM) (x : T1) (zx : Int) : TM × List Ev :=
  if mayCome x.path = true then
    (kidsOf (dropM M x.path) (parS x.path) x.number zx,
      (if hasN M x.path = true then [⟨2, x.path, zx⟩] else []) ++ (if hasN M x.path = true ∧ hasN (dropM M x.path) (parS x.path) = true then [⟨4, parS x.path, zx⟩] else []))
  else (M, [])
def setM (M : TM) (x : T1) (zx : Int) : TM × List Ev := match M.N x.path.data.toList with
  | none => (M, [])
  | some nd => ({ M with N := updN M.N x.path.data.toList (some { nd with data := x.data, st := { nd.st with ver := x.number, mz := zx } }) }, [⟨3, x.path, zx⟩])
def aclM (M : TM) (x : T1) : TM := match M.N x.path.data.toList with
  | none => M
  | some nd => { M with N := updN M.N x.path.data.toList (some { nd with acl := x.acl, st := { nd.st with aver := x.number } }) }
def partM (M : TM) (x : T1) (zx : Int) : TM × List Ev :=
  if x.kind = 1 then createM M x zx else if x.kind = 2 then removeM M x zx else if x.kind = 3 then setM M x zx else if x.kind = 4 then (aclM M x, []) else (M, [])
def sessM (M : TM) (id timeout : Int) (secret : ByteArray) : TM := if 0 < id then { M with S := updN M.S id (some (timeout, secret)) } else M
/-- parts, one behind the other: those that are deletions alone, or all -/
def partsM (dels : Bool) (zx : Int) : TM → List Ev → List T1 → TM × List Ev
  | M, evs, [] => (M, evs)
  | M, evs, x :: l => if dels = true ∧ x.kind ≠ 2 then partsM dels zx M evs l
    else if dels = true then partsM dels zx (removeM M x zx).1 (evs ++ (removeM M x zx).2) l
    else partsM dels zx (partM M x zx).1 (evs ++ (partM M x zx).2) l
def doM (M : TM) (x : Tx) (zx : Int) : TM × List Ev :=
  if x.t.kind = 5 then (sessM M x.t.owner x.t.number x.t.data, [])
  else if x.t.kind = 6 then ({ (partsM true zx M [] x.subs).1 with S := updN (partsM true zx M [] x.subs).1.S x.t.owner none }, (partsM true zx M [] x.subs).2)
  else if x.t.kind = 7 then partsM false zx M [] x.subs
  else partM M x.t zx
def applyM (M : TM) (x : Tx) (zx : Int) : TM × List Ev × Int :=
  if x.t.kind = 8 then ({ (doM M x zx).1 with z := zx }, [], x.err) else ({ (doM M x zx).1 with z := zx }, (doM M x zx).2, 0)
end Go.Proofs.YtenbdoceaabecaaGreat

namespace Go.Proofs.YtenbdoceaabecaaGreat
open Go.Maps
set_option linter.unusedVariables false
set_option linter.unusedSimpArgs false
/-! maps whose elements are kept as the values that they are -/
abbrev DV := DataW Value
def tok (v : Value) : Option (DV × List MemPlace) := some (.held v, [])
def heldOf : DV → Value
  | .held v => v
  | _ => undef
def lookV (D : DV) (kl : Lit) : Option Value := if has D kl = true then some (heldOf (D.atKey kl (.held undef))) else none
theorem tok_inj {v : Value} {d : DV} {ps : List MemPlace} (h : tok v = some (d, ps)) : d = .held v ∧ ps = [] := by
  simp only [tok, Option.some.injEq, Prod.mk.injEq] at h
  exact ⟨h.1.symm, h.2.symm⟩
theorem lookV_empty (kl : Lit) : lookV (.map []) kl = none := by simp [lookV, has]
theorem lookV_put_same {D : DV} (hD : IsMap D) {k : Lit} (hk : WideAt.IsKeyLit k) (v : Value) : lookV (D.put k (.held v)) k = some v := by
  unfold lookV
  rw [if_pos (has_put_same hD hk _), atKey_put_same hD hk]; rfl
theorem lookV_put_other {D : DV} {k k' : Lit} (h : k' ≠ k) (d : DV) : lookV (D.put k d) k' = lookV D k' := by
  unfold lookV; rw [has_put_other h, atKey_put_other h]
theorem lookV_del_same {D : DV} {k : Lit} : lookV (D.del k) k = none := by
  unfold lookV; rw [has_del_same]; rfl
theorem lookV_del_other {D : DV} {k k' : Lit} (h : k' ≠ k) : lookV (D.del k) k' = lookV D k' := by
  unfold lookV; rw [has_del_other h, atKey_del_other h]
theorem lookV_some {D : DV} {k : Lit} {v : Value} (h : ∀ z, D.atKey k z = .held v) : lookV D k = some v := by
  unfold lookV; rw [if_pos (has_true_of_atKey h), h]; rfl
theorem lookV_isSome (D : DV) (k : Lit) : (lookV D k).isSome = has D k := by
  unfold lookV; cases h : has D k <;> simp
theorem has_iff {D : DV} {k : Lit} : has D k = true ↔ ∃ v, lookV D k = some v := by
  rw [← lookV_isSome, Option.isSome_iff_exists]
theorem atKey_const {D : DV} {k : Lit} (h : has D k = true) : ∃ d, ∀ z, D.atKey k z = d := by
  cases D with
  | map es =>
    simp only [DataW.atKey]
    cases hf : es.find? (fun p => p.1.sameKey k) with
    | none =>
      rw [List.find?_eq_none] at hf
      obtain ⟨p, hm, hs⟩ := List.any_eq_true.1 h
      exact absurd hs (hf p hm)
    | some p => exact ⟨p.2, fun _ => rfl⟩
  | _ => cases h
theorem lookV_at {D : DV} {k : Lit} {z v : Value} (h : D.atKey k (.held z) = .held v) : (lookV D k).getD z = v := by
  cases hh : has D k with
  | true =>
    obtain ⟨d, hd⟩ := atKey_const hh
    unfold lookV
    rw [if_pos hh, hd, ← hd (.held z), h]; rfl
  | false =>
    rw [atKey_of_not_has hh] at h
    unfold lookV
    rw [if_neg (by simp [hh])]
    cases h; rfl
section
variable {P : Program} {k : TypeId} {w : World} {b n : Nat} {D : DV}
theorem owns_look {t e : TypeId} (h : w.ownsMap P k tok b n D) (K : Keyed P k) (ht : P.underlying t = some (.map k e)) {z : Value} (hz : (zeroValue e).run P w = .ok z w) {key : Value} {kl : Lit} (hkey : keyOf P k key = some kl) :
    (Instr.lookup t (.map (some b)) key true).run P w = .ok (.tuple #[(lookV D kl).getD z, .bool (lookV D kl).isSome]) w := by
  obtain ⟨v, ps, hrun, hv⟩ := h.look_ok K ht hz (R := tok) (zd := .held z) (zp := []) rfl hkey
  obtain ⟨hv1, _⟩ := tok_inj hv
  rw [hrun, ← lookV_at hv1, lookV_isSome]
theorem owns_look1 {t e : TypeId} (h : w.ownsMap P k tok b n D) (K : Keyed P k) (ht : P.underlying t = some (.map k e)) {z : Value} (hz : (zeroValue e).run P w = .ok z w) {key : Value} {kl : Lit} (hkey : keyOf P k key = some kl) :
    (Instr.lookup t (.map (some b)) key false).run P w = .ok ((lookV D kl).getD z) w := by
  obtain ⟨v, ps, hrun, hv⟩ := h.lookup K ht hz (R := tok) (zd := .held z) (zp := []) rfl hkey
  obtain ⟨hv1, _⟩ := tok_inj hv
  rw [hrun, ← lookV_at hv1]
def Ent (D : DV) : Prop := ∃ es, D = .map es ∧ es.Pairwise (fun p q => p.1 ≠ q.1) ∧ ∀ p ∈ es, WideAt.IsKeyLit p.1
theorem ent_mem {es : List (Lit × DV)} (hk : ∀ p ∈ es, WideAt.IsKeyLit p.1) (k : Lit) : k ∈ (es.map fun p => p.1) ↔ has (.map es) k = true := by
  constructor
  · intro h
    obtain ⟨p, hp, rfl⟩ := List.mem_map.1 h
    exact List.any_eq_true.2 ⟨p, hp, WideAt.sameKey_self (hk p hp)⟩
  · intro h
    obtain ⟨p, hm, hs⟩ := List.any_eq_true.1 h
    exact List.mem_map.2 ⟨p, hm, WideAt.sameKey_eq hs⟩
/-- as many entries, if all that the one has the other has -/
theorem size_same {D D' : DV} (hD : Ent D) (hD' : Ent D') (h : ∀ k, has D k = has D' k) : size D = size D' := by
  obtain ⟨es, rfl, hp, hk⟩ := hD
  obtain ⟨es', rfl, hp', hk'⟩ := hD'
  have n1 : (es.map fun p => p.1).Nodup := List.pairwise_map.2 hp
  have n2 : (es'.map fun p => p.1).Nodup := List.pairwise_map.2 hp'
  have hperm : (es.map fun p => p.1).Perm (es'.map fun p => p.1) := (List.perm_ext_iff_of_nodup n1 n2).2 fun k => by rw [ent_mem hk, ent_mem hk', h]
  have := hperm.length_eq
  simpa [size] using this
theorem sub_len {α : Type} : ∀ (a b : List α), a.Nodup → (∀ x ∈ a, x ∈ b) → a.length ≤ b.length
  | [], _, _, _ => Nat.zero_le _
  | x :: a, b, hn, hs => by
    obtain ⟨h1, h2⟩ := List.nodup_cons.1 hn
    obtain ⟨b1, b2, rfl⟩ := List.append_of_mem (hs x (List.mem_cons_self ..))
    have := sub_len a (b1 ++ b2) h2 (fun y hy => by
      have hne : y ≠ x := fun e => h1 (e ▸ hy)
      have := hs y (List.mem_cons_of_mem _ hy)
      simp only [List.mem_append, List.mem_cons] at this ⊢
      rcases this with h | h | h
      · exact .inl h
      · exact absurd h hne
      · exact .inr h)
    simp at this ⊢
    omega
/-- as many entries, and what the one has the other has: the other has no more -/
theorem has_back {D D' : DV} (hD : Ent D) (hD' : Ent D') (hs : size D = size D') (h : ∀ k, has D k = true → has D' k = true) : ∀ k, has D k = has D' k := by
  obtain ⟨es, rfl, hp, hk⟩ := hD
  obtain ⟨es', rfl, hp', hk'⟩ := hD'
  have n1 : (es.map fun p => p.1).Nodup := List.pairwise_map.2 hp
  have n2 : (es'.map fun p => p.1).Nodup := List.pairwise_map.2 hp'
  have hsub : ∀ k, k ∈ (es.map fun p => p.1) → k ∈ (es'.map fun p => p.1) := fun k hm => (ent_mem hk' k).2 (h k ((ent_mem hk k).1 hm))
  intro k
  rw [Bool.eq_iff_iff, ← ent_mem hk, ← ent_mem hk']
  refine ⟨hsub k, fun hm => Classical.byContradiction fun hn => ?_⟩
  have := sub_len (k :: es.map fun p => p.1) (es'.map fun p => p.1) (List.nodup_cons.2 ⟨hn, n1⟩) (fun x hx => by
    rcases List.mem_cons.1 hx with rfl | hx
    · exact hm
    · exact hsub x hx)
  simp [size] at hs
  simp at this
  omega
end
section
variable {P : Program} (w : World) {ops : Array Oper} {rest : List Oper} {o : Oper} {a : Act} {Q : Exit → Act → World → Prop}
theorem wpList_look_tok (hg : o.guard = none) (m x : Operand) (t : TypeId) (hop : o.op = Op.lookup t m x true)
    (k e : TypeId) (K : Keyed P k) (ht : P.underlying t = some (.map k e)) {z : Value} (hz : (zeroValue e).run P w = .ok z w) (b n : Nat) (D : DV)
    (hm : a.eval m = .map (some b)) (hown : w.ownsMap P k tok b n D) (key : Value) (kl : Lit) (hx : a.eval x = key) (hkey : keyOf P k key = some kl)
    (hK : wpList P ops Q rest (a.put o.dst (.tuple #[(lookV D kl).getD z, .bool (lookV D kl).isSome])) w) :
    wpList P ops Q (o :: rest) a w := by
  refine wpList_plain hg fun K' hK' => ?_
  have hrun := owns_look hown K ht hz hkey
  unfold Oper.wp
  simp [execOp, hop, hm, hx, hrun, Result.andThen]
  exact hK' _ _ hK
theorem wpList_look_tok1 (hg : o.guard = none) (m x : Operand) (t : TypeId) (hop : o.op = Op.lookup t m x false)
    (k e : TypeId) (K : Keyed P k) (ht : P.underlying t = some (.map k e)) {z : Value} (hz : (zeroValue e).run P w = .ok z w) (b n : Nat) (D : DV)
    (hm : a.eval m = .map (some b)) (hown : w.ownsMap P k tok b n D) (key : Value) (kl : Lit) (hx : a.eval x = key) (hkey : keyOf P k key = some kl)
    (hK : wpList P ops Q rest (a.put o.dst ((lookV D kl).getD z)) w) :
    wpList P ops Q (o :: rest) a w := by
  refine wpList_plain hg fun K' hK' => ?_
  have hrun := owns_look1 hown K ht hz hkey
  unfold Oper.wp
  simp [execOp, hop, hm, hx, hrun, Result.andThen]
  exact hK' _ _ hK
end
end Go.Proofs.YtenbdoceaabecaaGreat

namespace Go.Proofs.YtenbdoceaabecaaGreat
open Go.ChangeShapes Go.WideShapes Go.ChangeAt Go.RowKit
set_option linter.unusedVariables false
set_option linter.unusedSimpArgs false
theorem lt_of_block {w : World} {k : Nat} {o : Obj} (h : w.heap[k]? = some o) : k < w.heap.size := (Array.getElem?_eq_some_iff.1 h).1

/-- all blocks that were there are as they were, but those in S -/
structure Kept (S : Nat → Prop) (w w' : World) : Prop where
  os : w'.os = w.os
  tape : w'.tape = w.tape
  output : w'.output = w.output
  size : w.heap.size ≤ w'.heap.size
  block : ∀ k, k < w.heap.size → ¬ S k → w'.heap[k]? = w.heap[k]?
theorem Kept.refl (S : Nat → Prop) (w : World) : Kept S w w := ⟨rfl, rfl, rfl, Nat.le_refl _, fun _ _ _ => rfl⟩
theorem Kept.mono {S T : Nat → Prop} {w w' : World} (h : Kept S w w') (hst : ∀ k, k < w.heap.size → S k → T k) : Kept T w w' :=
  ⟨h.os, h.tape, h.output, h.size, fun k hk hn => h.block k hk fun s => hn (hst k hk s)⟩
theorem Kept.trans {S : Nat → Prop} {w w1 w2 : World} (h : Kept S w w1) (g : Kept S w1 w2) : Kept S w w2 :=
  ⟨g.os.trans h.os, g.tape.trans h.tape, g.output.trans h.output, Nat.le_trans h.size g.size, fun k hk hn => (g.block k (Nat.lt_of_lt_of_le hk h.size) hn).trans (h.block k hk hn)⟩
theorem Kept.trans' {S T : Nat → Prop} {w w1 w2 : World} (h : Kept S w w1) (g : Kept T w1 w2) (hst : ∀ k, k < w.heap.size → T k → S k) : Kept S w w2 :=
  ⟨g.os.trans h.os, g.tape.trans h.tape, g.output.trans h.output, Nat.le_trans h.size g.size, fun k hk hn => (g.block k (Nat.lt_of_lt_of_le hk h.size) fun t => hn (hst k hk t)).trans (h.block k hk hn)⟩
theorem Kept.of_grownBy {w w' : World} {row : Option Nat} (h : w.grownBy w' row) : Kept (fun k => some k = row) w w' :=
  ⟨h.os, h.tape, h.output, h.size, fun k hk hn => h.block k hk hn⟩
theorem Kept.alloc {S : Nat → Prop} {w w' : World} (h : Kept S w w') (o : Obj) : Kept S w (w'.alloc o) :=
  ⟨h.os, h.tape, h.output, Nat.le_trans h.size (by simp), fun k hk hn => by rw [Below.heap_alloc _ _ _ (Nat.lt_of_lt_of_le hk h.size)]; exact h.block k hk hn⟩
theorem Kept.drew {S : Nat → Prop} {w w' : World} (h : Kept S w w') : Kept S w w'.drew := ⟨h.os, h.tape, h.output, h.size, h.block⟩
theorem Kept.drewN {S : Nat → Prop} {w w' : World} (h : Kept S w w') (n : Nat) : Kept S w (w'.drewN n) := ⟨h.os, h.tape, h.output, h.size, h.block⟩
theorem Kept.setCell {S : Nat → Prop} {w w' : World} (h : Kept S w w') {a : Addr} (ha : S a.block ∨ w.heap.size ≤ a.block) (u : Value) : Kept S w (w'.setCell a u) :=
  ⟨h.os, h.tape, h.output, by simp [World.setCell]; exact h.size, fun k hk hn => by
    rw [Below.heap_setCell _ _ _ _ (fun e => by subst e; rcases ha with ha | ha; exact hn ha; omega)]; exact h.block k hk hn⟩
theorem Kept.setCells {S : Nat → Prop} {b : Nat} : ∀ (vs : List Value) (o : Nat) {w w' : World}, Kept S w w' → (S b ∨ w.heap.size ≤ b) → Kept S w (w'.setCells b o vs)
  | [], _, _, _, h, _ => h
  | v :: r, o, w, w', h, hb => by rw [World.setCells]; exact Kept.setCells r (o + 1) (h.setCell (a := ⟨b, o, none⟩) hb v) hb
theorem Kept.below {S : Nat → Prop} {w w' : World} {B : Nat} (h : Kept S w w') (hS : ∀ k, S k → B ≤ k) (hB : B ≤ w.heap.size) : Below B w w' :=
  ⟨h.os, h.tape, h.output, h.size, fun k hk => h.block k (by omega) fun s => by have := hS k s; omega⟩

theorem setCell_row {w : World} {g i : Nat} {c : List Value} {T : TypeId} {v : Value} (h : w.heap[g]? = some (.cells c.toArray T (0, 0))) : w.setCell ⟨g, i, none⟩ v = w.setRow g (c.set i v).toArray := by
  unfold World.setCell World.setRow
  congr 1
  apply Array.ext_getElem?
  intro k
  rw [Array.getElem?_modify, Array.getElem?_modify]
  by_cases hk : g = k
  · subst hk
    rw [if_pos rfl, if_pos rfl, h]
    simp
  · rw [if_neg hk, if_neg hk]

theorem heap_set {w : World} {g i : Nat} {c : List Value} {T : TypeId} (v : Value) (h : w.heap[g]? = some (.cells c.toArray T (0, 0))) : (w.setCell ⟨g, i, none⟩ v).heap[g]? = some (.cells (c.set i v).toArray T (0, 0)) := by
  rw [setCell_row h]; exact setRow_heap _ _ _ _ _ _ h
theorem kept_set (w : World) (b i : Nat) (v : Value) : Kept (fun k => k = b) w (w.setCell ⟨b, i, none⟩ v) := (Kept.refl (fun k => k = b) w).setCell (a := ⟨b, i, none⟩) (.inl (show (⟨b, i, none⟩ : Addr).block = b from rfl)) v
theorem keptB {B : Nat} {w w' : World} (h : Below B w w') (hB : w.heap.size ≤ B) : Kept (fun _ => False) w w' := ⟨h.os, h.tape, h.output, h.size, fun k hk _ => h.block k (by omega)⟩
end Go.Proofs.YtenbdoceaabecaaGreat
