/- Maps whose elements are kept as the values that they are; laws for the walk. -/
import Derived.WalkKit
import Derived.ProofKit
import Derived.Maps.RangeWalk
import Derived.Sort.KeysCollected
import Derived.Lib.Hide
namespace Go.Proofs.Ytjpoebajljbocaa
open Go.Maps
set_option linter.unusedVariables false
set_option linter.unusedSimpArgs false
/-! maps whose elements are kept as the values that they are -/
abbrev DV := DataW Value
def tok (v : Value) : Option (DV × List MemPlace) := some (.held v, [])
def heldOf : DV → Value
  | .held v => v
  | _ => undef
def lookV (D : DV) (kl : Lit) : Option Value := if has D kl = true then some (heldOf (D.atKey kl (.held undef))) else none
theorem tok_inj {v : Value} {d : DV} {ps : List MemPlace} (h : tok v = some (d, ps)) : d = .held v ∧ ps = [] := by
  simp only [tok, Option.some.injEq, Prod.mk.injEq] at h
  exact ⟨h.1.symm, h.2.symm⟩
theorem lookV_empty (kl : Lit) : lookV (.map []) kl = none := by simp [lookV, has]
theorem lookV_put_same {D : DV} (hD : IsMap D) {k : Lit} (hk : WideAt.IsKeyLit k) (v : Value) : lookV (D.put k (.held v)) k = some v := by
  unfold lookV
  rw [if_pos (has_put_same hD hk _), atKey_put_same hD hk]; rfl
theorem lookV_put_other {D : DV} {k k' : Lit} (h : k' ≠ k) (d : DV) : lookV (D.put k d) k' = lookV D k' := by
  unfold lookV; rw [has_put_other h, atKey_put_other h]
theorem lookV_del_same {D : DV} {k : Lit} : lookV (D.del k) k = none := by
  unfold lookV; rw [has_del_same]; rfl
theorem lookV_del_other {D : DV} {k k' : Lit} (h : k' ≠ k) : lookV (D.del k) k' = lookV D k' := by
  unfold lookV; rw [has_del_other h, atKey_del_other h]
theorem lookV_some {D : DV} {k : Lit} {v : Value} (h : ∀ z, D.atKey k z = .held v) : lookV D k = some v := by
  unfold lookV; rw [if_pos (has_true_of_atKey h), h]; rfl
theorem lookV_isSome (D : DV) (k : Lit) : (lookV D k).isSome = has D k := by
  unfold lookV; cases h : has D k <;> simp
theorem has_iff {D : DV} {k : Lit} : has D k = true ↔ ∃ v, lookV D k = some v := by
  rw [← lookV_isSome, Option.isSome_iff_exists]
theorem atKey_const {D : DV} {k : Lit} (h : has D k = true) : ∃ d, ∀ z, D.atKey k z = d := by
  cases D with
  | map es =>
    simp only [DataW.atKey]
    cases hf : es.find? (fun p => p.1.sameKey k) with
    | none =>
      rw [List.find?_eq_none] at hf
      obtain ⟨p, hm, hs⟩ := List.any_eq_true.1 h
      exact absurd hs (hf p hm)
    | some p => exact ⟨p.2, fun _ => rfl⟩
  | _ => cases h
theorem lookV_at {D : DV} {k : Lit} {z v : Value} (h : D.atKey k (.held z) = .held v) : (lookV D k).getD z = v := by
  cases hh : has D k with
  | true =>
    obtain ⟨d, hd⟩ := atKey_const hh
    unfold lookV
    rw [if_pos hh, hd, ← hd (.held z), h]; rfl
  | false =>
    rw [atKey_of_not_has hh] at h
    unfold lookV
    rw [if_neg (by simp [hh])]
    cases h; rfl
section
variable {P : Program} {k : TypeId} {w : World} {b n : Nat} {D : DV}
theorem owns_look {t e : TypeId} (h : w.ownsMap P k tok b n D) (K : Keyed P k) (ht : P.underlying t = some (.map k e)) {z : Value} (hz : (zeroValue e).run P w = .ok z w) {key : Value} {kl : Lit} (hkey : keyOf P k key = some kl) :
    (Instr.lookup t (.map (some b)) key true).run P w = .ok (.tuple #[(lookV D kl).getD z, .bool (lookV D kl).isSome]) w := by
  obtain ⟨v, ps, hrun, hv⟩ := h.look_ok K ht hz (R := tok) (zd := .held z) (zp := []) rfl hkey
  obtain ⟨hv1, _⟩ := tok_inj hv
  rw [hrun, ← lookV_at hv1, lookV_isSome]
theorem owns_look1 {t e : TypeId} (h : w.ownsMap P k tok b n D) (K : Keyed P k) (ht : P.underlying t = some (.map k e)) {z : Value} (hz : (zeroValue e).run P w = .ok z w) {key : Value} {kl : Lit} (hkey : keyOf P k key = some kl) :
    (Instr.lookup t (.map (some b)) key false).run P w = .ok ((lookV D kl).getD z) w := by
  obtain ⟨v, ps, hrun, hv⟩ := h.lookup K ht hz (R := tok) (zd := .held z) (zp := []) rfl hkey
  obtain ⟨hv1, _⟩ := tok_inj hv
  rw [hrun, ← lookV_at hv1]
def Ent (D : DV) : Prop := ∃ es, D = .map es ∧ es.Pairwise (fun p q => p.1 ≠ q.1) ∧ ∀ p ∈ es, WideAt.IsKeyLit p.1
theorem ent_mem {es : List (Lit × DV)} (hk : ∀ p ∈ es, WideAt.IsKeyLit p.1) (k : Lit) : k ∈ (es.map fun p => p.1) ↔ has (.map es) k = true := by
  constructor
  · intro h
    obtain ⟨p, hp, rfl⟩ := List.mem_map.1 h
    exact List.any_eq_true.2 ⟨p, hp, WideAt.sameKey_self (hk p hp)⟩
  · intro h
    obtain ⟨p, hm, hs⟩ := List.any_eq_true.1 h
    exact List.mem_map.2 ⟨p, hm, WideAt.sameKey_eq hs⟩
/-- as many entries, if all that the one has the other has -/
theorem size_same {D D' : DV} (hD : Ent D) (hD' : Ent D') (h : ∀ k, has D k = has D' k) : size D = size D' := by
  obtain ⟨es, rfl, hp, hk⟩ := hD
  obtain ⟨es', rfl, hp', hk'⟩ := hD'
  have n1 : (es.map fun p => p.1).Nodup := List.pairwise_map.2 hp
  have n2 : (es'.map fun p => p.1).Nodup := List.pairwise_map.2 hp'
  have hperm : (es.map fun p => p.1).Perm (es'.map fun p => p.1) := (List.perm_ext_iff_of_nodup n1 n2).2 fun k => by rw [ent_mem hk, ent_mem hk', h]
  have := hperm.length_eq
  simpa [size] using this
theorem sub_len {α : Type} : ∀ (a b : List α), a.Nodup → (∀ x ∈ a, x ∈ b) → a.length ≤ b.length
  | [], _, _, _ => Nat.zero_le _
  | x :: a, b, hn, hs => by
    obtain ⟨h1, h2⟩ := List.nodup_cons.1 hn
    obtain ⟨b1, b2, rfl⟩ := List.append_of_mem (hs x (List.mem_cons_self ..))
    have := sub_len a (b1 ++ b2) h2 (fun y hy => by
      have hne : y ≠ x := fun e => h1 (e ▸ hy)
      have := hs y (List.mem_cons_of_mem _ hy)
      simp only [List.mem_append, List.mem_cons] at this ⊢
      rcases this with h | h | h
      · exact .inl h
      · exact absurd h hne
      · exact .inr h)
    simp at this ⊢
    omega
/-- as many entries, and what the one has the other has: the other has no more -/
theorem has_back {D D' : DV} (hD : Ent D) (hD' : Ent D') (hs : size D = size D') (h : ∀ k, has D k = true → has D' k = true) : ∀ k, has D k = has D' k := by
  obtain ⟨es, rfl, hp, hk⟩ := hD
  obtain ⟨es', rfl, hp', hk'⟩ := hD'
  have n1 : (es.map fun p => p.1).Nodup := List.pairwise_map.2 hp
  have n2 : (es'.map fun p => p.1).Nodup := List.pairwise_map.2 hp'
  have hsub : ∀ k, k ∈ (es.map fun p => p.1) → k ∈ (es'.map fun p => p.1) := fun k hm => (ent_mem hk' k).2 (h k ((ent_mem hk k).1 hm))
  intro k
  rw [Bool.eq_iff_iff, ← ent_mem hk, ← ent_mem hk']
  refine ⟨hsub k, fun hm => Classical.byContradiction fun hn => ?_⟩
  have := sub_len (k :: es.map fun p => p.1) (es'.map fun p => p.1) (List.nodup_cons.2 ⟨hn, n1⟩) (fun x hx => by
    rcases List.mem_cons.1 hx with rfl | hx
    · exact hm
    · exact hsub x hx)
  simp [size] at hs
  simp at this
  omega
end
section
variable {P : Program} (w : World) {ops : Array Oper} {rest : List Oper} {o : Oper} {a : Act} {Q : Exit → Act → World → Prop}
theorem wpList_look_tok (hg : o.guard = none) (m x : Operand) (t : TypeId) (hop : o.op = Op.lookup t m x true)
    (k e : TypeId) (K : Keyed P k) (ht : P.underlying t = some (.map k e)) {z : Value} (hz : (zeroValue e).run P w = .ok z w) (b n : Nat) (D : DV)
    (hm : a.eval m = .map (some b)) (hown : w.ownsMap P k tok b n D) (key : Value) (kl : Lit) (hx : a.eval x = key) (hkey : keyOf P k key = some kl)
    (hK : wpList P ops Q rest (a.put o.dst (.tuple #[(lookV D kl).getD z, .bool (lookV D kl).isSome])) w) :
    wpList P ops Q (o :: rest) a w := by
  refine wpList_plain hg fun K' hK' => ?_
  have hrun := owns_look hown K ht hz hkey
  unfold Oper.wp
  simp [execOp, hop, hm, hx, hrun, Result.andThen]
  exact hK' _ _ hK
theorem wpList_look_tok1 (hg : o.guard = none) (m x : Operand) (t : TypeId) (hop : o.op = Op.lookup t m x false)
    (k e : TypeId) (K : Keyed P k) (ht : P.underlying t = some (.map k e)) {z : Value} (hz : (zeroValue e).run P w = .ok z w) (b n : Nat) (D : DV)
    (hm : a.eval m = .map (some b)) (hown : w.ownsMap P k tok b n D) (key : Value) (kl : Lit) (hx : a.eval x = key) (hkey : keyOf P k key = some kl)
    (hK : wpList P ops Q rest (a.put o.dst ((lookV D kl).getD z)) w) :
    wpList P ops Q (o :: rest) a w := by
  refine wpList_plain hg fun K' hK' => ?_
  have hrun := owns_look1 hown K ht hz hkey
  unfold Oper.wp
  simp [execOp, hop, hm, hx, hrun, Result.andThen]
  exact hK' _ _ hK
end
end Go.Proofs.Ytjpoebajljbocaa
