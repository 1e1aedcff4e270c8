/- A table of watches in memory: a map of sets. -/
import Derived.Test.YtjpoebajljbocaaEp
import Derived.Test.YtjpoebajljbocaaNra
import Derived.DeepKeys4
import Derived.Maps.OwnSet
import Derived.Maps.RangeWalk
namespace Go.Proofs.Ytjpoebajljbocaa
open Go.ChangeShapes Go.WideShapes Go.ChangeAt Go.RowKit Go.Maps
set_option linter.unusedVariables false
set_option linter.unusedSimpArgs false
def I64 (i : Int) : Prop := -9223372036854775808 ≤ i ∧ i ≤ 9223372036854775807
theorem wf_i64 {i : Int} (h : I64 i) : (Lit.int .i64 i).wf = true := by
  obtain ⟨h1, h2⟩ := h
  have e : IntKind.i64.min = -9223372036854775808 := by decide
  simp [Lit.wf, e]
  omega
theorem keyI64 {i : Int} (h : I64 i) : keyOf Try.prog 3 (.int .i64 i) = some (.int .i64 i) := keyOf_int_mk Try.underlying3 (wf_i64 h)
theorem keptM {w w' : World} {b : Nat} (h : w.mapTurned w' b) : Kept (fun k => k = b) w w' := (Kept.of_grownBy h.grown).mono (fun k _ e => by injection e)
theorem laidOutW : laidOutB Try.prog = true := by kernel_rfl
theorem rowW : 123 < Try.prog.types.size := of_decide_eq_true (by kernel_rfl)
theorem lawW : WideMaps.KeyLaw Try.prog 123 := deep_law_laid laidOutW (m := 2) (by omega) rowW (by kernel_rfl) (by kernel_rfl)
theorem keyW : Keyed Try.prog 123 := Keyed.of_law lawW
def wv (x : Wt) : Value := .agg #[.int .i64 x.1, .string x.2]
def wk (x : Wt) : Lit := .string (keyBytes [.int .i64 x.1, .string x.2.data.toList])
theorem key_watch {x : Wt} (h : I64 x.1) (hp : x.2.size ≤ maxLen) : keyOf Try.prog 123 (wv x) = some (wk x) := by
  have hw := wf_i64 h
  have c1 : Try.prog.cellsOf 123 = 2 := by kernel_rfl
  have c2 : Try.prog.cellsOf 3 = 1 := by kernel_rfl
  have c3 : Try.prog.cellsOf 9 = 1 := by kernel_rfl
  obtain ⟨m, hm⟩ : ∃ m, Try.prog.types.size = m + 1 := ⟨Try.prog.types.size - 1, by kernel_rfl⟩
  have hk : Try.prog.keyType 123 = true := by kernel_rfl
  have hf : (wv x).formed Try.prog 123 = true := by
    simp [wv, Value.formed, Try.underlying123, c1]
  unfold keyOf
  rw [Try.underlying123, hk, hf, hm]
  simp [Program.keyLits, Try.underlying123, Try.underlying3, Try.underlying9, c1, c2, c3, wv, wk, Value.cells, hw, hp]
theorem wk_inj {x y : Wt} (hx : I64 x.1) (hxp : x.2.size ≤ maxLen) (hy : I64 y.1) (hyp : y.2.size ≤ maxLen) (h : wk x = wk y) : x = y := by
  have h1 := key_watch hx hxp
  have h2 := key_watch hy hyp
  rw [h] at h1
  have h3 := keyW.inj h1 h2
  unfold wv at h3
  simp only [Value.agg.injEq, Array.mk.injEq, List.cons.injEq, Value.int.injEq, Value.string.injEq, true_and, and_true] at h3
  exact Prod.ext h3.1 h3.2
theorem zero_watches (w : World) : (zeroValue 127).run Try.prog w = .ok (.map none) w := by kernel_rfl
theorem zero_unit (w : World) : (zeroValue 124).run Try.prog w = .ok (.agg #[]) w := by kernel_rfl
/-- a set of watches -/
structure SetIs (E : DV) (l : List Wt) : Prop where
  has : ∀ x ∈ l, lookV E (wk x) = some (.agg #[])
  only : ∀ kl, (lookV E kl).isSome = true → ∃ x ∈ l, wk x = kl
def Fit1 (x : Wt) : Prop := I64 x.1 ∧ x.2.size ≤ maxLen
theorem fits_of {l : List Wt} (h : ∀ x ∈ l, 1 ≤ x.1 ∧ x.1 ≤ 3 ∧ x.2.size ≤ 140737488355328) : ∀ x ∈ l, Fit1 x := fun x hx => by
  have := h x hx
  exact ⟨by unfold I64; omega, by unfold maxLen; omega⟩
theorem SetIs.look {E : DV} {l : List Wt} (h : SetIs E l) (hl : ∀ x ∈ l, Fit1 x) {x : Wt} (hx : Fit1 x) : lookV E (wk x) = if x ∈ l then some (.agg #[]) else none := by
  by_cases hm : x ∈ l
  · rw [if_pos hm]; exact h.has x hm
  · rw [if_neg hm]
    cases hh : lookV E (wk x) with
    | none => rfl
    | some v =>
      obtain ⟨y, hy, e⟩ := h.only (wk x) (by rw [hh]; rfl)
      have := wk_inj (hl y hy).1 (hl y hy).2 hx.1 hx.2 e
      subst this; exact absurd hy hm
theorem SetIs.size {E : DV} {l : List Wt} (h : SetIs E l) (hE : Ent E) (hn : l.Nodup) (hl : ∀ x ∈ l, Fit1 x) : Maps.size E = l.length := by
  obtain ⟨es, rfl, hp, hk⟩ := hE
  have n1 : (es.map fun p => p.1).Nodup := List.pairwise_map.2 hp
  have n2 : (l.map wk).Nodup := List.pairwise_map.2 (hn.imp_of_mem fun {a b} ha hb hab e => hab (wk_inj (hl a ha).1 (hl a ha).2 (hl b hb).1 (hl b hb).2 e))
  have hperm : (es.map fun p => p.1).Perm (l.map wk) := (List.perm_ext_iff_of_nodup n1 n2).2 fun k => by
    rw [ent_mem hk, ← lookV_isSome, List.mem_map]
    exact ⟨fun hs => h.only k hs, fun ⟨x, hx, e⟩ => by rw [← e, h.has x hx]; rfl⟩
  have := hperm.length_eq
  simpa [Maps.size] using this
theorem SetIs.put {E : DV} {l : List Wt} (h : SetIs E l) (hE : IsMap E) {x : Wt} (hx : WideAt.IsKeyLit (wk x)) : SetIs (E.put (wk x) (.held (.agg #[]))) (l ++ [x]) := by
  refine ⟨fun y hy => ?_, fun kl hk => ?_⟩
  · by_cases e : wk y = wk x
    · rw [e]; exact lookV_put_same hE hx _
    · rw [lookV_put_other e]
      rcases List.mem_append.1 hy with hy | hy
      · exact h.has y hy
      · simp at hy; subst hy; exact absurd rfl e
  · by_cases e : kl = wk x
    · exact ⟨x, by simp, e.symm⟩
    · rw [lookV_put_other e] at hk
      obtain ⟨y, hy, ey⟩ := h.only kl hk
      exact ⟨y, by simp [hy], ey⟩
theorem SetIs.del {E : DV} {l : List Wt} (h : SetIs E l) (hl : ∀ x ∈ l, Fit1 x) {x : Wt} (hx : Fit1 x) : SetIs (E.del (wk x)) (l.filter (fun y => !(y == x))) := by
  refine ⟨fun y hy => ?_, fun kl hk => ?_⟩
  · obtain ⟨h1, h2⟩ := List.mem_filter.1 hy
    rw [lookV_del_other (fun e => by
      have := wk_inj (hl y h1).1 (hl y h1).2 hx.1 hx.2 e
      subst this; simp at h2)]
    exact h.has y h1
  · by_cases e : kl = wk x
    · subst e; rw [lookV_del_same] at hk; cases hk
    · rw [lookV_del_other e] at hk
      obtain ⟨y, hy, ey⟩ := h.only kl hk
      exact ⟨y, List.mem_filter.2 ⟨hy, by simp; intro e'; subst e'; exact e ey.symm⟩, ey⟩
theorem SetIs.nil : SetIs (.map []) [] := ⟨(fun x hx => nomatch hx), (fun kl hk => by rw [lookV_empty] at hk; cases hk)⟩
theorem owns_tight {w : World} {P : Program} {k : TypeId} {R : Value → Option (DV × List MemPlace)} {b n : Nat} {D : DV} (h : w.ownsMap P k R b n D) : w.ownsMap P k R b (Maps.size D) D := by
  obtain ⟨es, cl, h1, F, h2, rfl⟩ := h
  exact ⟨es, cl, h1, F, by simp [Maps.size, length_sorted], rfl⟩
theorem owns_key {P : Program} {k : TypeId} {w : World} {b n : Nat} {D : DV} (h : w.ownsMap P k tok b n D) {kl : Lit} (hh : has D kl = true) : ∃ key, keyOf P k key = some kl := by
  obtain ⟨es, clock, _, F, _, rfl⟩ := h
  obtain ⟨p, hm, hs⟩ := List.any_eq_true.1 hh
  obtain ⟨x, hx, rfl⟩ := List.mem_map.1 (mem_sorted.1 hm)
  obtain ⟨y, hy⟩ := F.reads x hx
  rw [WideElems.rg_of hy] at hs
  have := WideAt.sameKey_eq hs
  exact ⟨_, this ▸ WideElems.rd_key hy⟩
theorem wk_isKey (x : Wt) : WideAt.IsKeyLit (wk x) := by simp [wk, WideAt.IsKeyLit]
/-! a table's blocks -/
structure WQ where
  t : Nat
  m : Nat
  B : Int → Option Nat
def WQs (q : WQ) : Nat → Prop := fun k => k = q.t ∨ k = q.m ∨ ∃ a, q.B a = some k
structure WD (w : World) (q : WQ) (L : WL) (D : DV) (E : Int → DV) : Prop where
  at_ : w.heap[q.t]? = some (.cells #[.map (some q.m)] 120 (0, 0))
  m : w.ownsMap Try.prog 3 tok q.m (Maps.size D) D
  D : ∀ a, lookV D (.int .i64 a) = (q.B a).map (fun k => .map (some k))
  b : ∀ a k, q.B a = some k → w.ownsMap Try.prog 123 tok k (Maps.size (E a)) (E a)
  E : ∀ a k, q.B a = some k → SetIs (E a) (listW L a)
  has : ∀ a, (q.B a).isSome = true ↔ listW L a ≠ []
  inj : ∀ a a' k, q.B a = some k → q.B a' = some k → a = a'
  nm : ∀ a k, q.B a = some k → k ≠ q.m
  ok : WlOk L
def WAt (w : World) (q : WQ) (L : WL) : Prop := ∃ D E, WD w q L D E
section
variable {w w' : World} {q : WQ} {L : WL} {D : DV} {E : Int → DV}
theorem WD.mt (h : WD w q L D E) : q.m ≠ q.t := by
  obtain ⟨es, cl, hb, _⟩ := h.m
  have ht := h.at_
  intro e; rw [e, ht] at hb; cases hb
theorem WD.bt (h : WD w q L D E) {a : Int} {k : Nat} (hk : q.B a = some k) : k ≠ q.t := by
  obtain ⟨es, cl, hb, _⟩ := h.b a k hk
  have ht := h.at_
  intro e; rw [e, ht] at hb; cases hb
theorem WD.lt (h : WD w q L D E) : ∀ k, WQs q k → k < w.heap.size := by
  rintro k (rfl | rfl | ⟨a, ha⟩)
  · exact lt_of_block h.at_
  · exact h.m.lt
  · exact (h.b a k ha).lt
theorem WD.kept {X : Nat → Prop} (h : WD w q L D E) (hk : Kept X w w') (hx : ∀ k, WQs q k → ¬ X k) : WD w' q L D E :=
  ⟨by rw [hk.block q.t (h.lt _ (.inl rfl)) (hx _ (.inl rfl))]; exact h.at_, ownsMap_kept h.m hk (hx _ (.inr (.inl rfl))), h.D, fun a k ha => ownsMap_kept (h.b a k ha) hk (hx k (.inr (.inr ⟨a, ha⟩))), h.E, h.has, h.inj, h.nm, h.ok⟩
theorem WD.kept0 (h : WD w q L D E) (hk : Kept (fun _ => False) w w') : WD w' q L D E := h.kept hk (fun _ _ f => f)
theorem WAt.kept0 (h : WAt w q L) (hk : Kept (fun _ => False) w w') : WAt w' q L := by obtain ⟨D, E, h⟩ := h; exact ⟨D, E, h.kept0 hk⟩
theorem WAt.kept {X : Nat → Prop} (h : WAt w q L) (hk : Kept X w w') (hx : ∀ k, WQs q k → ¬ X k) : WAt w' q L := by obtain ⟨D, E, h⟩ := h; exact ⟨D, E, h.kept hk hx⟩
theorem WAt.lt (h : WAt w q L) : ∀ k, WQs q k → k < w.heap.size := by obtain ⟨D, E, h⟩ := h; exact h.lt
theorem WAt.ok (h : WAt w q L) : WlOk L := by obtain ⟨D, E, h⟩ := h; exact h.ok
theorem cell_box1 {B : Nat} {v : Value} {t : TypeId} (h : w.heap[B]? = some (.cells #[v] t (0, 0))) : w.cell? ⟨B, 0, none⟩ = some v ∧ w.frozen? ⟨B, 0, none⟩ = false := by
  constructor <;> simp [World.cell?, World.frozen?, h]
theorem WD.two (h : WD w q L D E) : w.cell? ⟨q.t, 0, none⟩ = some (.map (some q.m)) ∧ w.frozen? ⟨q.t, 0, none⟩ = false := cell_box1 h.at_
theorem WD.look1 (h : WD w q L D E) {a : Int} (ha : I64 a) : (Instr.lookup 118 (.map (some q.m)) (.int .i64 a) false).run Try.prog w = .ok (((q.B a).map (fun k => Value.map (some k))).getD (.map none)) w := by
  have := owns_look1 h.m (t := 118) (e := 127) keyI Try.underlying118 (zero_watches w) (keyI64 ha)
  rw [h.D] at this
  exact this
theorem WD.noneB (h : WD w q L D E) {a : Int} : q.B a = none ↔ listW L a = [] := by
  have := h.has a
  cases hb : q.B a with
  | none => rw [hb] at this; simp at this; simp [this]
  | some k => rw [hb] at this; simp at this; simp [this]
/-- as many sessions as there are keys -/
theorem WD.sizeD (h : WD w q L D E) : Maps.size D = L.length := by
  obtain ⟨es, hD, hp, hk⟩ := h.m.entries keyI
  have hD' := hD
  subst hD
  have n1 : (es.map fun p => p.1).Nodup := List.pairwise_map.2 hp
  have n2 : (L.map (fun s => Lit.int .i64 s.id)).Nodup := List.pairwise_map.2 (h.ok.up.imp fun {a b} hab e => by injection e with _ e; omega)
  have hperm : (es.map fun p => p.1).Perm (L.map (fun s => Lit.int .i64 s.id)) := (List.perm_ext_iff_of_nodup n1 n2).2 fun k => by
    rw [ent_mem hk, List.mem_map]
    constructor
    · intro hs
      obtain ⟨key, hkey⟩ := owns_key h.m hs
      obtain ⟨z, _, e2, _⟩ := keyOf_int_inv Try.underlying3 hkey
      subst e2
      rw [← lookV_isSome, h.D, Option.isSome_map, h.has] at hs
      unfold listW at hs
      cases hg : getW L z with
      | none => rw [hg] at hs; exact absurd rfl hs
      | some s => exact ⟨s, getW_mem hg, by rw [getW_id hg]⟩
    · rintro ⟨s, hs, rfl⟩
      rw [← lookV_isSome, h.D, Option.isSome_map, h.has]
      unfold listW
      rw [getW_of_mem h.ok.up hs]
      exact h.ok.some_ s hs
  have := hperm.length_eq
  simpa [Maps.size] using this
theorem WD.sizeB (h : WD w q L D E) {a : Int} {k : Nat} (hk : q.B a = some k) : Maps.size (E a) = countW L a := by
  obtain ⟨l1, l2, l3⟩ := h.ok.list a
  exact (h.E a k hk).size ((h.b a k hk).entries keyW) l1 (fits_of l3)
/-- what the set of a session has -/
theorem WD.lookB (h : WD w q L D E) {a : Int} {k : Nat} (hk : q.B a = some k) {x : Wt} (hx : Fit1 x) : (Instr.lookup 127 (.map (some k)) (wv x) true).run Try.prog w = .ok (.tuple #[.agg #[], .bool (decide (x ∈ listW L a))]) w := by
  obtain ⟨l1, l2, l3⟩ := h.ok.list a
  have := owns_look (h.b a k hk) (t := 127) (e := 124) keyW Try.underlying127 (zero_unit w) (key_watch hx.1 hx.2)
  rw [(h.E a k hk).look (fits_of l3) hx] at this
  by_cases hm : x ∈ listW L a
  · rw [if_pos hm] at this; simpa [hm] using this
  · rw [if_neg hm] at this; simpa [hm] using this
theorem look_none {x : Wt} (hx : Fit1 x) : (Instr.lookup 127 (.map none) (wv x) true).run Try.prog w = .ok (.tuple #[.agg #[], .bool false]) w := by
  have := Maps.look_nil (w := w) (t := 127) (e := 124) true keyW Try.underlying127 (zero_unit w) (key_watch hx.1 hx.2)
  simpa using this
def updB (B : Int → Option Nat) (a : Int) (v : Option Nat) : Int → Option Nat := fun x => if x = a then v else B x
def updE (E : Int → DV) (a : Int) (v : DV) : Int → DV := fun x => if x = a then v else E x
/-- a session that is there: its watches are others, but not none -/
theorem WD.set1 (h : WD w q L D E) {a : Int} {k : Nat} {l : List Wt} {E' : DV} (hk : q.B a = some k) (hl : l ≠ []) (hok : WlOk (setW L a l))
    (hown : w'.ownsMap Try.prog 123 tok k (Maps.size E') E') (hE : SetIs E' l) (hkp : Kept (fun j => j = k) w w') : WD w' q (setW L a l) D (updE E a E') := by
  have hL := h.ok.up
  refine ⟨?_, ownsMap_kept h.m hkp (fun e => h.nm _ _ hk e.symm), h.D, fun x j hx => ?_, fun x j hx => ?_, fun x => ?_, h.inj, h.nm, hok⟩
  · rw [hkp.block q.t (h.lt _ (.inl rfl)) (fun e => h.bt hk e.symm)]; exact h.at_
  · by_cases e : x = a
    · subst e
      rw [hk] at hx; injection hx with hx; subst hx
      simp only [updE, if_pos]; exact hown
    · simp only [updE, if_neg e]
      exact ownsMap_kept (h.b x j hx) hkp (fun e' => e (h.inj _ _ _ (e' ▸ hx) hk))
  · rw [listW_set hL]
    by_cases e : x = a
    · subst e; simp only [updE, if_pos]; exact hE
    · simp only [updE, if_neg e, if_neg (fun e' => e e'.symm : ¬ a = x)]; exact h.E x j hx
  · rw [listW_set hL]
    by_cases e : a = x
    · subst e; rw [if_pos rfl, hk]; simp [hl]
    · rw [if_neg e]; exact h.has x
/-- a session comes in -/
theorem WD.set2 (h : WD w q L D E) {a : Int} {k : Nat} {l : List Wt} {E' : DV} (hk : q.B a = none) (hk0 : w.heap.size ≤ k) (hl : l ≠ []) (hok : WlOk (setW L a l))
    (hm : w'.ownsMap Try.prog 3 tok q.m (Maps.size (D.put (.int .i64 a) (.held (.map (some k))))) (D.put (.int .i64 a) (.held (.map (some k)))))
    (hown : w'.ownsMap Try.prog 123 tok k (Maps.size E') E') (hE : SetIs E' l) (hkp : Kept (fun j => j = q.m) w w') :
    WD w' { q with B := updB q.B a (some k) } (setW L a l) (D.put (.int .i64 a) (.held (.map (some k)))) (updE E a E') := by
  have hL := h.ok.up
  have hno : ∀ x, q.B x ≠ some k := fun x e => by have := (h.b x k e).lt; omega
  refine ⟨?_, hm, fun x => ?_, fun x j hx => ?_, fun x j hx => ?_, fun x => ?_, fun x x' j hx hx' => ?_, fun x j hx => ?_, hok⟩
  · rw [hkp.block q.t (h.lt _ (.inl rfl)) (fun e => h.mt e.symm)]; exact h.at_
  · show _ = (updB q.B a (some k) x).map _
    by_cases e : x = a
    · subst e
      rw [lookV_put_same h.m.isMap (by simp [WideAt.IsKeyLit])]; simp [updB]
    · rw [lookV_put_other (fun e' => e (by injection e')), h.D]; simp [updB, e]
  · have hx : updB q.B a (some k) x = some j := hx
    by_cases e : x = a
    · subst e
      simp only [updB, if_pos] at hx; injection hx with hx; subst hx
      simp only [updE, if_pos]; exact hown
    · simp only [updB, if_neg e] at hx
      simp only [updE, if_neg e]
      exact ownsMap_kept (h.b x j hx) hkp (h.nm _ _ hx)
  · rw [listW_set hL]
    have hx : updB q.B a (some k) x = some j := hx
    by_cases e : x = a
    · subst e; simp only [updE, if_pos]; exact hE
    · simp only [updB, if_neg e] at hx
      simp only [updE, if_neg e, if_neg (fun e' => e e'.symm : ¬ a = x)]; exact h.E x j hx
  · rw [listW_set hL]
    show (updB q.B a (some k) x).isSome = true ↔ _
    by_cases e : x = a
    · subst e; simp [updB, hl]
    · simp only [updB, if_neg e, if_neg (fun e' => e e'.symm : ¬ a = x)]; exact h.has x
  · have hx : updB q.B a (some k) x = some j := hx
    have hx' : updB q.B a (some k) x' = some j := hx'
    unfold updB at hx hx'
    by_cases e : x = a <;> by_cases e' : x' = a
    · rw [e, e']
    · rw [if_pos e] at hx; rw [if_neg e'] at hx'
      injection hx with hx; subst hx; exact absurd hx' (hno x')
    · rw [if_neg e] at hx; rw [if_pos e'] at hx'
      injection hx' with hx'; subst hx'; exact absurd hx (hno x)
    · rw [if_neg e] at hx; rw [if_neg e'] at hx'
      exact h.inj _ _ _ hx hx'
  · have hx : updB q.B a (some k) x = some j := hx
    unfold updB at hx
    split at hx
    · injection hx with hx; subst hx; have h9 := h.m.lt; exact fun e => by have e : k = q.m := e; omega
    · exact h.nm _ _ hx
/-- a session goes (from the big map; its set is let go) -/
theorem WD.del (h : WD w q L D E) {a : Int} (hm : w'.ownsMap Try.prog 3 tok q.m (Maps.size (D.del (.int .i64 a))) (D.del (.int .i64 a))) (hkm : Kept (fun j => j = q.m ∨ q.B a = some j) w w') :
    WD w' { q with B := updB q.B a none } (delW L a) (D.del (.int .i64 a)) E := by
  refine ⟨?_, hm, fun x => ?_, fun x j hx => ?_, fun x j hx => ?_, fun x => ?_, fun x x' j hx hx' => ?_, fun x j hx => ?_, h.ok.del a⟩
  · rw [hkm.block q.t (h.lt _ (.inl rfl)) (by rintro (e | e); exact h.mt e.symm; exact h.bt e rfl)]; exact h.at_
  · show _ = (updB q.B a none x).map _
    by_cases e : x = a
    · subst e; rw [lookV_del_same]; simp [updB]
    · rw [lookV_del_other (fun e' => e (by injection e')), h.D]; simp [updB, e]
  · have hx : updB q.B a none x = some j := hx
    by_cases e : x = a
    · simp [updB, e] at hx
    · simp only [updB, if_neg e] at hx
      exact ownsMap_kept (h.b x j hx) hkm (by rintro (e' | e'); exact h.nm _ _ hx e'; exact e (h.inj _ _ _ hx e'))
  · have hx : updB q.B a none x = some j := hx
    by_cases e : x = a
    · simp [updB, e] at hx
    · simp only [updB, if_neg e] at hx
      rw [listW_del, if_neg e]; exact h.E x j hx
  · show (updB q.B a none x).isSome = true ↔ _
    rw [listW_del]
    by_cases e : x = a
    · simp [updB, e]
    · simp only [updB, if_neg e]; exact h.has x
  · have hx : updB q.B a none x = some j := hx
    have hx' : updB q.B a none x' = some j := hx'
    unfold updB at hx hx'
    split at hx
    · cases hx
    · split at hx'
      · cases hx'
      · exact h.inj _ _ _ hx hx'
  · have hx : updB q.B a none x = some j := hx
    unfold updB at hx
    split at hx
    · cases hx
    · exact h.nm _ _ hx
end
end Go.Proofs.Ytjpoebajljbocaa
