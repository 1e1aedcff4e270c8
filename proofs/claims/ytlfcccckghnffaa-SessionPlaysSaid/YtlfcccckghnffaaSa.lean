/- A tracker in memory: a map of maps. -/
import Derived.Test.YtlfcccckghnffaaProg
import Derived.Test.YtlfcccckghnffaaSp
import Derived.Test.YtlfcccckghnffaaSk
import Derived.Test.YtlfcccckghnffaaNm
import Derived.Maps.OwnSet
import Derived.Maps.Keyed
namespace Go.Proofs.Ytlfcccckghnffaa
open Go.ChangeShapes Go.WideShapes Go.ChangeAt Go.RowKit Go.Maps
set_option linter.unusedVariables false
set_option linter.unusedSimpArgs false
theorem keyI : Keyed Try.prog 3 := int_keyed Try.underlying3
def I64 (i : Int) : Prop := -9223372036854775808 ≤ i ∧ i ≤ 9223372036854775807
theorem wf_of {i : Int} (h : I64 i) : (Lit.int .i64 i).wf = true := by
  obtain ⟨h1, h2⟩ := h
  have e : IntKind.i64.min = -9223372036854775808 := by decide
  simp [Lit.wf, e]
  omega
theorem keyInt {i : Int} (h : I64 i) : keyOf Try.prog 3 (.int .i64 i) = some (.int .i64 i) := keyOf_int_mk Try.underlying3 (wf_of h)
theorem ownsMap_kept {w w' : World} {P : Program} {k : TypeId} {R : Value → Option (DV × List MemPlace)} {b n : Nat} {D : DV} {X : Nat → Prop} (h : w.ownsMap P k R b n D) (hk : Kept X w w') (hb : ¬ X b) : w'.ownsMap P k R b n D := by
  have hl := h.lt
  obtain ⟨es, cl, h1, r⟩ := h
  exact ⟨es, cl, (hk.block b hl hb).trans h1, r⟩
theorem keptN {w w' : World} {b : Nat} (h : w.mapTurned w' b) : Kept (fun k => k = b) w w' := (Kept.of_grownBy h.grown).mono (fun k _ e => by injection e)
theorem kept_grown {w w' : World} {row : Option Nat} (h : w.grownBy w' row) {b : Nat} (e : row = some b) : Kept (fun j => j = b) w w' := (Kept.of_grownBy h).mono (fun k _ e' => by rw [e] at e'; injection e')
theorem kept_false {w0 w w' : World} {b : Nat} (h : Kept (fun _ => False) w0 w) (hg : w.grownBy w' (some b)) (hb : w0.heap.size ≤ b) : Kept (fun _ => False) w0 w' := h.trans' (Kept.of_grownBy hg) (fun k hk e => by injection e with e; omega)
theorem owns_key {P : Program} {k : TypeId} {w : World} {b n : Nat} {D : DV} (h : w.ownsMap P k tok b n D) {kl : Lit} (hh : has D kl = true) : ∃ key, keyOf P k key = some kl := by
  obtain ⟨es, clock, _, F, _, rfl⟩ := h
  obtain ⟨p, hm, hs⟩ := List.any_eq_true.1 hh
  obtain ⟨x, hx, rfl⟩ := List.mem_map.1 (mem_sorted.1 hm)
  obtain ⟨y, hy⟩ := F.reads x hx
  rw [WideElems.rg_of hy] at hs
  have := WideAt.sameKey_eq hs
  exact ⟨_, this ▸ WideElems.rd_key hy⟩
/-- a map of numbers is empty just if no number is there -/
theorem size_zero {w : World} {b n : Nat} {D : DV} (h : w.ownsMap Try.prog 3 tok b n D) : size D = 0 ↔ ∀ i, lookV D (.int .i64 i) = none := by
  have hh := h
  obtain ⟨es, hD, hp⟩ := h.tidy keyI
  subst hD
  constructor
  · intro hs i
    have : es = [] := List.eq_nil_of_length_eq_zero hs
    subst this
    exact lookV_empty _
  · intro hn
    cases es with
    | nil => rfl
    | cons p r =>
      have hk : has (.map (p :: r)) p.1 = true := by
        have : WideAt.IsKeyLit p.1 := by
          obtain ⟨es', clock, _, F, _, e⟩ := hh
          have hm : p ∈ p :: r := List.mem_cons_self ..
          rw [show (p :: r) = _ from by injection e] at hm
          obtain ⟨x, hx, rfl⟩ := List.mem_map.1 (mem_sorted.1 hm)
          obtain ⟨y, hy⟩ := F.reads x hx
          rw [WideElems.rg_of hy]
          have hkey := WideElems.rd_key hy
          obtain ⟨z, _, e2, _⟩ := keyOf_int_inv Try.underlying3 hkey
          rw [e2]; simp [WideAt.IsKeyLit]
        exact List.any_eq_true.2 ⟨p, List.mem_cons_self .., WideAt.sameKey_self this⟩
      obtain ⟨key, hkey⟩ := owns_key hh hk
      obtain ⟨z, _, e2, _⟩ := keyOf_int_inv Try.underlying3 hkey
      have h1 := lookV_isSome (.map (p :: r)) p.1
      rw [hk, e2, hn z] at h1; cases h1
/-! a tracker's blocks -/
structure SQ where
  t : Nat
  m : Nat
  B : Int → Option Nat
def SQs (q : SQ) : Nat → Prop := fun k => k = q.t ∨ k = q.m ∨ ∃ a, q.B a = some k
/-- what the bucket of a has of session i -/
def inB (L : SL) (a i : Int) : Option Value := match getL L i with
  | some s => if s.dl = a then some (.int .i64 s.to) else none
  | none => none
structure SD (w : World) (q : SQ) (L : SL) (c : Nat) (D : DV) (E : Int → DV) : Prop where
  at_ : w.heap[q.t]? = some (.cells #[.map (some q.m)] 48 (0, 0))
  m : w.ownsMap Try.prog 3 tok q.m c D
  D : ∀ a, lookV D (.int .i64 a) = (q.B a).map (fun k => .map (some k))
  b : ∀ a k, q.B a = some k → w.ownsMap Try.prog 3 tok k c (E a)
  E : ∀ a k, q.B a = some k → ∀ i, lookV (E a) (.int .i64 i) = inB L a i
  has : ∀ a, (q.B a).isSome = true ↔ ∃ i s, getL L i = some s ∧ s.dl = a
  inj : ∀ a a' k, q.B a = some k → q.B a' = some k → a = a'
  nm : ∀ a k, q.B a = some k → k ≠ q.m
  ok : SlOk L
def SAt (w : World) (q : SQ) (L : SL) (c : Nat) : Prop := ∃ D E, SD w q L c D E
section
variable {w w' : World} {q : SQ} {L : SL} {c : Nat} {D : DV} {E : Int → DV}
theorem SD.mt (h : SD w q L c D E) : q.m ≠ q.t := by
  obtain ⟨es, cl, hb, _⟩ := h.m
  have ht := h.at_
  intro e; rw [e, ht] at hb; cases hb
theorem SD.bt (h : SD w q L c D E) {a : Int} {k : Nat} (hk : q.B a = some k) : k ≠ q.t := by
  obtain ⟨es, cl, hb, _⟩ := h.b a k hk
  have ht := h.at_
  intro e; rw [e, ht] at hb; cases hb
theorem SD.lt (h : SD w q L c D E) : ∀ k, SQs q k → k < w.heap.size := by
  rintro k (rfl | rfl | ⟨a, ha⟩)
  · exact lt_of_block h.at_
  · exact h.m.lt
  · exact (h.b a k ha).lt
theorem SD.kept {X : Nat → Prop} (h : SD w q L c D E) (hk : Kept X w w') (hx : ∀ k, SQs q k → ¬ X k) : SD w' q L c D E :=
  ⟨by rw [hk.block q.t (h.lt _ (.inl rfl)) (hx _ (.inl rfl))]; exact h.at_, ownsMap_kept h.m hk (hx _ (.inr (.inl rfl))), h.D, fun a k ha => ownsMap_kept (h.b a k ha) hk (hx k (.inr (.inr ⟨a, ha⟩))), h.E, h.has, h.inj, h.nm, h.ok⟩
theorem SD.kept0 (h : SD w q L c D E) (hk : Kept (fun _ => False) w w') : SD w' q L c D E := h.kept hk (fun _ _ f => f)
theorem SAt.kept0 (h : SAt w q L c) (hk : Kept (fun _ => False) w w') : SAt w' q L c := by obtain ⟨D, E, h⟩ := h; exact ⟨D, E, h.kept0 hk⟩
theorem SAt.kept {X : Nat → Prop} (h : SAt w q L c) (hk : Kept X w w') (hx : ∀ k, SQs q k → ¬ X k) : SAt w' q L c := by obtain ⟨D, E, h⟩ := h; exact ⟨D, E, h.kept hk hx⟩
theorem SAt.lt (h : SAt w q L c) : ∀ k, SQs q k → k < w.heap.size := by obtain ⟨D, E, h⟩ := h; exact h.lt
theorem SAt.ok (h : SAt w q L c) : SlOk L := by obtain ⟨D, E, h⟩ := h; exact h.ok
theorem SD.mono (h : SD w q L c D E) {c' : Nat} (hc : c ≤ c') : SD w q L c' D E := ⟨h.at_, h.m.mono hc, h.D, fun a k ha => (h.b a k ha).mono hc, h.E, h.has, h.inj, h.nm, h.ok⟩
theorem SAt.mono (h : SAt w q L c) {c' : Nat} (hc : c ≤ c') : SAt w q L c' := by obtain ⟨D, E, h⟩ := h; exact ⟨D, E, h.mono hc⟩
theorem cell_box {B : Nat} {v : Value} {t : TypeId} (h : w.heap[B]? = some (.cells #[v] t (0, 0))) : w.cell? ⟨B, 0, none⟩ = some v ∧ w.frozen? ⟨B, 0, none⟩ = false := by
  constructor <;> simp [World.cell?, World.frozen?, h]
theorem SD.two (h : SD w q L c D E) : w.cell? ⟨q.t, 0, none⟩ = some (.map (some q.m)) ∧ w.frozen? ⟨q.t, 0, none⟩ = false := cell_box h.at_
theorem zero_bucket (w : World) : (zeroValue 53).run Try.prog w = .ok (.map none) w := by kernel_rfl
theorem zero_int (w : World) : (zeroValue 3).run Try.prog w = .ok (.int .i64 0) w := by kernel_rfl
theorem SD.look (h : SD w q L c D E) {a : Int} (ha : I64 a) : (Instr.lookup 46 (.map (some q.m)) (.int .i64 a) true).run Try.prog w = .ok (.tuple #[((q.B a).map (fun k => Value.map (some k))).getD (.map none), .bool (q.B a).isSome]) w := by
  have := owns_look h.m (t := 46) (e := 53) keyI Try.underlying46 (zero_bucket w) (keyInt ha)
  rw [h.D, Option.isSome_map] at this
  exact this
theorem SD.look1 (h : SD w q L c D E) {a : Int} (ha : I64 a) : (Instr.lookup 46 (.map (some q.m)) (.int .i64 a) false).run Try.prog w = .ok (((q.B a).map (fun k => Value.map (some k))).getD (.map none)) w := by
  have := owns_look1 h.m (t := 46) (e := 53) keyI Try.underlying46 (zero_bucket w) (keyInt ha)
  rw [h.D] at this
  exact this
theorem look_in {k n : Nat} {E0 : DV} (h : w.ownsMap Try.prog 3 tok k n E0) {i : Int} (hi : I64 i) : (Instr.lookup 53 (.map (some k)) (.int .i64 i) true).run Try.prog w = .ok (.tuple #[(lookV E0 (.int .i64 i)).getD (.int .i64 0), .bool (lookV E0 (.int .i64 i)).isSome]) w :=
  owns_look h (t := 53) (e := 3) keyI Try.underlying53 (zero_int w) (keyInt hi)
theorem look_in1 {k n : Nat} {E0 : DV} (h : w.ownsMap Try.prog 3 tok k n E0) {i : Int} (hi : I64 i) : (Instr.lookup 53 (.map (some k)) (.int .i64 i) false).run Try.prog w = .ok ((lookV E0 (.int .i64 i)).getD (.int .i64 0)) w :=
  owns_look1 h (t := 53) (e := 3) keyI Try.underlying53 (zero_int w) (keyInt hi)
theorem SD.find (h : SD w q L c D E) {i : Int} {s : Se} (hs : getL L i = some s) : ∃ k, q.B s.dl = some k ∧ lookV (E s.dl) (.int .i64 i) = some (.int .i64 s.to) := by
  obtain ⟨k, hk⟩ := Option.isSome_iff_exists.1 ((h.has s.dl).2 ⟨i, s, hs, rfl⟩)
  refine ⟨k, hk, ?_⟩
  rw [h.E _ _ hk, inB, hs]; simp
theorem SlOk.dl64 {L : SL} (h : SlOk L) {s : Se} (hs : s ∈ L) : I64 s.dl := by
  have := h.dl s hs; unfold I64; omega
theorem inB_put {L : SL} (hL : Rising L) {s : Se} (hs : getL L s.id = none) (a i : Int) : inB (putL L s) a i = if a = s.dl ∧ i = s.id then some (.int .i64 s.to) else inB L a i := by
  unfold inB
  rw [getL_put hL]
  by_cases e : s.id = i
  · subst e
    rw [if_pos rfl, hs]
    by_cases e2 : s.dl = a
    · simp [e2]
    · simp [e2, Ne.symm e2]
  · rw [if_neg e, if_neg (fun h => e h.2.symm)]
theorem inB_del {L : SL} (id : Int) (a i : Int) : inB (delL L id) a i = if i = id then none else inB L a i := by
  unfold inB
  rw [getL_del]
  by_cases e : i = id
  · rw [if_pos e, if_pos e]
  · rw [if_neg e, if_neg e]
def updB (B : Int → Option Nat) (a : Int) (v : Option Nat) : Int → Option Nat := fun x => if x = a then v else B x
def updE (E : Int → DV) (a : Int) (v : DV) : Int → DV := fun x => if x = a then v else E x
/-- what stays in other buckets, and comes into one -/
theorem has_put {L : SL} (hL : Rising L) {s : Se} (hs : getL L s.id = none) (a : Int) : (∃ i t, getL (putL L s) i = some t ∧ t.dl = a) ↔ (a = s.dl ∨ ∃ i t, getL L i = some t ∧ t.dl = a) := by
  constructor
  · rintro ⟨i, t, h1, h2⟩
    rw [getL_put hL] at h1
    by_cases e : s.id = i
    · rw [if_pos e] at h1; injection h1 with h1; subst h1; exact .inl h2.symm
    · rw [if_neg e] at h1; exact .inr ⟨i, t, h1, h2⟩
  · rintro (h | ⟨i, t, h1, h2⟩)
    · exact ⟨s.id, s, by rw [getL_put hL, if_pos rfl], h.symm⟩
    · refine ⟨i, t, ?_, h2⟩
      rw [getL_put hL, if_neg (fun e => by rw [← e, hs] at h1; cases h1)]; exact h1
/-- a session comes into a bucket that is there -/
theorem SD.put1 (h : SD w q L c D E) {s : Se} {k : Nat} (hk : q.B s.dl = some k) (hs : getL L s.id = none) (hok : SlOk (putL L s))
    (hown : w'.ownsMap Try.prog 3 tok k (c + 1) ((E s.dl).put (.int .i64 s.id) (.held (.int .i64 s.to)))) (hkp : Kept (fun j => j = k) w w') :
    SD w' q (putL L s) (c + 1) D (updE E s.dl ((E s.dl).put (.int .i64 s.id) (.held (.int .i64 s.to)))) := by
  have hL := h.ok.up
  refine ⟨?_, ownsMap_kept (h.m.mono (Nat.le_succ c)) hkp (fun e => h.nm _ _ hk e.symm), h.D, fun a j ha => ?_, fun a j ha i => ?_, fun a => ?_, h.inj, h.nm, hok⟩
  · rw [hkp.block q.t (h.lt _ (.inl rfl)) (fun e => h.bt hk e.symm)]; exact h.at_
  · by_cases e : a = s.dl
    · subst e
      rw [hk] at ha; injection ha with ha; subst ha
      simp only [updE, if_pos]; exact hown
    · simp only [updE, if_neg e]
      exact ownsMap_kept ((h.b a j ha).mono (Nat.le_succ c)) hkp (fun e' => e (h.inj _ _ _ (e' ▸ ha) hk))
  · rw [inB_put hL hs]
    by_cases e : a = s.dl
    · subst e
      simp only [updE, if_pos]
      by_cases e2 : i = s.id
      · subst e2
        rw [lookV_put_same (h.b _ _ hk).isMap (by simp [WideAt.IsKeyLit])]; simp
      · rw [lookV_put_other (fun e' => e2 (by injection e')), h.E _ _ ha]; simp [e2]
    · simp only [updE, if_neg e]
      rw [h.E _ _ ha, if_neg (fun e' => e e'.1)]
  · rw [has_put hL hs, ← h.has]
    constructor
    · exact fun h => .inr h
    · rintro (rfl | h)
      · rw [hk]; rfl
      · exact h
/-- a session comes into a bucket of its own -/
theorem SD.put2 (h : SD w q L c D E) {s : Se} {k : Nat} (hk : q.B s.dl = none) (hk0 : w.heap.size ≤ k) (hs : getL L s.id = none) (hok : SlOk (putL L s))
    (hm : w'.ownsMap Try.prog 3 tok q.m (c + 1) (D.put (.int .i64 s.dl) (.held (.map (some k)))))
    (hown : w'.ownsMap Try.prog 3 tok k (c + 1) ((DataW.map [] : DV).put (.int .i64 s.id) (.held (.int .i64 s.to)))) (hkp : Kept (fun j => j = q.m) w w') :
    SD w' { q with B := updB q.B s.dl (some k) } (putL L s) (c + 1) (D.put (.int .i64 s.dl) (.held (.map (some k)))) (updE E s.dl ((DataW.map [] : DV).put (.int .i64 s.id) (.held (.int .i64 s.to)))) := by
  have hL := h.ok.up
  have hno : ∀ a, q.B a ≠ some k := fun a e => by have := (h.b a k e).lt; omega
  refine ⟨?_, hm, fun a => ?_, fun a j ha => ?_, fun a j ha i => ?_, fun a => ?_, fun a a' j ha ha' => ?_, fun a j ha => ?_, hok⟩
  · rw [hkp.block q.t (h.lt _ (.inl rfl)) (fun e => h.mt e.symm)]; exact h.at_
  · show _ = (updB q.B s.dl (some k) a).map _
    by_cases e : a = s.dl
    · subst e
      rw [lookV_put_same h.m.isMap (by simp [WideAt.IsKeyLit])]; simp [updB]
    · rw [lookV_put_other (fun e' => e (by injection e')), h.D]; simp [updB, e]
  · by_cases e : a = s.dl
    · subst e
      have ha : updB q.B s.dl (some k) s.dl = some j := ha
      simp only [updB, if_pos] at ha; injection ha with ha; subst ha
      simp only [updE, if_pos]; exact hown
    · have ha : updB q.B s.dl (some k) a = some j := ha
      simp only [updB, if_neg e] at ha
      simp only [updE, if_neg e]
      exact ownsMap_kept ((h.b a j ha).mono (Nat.le_succ c)) hkp (h.nm _ _ ha)
  · rw [inB_put hL hs]
    have ha : updB q.B s.dl (some k) a = some j := ha
    by_cases e : a = s.dl
    · subst e
      simp only [updE, if_pos]
      by_cases e2 : i = s.id
      · subst e2
        rw [lookV_put_same ⟨[], rfl⟩ (by simp [WideAt.IsKeyLit])]; simp
      · rw [lookV_put_other (fun e' => e2 (by injection e')), lookV_empty, if_neg (fun e' => e2 e'.2)]
        unfold inB
        cases hg : getL L i with
        | none => rfl
        | some t =>
          by_cases et : t.dl = s.dl
          · have := (h.has s.dl).2 ⟨i, t, hg, et⟩
            rw [hk] at this; cases this
          · simp [et]
    · simp only [updB, if_neg e] at ha
      simp only [updE, if_neg e]
      rw [h.E _ _ ha, if_neg (fun e' => e e'.1)]
  · rw [has_put hL hs]
    show (updB q.B s.dl (some k) a).isSome = true ↔ _
    by_cases e : a = s.dl
    · simp [updB, e]
    · simp only [updB, if_neg e]
      rw [h.has]; simp [e]
  · have ha : updB q.B s.dl (some k) a = some j := ha
    have ha' : updB q.B s.dl (some k) a' = some j := ha'
    unfold updB at ha ha'
    by_cases e : a = s.dl <;> by_cases e' : a' = s.dl
    · rw [e, e']
    · rw [if_pos e] at ha; rw [if_neg e'] at ha'
      injection ha with ha; subst ha; exact absurd ha' (hno a')
    · rw [if_neg e] at ha; rw [if_pos e'] at ha'
      injection ha' with ha'; subst ha'; exact absurd ha (hno a)
    · rw [if_neg e] at ha; rw [if_neg e'] at ha'
      exact h.inj _ _ _ ha ha'
  · have ha : updB q.B s.dl (some k) a = some j := ha
    unfold updB at ha
    split at ha
    · injection ha with ha; subst ha; have h9 := h.m.lt; exact fun e => by have e : k = q.m := e; omega
    · exact h.nm _ _ ha
/-- a session leaves a bucket that stays -/
theorem SD.take1 (h : SD w q L c D E) {s : Se} {k : Nat} (hk : q.B s.dl = some k) (hs : getL L s.id = some s) (hn : size ((E s.dl).del (.int .i64 s.id)) ≠ 0)
    (hown : w'.ownsMap Try.prog 3 tok k c ((E s.dl).del (.int .i64 s.id))) (hkp : Kept (fun j => j = k) w w') :
    SD w' q (delL L s.id) c D (updE E s.dl ((E s.dl).del (.int .i64 s.id))) := by
  have hL := h.ok.up
  refine ⟨?_, ownsMap_kept h.m hkp (fun e => h.nm _ _ hk e.symm), h.D, fun a j ha => ?_, fun a j ha i => ?_, fun a => ?_, h.inj, h.nm, h.ok.del _⟩
  · rw [hkp.block q.t (h.lt _ (.inl rfl)) (fun e => h.bt hk e.symm)]; exact h.at_
  · by_cases e : a = s.dl
    · subst e
      rw [hk] at ha; injection ha with ha; subst ha
      simp only [updE, if_pos]; exact hown
    · simp only [updE, if_neg e]
      exact ownsMap_kept (h.b a j ha) hkp (fun e' => e (h.inj _ _ _ (e' ▸ ha) hk))
  · rw [inB_del]
    by_cases e : a = s.dl
    · subst e
      simp only [updE, if_pos]
      by_cases e2 : i = s.id
      · subst e2
        rw [lookV_del_same, if_pos rfl]
      · rw [lookV_del_other (fun e' => e2 (by injection e')), h.E _ _ ha, if_neg e2]
    · simp only [updE, if_neg e]
      rw [h.E _ _ ha]
      split
      · rename_i e2; subst e2; unfold inB; rw [hs]; simp [Ne.symm e]
      · rfl
  · rw [h.has]
    constructor
    · rintro ⟨i, t, h1, h2⟩
      by_cases e : a = s.dl
      · subst e
        rw [Ne, size_zero hown] at hn
        obtain ⟨j, hj⟩ := Classical.not_forall.1 hn
        by_cases ej : j = s.id
        · subst ej; rw [lookV_del_same] at hj; exact absurd rfl hj
        · rw [lookV_del_other (fun e' => ej (by injection e')), h.E _ _ hk] at hj
          unfold inB at hj
          cases hg : getL L j with
          | none => rw [hg] at hj; exact absurd rfl hj
          | some u =>
            rw [hg] at hj
            by_cases eu : u.dl = s.dl
            · exact ⟨j, u, by rw [getL_del, if_neg ej]; exact hg, eu⟩
            · simp [eu] at hj
      · exact ⟨i, t, by rw [getL_del, if_neg (fun e' => by subst e'; rw [hs] at h1; injection h1 with h1; subst h1; exact e h2.symm)]; exact h1, h2⟩
    · rintro ⟨i, t, h1, h2⟩
      rw [getL_del] at h1
      split at h1
      · cases h1
      · exact ⟨i, t, h1, h2⟩
/-- a session leaves its bucket, which goes -/
theorem SD.take2 {w1 : World} (h : SD w q L c D E) {s : Se} {k : Nat} (hk : q.B s.dl = some k) (hs : getL L s.id = some s) (hn : size ((E s.dl).del (.int .i64 s.id)) = 0)
    (hown : w1.ownsMap Try.prog 3 tok k c ((E s.dl).del (.int .i64 s.id))) (hkp : Kept (fun j => j = k) w w1)
    (hm : w'.ownsMap Try.prog 3 tok q.m c (D.del (.int .i64 s.dl))) (hkm : Kept (fun j => j = q.m) w1 w') :
    SD w' { q with B := updB q.B s.dl none } (delL L s.id) c (D.del (.int .i64 s.dl)) E := by
  have hL := h.ok.up
  have hone : ∀ i t, getL L i = some t → t.dl = s.dl → i = s.id := fun i t hg ht => by
    rw [size_zero hown] at hn
    have := hn i
    by_cases e : i = s.id
    · exact e
    · rw [lookV_del_other (fun e' => e (by injection e')), h.E _ _ hk, inB, hg] at this
      simp [ht] at this
  refine ⟨?_, hm, fun a => ?_, fun a j ha => ?_, fun a j ha i => ?_, fun a => ?_, fun a a' j ha ha' => ?_, fun a j ha => ?_, h.ok.del _⟩
  · rw [hkm.block q.t (by have := h.lt _ (.inl rfl); have := hkp.size; omega) (fun e => h.mt e.symm), hkp.block q.t (h.lt _ (.inl rfl)) (fun e => h.bt hk e.symm)]; exact h.at_
  · show _ = (updB q.B s.dl none a).map _
    by_cases e : a = s.dl
    · subst e; rw [lookV_del_same]; simp [updB]
    · rw [lookV_del_other (fun e' => e (by injection e')), h.D]; simp [updB, e]
  · have ha : updB q.B s.dl none a = some j := ha
    by_cases e : a = s.dl
    · simp [updB, e] at ha
    · simp only [updB, if_neg e] at ha
      exact ownsMap_kept (ownsMap_kept (h.b a j ha) hkp (fun e' => e (h.inj _ _ _ (e' ▸ ha) hk))) hkm (h.nm _ _ ha)
  · have ha : updB q.B s.dl none a = some j := ha
    by_cases e : a = s.dl
    · simp [updB, e] at ha
    · simp only [updB, if_neg e] at ha
      rw [inB_del, h.E _ _ ha]
      split
      · rename_i e2; subst e2; unfold inB; rw [hs]; simp [Ne.symm e]
      · rfl
  · show (updB q.B s.dl none a).isSome = true ↔ _
    by_cases e : a = s.dl
    · subst e
      simp only [updB, if_pos]
      constructor
      · intro h; cases h
      · rintro ⟨i, t, h1, h2⟩
        rw [getL_del] at h1
        split at h1
        · cases h1
        · exact absurd (hone i t h1 h2) ‹_›
    · simp only [updB, if_neg e]
      rw [h.has]
      constructor
      · rintro ⟨i, t, h1, h2⟩
        exact ⟨i, t, by rw [getL_del, if_neg (fun e' => by subst e'; rw [hs] at h1; injection h1 with h1; subst h1; exact e h2.symm)]; exact h1, h2⟩
      · rintro ⟨i, t, h1, h2⟩
        rw [getL_del] at h1
        split at h1
        · cases h1
        · exact ⟨i, t, h1, h2⟩
  · have ha : updB q.B s.dl none a = some j := ha
    have ha' : updB q.B s.dl none a' = some j := ha'
    unfold updB at ha ha'
    split at ha
    · cases ha
    · split at ha'
      · cases ha'
      · exact h.inj _ _ _ ha ha'
  · have ha : updB q.B s.dl none a = some j := ha
    unfold updB at ha
    split at ha
    · cases ha
    · exact h.nm _ _ ha
end
end Go.Proofs.Ytlfcccckghnffaa
