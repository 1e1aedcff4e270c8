/- Plainly: a part below one path touches, and asks, only what lies there. The law's lists of entries, and its script, in memory. -/
import Derived.Test.YtenbdoceaabecaaGreatP03
import Derived.Test.YtenbdoceaabecaaGreatP11
namespace Go.Proofs.YtenbdoceaabecaaGreat
set_option linter.unusedVariables false
set_option linter.unusedSimpArgs false
structure InR (R : List UInt8 → Prop) (x : T1) : Prop where
  path : R x.path.data.toList
  par : R (parS x.path).data.toList
  under : ∀ k, underL k x.path = true → R k
/-- alike in R -/
def AlikeR (R : List UInt8 → Prop) (M M' : TM) : Prop := ∀ k, R k → M.N k = M'.N k
/-- what a step leaves: alike in R; elsewhere as it was -/
structure StepR (R : List UInt8 → Prop) (M M' M1 M1' : TM) : Prop where
  inn : AlikeR R M1 M1'
  out : ∀ k, ¬ R k → M1.N k = M.N k
  out' : ∀ k, ¬ R k → M1'.N k = M'.N k
  s : M1.S = M.S
  s' : M1'.S = M'.S
variable {R : List UInt8 → Prop} {M M' : TM}
theorem StepR.refl (h : AlikeR R M M') : StepR R M M' M M' := ⟨h, fun _ _ => rfl, fun _ _ => rfl, rfl, rfl⟩
theorem StepR.trans {M1 M1' M2 M2' : TM} (h : StepR R M M' M1 M1') (g : StepR R M1 M1' M2 M2') : StepR R M M' M2 M2' :=
  ⟨g.inn, fun k hk => (g.out k hk).trans (h.out k hk), fun k hk => (g.out' k hk).trans (h.out' k hk), g.s.trans h.s, g.s'.trans h.s'⟩
theorem AlikeR.has (h : AlikeR R M M') {p : ByteArray} (hp : R p.data.toList) : hasN M p = hasN M' p := by
  unfold hasN; rw [h _ hp]
theorem upd_step (h : AlikeR R M M') {k : List UInt8} (hk : R k) (v : Option Nd) : StepR R M M' { M with N := updN M.N k v } { M' with N := updN M'.N k v } := by
  have hne : ∀ j, ¬ R j → j ≠ k := fun j hj e => hj (e ▸ hk)
  refine ⟨fun j hj => ?_, fun j hj => updN_other _ _ _ (hne j hj), fun j hj => updN_other _ _ _ (hne j hj), rfl, rfl⟩
  show updN M.N k v j = updN M'.N k v j
  unfold updN
  split
  · rfl
  · exact h j hj
theorem kids_step (h : AlikeR R M M') {p : ByteArray} (hp : R p.data.toList) (cv zx : Int) : StepR R M M' (kidsOf M p cv zx) (kidsOf M' p cv zx) := by
  unfold kidsOf
  rw [← h _ hp]
  cases M.N p.data.toList with
  | none => exact StepR.refl h
  | some nd => exact upd_step h hp _
theorem lay_step (h : AlikeR R M M') {p : ByteArray} (hp : R p.data.toList) (d : ByteArray) (l : List AR) (s : St) : StepR R M M' (layM M p d l s) (layM M' p d l s) := by
  unfold layM
  split
  · exact upd_step h hp _
  · exact StepR.refl h
theorem drop_step (h : AlikeR R M M') {p : ByteArray} (hp : R p.data.toList) (hu : ∀ k, underL k p = true → R k) : StepR R M M' (dropM M p) (dropM M' p) := by
  have hne : ∀ j, ¬ R j → ¬ (j = p.data.toList ∨ underL j p = true) := fun j hj e => hj (e.elim (fun e => e ▸ hp) (hu j))
  refine ⟨fun j hj => ?_, fun j hj => if_neg (hne j hj), fun j hj => if_neg (hne j hj), rfl, rfl⟩
  show (if _ then _ else _) = (if _ then _ else _)
  split
  · rfl
  · exact h j hj
theorem part_step (h : AlikeR R M M') {x : T1} (hx : InR R x) (zx : Int) : StepR R M M' (partM M x zx).1 (partM M' x zx).1 := by
  unfold partM
  split
  · unfold createM
    rw [← h.has hx.par]
    split
    · exact (kids_step h hx.par _ _).trans (lay_step (kids_step h hx.par _ _).inn hx.path _ _ _)
    · exact StepR.refl h
  split
  · unfold removeM
    split
    · exact (drop_step h hx.path hx.under).trans (kids_step (drop_step h hx.path hx.under).inn hx.par _ _)
    · exact StepR.refl h
  split
  · unfold setM
    rw [← h _ hx.path]
    cases M.N x.path.data.toList with
    | none => exact StepR.refl h
    | some nd => exact upd_step h hx.path _
  split
  · show StepR R M M' (aclM M x) (aclM M' x)
    unfold aclM
    rw [← h _ hx.path]
    cases M.N x.path.data.toList with
    | none => exact StepR.refl h
    | some nd => exact upd_step h hx.path _
  · exact StepR.refl h
/-- many applies, one behind the other -/
def runT : TM → List (T1 × Int) → TM
  | M, [] => M
  | M, e :: l => runT { (partM M e.1 e.2).1 with z := e.2 } l
theorem run_step (l : List (T1 × Int)) : ∀ {M M' : TM}, AlikeR R M M' → (∀ e ∈ l, InR R e.1) → StepR R M M' (runT M l) (runT M' l) := by
  induction l with
  | nil => intro M M' h _; exact StepR.refl h
  | cons e l ih =>
    intro M M' h hl
    have h1 := part_step h (hl e (by simp)) e.2
    have h2 : StepR R M M' { (partM M e.1 e.2).1 with z := e.2 } { (partM M' e.1 e.2).1 with z := e.2 } := ⟨h1.inn, h1.out, h1.out', h1.s, h1.s'⟩
    exact h2.trans (ih h2.inn (fun x hx => hl x (by simp [hx])))
/-- two lists in two places apart: either order comes to the same -/
theorem run_swap {R' : List UInt8 → Prop} (l l' : List (T1 × Int)) (M : TM) (hd : ∀ k, R k → ¬ R' k) (h : ∀ e ∈ l, InR R e.1) (h' : ∀ e ∈ l', InR R' e.1) :
    (runT (runT M l) l').N = (runT (runT M l') l).N ∧ (runT (runT M l) l').S = (runT (runT M l') l).S := by
  have a1 := run_step (R := R) (M := M) (M' := M) l (fun _ _ => rfl) h
  have b1 := run_step (R := R') (M := M) (M' := M) l' (fun _ _ => rfl) h'
  have hA : AlikeR R' (runT M l) M := fun k hk => a1.out k (fun hr => hd k hr hk)
  have hB : AlikeR R (runT M l') M := fun k hk => b1.out k (fun hr => hd k hk hr)
  have a2 := run_step l' hA h'
  have b2 := run_step l hB h
  constructor
  · funext k
    by_cases hr : R k
    · rw [a2.out k (hd k hr), ← b2.inn k hr]
    · by_cases hr' : R' k
      · rw [a2.inn k hr', b2.out k hr]
      · rw [a2.out k hr', a1.out k hr, b2.out k hr, b1.out k hr']
  · rw [a2.s, a1.s, b2.s, b1.s]
/-- the keys at or below "/a", "/b" (and such as begin so) -/
def atP (c : UInt8) (k : List UInt8) : Prop := k.take 2 = [47, c]
theorem atP_apart {c d : UInt8} (h : c ≠ d) : ∀ k, atP c k → ¬ atP d k := by
  intro k h1 h2
  have h3 := h1.symm.trans h2
  simp at h3
  exact h h3
theorem take_prefix {p k : List UInt8} (h : p <+: k) {c : UInt8} (hp : p.take 2 = [47, c]) : k.take 2 = [47, c] := by
  obtain ⟨t, rfl⟩ := h
  have hl : 2 ≤ p.length := by
    have := congrArg List.length hp
    simp at this; omega
  rw [List.take_append_of_le_length hl]; exact hp
theorem kid_prefix (p n : ByteArray) : p.data.toList <+: (kidS p n).data.toList := by
  unfold kidS
  split
  · rw [ByteArray.data_append, Array.toList_append]; exact List.prefix_append _ _
  · rw [ByteArray.data_append, ByteArray.data_append, Array.toList_append, Array.toList_append, List.append_assoc]; exact List.prefix_append _ _
theorem inR_of {x : T1} {c : UInt8} (h1 : atP c x.path.data.toList) (h2 : atP c (parS x.path).data.toList) : InR (atP c) x :=
  ⟨h1, h2, fun k hk => by
    unfold underL underS at hk
    rw [Bool.and_eq_true, Lib.hasPrefix, List.isPrefixOf_iff_prefix] at hk
    exact take_prefix ((kid_prefix x.path ⟨#[]⟩).trans hk.2) h1⟩
/-- the six names -/
def nameT (i : Nat) : List UInt8 := if i = 0 then [120] else if i = 1 then [121] else if i = 2 then [122] else if i = 3 then [120, 47, 120] else if i = 4 then [120, 47, 121] else [121, 47, 120]
def pathT (c : UInt8) (i : Nat) : ByteArray := ⟨([47, c, 47] ++ nameT i).toArray⟩
theorem pathT_at (c : UInt8) (i : Nat) : atP c (pathT c i).data.toList := rfl
theorem pathT_a : ∀ i, i < 6 → atP 97 (parS (pathT 97 i)).data.toList := by
  intro i hi
  have : i = 0 ∨ i = 1 ∨ i = 2 ∨ i = 3 ∨ i = 4 ∨ i = 5 := by omega
  rcases this with rfl | rfl | rfl | rfl | rfl | rfl <;> (unfold atP; decide)
theorem pathT_b : ∀ i, i < 6 → atP 98 (parS (pathT 98 i)).data.toList := by
  intro i hi
  have : i = 0 ∨ i = 1 ∨ i = 2 ∨ i = 3 ∨ i = 4 ∨ i = 5 := by omega
  rcases this with rfl | rfl | rfl | rfl | rfl | rfl <;> (unfold atP; decide)
end Go.Proofs.YtenbdoceaabecaaGreat

namespace Go.Proofs.YtenbdoceaabecaaGreat
open Go.ChangeShapes Go.WideShapes Go.ChangeAt Go.RowKit Go.Maps
set_option linter.unusedVariables false
set_option linter.unusedSimpArgs false
/-- entries without ACLs and parts, by nobody -/
def entL (e : T1 × Int) : List Value := [.int .i64 e.2, .int .i64 0, .int .i64 0, .int .i64 e.1.kind, .string e.1.path, .string e.1.data, .slice none 0 0, .int .i64 e.1.owner, .int .i64 e.1.number, .int .i64 0, .slice none 0 0]
def entC (l : List (T1 × Int)) : List Value := l.flatMap entL
def EntsAt (B : Nat) (w : World) (v : Value) (l : List (T1 × Int)) : Prop := w.ownsRow B 34 11 v l.length (entC l)
theorem ent_info : (Tryz.prog.info? 34).map (fun i => (i.zero, i.size, i.bytes)) = some (some (.agg #[.int .i64 0, .int .i64 0, .int .i64 0, .int .i64 0, .string ByteArray.empty, .string ByteArray.empty, .slice none 0 0, .int .i64 0, .int .i64 0, .int .i64 0, .slice none 0 0]), 11, 136) := by kernel_rfl
theorem entsAt_nil {w : World} (B : Nat) : EntsAt B w (.slice none 0 0) [] := World.ownsRow_nil _ _ _ _
theorem entL_one (e : T1 × Int) : ∀ u ∈ entL e, u.oneCell' = true := by
  intro u hu
  simp only [entL, List.mem_cons, List.not_mem_nil, or_false] at hu
  rcases hu with rfl | rfl | rfl | rfl | rfl | rfl | rfl | rfl | rfl | rfl | rfl <;> rfl
theorem wpList_ent1 {w : World} {ops : Array Oper} {rest : List Oper} {o : Oper} {a : Act} {Q : Exit → Act → World → Prop} (hgd : o.guard = none) (s x : Operand)
    (ho : o.op = .call { callee := .builtin .append, args := #[s, x], argTypes := #[44, 44] }) (B : Nat) (v : Value) (l : List (T1 × Int)) (hs : a.eval s = v) (hown : EntsAt B w v l)
    (e : T1 × Int) (hx : a.eval x = .slice (some ⟨w.heap.size, 0, none⟩) 1 1) (hb : l.length ≤ 1000000) (hB : B ≤ w.heap.size)
    (h : ∀ v' w', EntsAt B w' v' (l ++ [e]) → (w.alloc (.cells (entL e).toArray 34)).grownBy w' v.ownBlock → wpList Tryz.prog ops Q rest (a.put o.dst v') w') : wpList Tryz.prog ops Q (o :: rest) a (w.alloc (.cells (entL e).toArray 34)) := by
  obtain ⟨i0, hi, hz0, hz1, hz2⟩ := info_parts ent_info
  refine wpList_append_own _ hgd s x 44 ho B 34 i0 _ 11 136 Tryz.underlying44 hi hz0 hz1 hz2 rfl (by decide) v l.length (entC l) hs (ownKept hown ((Kept.refl (fun _ => False) w).alloc _) (fun _ _ f => f)) ⟨w.heap.size, 0, none⟩ 1 1 (entL e) hx rfl (fun j u hj => ?_) (entL_one e) (by unfold maxLen; omega) (by omega) (by simp; omega) ?_
  · rw [show (⟨w.heap.size, 0, none⟩ : Addr).add j = ⟨w.heap.size, j, none⟩ by cases j <;> simp [Addr.add]]
    rw [cell_of_row _ w.heap.size j _ _ (0, 0) (heap_alloc_new w _), ← Array.getElem?_toList]; exact hj
  · intro v' w' h1 h2 _
    refine h v' w' ?_ h2
    unfold EntsAt entC
    rw [List.length_append, List.flatMap_append, List.flatMap_singleton]; exact h1
/-- a word of the script: its first four cells of five -/
structure OpN where
  a : Int
  b : Int
  c : Int
  s : ByteArray
def OpN.cells (o : OpN) : List Value := [.int .i64 o.a, .int .i64 o.b, .int .i64 o.c, .string o.s]
structure OpN.Fits (o : OpN) : Prop where
  a : -9223372036854775808 ≤ o.a ∧ o.a ≤ 9223372036854775807
  b : -9223372036854775808 ≤ o.b ∧ o.b ≤ 9223372036854775807
  c : -9223372036854775808 ≤ o.c ∧ o.c ≤ 9223372036854775807
structure OpsN (w : World) (a : Option Addr) (l : List OpN) : Prop where
  fits : ∀ o ∈ l, o.Fits
  at_ : ∀ (i : Nat) (h : i < l.length), ∃ g off, a = some ⟨g, off, none⟩ ∧ g < w.heap.size ∧ ∀ j v, (l[i].cells)[j]? = some v → w.cell? ⟨g, off + i * 5 + j, none⟩ = some v
  len : l.length ≤ 140737488351232
theorem OpsN.kept0 {w w' : World} {a : Option Addr} {l : List OpN} (h : OpsN w a l) (hk : Kept (fun _ => False) w w') : OpsN w' a l := by
  refine ⟨h.fits, fun i hi => ?_, h.len⟩
  obtain ⟨g, off, ha, hg, hc⟩ := h.at_ i hi
  exact ⟨g, off, ha, Nat.lt_of_lt_of_le hg hk.size, fun j v hj => by rw [World.cell?_of_block (w := w) (hk.block g hg (fun f => f))]; exact hc j v hj⟩
/-- the entry that the i-th word makes, below "/c" -/
def undE (c : UInt8) (i : Nat) (o : OpN) : T1 × Int := (⟨1 + (absN o.a % 4 : Nat), pathT c (absN o.b % 6), o.s, [], 0, (absN o.c % 9 : Nat)⟩, 10 + (i : Int))
def undL (c : UInt8) (l : List OpN) : List (T1 × Int) := ((l.take 60).zipIdx).map fun e => undE c e.2 e.1
theorem undL_len (c : UInt8) (l : List OpN) : (undL c l).length = min 60 l.length := by simp [undL]
theorem undL_in (l : List OpN) : (∀ e ∈ undL 97 l, InR (atP 97) e.1) ∧ (∀ e ∈ undL 98 l, InR (atP 98) e.1) := by
  constructor <;> (
    intro e he
    obtain ⟨p, _, rfl⟩ := List.mem_map.1 he)
  · exact inR_of (pathT_at _ _) (pathT_a _ (Nat.mod_lt _ (by decide)))
  · exact inR_of (pathT_at _ _) (pathT_b _ (Nat.mod_lt _ (by decide)))
theorem undL_kind (c : UInt8) (l : List OpN) : ∀ e ∈ undL c l, e.1.acl = [] ∧ e.1.kind ≠ 5 ∧ e.1.kind ≠ 6 ∧ e.1.kind ≠ 7 ∧ e.1.kind ≠ 8 ∧ e.1.path.size ≤ 100 := by
  intro e he
  obtain ⟨p, _, rfl⟩ := List.mem_map.1 he
  have h4 : absN p.1.a % 4 < 4 := Nat.mod_lt _ (by decide)
  refine ⟨rfl, ?_, ?_, ?_, ?_, ?_⟩
  · show (1 : Int) + (absN p.1.a % 4 : Nat) ≠ 5; omega
  · show (1 : Int) + (absN p.1.a % 4 : Nat) ≠ 6; omega
  · show (1 : Int) + (absN p.1.a % 4 : Nat) ≠ 7; omega
  · show (1 : Int) + (absN p.1.a % 4 : Nat) ≠ 8; omega
  · show (pathT c (absN p.1.b % 6)).data.size ≤ 100
    unfold pathT nameT
    simp only [List.size_toArray, List.length_append]
    repeat' split
    all_goals simp
end Go.Proofs.YtenbdoceaabecaaGreat
