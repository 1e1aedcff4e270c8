/- The law's lists of entries, and its script, in memory. -/
import Derived.Test.YtccoeccibokecaaNaa
import Derived.Test.YtccoeccibokecaaNab
namespace Go.Proofs.Ytccoeccibokecaa
open Go.ChangeShapes Go.WideShapes Go.ChangeAt Go.RowKit Go.Maps
set_option linter.unusedVariables false
set_option linter.unusedSimpArgs false
/-- entries without ACLs and parts, by nobody -/
def entL (e : T1 × Int) : List Value := [.int .i64 e.2, .int .i64 0, .int .i64 0, .int .i64 e.1.kind, .string e.1.path, .string e.1.data, .slice none 0 0, .int .i64 e.1.owner, .int .i64 e.1.number, .int .i64 0, .slice none 0 0]
def entC (l : List (T1 × Int)) : List Value := l.flatMap entL
def EntsAt (B : Nat) (w : World) (v : Value) (l : List (T1 × Int)) : Prop := w.ownsRow B 40 11 v l.length (entC l)
theorem ent_info : (Try.prog.info? 40).map (fun i => (i.zero, i.size, i.bytes)) = some (some (.agg #[.int .i64 0, .int .i64 0, .int .i64 0, .int .i64 0, .string ByteArray.empty, .string ByteArray.empty, .slice none 0 0, .int .i64 0, .int .i64 0, .int .i64 0, .slice none 0 0]), 11, 136) := by kernel_rfl
theorem entsAt_nil {w : World} (B : Nat) : EntsAt B w (.slice none 0 0) [] := World.ownsRow_nil _ _ _ _
theorem entL_one (e : T1 × Int) : ∀ u ∈ entL e, u.oneCell' = true := by
  intro u hu
  simp only [entL, List.mem_cons, List.not_mem_nil, or_false] at hu
  rcases hu with rfl | rfl | rfl | rfl | rfl | rfl | rfl | rfl | rfl | rfl | rfl <;> rfl
theorem wpList_ent1 {w : World} {ops : Array Oper} {rest : List Oper} {o : Oper} {a : Act} {Q : Exit → Act → World → Prop} (hgd : o.guard = none) (s x : Operand)
    (ho : o.op = .call { callee := .builtin .append, args := #[s, x], argTypes := #[24, 24] }) (B : Nat) (v : Value) (l : List (T1 × Int)) (hs : a.eval s = v) (hown : EntsAt B w v l)
    (e : T1 × Int) (hx : a.eval x = .slice (some ⟨w.heap.size, 0, none⟩) 1 1) (hb : l.length ≤ 1000000) (hB : B ≤ w.heap.size)
    (h : ∀ v' w', EntsAt B w' v' (l ++ [e]) → (w.alloc (.cells (entL e).toArray 40)).grownBy w' v.ownBlock → wpList Try.prog ops Q rest (a.put o.dst v') w') : wpList Try.prog ops Q (o :: rest) a (w.alloc (.cells (entL e).toArray 40)) := by
  obtain ⟨i0, hi, hz0, hz1, hz2⟩ := info_parts ent_info
  refine wpList_append_own _ hgd s x 24 ho B 40 i0 _ 11 136 Try.underlying24 hi hz0 hz1 hz2 rfl (by decide) v l.length (entC l) hs (ownKept hown ((Kept.refl (fun _ => False) w).alloc _) (fun _ _ f => f)) ⟨w.heap.size, 0, none⟩ 1 1 (entL e) hx rfl (fun j u hj => ?_) (entL_one e) (by unfold maxLen; omega) (by omega) (by simp; omega) ?_
  · rw [show (⟨w.heap.size, 0, none⟩ : Addr).add j = ⟨w.heap.size, j, none⟩ by cases j <;> simp [Addr.add]]
    rw [cell_of_row _ w.heap.size j _ _ (0, 0) (heap_alloc_new w _), ← Array.getElem?_toList]; exact hj
  · intro v' w' h1 h2 _
    refine h v' w' ?_ h2
    unfold EntsAt entC
    rw [List.length_append, List.flatMap_append, List.flatMap_singleton]; exact h1
/-- a word of the script: its first four cells of five -/
structure OpN where
  a : Int
  b : Int
  c : Int
  s : ByteArray
def OpN.cells (o : OpN) : List Value := [.int .i64 o.a, .int .i64 o.b, .int .i64 o.c, .string o.s]
structure OpN.Fits (o : OpN) : Prop where
  a : -9223372036854775808 ≤ o.a ∧ o.a ≤ 9223372036854775807
  b : -9223372036854775808 ≤ o.b ∧ o.b ≤ 9223372036854775807
  c : -9223372036854775808 ≤ o.c ∧ o.c ≤ 9223372036854775807
structure OpsN (w : World) (a : Option Addr) (l : List OpN) : Prop where
  fits : ∀ o ∈ l, o.Fits
  at_ : ∀ (i : Nat) (h : i < l.length), ∃ g off, a = some ⟨g, off, none⟩ ∧ g < w.heap.size ∧ ∀ j v, (l[i].cells)[j]? = some v → w.cell? ⟨g, off + i * 5 + j, none⟩ = some v
  len : l.length ≤ 140737488351232
theorem OpsN.kept0 {w w' : World} {a : Option Addr} {l : List OpN} (h : OpsN w a l) (hk : Kept (fun _ => False) w w') : OpsN w' a l := by
  refine ⟨h.fits, fun i hi => ?_, h.len⟩
  obtain ⟨g, off, ha, hg, hc⟩ := h.at_ i hi
  exact ⟨g, off, ha, Nat.lt_of_lt_of_le hg hk.size, fun j v hj => by rw [World.cell?_of_block (w := w) (hk.block g hg (fun f => f))]; exact hc j v hj⟩
/-- the entry that the i-th word makes, below "/c" -/
def undE (c : UInt8) (i : Nat) (o : OpN) : T1 × Int := (⟨1 + (absN o.a % 4 : Nat), pathT c (absN o.b % 6), o.s, [], 0, (absN o.c % 9 : Nat)⟩, 10 + (i : Int))
def undL (c : UInt8) (l : List OpN) : List (T1 × Int) := ((l.take 60).zipIdx).map fun e => undE c e.2 e.1
theorem undL_len (c : UInt8) (l : List OpN) : (undL c l).length = min 60 l.length := by simp [undL]
theorem undL_in (l : List OpN) : (∀ e ∈ undL 97 l, InR (atP 97) e.1) ∧ (∀ e ∈ undL 98 l, InR (atP 98) e.1) := by
  constructor <;> (
    intro e he
    obtain ⟨p, _, rfl⟩ := List.mem_map.1 he)
  · exact inR_of (pathT_at _ _) (pathT_a _ (Nat.mod_lt _ (by decide)))
  · exact inR_of (pathT_at _ _) (pathT_b _ (Nat.mod_lt _ (by decide)))
theorem undL_kind (c : UInt8) (l : List OpN) : ∀ e ∈ undL c l, e.1.acl = [] ∧ e.1.kind ≠ 5 ∧ e.1.kind ≠ 6 ∧ e.1.kind ≠ 7 ∧ e.1.kind ≠ 8 ∧ e.1.path.size ≤ 100 := by
  intro e he
  obtain ⟨p, _, rfl⟩ := List.mem_map.1 he
  have h4 : absN p.1.a % 4 < 4 := Nat.mod_lt _ (by decide)
  refine ⟨rfl, ?_, ?_, ?_, ?_, ?_⟩
  · show (1 : Int) + (absN p.1.a % 4 : Nat) ≠ 5; omega
  · show (1 : Int) + (absN p.1.a % 4 : Nat) ≠ 6; omega
  · show (1 : Int) + (absN p.1.a % 4 : Nat) ≠ 7; omega
  · show (1 : Int) + (absN p.1.a % 4 : Nat) ≠ 8; omega
  · show (pathT c (absN p.1.b % 6)).data.size ≤ 100
    unfold pathT nameT
    simp only [List.size_toArray, List.length_append]
    repeat' split
    all_goals simp
end Go.Proofs.Ytccoeccibokecaa
