/- The document's own answers of layer 2: a list inside a thing, taken up element by element. -/
import Derived.Test.YtngcfnffbggniaaRbox
import Derived.Test.YtngcfnffbggniaaApp
namespace Go.Proofs.Ytngcfnffbggniaa
open Go.ChangeShapes Go.WideShapes Go.ChangeAt Go.RowKit
set_option linter.unusedVariables false

/-- the reader's block and the thing's -/
def BG (b g : Nat) : Nat → Prop := fun j => j = b ∨ j = g
/-- at the head of a loop that takes up n elements into the thing in block g, its list at cell idx -/
structure SubRel {α : Type} (E : CellsOf α) (f : Fmt α) (b : Nat) (s : ByteArray) (T : TypeId) (g : Nat) (cs : List Value) (idx : Nat) (wl : World) (Te : TypeId) (sz n p e : Nat) (iv : Value) (wr : World) : Prop where
  ex : ∃ k p' acc, iv = .int .i64 (k : Nat) ∧ k ≤ n ∧ AccR (WkE (getN f.get k s.data.toList p e).2.2 E) wl wr Te sz acc (getN f.get k s.data.toList p e).1 ∧
    FAt wr b s p' (getN f.get k s.data.toList p e).2.2 ∧ ((getN f.get k s.data.toList p e).2.2 = 0 → p' = (getN f.get k s.data.toList p e).2.1) ∧
    wr.heap[g]? = some (.cells (cs.set idx acc).toArray T (0, 0)) ∧ Kept (BG b g) wl wr

/-- where the loop ends -/
structure SubEnd {α : Type} (E : CellsOf α) (b : Nat) (s : ByteArray) (T : TypeId) (g : Nat) (cs : List Value) (idx : Nat) (wl : World) (sz : Nat) (xs : List α) (q e' : Nat) (p' : Nat) (acc : Value) (wr : World) : Prop where
  rd : FAt wr b s p' e'
  pos : e' = 0 → p' = q
  shape : IsSl acc
  list : e' = 0 → ListR E wr (New wl) sz acc xs
  box : wr.heap[g]? = some (.cells (cs.set idx acc).toArray T (0, 0))
  kept : Kept (BG b g) wl wr

section
variable {α : Type} {E : CellsOf α} {f : Fmt α} {b : Nat} {s : ByteArray} {T : TypeId} {g : Nat} {cs : List Value} {idx : Nat} {wl : World} {Te : TypeId} {sz n p e : Nat}
theorem SubRel.start {p0 : Nat} (hF : FAt wl b s p0 e) (hp : e = 0 → p0 = p) (hbox : wl.heap[g]? = some (.cells cs.toArray T (0, 0))) (hnil : cs[idx]? = some (.slice none 0 0)) : SubRel E f b s T g cs idx wl Te sz n p e (.int .i64 0) wl := by
  refine ⟨0, p0, .slice none 0 0, rfl, Nat.zero_le _, AccR.nil _ _ _ _ _, hF, hp, ?_, Kept.refl _ _⟩
  obtain ⟨hi, hv⟩ := List.getElem?_eq_some_iff.1 hnil
  have : cs.set idx (.slice none 0 0) = cs := by rw [← hv]; exact List.set_getElem_self hi
  rw [this]; exact hbox

theorem SubRel.out (hE : E.Ok) (hf : f.Ok) {k p' : Nat} {acc : Value} {wr : World} {xs : List α} {q e' : Nat} (hgo : ¬ (k < n ∧ (getN f.get k s.data.toList p e).2.2 = 0)) (hk : k ≤ n) (h : getN f.get n s.data.toList p e = (xs, q, e'))
    (hacc : AccR (WkE (getN f.get k s.data.toList p e).2.2 E) wl wr Te sz acc (getN f.get k s.data.toList p e).1) (hF : FAt wr b s p' (getN f.get k s.data.toList p e).2.2)
    (hp : (getN f.get k s.data.toList p e).2.2 = 0 → p' = (getN f.get k s.data.toList p e).2.1) (hbox : wr.heap[g]? = some (.cells (cs.set idx acc).toArray T (0, 0))) (hK : Kept (BG b g) wl wr) :
    SubEnd E b s T g cs idx wl sz xs q e' p' acc wr ∧ (getN f.get k s.data.toList p e).2.2 = e' := by
  by_cases hz : (getN f.get k s.data.toList p e).2.2 = 0
  · obtain rfl : k = n := by omega
    rw [h] at hacc hF hp hz
    simp only at hacc hF hp hz
    refine ⟨⟨hF, hp, hacc.isSl, (hacc.list (WkE_ok hE)).weak, hbox, hK⟩, by rw [h]⟩
  · have h2 := getN_wrong hf hk hz
    rw [h] at h2
    simp only at h2
    rw [← h2] at hF hz
    exact ⟨⟨hF, fun h0 => absurd h0 hz, hacc.isSl, fun h0 => absurd h0 hz, hbox, hK⟩, h2.symm⟩

theorem SubRel.step (hE : E.Ok) {k pb : Nat} {v' acc : Value} {w' : World} {ys : List α} {y : α} {qb eb : Nat} (hb : b < wl.heap.size) (hg : g < wl.heap.size) (hbg : b ≠ g) (hk : k < n) (hsn : getN f.get (k + 1) s.data.toList p e = (ys ++ [y], qb, eb))
    (hacc : AccR (WkE eb E) wl w' Te sz v' (ys ++ [y])) (hF : FAt w' b s pb eb) (hp : eb = 0 → pb = qb) (hbox : w'.heap[g]? = some (.cells (cs.set idx acc).toArray T (0, 0))) (hK : Kept (BG b g) wl w') :
    SubRel E f b s T g cs idx wl Te sz n p e (.int .i64 ((k : Int) + 1)) (w'.setRow g (cs.set idx v').toArray) := by
  have hs := setRow_kept w' g (cs.set idx v').toArray
  refine ⟨k + 1, pb, v', by go_num, hk, ?_, ?_, ?_, ?_, ?_⟩
  · rw [hsn]; exact hacc.keep (WkE_ok hE) hs (fun j hj hj' => by have h1 : wl.heap.size ≤ j := hj; have h2 : j = g := hj'; omega)
  · rw [hsn]; exact hF.keep hs hbg
  · rw [hsn]; exact hp
  · rw [setRow_heap _ _ _ _ _ _ hbox]
  · exact Kept.trans' hK hs (fun j _ hj => Or.inr hj)

/-- what a step's callee leaves: the accumulated list, the element, the reader and the box -/
theorem sub_call (hE : E.Ok) {wr w1 : World} {acc : Value} {ys : List α} {e' : Nat} (hb : b < wl.heap.size) (hbg : b ≠ g) (hacc : AccR (WkE 0 E) wl wr Te sz acc ys) (hk : Kept (RS b) wr w1) : AccR (WkE e' E) wl w1 Te sz acc ys :=
  (hacc.keep (WkE_ok hE) hk (fun j hj hj' => by have h1 : wl.heap.size ≤ j := hj; have h2 : j = b := hj'; omega)).weak (fun _ => rfl)
theorem sub_elem (hE : E.Ok) {wr w1 : World} {acc : Value} {ys : List α} {y : α} {c : List Value} {e' e0 : Nat} (hacc : AccR (WkE e0 E) wl wr Te sz acc ys) (hwl : wl.heap.size ≤ wr.heap.size) (h : WkE e' E w1 (New wr) c y) : WkE e' E w1 (fun j => wl.heap.size ≤ j ∧ some j ≠ acc.ownBlock) c y := by
  have hown := hacc.own
  exact (WkE_ok hE).mono h (fun j _ hj => ⟨Nat.le_trans hwl hj, fun e => by have := (hown j e.symm).2; have hj' : wr.heap.size ≤ j := hj; omega⟩)
end

/-- one row more onto a list that the call made -/
theorem run_push_at {P : Program} {α : Type} {E : CellsOf α} (hE : E.Ok) {w0 W : World} {T : TypeId} {sz bytes : Nat} {acc : Value} {ys : List α} (hacc : AccR E w0 W T sz acc ys) {B c : Nat} {cs : List Value} {y : α}
    (hB : W.heap[B]? = some (.cells cs.toArray T (0, 0))) (hEy : E W (fun g => w0.heap.size ≤ g ∧ some g ≠ acc.ownBlock) cs y) (hfl : Flat sz cs)
    (t ty : TypeId) (i : TypeInfo) (z : Value) (ht : P.underlying t = some (.slice T)) (hi : P.info? T = some i) (hz : i.zero = some z) (hsize : i.size = sz) (hby : i.bytes = bytes) (hzs : z.cells.size = sz) (hsz : 0 < sz)
    (hsm : ys.length ≤ 1000) (hbs : bytes ≤ 1000) (hw : w0.heap.size ≤ W.heap.size) :
    ∃ v' w', (Builtin.append_ #[t, t] ty #[acc, .slice (some ⟨B, 0, none⟩) 1 c]).run P W = .ok v' w' ∧ AccR E w0 w' T sz v' (ys ++ [y]) ∧ Kept (fun k => some k = acc.ownBlock) W w' := by
  have hown := hacc.own
  obtain ⟨rows, h1, h2, h3, h4⟩ := hacc
  have hbytes : (ys.length + 1) * bytes ≤ 140737488355328 := by
    have : (ys.length + 1) * bytes ≤ 1001 * 1000 := Nat.mul_le_mul (by omega) hbs
    omega
  obtain ⟨v', w', hr, o1, o2, o3⟩ := run_append_apart (P := P) W w0.heap.size t ty T i z sz bytes ht hi hz hsize hby hzs hsz acc ys.length rows.flatten h1 ⟨B, 0, none⟩ 1 c cs (by rw [hfl.1, Nat.one_mul])
    (fun j u hu => by rw [Addr.add_mid]; exact range_row hB j u hu) hfl.2 (by unfold maxLen; omega) hbytes hw
  have hk : Kept (fun k => some k = acc.ownBlock) W w' := Kept.of_grownBy o2
  have hmv : ∀ k, k < W.heap.size → w0.heap.size ≤ k ∧ some k ≠ acc.ownBlock → w0.heap.size ≤ k ∧ some k ≠ v'.ownBlock := by
    intro k hk1 hk2
    refine ⟨hk2.1, fun e => ?_⟩
    rcases o3 with o3 | o3
    · exact hk2.2 (e.trans o3)
    · have := o3 k e.symm
      omega
  refine ⟨v', w', hr, ⟨rows ++ [cs], by simpa using o1, by simp [h2], fun r hr => ?_, fun i hi' hi2 => ?_⟩, hk⟩
  · rcases List.mem_append.1 hr with hr | hr
    · exact h3 r hr
    · rw [List.mem_singleton.1 hr]; exact hfl
  · have hst : ∀ (c : List Value) (u : α), E W (fun g => w0.heap.size ≤ g ∧ some g ≠ acc.ownBlock) c u → E w' (fun g => w0.heap.size ≤ g ∧ some g ≠ v'.ownBlock) c u := fun c u hc =>
      hE.keep (hE.mono (hE.mono hc (ok' := fun g => (w0.heap.size ≤ g ∧ some g ≠ v'.ownBlock) ∧ some g ≠ acc.ownBlock) (fun k a b => ⟨hmv k a b, b.2⟩)) (fun _ _ b => b)) hk (fun k a b => a.2 b) |> fun q => hE.mono q (fun _ _ b => b.1)
    by_cases hlt : i < ys.length
    · have := hst _ _ (h4 i hlt (by omega))
      rw [List.getElem_append_left (by omega), List.getElem_append_left hlt]
      exact this
    · have hi3 : i = ys.length := by simp at hi'; omega
      subst hi3
      have := hst _ _ hEy
      rw [List.getElem_append_right (by omega), List.getElem_append_right (by omega)]
      simp only [h2, Nat.sub_self, List.getElem_cons_zero]
      exact this

theorem o_keptS {S : Nat → Prop} {w w' : World} (h : Old w w') : Kept S w w' := Kept.mono h (fun _ _ f => f.elim)
/-- the block is as it was -/
structure AsAt (g : Nat) (w w' : World) : Prop where
  eq : w'.heap[g]? = w.heap[g]?
  lt : g < w.heap.size
  le : w.heap.size ≤ w'.heap.size
theorem AsAt.refl {g : Nat} {w : World} (h : g < w.heap.size) : AsAt g w w := ⟨rfl, h, Nat.le_refl _⟩
theorem AsAt.drew {g : Nat} {w w' : World} (h : AsAt g w w') : AsAt g w w'.drew := ⟨h.eq, h.lt, h.le⟩
theorem AsAt.make {g : Nat} {w w' : World} (h : AsAt g w w') (o : Obj) : AsAt g w (w'.alloc o) := ⟨by rw [((Old.refl w').make o).block _ (Nat.lt_of_lt_of_le h.lt h.le) id]; exact h.eq, h.lt, Nat.le_trans h.le (by simp)⟩
theorem AsAt.kept {g : Nat} {w w' w2 : World} {S : Nat → Prop} (h : AsAt g w w') (hk : Kept S w' w2) (hs : ¬ S g) : AsAt g w w2 := ⟨by rw [hk.block _ (Nat.lt_of_lt_of_le h.lt h.le) hs]; exact h.eq, h.lt, Nat.le_trans h.le hk.size⟩
theorem AsAt.set {g : Nat} {w w' : World} (h : AsAt g w w') (b i : Nat) (v : Value) (hb : g ≠ b) : AsAt g w (w'.setCell ⟨b, i, none⟩ v) :=
  h.kept (Kept.setCell (S := fun j => j = b) (Kept.refl _ w') (a := ⟨b, i, none⟩) (Or.inl rfl) v) hb
theorem AsAt.cell {g : Nat} {w w' : World} (h : AsAt g w w') {cs : List Value} {T : TypeId} (hb : w.heap[g]? = some (.cells cs.toArray T (0, 0))) (i : Nat) (v : Value) (hv : cs[i]? = some v) : w'.cell? ⟨g, i, none⟩ = some v := cell_of_heap (h.eq.trans hb) hv
end Go.Proofs.Ytngcfnffbggniaa
