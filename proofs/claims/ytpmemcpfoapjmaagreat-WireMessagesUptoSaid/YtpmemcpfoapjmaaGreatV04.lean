/- The reader through several calls; the smallest things. Rows of an ACL, numbers, texts, taken up. -/
import Derived.Test.YtpmemcpfoapjmaaGreatV03
import Derived.Test.YtpmemcpfoapjmaaGreatV02
import Derived.Great.BuildSlice
namespace Go.Proofs.YtpmemcpfoapjmaaGreat
open Go.ChangeShapes Go.WideShapes Go.ChangeAt Go.RowKit
set_option linter.unusedVariables false

/-- blocks that the world w does not have -/
def New (w : World) : Nat → Prop := fun k => w.heap.size ≤ k

theorem numF_i64 {l : List UInt8} {p e : Nat} : I64 (numF.get l p e).1 := ⟨unzz_lo (rSev_fit l p e), unzz_hi (rSev_fit l p e)⟩
theorem textF_str {most : Nat} (hm : most ≤ 140737488355328) {l : List UInt8} {p e : Nat} : Str ((textF most).get l p e).1 := by
  have h : (rText l most p e).1.length ≤ most := by
    have := rCount_le l most p e
    unfold rText
    split
    · simp
    · split
      · simp only [List.length_take]; omega
      · simp
  unfold Str
  simp only [textF, mk_size]
  omega

/-- what a reader's call answers: x, and where the reader stands then -/
theorem gnum_any (w : World) (b : Nat) (v : Value) (l : List UInt8) (p e : Nat) (hR : RAt w b v l p e) {x : Int} {q e' : Nat} (h : numF.get l p e = (x, q, e')) :
    Calls Tryz.prog 90 #[.pointer (some ⟨b, 0, none⟩)] w (RPost w b v l (.int .i64 x) q e') := by
  have := rnum_any w b v l p e hR
  simp only [numF, Prod.mk.injEq] at h
  obtain ⟨rfl, rfl, rfl⟩ := h
  exact this
theorem gflag_any (w : World) (b : Nat) (v : Value) (l : List UInt8) (p e : Nat) (hR : RAt w b v l p e) {x : Bool} {q e' : Nat} (h : flagF.get l p e = (x, q, e')) :
    Calls Tryz.prog 140 #[.pointer (some ⟨b, 0, none⟩)] w (RPost w b v l (.bool x) q e') := by
  have := rflag_any w b v l p e hR
  have h' : rFlag l p e = (x, q, e') := h
  rw [h'] at this
  exact this
theorem gtext_any (most : Nat) (w : World) (b : Nat) (v : Value) (l : List UInt8) (p e : Nat) (hR : RAt w b v l p e) (hm : most ≤ 9223372036854775807) {x : ByteArray} {q e' : Nat} (h : (textF most).get l p e = (x, q, e')) :
    Calls Tryz.prog 110 #[.pointer (some ⟨b, 0, none⟩), .int .i64 most] w (RPost w b v l (.string x) q e') := by
  have := rtext_any most w b v l p e hR (by omega) (by omega)
  simp only [textF, Prod.mk.injEq] at h
  obtain ⟨rfl, rfl, rfl⟩ := h
  exact this

/-- since w0 the reader alone has turned -/
structure RSt (w0 : World) (b : Nat) (v : Value) (l : List UInt8) (w : World) (p e : Nat) : Prop where
  at_ : RAt w b v l p e
  kept : Kept (RS b) w0 w
theorem RSt.start {w : World} {b : Nat} {v : Value} {l : List UInt8} {p e : Nat} (h : RAt w b v l p e) : RSt w b v l w p e := ⟨h, Kept.refl _ _⟩
theorem RAt.alloc {w : World} {b : Nat} {v : Value} {l : List UInt8} {p e : Nat} (h : RAt w b v l p e) (o : Obj) : RAt (w.alloc o) b v l p e :=
  h.keep ((Kept.refl (fun _ => False) w).alloc o) (disj_none _)
theorem RSt.step {w0 w w' : World} {b : Nat} {v : Value} {l : List UInt8} {p e q e' : Nat} {r : Value} {en : Ending} (h : RSt w0 b v l w p e) (hp : RPost w b v l r q e' en w') : en = .returned r ∧ RSt w0 b v l w' q e' :=
  ⟨hp.1, hp.2.1, h.kept.trans hp.2.2⟩
theorem RSt.alloc {w0 w : World} {b : Nat} {v : Value} {l : List UInt8} {p e : Nat} (h : RSt w0 b v l w p e) (o : Obj) : RSt w0 b v l (w.alloc o) p e := ⟨h.at_.alloc o, h.kept.alloc o⟩
theorem RSt.blk {w0 w : World} {b g : Nat} {v : Value} {l : List UInt8} {p e : Nat} {o : Obj} (h : RSt w0 b v l w p e) (hb : w0.heap[g]? = some o) (hn : ¬ RS b g) : w.heap[g]? = some o := by
  rw [h.kept.block g (lt_of_block hb) hn]; exact hb
theorem RAt.lt {w : World} {b : Nat} {v : Value} {l : List UInt8} {p e : Nat} (h : RAt w b v l p e) : b < w.heap.size := h.inn b (Or.inl rfl)
theorem rbox_new {w : World} {b : Nat} {v : Value} {l : List UInt8} {p e : Nat} (h : RAt w b v l p e) : ¬ RS b w.heap.size := fun hs => by have := h.lt; have hs' : w.heap.size = b := hs; omega
theorem new_rs {w : World} {b : Nat} {v : Value} {l : List UInt8} {p e : Nat} (h : RAt w b v l p e) : Disj (New w) (RS b) := fun k hk hs => by have := h.lt; have hs' : k = b := hs; unfold New at hk; omega
theorem New.mono {w w' : World} (h : w.heap.size ≤ w'.heap.size) {k : Nat} (hk : New w' k) : New w k := Nat.le_trans h hk

theorem getErr_any (w : World) (b : Nat) (v : Value) (l : List UInt8) (p e : Nat) (hR : RAt w b v l p e) {x : Int} {q e' : Nat} (h : numF.get l p e = (x, q, e')) :
    Calls Tryz.prog 141 #[.pointer (some ⟨b, 0, none⟩)] w (RPost w b v l (.int .i64 x) q e') := by
  have H := Lib.hid h; clear h
  go_enter Tryz.func141, Tryz.ntmps141
  go_wp2_with fail
  refine (gnum_any _ b v l p e hR H.out).mono ?_
  rintro en w1 ⟨rfl, hR1, hk1⟩
  go_wp2_with fail
  go_ret
  exact ⟨rfl, hR1, hk1⟩
theorem getNum_any (w : World) (b : Nat) (v : Value) (l : List UInt8) (p e : Nat) (hR : RAt w b v l p e) {x : Int} {q e' : Nat} (h : numF.get l p e = (x, q, e')) :
    Calls Tryz.prog 109 #[.pointer (some ⟨b, 0, none⟩)] w (RPost w b v l (.int .i64 x) q e') := by
  have H := Lib.hid h; clear h
  go_enter Tryz.func109, Tryz.ntmps109
  go_wp2_with fail
  refine (gnum_any _ b v l p e hR H.out).mono ?_
  rintro en w1 ⟨rfl, hR1, hk1⟩
  go_wp2_with fail
  go_ret
  exact ⟨rfl, hR1, hk1⟩
theorem getText_any (w : World) (b : Nat) (v : Value) (l : List UInt8) (p e : Nat) (hR : RAt w b v l p e) {x : ByteArray} {q e' : Nat} (h : (textF 4096).get l p e = (x, q, e')) :
    Calls Tryz.prog 91 #[.pointer (some ⟨b, 0, none⟩)] w (RPost w b v l (.string x) q e') := by
  have H := Lib.hid h; clear h
  go_enter Tryz.func91, Tryz.ntmps91
  go_wp2_with fail
  refine (gtext_any 4096 _ b v l p e hR (by omega) H.out).mono ?_
  rintro en w1 ⟨rfl, hR1, hk1⟩
  go_wp2_with fail
  go_ret
  exact ⟨rfl, hR1, hk1⟩

/-- what a call answers that takes a thing up: its cells, in memory that is new -/
def GPost {α : Type} (E : CellsOf α) (w : World) (b : Nat) (v : Value) (l : List UInt8) (x : α) (q e' : Nat) (en : Ending) (w' : World) : Prop :=
  ∃ cs, en = .returned (.agg cs.toArray) ∧ E w' (New w) cs x ∧ RAt w' b v l q e' ∧ Kept (RS b) w w'

theorem flatten_get {α : Type} {sz : Nat} : ∀ (rows : List (List α)) (i j : Nat) (hi : i < rows.length), (∀ r ∈ rows, r.length = sz) → (hj : j < rows[i].length) → rows.flatten[i * sz + j]? = some rows[i][j] := by
  intro rows
  induction rows with
  | nil => intro i j hi; simp at hi
  | cons r rows ih =>
    intro i j hi hr hj
    have hrl : r.length = sz := hr r (by simp)
    rw [List.flatten_cons]
    cases i with
    | zero =>
      simp only [List.getElem_cons_zero] at hj ⊢
      rw [Nat.zero_mul, Nat.zero_add, List.getElem?_append_left hj, List.getElem?_eq_getElem hj]
    | succ i =>
      simp only [List.getElem_cons_succ] at hj ⊢
      have := ih i j (by simpa using hi) (fun r h => hr r (by simp [h])) hj
      rw [List.getElem?_append_right (by rw [hrl, Nat.add_mul]; omega), ← this, hrl]
      congr 1
      rw [Nat.add_mul]
      omega
theorem flatten_len {α : Type} {sz : Nat} : ∀ (rows : List (List α)), (∀ r ∈ rows, r.length = sz) → rows.flatten.length = rows.length * sz := by
  intro rows
  induction rows with
  | nil => intro _; simp
  | cons r rows ih =>
    intro hr
    rw [List.flatten_cons, List.length_append, ih (fun r h => hr r (by simp [h])), hr r (by simp), List.length_cons, Nat.add_mul]
    omega

/-- acc owns a row of the elements ys, in memory that w0 does not have; what they point to lies elsewhere -/
def AccR {α : Type} (E : CellsOf α) (w0 w : World) (T : TypeId) (sz : Nat) (acc : Value) (ys : List α) : Prop :=
  ∃ rows : List (List Value), w.ownsRow w0.heap.size T sz acc ys.length rows.flatten ∧ rows.length = ys.length ∧ (∀ r ∈ rows, Flat sz r) ∧
    ∀ i (h : i < ys.length) (h' : i < rows.length), E w (fun g => w0.heap.size ≤ g ∧ some g ≠ acc.ownBlock) rows[i] ys[i]

theorem AccR.nil {α : Type} (E : CellsOf α) (w0 w : World) (T : TypeId) (sz : Nat) : AccR E w0 w T sz (.slice none 0 0) [] :=
  ⟨[], by simpa using World.ownsRow_nil w w0.heap.size T sz, rfl, by simp, fun i h => absurd h (by simp)⟩

theorem ownsRow_kept {w w' : World} {S : Nat → Prop} {base : Nat} {T : TypeId} {sz n : Nat} {v : Value} {xs : List Value} (h : w.ownsRow base T sz v n xs) (hk : Kept S w w') (hn : ∀ k, base ≤ k → ¬ S k) : w'.ownsRow base T sz v n xs := by
  refine ⟨h.1, ?_⟩
  rcases h.2 with h2 | ⟨g, cap, cur, rfl, hb, hh, r⟩
  · exact Or.inl h2
  · exact Or.inr ⟨g, cap, cur, rfl, hb, by rw [hk.block g (lt_of_block hh) (hn g hb)]; exact hh, r⟩

theorem AccR.keep {α : Type} {E : CellsOf α} (hE : E.Ok) {w0 w w' : World} {S : Nat → Prop} {T : TypeId} {sz : Nat} {acc : Value} {ys : List α} (h : AccR E w0 w T sz acc ys) (hk : Kept S w w') (hd : Disj (New w0) S) : AccR E w0 w' T sz acc ys := by
  obtain ⟨rows, h1, h2, h3, h4⟩ := h
  exact ⟨rows, ownsRow_kept h1 hk (fun k hb hs => hd k hb hs), h2, h3, fun i hi hi' => hE.keep (h4 i hi hi') hk (fun k hk' hs => hd k hk'.1 hs)⟩

theorem AccR.list {α : Type} {E : CellsOf α} (hE : E.Ok) {w0 w : World} {T : TypeId} {sz : Nat} {acc : Value} {ys : List α} (h : AccR E w0 w T sz acc ys) (hT : TyOf sz T := by unfold TyOf; decide) : ListR E w (New w0) sz acc ys := by
  obtain ⟨rows, h1, h2, h3, h4⟩ := h
  refine ⟨rows, ?_, h2, fun i hi hi' => hE.mono (h4 i hi hi') (fun k _ hk => hk.1)⟩
  have hl : ∀ r ∈ rows, r.length = sz := fun r hr => (h3 r hr).1
  have hfl := flatten_len rows hl
  rcases h1.2 with ⟨rfl, hn⟩ | ⟨g, cap, cur, rfl, hb, hh, hnc, hcm, hcs, htake⟩
  · exact ⟨none, 0, by rw [h2, hn], by omega, by unfold maxLen; omega, Or.inl ⟨List.eq_nil_of_length_eq_zero (by omega), Or.inl rfl⟩⟩
  · refine ⟨_, cap, by rw [h2], by omega, hcm, Or.inr ⟨g, 0, rfl, ⟨hb, fun k _ => by simp [World.frozen?, hh], fun _ => ⟨rfl, cur, T, hh, hcs, hT⟩⟩, lt_of_block hh, fun i hi => ⟨hl _ (List.getElem_mem _), fun j hj => ?_⟩⟩⟩
    have := World.ownsRow.cells h1 (g := g) rfl (i * sz + j) rows[i][j] (flatten_get rows i j hi hl hj)
    rw [Addr.add_mid] at this
    rw [← this, Nat.add_assoc]

theorem AccR.own {α : Type} {E : CellsOf α} {w0 w : World} {T : TypeId} {sz : Nat} {acc : Value} {ys : List α} (h : AccR E w0 w T sz acc ys) : ∀ k, acc.ownBlock = some k → w0.heap.size ≤ k ∧ k < w.heap.size := by
  obtain ⟨rows, h1, _⟩ := h
  intro k hk
  have := World.ownsRow.lt h1 k hk
  exact this

/-- an element in a block of its own, as append takes it -/
theorem wpList_one {P : Program} {ops : Array Oper} {rest : List Oper} {o : Oper} {a : Act} {w : World} {Q : Exit → Act → World → Prop} (hg : o.guard = none) (t e : TypeId) (x : Operand) (ho : o.op = .buildSlice t 1 #[(0, x)])
    (v : Value) (cs : List Value) (hv : v.cells = cs.toArray) (hx : a.eval x = v) (ie : TypeInfo) (z : Value) (hu : P.underlying t = some (.slice e)) (hie : P.info? e = some ie) (hz : ie.zero = some z) (hsz : ie.size = cs.length) (hpos : 0 < cs.length) (hsm : cs.length ≤ 1000)
    (h : wpList P ops Q rest (a.put o.dst (.slice (some ⟨w.heap.size, 0, none⟩) 1 1)) (w.alloc (.cells cs.toArray e))) : wpList P ops Q (o :: rest) a w := by
  refine wpList_buildSlice hg t e 1 _ ho cs.toArray ie z hu hie hz (by rw [hsz]; omega) (by rw [hsz]; omega) ?_ h
  have := Great.fill_whole (s := cs.length) hpos [v] ((Array.range (1 * ie.size)).map (z.cells[· % z.cells.size]!)) (by simp [hv]) (by simp [hsz])
  simp only [hv, List.flatMap_cons, List.flatMap_nil, List.append_nil] at this
  rw [hsz] at this ⊢
  simpa [hx] using this

/-- the element behind the row -/
theorem wpList_push {P : Program} {α : Type} {E : CellsOf α} (hE : E.Ok) (w0 w : World) {ops : Array Oper} {rest : List Oper} {o : Oper} {a : Act} {Q : Exit → Act → World → Prop} (hgd : o.guard = none) (s x : Operand) (t : TypeId)
    (ho : o.op = .call { callee := .builtin .append, args := #[s, x], argTypes := #[t, t] })
    (T : TypeId) (i : TypeInfo) (z : Value) (sz bytes : Nat) (ht : P.underlying t = some (.slice T)) (hi : P.info? T = some i) (hz : i.zero = some z) (hsize : i.size = sz) (hby : i.bytes = bytes) (hzs : z.cells.size = sz) (hsz : 0 < sz)
    (acc : Value) (ys : List α) (hacc : AccR E w0 w T sz acc ys) (cs : List Value) (y : α) (hEy : E w (fun g => w0.heap.size ≤ g ∧ some g ≠ acc.ownBlock) cs y) (hfl : Flat sz cs)
    (hs : a.eval s = acc) (hx : a.eval x = .slice (some ⟨w.heap.size, 0, none⟩) 1 1) (hsm : ys.length ≤ 1000) (hbs : bytes ≤ 1000) (hw : w0.heap.size ≤ w.heap.size)
    (h : ∀ v' w', AccR E w0 w' T sz v' (ys ++ [y]) → Kept (New w0) w w' → wpList P ops Q rest (a.put o.dst v') w') : wpList P ops Q (o :: rest) a (w.alloc (.cells cs.toArray T)) := by
  have hA : Kept (fun _ => False) w (w.alloc (.cells cs.toArray T)) := (Kept.refl _ w).alloc _
  have hown := hacc.own
  have hacc' := hacc.keep hE hA (disj_none _)
  obtain ⟨rows, h1, h2, h3, h4⟩ := hacc'
  have hE1 := hE.keep hEy hA (disj_none _)
  have hbytes : (ys.length + 1) * bytes ≤ 140737488355328 := by
    have : (ys.length + 1) * bytes ≤ 1001 * 1000 := Nat.mul_le_mul (by omega) hbs
    omega
  refine wpList_append_apart _ hgd s x t ho w0.heap.size T i z sz bytes ht hi hz hsize hby hzs hsz acc ys.length rows.flatten hs h1 ⟨w.heap.size, 0, none⟩ 1 1 cs hx (by rw [hfl.1, Nat.one_mul]) (fun j u hu => ?_) hfl.2 (by unfold maxLen; omega) hbytes (Nat.le_trans hw hA.size) ?_
  · have := range_new w cs T j u hu
    rw [Addr.add_mid]
    exact this
  · intro v' w' o1 o2 o3
    have hk : Kept (fun k => some k = acc.ownBlock) (w.alloc (.cells cs.toArray T)) w' := Kept.of_grownBy o2
    have hmv : ∀ k, k < (w.alloc (.cells cs.toArray T)).heap.size → w0.heap.size ≤ k ∧ some k ≠ acc.ownBlock → w0.heap.size ≤ k ∧ some k ≠ v'.ownBlock := by
      intro k hk1 hk2
      refine ⟨hk2.1, fun e => ?_⟩
      rcases o3 with o3 | o3
      · exact hk2.2 (e.trans o3)
      · have := o3 k e.symm
        omega
    refine h v' w' ⟨rows ++ [cs], by simpa using o1, by simp [h2], fun r hr => ?_, fun i hi' hi2 => ?_⟩ ?_
    · rcases List.mem_append.1 hr with hr | hr
      · exact h3 r hr
      · rw [List.mem_singleton.1 hr]; exact hfl
    · have hst : ∀ (c : List Value) (u : α), E (w.alloc (.cells cs.toArray T)) (fun g => w0.heap.size ≤ g ∧ some g ≠ acc.ownBlock) c u → E w' (fun g => w0.heap.size ≤ g ∧ some g ≠ v'.ownBlock) c u := fun c u hc =>
        hE.keep (hE.mono (hE.mono hc (ok' := fun g => (w0.heap.size ≤ g ∧ some g ≠ v'.ownBlock) ∧ some g ≠ acc.ownBlock) (fun k a b => ⟨hmv k a b, b.2⟩)) (fun _ _ b => b)) hk (fun k a b => a.2 b) |> fun q => hE.mono q (fun _ _ b => b.1)
      by_cases hlt : i < ys.length
      · have := hst _ _ (h4 i hlt (by omega))
        rw [List.getElem_append_left (by omega), List.getElem_append_left hlt]
        exact this
      · have hi3 : i = ys.length := by simp at hi'; omega
        subst hi3
        have := hst _ _ hE1
        rw [List.getElem_append_right (by omega), List.getElem_append_right (by omega)]
        simp only [h2, Nat.sub_self, List.getElem_cons_zero]
        exact this
    · refine Kept.trans' ((Kept.refl (New w0) w).alloc _) hk (fun k hk1 hk2 => ?_)
      exact (hown k hk2.symm).1

/-- at the head of a loop that takes up n things -/
structure GetRel {α : Type} (E : CellsOf α) (f : Fmt α) (w0 : World) (b : Nat) (v : Value) (l : List UInt8) (T : TypeId) (sz n p e : Nat) (acc iv : Value) (wr : World) : Prop where
  ex : ∃ k, iv = .int .i64 (k : Nat) ∧ k ≤ n ∧ AccR E w0 wr T sz acc (getN f.get k l p e).1 ∧ RAt wr b v l (getN f.get k l p e).2.1 (getN f.get k l p e).2.2 ∧ Kept (RS b) w0 wr

/-- what a call answers that takes a list up -/
def LPost {α : Type} (E : CellsOf α) (sz : Nat) (w : World) (b : Nat) (v : Value) (l : List UInt8) (xs : List α) (q e' : Nat) (en : Ending) (w' : World) : Prop :=
  ∃ sv, en = .returned sv ∧ ListR E w' (New w) sz sv xs ∧ RAt w' b v l q e' ∧ Kept (RS b) w w'
end Go.Proofs.YtpmemcpfoapjmaaGreat

namespace Go.Proofs.YtpmemcpfoapjmaaGreat
open Go.ChangeShapes Go.WideShapes Go.ChangeAt Go.RowKit
set_option linter.unusedVariables false

theorem eta3 {α : Type} (t : α × Nat × Nat) : t = (t.1, t.2.1, t.2.2) := rfl
/-- a struct that a call answers -/
theorem ret_cell {P : Program} {fn : Func} {R : Ending → World → Prop} {a : Act} {w : World} (A t : Nat) (g : Nat) (cells : Array Value) (hres : fn.results = #[.cell A t]) (hA : a.tmps.getD A undef = .pointer (some ⟨g, 0, none⟩))
    (hload : (loadVar t ⟨g, 0, none⟩).run P w = .ok (.agg cells) w) (hd : a.defers = []) (hR : R (.returned (.agg cells)) w) : bodyPost P fn R .ret a w :=
  bodyPost_ret (v := .agg cells) (by have h1 : a.tmps[A]?.getD undef = .pointer (some ⟨g, 0, none⟩) := (by simpa using hA); simp [results, hres, h1, asAddr, hload]) hd hR
theorem ret_cell_tmp {P : Program} {fn : Func} {R : Ending → World → Prop} {a : Act} {w : World} (A t B : Nat) (g : Nat) (cells : Array Value) (v : Value) (hres : fn.results = #[.cell A t, .tmp B]) (hA : a.tmps.getD A undef = .pointer (some ⟨g, 0, none⟩)) (hB : a.tmps.getD B undef = v)
    (hload : (loadVar t ⟨g, 0, none⟩).run P w = .ok (.agg cells) w) (hd : a.defers = []) (hR : R (.returned (.tuple #[.agg cells, v])) w) : bodyPost P fn R .ret a w :=
  bodyPost_ret (v := .tuple #[.agg cells, v]) (by have h1 : a.tmps[A]?.getD undef = .pointer (some ⟨g, 0, none⟩) := (by simpa using hA); have h2 : a.tmps[B]?.getD undef = v := (by simpa using hB); simp [results, hres, h1, h2, asAddr, hload]) hd hR

theorem fin_list {α : Type} {E : CellsOf α} (hE : E.Ok) {w wj wn : World} {sz : Nat} {sv : Value} {xs : List α} (hL : ListR E wn (New wj) sz sv xs) (hz : w.heap.size + 1 ≤ wj.heap.size) (c : Array Value) : ListR E (wn.setRow w.heap.size c) (New w) sz sv xs :=
  (hL.keep hE (setRow_kept wn w.heap.size c) (fun k hk hs => by have hk' : wj.heap.size ≤ k := hk; have hs' : k = w.heap.size := hs; omega)).mono hE (fun k _ hk => by have hk' : wj.heap.size ≤ k := hk; unfold New; omega)
theorem fin_E {α : Type} {E : CellsOf α} (hE : E.Ok) {w wj wn : World} {cs : List Value} {x : α} (hL : E wn (New wj) cs x) (hz : w.heap.size + 1 ≤ wj.heap.size) (c : Array Value) : E (wn.setRow w.heap.size c) (New w) cs x :=
  hE.mono (hE.keep hL (setRow_kept wn w.heap.size c) (fun k hk hs => by have hk' : wj.heap.size ≤ k := hk; have hs' : k = w.heap.size := hs; omega)) (fun k _ hk => by have hk' : wj.heap.size ≤ k := hk; unfold New; omega)
theorem fin_R {w wn : World} {b : Nat} {v : Value} {l : List UInt8} {p e q e' : Nat} (h0 : RAt w b v l p e) (h : RAt wn b v l q e') (c : Array Value) : RAt (wn.setRow w.heap.size c) b v l q e' :=
  h.keep (setRow_kept wn w.heap.size c) (fun k hk hs => by have := h0.inn k hk; have hs' : k = w.heap.size := hs; omega)
theorem fin_K {w wn : World} {o : Obj} {b : Nat} {v : Value} {l : List UInt8} {p e : Nat} (h0 : RAt w b v l p e) (h : Kept (RS b) (w.alloc o) wn) (c : Array Value) : Kept (RS b) w (wn.setRow w.heap.size c) :=
  Kept.trans' (Kept.trans' ((Kept.refl (RS b) w).alloc o) h (fun _ _ s => s)) (setRow_kept wn w.heap.size c) (fun k hk hs => by have hs' : k = w.heap.size := hs; omega)

theorem info_num : (Tryz.prog.info? 3).map (fun i => (i.zero, i.size, i.bytes)) = some (some (.int .i64 0), 1, 8) := by kernel_rfl

set_option maxRecDepth 100000 in
set_option maxHeartbeats 600000 in
theorem getList_num (w : World) (b : Nat) (v : Value) (l : List UInt8) (p e : Nat) (hR : RAt w b v l p e) {xs : List Int} {q e' : Nat} (h : (listF numF).get l p e = (xs, q, e')) :
    Calls Tryz.prog 108 #[.pointer (some ⟨b, 0, none⟩), .func (.func 109) #[] #[]] w (LPost intE 1 w b v l xs q e') := by
  obtain ⟨i0, hi, hz0, hz1, hz2⟩ := info_parts info_num
  have hcl := rCount_le l 256 p e
  have hcc := rcount_any 256 w b v l p e hR (by omega) (by omega)
  rcases h1 : rCount l 256 p e with ⟨n, p1, e1⟩
  rw [h1] at hcl hcc
  simp only [listF, h1] at h hcl hcc
  have HH := Lib.hid h; clear h
  have HZ1 := Lib.hid hz1; clear hz1
  have HZ2 := Lib.hid hz2; clear hz2
  have HZ0 := Lib.hid hz0; clear hz0
  have HI := Lib.hid hi; clear hi
  clear h1
  have hn : n ≤ 256 := by omega
  clear hcl
  have HCC := Lib.hid hcc; clear hcc
  go_enter Tryz.func108, Tryz.ntmps108
  go_wp2_with fail
  refine HCC.out.mono ?_
  rintro en w0 ⟨rfl, hR0, hk0⟩
  go_wp2_with fail
  go_loopw [5, 8] (fun acc iv wr => GetRel intE numF w b v l 3 1 n p1 e1 acc iv wr) (fun _ iv _ => n - (intOf iv).toNat)
  case atStart => exact ⟨0, rfl, Nat.zero_le _, AccR.nil _ _ _ _ _, hR0, hk0⟩
  case round =>
    obtain ⟨k, rfl, hkn, hacc, hRk, hK⟩ := hrel.ex
    clear hrel HCC hR0 hk0
    by_cases hlt : k < n
    · have hkl : (k : Int) < (n : Int) := by omega
      go_wp2_with fail
      refine (getNum_any wr b v l _ _ hRk (eta3 _)).mono ?_
      rintro en w1 ⟨rfl, hR1, hk1⟩
      have hE1 : intE w1 (New wr) [.int .i64 (numF.get l (getN numF.get k l p1 e1).2.1 (getN numF.get k l p1 e1).2.2).1] (numF.get l (getN numF.get k l p1 e1).2.1 (getN numF.get k l p1 e1).2.2).1 := ⟨rfl, numF_i64⟩
      have hfl : Flat 1 [Value.int .i64 (numF.get l (getN numF.get k l p1 e1).2.1 (getN numF.get k l p1 e1).2.2).1] := ⟨rfl, by simp [Value.oneCell']⟩
      have hacc1 := hacc.keep intE_ok hk1 (new_rs hR)
      have hown := hacc.own
      have hE2 : intE w1 (fun g => w.heap.size ≤ g ∧ some g ≠ u5.ownBlock) _ _ := intE_ok.mono hE1 (fun g _ hg => ⟨Nat.le_trans hK.size hg, fun e => by have := (hown g e.symm).2; have hg' : wr.heap.size ≤ g := hg; omega⟩)
      have hsn := getN_snoc (numF).get k l p1 e1
      have hlen := getN_len (numF).get k l p1 e1
      have hwl : w.heap.size ≤ w1.heap.size := Nat.le_trans hK.size hk1.size
      have HSN := Lib.hid hsn; clear hsn
      have HLEN := Lib.hid hlen; clear hlen
      have hK1 := hK.trans hk1
      clear hacc hown hE1 hRk hK hk1
      go_wp2_with (first | (refine wpList_one rfl 22 3 (.tmp 13) rfl _ _ rfl rfl i0 _ Tryz.underlying22 HI.out HZ0.out (by rw [HZ1.out, hfl.1]) (by rw [hfl.1]; omega) (by rw [hfl.1]; omega) ?_) | (at_builtin; go_loud (refine wpList_push intE_ok w w1 rfl (.tmp 10) (.tmp 14) 22 rfl 3 i0 _ 1 8 Tryz.underlying22 HI.out HZ0.out HZ1.out HZ2.out rfl (by decide) u5 _ hacc1 _ _ hE2 hfl rfl rfl (by rw [HLEN.out]; omega) (by decide) hwl ?_); intro v' w' hacc' hk'))
      go_roundw
      case rel => exact ⟨k + 1, by go_num, hlt, by rw [HSN.out]; dsimp only; exact hacc', by rw [HSN.out]; dsimp only; exact hR1.keep hk' (fun g hg hs => by have := hR.inn g hg; have hs' : w.heap.size ≤ g := hs; omega), Kept.trans' hK1 hk' (fun g hg hs => by have hs' : w.heap.size ≤ g := hs; omega)⟩
      case measure => simp [intOf]; omega
    · have hkl : ¬ (k : Int) < (n : Int) := by omega
      obtain rfl : k = n := by omega
      have hlist := hacc.list intE_ok
      rw [HH.out] at hlist hRk
      have HL := Lib.hid hlist
      have HR := Lib.hid hRk
      clear hacc hlist hRk
      go_wp2_with fail
      go_ret
      exact ⟨_, rfl, HL.out, HR.out, hK⟩

theorem info_text : (Tryz.prog.info? 9).map (fun i => (i.zero, i.size, i.bytes)) = some (some (.string ⟨#[]⟩), 1, 16) := by kernel_rfl

set_option maxRecDepth 100000 in
set_option maxHeartbeats 600000 in
theorem getList_text (w : World) (b : Nat) (v : Value) (l : List UInt8) (p e : Nat) (hR : RAt w b v l p e) {xs : List ByteArray} {q e' : Nat} (h : (listF (textF 4096)).get l p e = (xs, q, e')) :
    Calls Tryz.prog 112 #[.pointer (some ⟨b, 0, none⟩), .func (.func 91) #[] #[]] w (LPost textE 1 w b v l xs q e') := by
  obtain ⟨i0, hi, hz0, hz1, hz2⟩ := info_parts info_text
  have hcl := rCount_le l 256 p e
  have hcc := rcount_any 256 w b v l p e hR (by omega) (by omega)
  rcases h1 : rCount l 256 p e with ⟨n, p1, e1⟩
  rw [h1] at hcl hcc
  simp only [listF, h1] at h hcl hcc
  have HH := Lib.hid h; clear h
  have HZ1 := Lib.hid hz1; clear hz1
  have HZ2 := Lib.hid hz2; clear hz2
  have HZ0 := Lib.hid hz0; clear hz0
  have HI := Lib.hid hi; clear hi
  clear h1
  have hn : n ≤ 256 := by omega
  clear hcl
  have HCC := Lib.hid hcc; clear hcc
  go_enter Tryz.func112, Tryz.ntmps112
  go_wp2_with fail
  refine HCC.out.mono ?_
  rintro en w0 ⟨rfl, hR0, hk0⟩
  go_wp2_with fail
  go_loopw [5, 8] (fun acc iv wr => GetRel textE (textF 4096) w b v l 9 1 n p1 e1 acc iv wr) (fun _ iv _ => n - (intOf iv).toNat)
  case atStart => exact ⟨0, rfl, Nat.zero_le _, AccR.nil _ _ _ _ _, hR0, hk0⟩
  case round =>
    obtain ⟨k, rfl, hkn, hacc, hRk, hK⟩ := hrel.ex
    clear hrel HCC hR0 hk0
    by_cases hlt : k < n
    · have hkl : (k : Int) < (n : Int) := by omega
      go_wp2_with fail
      refine (getText_any wr b v l _ _ hRk (eta3 _)).mono ?_
      rintro en w1 ⟨rfl, hR1, hk1⟩
      have hE1 : textE w1 (New wr) [.string ((textF 4096).get l (getN (textF 4096).get k l p1 e1).2.1 (getN (textF 4096).get k l p1 e1).2.2).1] ((textF 4096).get l (getN (textF 4096).get k l p1 e1).2.1 (getN (textF 4096).get k l p1 e1).2.2).1 := ⟨rfl, textF_str (by omega)⟩
      have hfl : Flat 1 [Value.string ((textF 4096).get l (getN (textF 4096).get k l p1 e1).2.1 (getN (textF 4096).get k l p1 e1).2.2).1] := ⟨rfl, by simp [Value.oneCell']⟩
      have hacc1 := hacc.keep textE_ok hk1 (new_rs hR)
      have hown := hacc.own
      have hE2 : textE w1 (fun g => w.heap.size ≤ g ∧ some g ≠ u5.ownBlock) _ _ := textE_ok.mono hE1 (fun g _ hg => ⟨Nat.le_trans hK.size hg, fun e => by have := (hown g e.symm).2; have hg' : wr.heap.size ≤ g := hg; omega⟩)
      have hsn := getN_snoc ((textF 4096)).get k l p1 e1
      have hlen := getN_len ((textF 4096)).get k l p1 e1
      have hwl : w.heap.size ≤ w1.heap.size := Nat.le_trans hK.size hk1.size
      have HSN := Lib.hid hsn; clear hsn
      have HLEN := Lib.hid hlen; clear hlen
      have hK1 := hK.trans hk1
      clear hacc hown hE1 hRk hK hk1
      go_wp2_with (first | (refine wpList_one rfl 29 9 (.tmp 13) rfl _ _ rfl rfl i0 _ Tryz.underlying29 HI.out HZ0.out (by rw [HZ1.out, hfl.1]) (by rw [hfl.1]; omega) (by rw [hfl.1]; omega) ?_) | (at_builtin; go_loud (refine wpList_push textE_ok w w1 rfl (.tmp 10) (.tmp 14) 29 rfl 9 i0 _ 1 16 Tryz.underlying29 HI.out HZ0.out HZ1.out HZ2.out rfl (by decide) u5 _ hacc1 _ _ hE2 hfl rfl rfl (by rw [HLEN.out]; omega) (by decide) hwl ?_); intro v' w' hacc' hk'))
      go_roundw
      case rel => exact ⟨k + 1, by go_num, hlt, by rw [HSN.out]; dsimp only; exact hacc', by rw [HSN.out]; dsimp only; exact hR1.keep hk' (fun g hg hs => by have := hR.inn g hg; have hs' : w.heap.size ≤ g := hs; omega), Kept.trans' hK1 hk' (fun g hg hs => by have hs' : w.heap.size ≤ g := hs; omega)⟩
      case measure => simp [intOf]; omega
    · have hkl : ¬ (k : Int) < (n : Int) := by omega
      obtain rfl : k = n := by omega
      have hlist := hacc.list textE_ok
      rw [HH.out] at hlist hRk
      have HL := Lib.hid hlist
      have HR := Lib.hid hRk
      clear hacc hlist hRk
      go_wp2_with fail
      go_ret
      exact ⟨_, rfl, HL.out, HR.out, hK⟩

set_option maxRecDepth 100000 in
set_option maxHeartbeats 600000 in
theorem get_acl (w : World) (b : Nat) (v : Value) (l : List UInt8) (p e : Nat) (hR : RAt w b v l p e) {x : Acl} {q e' : Nat} (h : aclF.get l p e = (x, q, e')) :
    Calls Tryz.prog 139 #[.pointer (some ⟨b, 0, none⟩)] w (GPost aclE w b v l x q e') := by
  rcases h1 : numF.get l p e with ⟨x1, p1, e1⟩
  have hi1 : I64 x1 := by have := numF_i64 (l := l) (p := p) (e := e); rw [h1] at this; exact this
  rcases h2 : (textF 4096).get l p1 e1 with ⟨x2, p2, e2⟩
  have hi2 : Str x2 := by have := textF_str (most := 4096) (by omega) (l := l) (p := p1) (e := e1); rw [h2] at this; exact this
  have hf : aclF.get l p e = (⟨x1, x2⟩, p2, e2) := by simp only [aclF, isoF, seqF, h1, h2]
  rw [hf] at h
  simp only [Prod.mk.injEq] at h
  obtain ⟨rfl, rfl, rfl⟩ := h
  have H1 := Lib.hid h1; clear h1
  have H2 := Lib.hid h2; clear h2
  clear hf
  have S0 := RSt.start (hR.alloc (.cells #[.int .i64 0, .string ⟨#[]⟩] 56))
  have hbk := heap_alloc_new w (.cells #[.int .i64 0, .string ⟨#[]⟩] 56)
  have hnb := rbox_new hR
  have hz0 : w.heap.size + 1 ≤ (w.alloc (.cells #[.int .i64 0, .string ⟨#[]⟩] 56)).heap.size := by simp
  go_enter Tryz.func139, Tryz.ntmps139
  go_wp2_with fail
  refine (gnum_any _ b v l _ _ S0.at_ H1.out).mono ?_
  rintro en w1 ⟨rfl, hR1, hk1⟩
  have S1 : RSt (w.alloc (.cells #[.int .i64 0, .string ⟨#[]⟩] 56)) b v l w1 p1 e1 := ⟨hR1, S0.kept.trans hk1⟩
  clear S0 hR1 hk1
  go_wp2_with fail
  refine (getText_any _ b v l _ _ S1.at_ H2.out).mono ?_
  rintro en w2 ⟨rfl, hR2, hk2⟩
  have S2 : RSt (w.alloc (.cells #[.int .i64 0, .string ⟨#[]⟩] 56)) b v l w2 p2 e2 := ⟨hR2, S1.kept.trans hk2⟩
  clear S1 hR2 hk2
  have hb := S2.blk hbk hnb
  have hsz : (Tryz.prog.info? 56).map (·.size) = some 2 := by kernel_rfl
  have HSZ := Lib.hid hsz; clear hsz
  have HB := Lib.hid hb; clear hb
  go_wp2_with (refine wpList_store_row _ rfl 56 _ _ rfl w.heap.size _ [.int .i64 x1, .string x2] rfl rfl HB.out HSZ.out rfl (by simp [Value.oneCell']) ?_)
  have hrow := setRow_heap w2 w.heap.size _ ([.int .i64 x1, .string x2] : List Value).toArray _ _ HB.out
  have hload := run_loadVar_row (P := Tryz.prog) _ w.heap.size 56 56 _ (0, 0) _ hrow Tryz.underlying56 rfl HSZ.out
  exact ret_cell 2 56 w.heap.size _ Tryz.results139 rfl hload rfl ⟨_, rfl, ⟨rfl, hi1, hi2⟩, fin_R hR S2.at_ _, fin_K hR S2.kept _⟩

theorem info_acl : (Tryz.prog.info? 56).map (fun i => (i.zero, i.size, i.bytes)) = some (some (.agg #[.int .i64 0, .string ⟨#[]⟩]), 2, 24) := by kernel_rfl

set_option maxRecDepth 100000 in
set_option maxHeartbeats 600000 in
theorem getList_acl (w : World) (b : Nat) (v : Value) (l : List UInt8) (p e : Nat) (hR : RAt w b v l p e) {xs : List Acl} {q e' : Nat} (h : (listF aclF).get l p e = (xs, q, e')) :
    Calls Tryz.prog 138 #[.pointer (some ⟨b, 0, none⟩), .func (.func 139) #[] #[]] w (LPost aclE 2 w b v l xs q e') := by
  obtain ⟨i0, hi, hz0, hz1, hz2⟩ := info_parts info_acl
  have hcl := rCount_le l 256 p e
  have hcc := rcount_any 256 w b v l p e hR (by omega) (by omega)
  rcases h1 : rCount l 256 p e with ⟨n, p1, e1⟩
  rw [h1] at hcl hcc
  simp only [listF, h1] at h hcl hcc
  have HH := Lib.hid h; clear h
  have HZ1 := Lib.hid hz1; clear hz1
  have HZ2 := Lib.hid hz2; clear hz2
  have HZ0 := Lib.hid hz0; clear hz0
  have HI := Lib.hid hi; clear hi
  clear h1
  have hn : n ≤ 256 := by omega
  clear hcl
  have HCC := Lib.hid hcc; clear hcc
  go_enter Tryz.func138, Tryz.ntmps138
  go_wp2_with fail
  refine HCC.out.mono ?_
  rintro en w0 ⟨rfl, hR0, hk0⟩
  go_wp2_with fail
  go_loopw [5, 8] (fun acc iv wr => GetRel aclE aclF w b v l 56 2 n p1 e1 acc iv wr) (fun _ iv _ => n - (intOf iv).toNat)
  case atStart => exact ⟨0, rfl, Nat.zero_le _, AccR.nil _ _ _ _ _, hR0, hk0⟩
  case round =>
    obtain ⟨k, rfl, hkn, hacc, hRk, hK⟩ := hrel.ex
    clear hrel HCC hR0 hk0
    by_cases hlt : k < n
    · have hkl : (k : Int) < (n : Int) := by omega
      go_wp2_with fail
      refine (get_acl wr b v l _ _ hRk (eta3 _)).mono ?_
      rintro en w1 ⟨cs, rfl, hE1, hR1, hk1⟩
      have hfl := aclE_flat hE1
      have hacc1 := hacc.keep aclE_ok hk1 (new_rs hR)
      have hown := hacc.own
      have hE2 : aclE w1 (fun g => w.heap.size ≤ g ∧ some g ≠ u5.ownBlock) _ _ := aclE_ok.mono hE1 (fun g _ hg => ⟨Nat.le_trans hK.size hg, fun e => by have := (hown g e.symm).2; have hg' : wr.heap.size ≤ g := hg; omega⟩)
      have hsn := getN_snoc (aclF).get k l p1 e1
      have hlen := getN_len (aclF).get k l p1 e1
      have hwl : w.heap.size ≤ w1.heap.size := Nat.le_trans hK.size hk1.size
      have HSN := Lib.hid hsn; clear hsn
      have HLEN := Lib.hid hlen; clear hlen
      have hK1 := hK.trans hk1
      clear hacc hown hE1 hRk hK hk1
      go_wp2_with (first | (refine wpList_one rfl 24 56 (.tmp 13) rfl (.agg cs.toArray) cs rfl rfl i0 _ Tryz.underlying24 HI.out HZ0.out (by rw [HZ1.out, hfl.1]) (by rw [hfl.1]; omega) (by rw [hfl.1]; omega) ?_) | (at_builtin; go_loud (refine wpList_push aclE_ok w w1 rfl (.tmp 10) (.tmp 14) 24 rfl 56 i0 _ 2 24 Tryz.underlying24 HI.out HZ0.out HZ1.out HZ2.out rfl (by decide) u5 _ hacc1 cs _ hE2 hfl rfl rfl (by rw [HLEN.out]; omega) (by decide) hwl ?_); intro v' w' hacc' hk'))
      go_roundw
      case rel => exact ⟨k + 1, by go_num, hlt, by rw [HSN.out]; dsimp only; exact hacc', by rw [HSN.out]; dsimp only; exact hR1.keep hk' (fun g hg hs => by have := hR.inn g hg; have hs' : w.heap.size ≤ g := hs; omega), Kept.trans' hK1 hk' (fun g hg hs => by have hs' : w.heap.size ≤ g := hs; omega)⟩
      case measure => simp [intOf]; omega
    · have hkl : ¬ (k : Int) < (n : Int) := by omega
      obtain rfl : k = n := by omega
      have hlist := hacc.list aclE_ok
      rw [HH.out] at hlist hRk
      have HL := Lib.hid hlist
      have HR := Lib.hid hRk
      clear hacc hlist hRk
      go_wp2_with fail
      go_ret
      exact ⟨_, rfl, HL.out, HR.out, hK⟩

end Go.Proofs.YtpmemcpfoapjmaaGreat
