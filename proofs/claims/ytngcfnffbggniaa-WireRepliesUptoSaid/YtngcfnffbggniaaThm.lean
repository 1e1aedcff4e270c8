/- Through and inside: what is laid, read again, cut off, with more; a slice of one struct; a cell of a struct written. -/
import Derived.Test.YtngcfnffbggniaaGot
import Derived.Great.BuildSlice
import Derived.Great.FillDense
import Derived.Lib.Strings
namespace Go.Proofs.Ytngcfnffbggniaa
open Go.ChangeShapes Go.WideShapes Go.ChangeAt Go.RowKit
set_option linter.unusedVariables false

section
variable {α : Type} {f : Fmt α}
theorem read_of_lay (hf : f.Ok) {x : α} {s : ByteArray} (hs : s.data.toList = f.lay x) : (f.read s = some x ∧ f.fits x) ∨ (f.read s = none ∧ ¬ f.fits x) := by
  cases h : f.read s with
  | none =>
    refine Or.inr ⟨rfl, fun hx => ?_⟩
    rw [Fmt.read_lay hf hs hx] at h
    cases h
  | some y =>
    obtain ⟨h1, h2⟩ := Fmt.read_some hf h
    have h3 := hf.pf x y [] [] (by rw [List.append_nil, List.append_nil, ← hs, h1])
    rw [h3.1]
    exact Or.inl ⟨rfl, h2⟩
theorem read_cut (hf : f.Ok) {x : α} {s t : ByteArray} (hs : s.data.toList = f.lay x) {k : Nat} (hk : k < s.size) (ht : t.data.toList = s.data.toList.take k) : f.read t = none := by
  cases h : f.read t with
  | none => rfl
  | some y =>
    exfalso
    obtain ⟨h1, h2⟩ := Fmt.read_some hf h
    have h3 := hf.pf x y [] ((f.lay x).drop k) (by
      rw [← h1, ht, hs, List.append_nil, List.take_append_drop])
    have h4 : ((f.lay x).drop k).length = 0 := by rw [← h3.2]; rfl
    rw [List.length_drop, ← hs, str_len] at h4
    omega
theorem read_more (hf : f.Ok) {x : α} {t : ByteArray} {r : List UInt8} (hr : r ≠ []) (ht : t.data.toList = f.lay x ++ r) : f.read t = none := by
  cases h : f.read t with
  | none => rfl
  | some y =>
    exfalso
    obtain ⟨h1, h2⟩ := Fmt.read_some hf h
    have h3 := hf.pf x y r [] (by rw [List.append_nil, ← h1, ht])
    exact hr h3.2
end

theorem mod_in (k : Nat) {n : Nat} (h : 0 < n) : 0 ≤ (k : Int) % (n : Int) ∧ (k : Int) % (n : Int) ≤ (n : Int) :=
  ⟨Int.emod_nonneg _ (by omega), Int.le_of_lt (Int.emod_lt_of_pos _ (by omega))⟩
/-- no entry, no message: behind names that no walk opens -/
structure NoEntry (s : ByteArray) : Prop where
  h : entryF.read s = none
structure NoMessage (s : ByteArray) : Prop where
  h : messageF.read s = none

theorem not_empty {s : ByteArray} (h : 0 < s.size) : s.toList.isEmpty = false := by
  rw [ByteArray.toList_eq]
  have : 0 < s.data.toList.length := by rw [str_len]; exact h
  cases hl : s.data.toList with
  | nil => rw [hl] at this; simp at this
  | cons a l => rfl

theorem read_ext {α : Type} {f : Fmt α} (hf : f.Ok) {x : α} {s : ByteArray} (hs : s.data.toList = f.lay x) (k : Nat) (h0 : 0 < s.size) : f.read (s.extract 0 (k % s.size)) = none :=
  read_cut hf hs (k := k % s.size) (Nat.mod_lt _ h0) (by rw [Lib.extract_data]; simp)
theorem read_plus {α : Type} {f : Fmt α} (hf : f.Ok) {x : α} {s : ByteArray} (hs : s.data.toList = f.lay x) (b : UInt8) : f.read (s ++ ⟨#[b]⟩) = none :=
  read_more hf (x := x) (r := [b]) (by simp) (by rw [← hs]; simp [ByteArray.data_append])
theorem ext_size (s : ByteArray) (k : Nat) : (s.extract 0 k).size ≤ s.size := by
  rw [← str_len, ← str_len, Lib.extract_data]; simp; omega

theorem lay_pos_entry (x : Entry) : 0 < (entryF.lay x).length := by
  have h := sev_length_pos (zz x.zxid)
  have e : ∃ r, entryF.lay x = sev (zz x.zxid) ++ r := ⟨_, rfl⟩
  obtain ⟨r, e⟩ := e
  rw [e, List.length_append]; omega
theorem lay_pos_message (x : Message) : 0 < (messageF.lay x).length := by
  have h := sev_length_pos (zz x.kind)
  have e : ∃ r, messageF.lay x = sev (zz x.kind) ++ r := ⟨_, rfl⟩
  obtain ⟨r, e⟩ := e
  rw [e, List.length_append]; omega

/-- a message, its entries others -/
def withEntries (y : Message) (l : List Entry) : Message := { y with entries := l }
theorem message_split (y : Message) : ∃ a b, ∀ l, messageF.lay (withEntries y l) = a ++ (sev l.length ++ (layN entryF l ++ b)) :=
  ⟨sev (zz y.kind) ++ (sev (zz y.epoch) ++ (sev (zz y.zxid) ++ (sev (zz y.number) ++ (sev (zz y.session) ++ ((listF numF).lay y.marks ++ (textF 65536).lay y.data))))), reqF.lay y.request ++ (listF (textF 4096)).lay y.ids, fun l => by
    simp only [messageF, isoF, seqF, listF, numF, withEntries, List.append_assoc]⟩
theorem withEntries_self (y : Message) : withEntries y y.entries = y := rfl
theorem message_len (y : Message) (l : List Entry) (hl : l.length ≤ 9223372036854775807) : (messageF.lay (withEntries y l)).length ≤ (messageF.lay y).length + (layN entryF l).length + 10 := by
  obtain ⟨a, b, h⟩ := message_split y
  have h0 := h y.entries
  rw [withEntries_self] at h0
  rw [h, h0]
  have := sev_length_u64 (n := l.length) (by omega)
  simp only [List.length_append]
  omega
theorem message_fits {y : Message} {l : List Entry} (h : messageF.fits (withEntries y l)) : ∀ x ∈ l, entryF.fits x := by
  have h' : (listF entryF).fits l := h.2.2.2.2.2.2.2.1
  exact h'.2

theorem messageE_set {w : World} {ok ok' : Nat → Prop} {cs : List Value} {y : Message} {v : Value} {l : List Entry} (h : messageE w ok cs y) (hm : ∀ k, k < w.heap.size → ok k → ok' k) (hl : ListR entryE w ok' 11 v l) : messageE w ok' (cs.set 7 v) (withEntries y l) := by
  obtain ⟨a, b, c, d, rfl, h0, h1, h2, h3, hp⟩ := h
  exact ⟨a, v, c, d, rfl, h0.mono intE_ok hm, hl, reqE_ok.mono h2 hm, h3.mono textE_ok hm, hp⟩

theorem fill_one (cs : List Value) (n : Nat) (hn : cs.length = n) (hp : 0 < n) (Z : Array Value) (hZ : Z.size = n) :
    Instr.fill (fun i => some (i * n, n)) Z [(0, .agg cs.toArray)] = some cs.toArray := by
  have hcs : (Value.agg cs.toArray).cells = cs.toArray := rfl
  obtain ⟨r, h1, h2, h3⟩ := Great.fill_dense (s := n) hp [.agg cs.toArray] 0 Z (by simp [hcs, hn]) (by simp [hZ])
  have h1' : Instr.fill (fun i => some (i * n, n)) Z [(0, .agg cs.toArray)] = some r := h1
  rw [h1']
  congr 1
  apply Array.ext_getElem?
  intro k
  rw [h3 k]
  by_cases hk : k < n
  · rw [if_pos ⟨by omega, by simpa using hk⟩, Nat.div_eq_of_lt hk]
    simp [hcs, Nat.mod_eq_of_lt hk]
  · rw [if_neg (by simp; omega), Array.getElem?_eq_none (by omega), Array.getElem?_eq_none (by simp; omega)]

theorem wpList_build_one {P : Program} {ops : Array Oper} {rest : List Oper} {o : Oper} {a : Act} {w : World} {Q : Exit → Act → World → Prop} (hg : o.guard = none) (t e : TypeId) (x : Operand) (ho : o.op = .buildSlice t 1 #[(0, x)])
    (cs : List Value) (n : Nat) (hx : a.eval x = .agg cs.toArray) (hu : P.underlying t = some (.slice e)) (hsz : (P.info? e).map (·.size) = some n) (hz : ((P.info? e).bind (·.zero)).isSome = true) (hl : cs.length = n) (hp : 0 < n) (hn : n ≤ 1000)
    (h : wpList P ops Q rest (a.put o.dst (.slice (some ⟨w.heap.size, 0, none⟩) 1 1)) (w.alloc (.cells cs.toArray e))) : wpList P ops Q (o :: rest) a w := by
  cases hie : P.info? e with
  | none => simp [hie] at hsz
  | some ie =>
    simp only [hie, Option.map_some, Option.some.injEq, Option.bind_some] at hsz hz
    obtain ⟨z, hzz⟩ := Option.isSome_iff_exists.1 hz
    refine wpList_buildSlice hg t e 1 _ ho cs.toArray ie z hu hie hzz (by rw [hsz]; omega) (by rw [hsz]; omega) ?_ h
    rw [hsz]
    have : (#[(0, x)].map fun (i, x) => (i, a.eval x)).toList = [(0, .agg cs.toArray)] := by simp [hx]
    rw [this]
    exact fill_one cs n hl hp _ (by simp)

theorem setCell_row {w : World} {g i : Nat} {c : List Value} {T : TypeId} {v : Value} (h : w.heap[g]? = some (.cells c.toArray T (0, 0))) : w.setCell ⟨g, i, none⟩ v = w.setRow g (c.set i v).toArray := by
  unfold World.setCell World.setRow
  congr 1
  apply Array.ext_getElem?
  intro k
  rw [Array.getElem?_modify, Array.getElem?_modify]
  by_cases hk : g = k
  · subst hk
    rw [if_pos rfl, if_pos rfl, h]
    simp
  · rw [if_neg hk, if_neg hk]

/-- a value of one cell goes into a cell of a block that is known whole -/
theorem wpList_store_at {P : Program} {ops : Array Oper} {rest : List Oper} {op : Oper} {a : Act} {w : World} {Q : Exit → Act → World → Prop} (hgd : op.guard = none) (ty : TypeId) (x y : Operand) (ho : op.op = .store ty x y)
    (g i : Nat) (v : Value) (hx : a.eval x = .pointer (some ⟨g, i, none⟩)) (hy : a.eval y = v) (hv : v.oneCell' = true) (c : List Value) (T : TypeId) (hg : w.heap[g]? = some (.cells c.toArray T (0, 0))) (hil : i < c.length) (hi : (P.info? ty).map (·.size) = some 1)
    (h : wpList P ops Q rest (a.put op.dst undef) (w.setRow g (c.set i v).toArray)) : wpList P ops Q (op :: rest) a w :=
  wpList_plain hgd fun _ hK => by
    have hc : v.cells = #[v] := by cases v <;> first | rfl | cases hv
    have hcell : (w.cell? ⟨g, i, none⟩).isSome = true := by rw [cell_of_row w g i _ T (0, 0) hg]; simp [hil]
    have hfz : w.frozen? ⟨g, i, none⟩ = false := by simp [World.frozen?, hg]
    have hrun := run_storeCells_cells (P := P) g i [v] 0 w (fun j hj => by obtain rfl : j = 0 := by simpa using hj
                                                                           exact hcell) (fun j hj => by obtain rfl : j = 0 := by simpa using hj
                                                                                                        exact hfz) (fun u hu => by simp at hu; subst hu; exact hv)
    have hset : w.setCells g i [v] = w.setRow g (c.set i v).toArray := setCell_row hg
    have hst : (storeVar ty ⟨g, i, none⟩ v).run P w = .ok () (w.setRow g (c.set i v).toArray) := by
      cases hq : P.info? ty with
      | none => simp [hq] at hi
      | some i0 =>
        have hs : i0.size = 1 := by simpa [hq] using hi
        simp only [Nat.add_zero, hset] at hrun
        simp [storeVar, sizeOf, typeInfo, hq, hc, hs, hrun]
    unfold Oper.wp execOp
    simp only [ho, hx, hy, Instr.storeAt, Instr.sureAddr, Sem.run_bind, Sem.run_pure, Result.andThen_ok, hst]
    exact hK _ _ h

theorem one_entry {w : World} {ok : Nat → Prop} {g : Nat} {ce : List Value} {x : Entry} {T : TypeId} (h : w.heap[g]? = some (.cells ce.toArray T (0, 0))) (hok : ok g) (hE : entryE w ok ce x) : ListR entryE w ok 11 (.slice (some ⟨g, 0, none⟩) 1 1) [x] := by
  refine ⟨[ce], ⟨some ⟨g, 0, none⟩, 1, rfl, Nat.le_refl _, by unfold maxLen; omega, Or.inr ⟨g, 0, rfl, ⟨hok, fun k _ => by simp [World.frozen?, h]⟩, lt_of_block h, fun i hi => ?_⟩⟩, rfl, fun i hi hi' => ?_⟩
  · obtain rfl : i = 0 := by simpa using hi
    refine ⟨(entryE_flat hE).1, fun j hj => ?_⟩
    have := range_row h j _ (List.getElem?_eq_getElem hj)
    rw [← this]
  · obtain rfl : i = 0 := by simpa using hi
    exact hE
theorem msg_entries {w : World} {ok : Nat → Prop} {cs : List Value} {z : Message} (h : messageE w ok cs z) : ∃ v, cs[7]? = some v ∧ ListR entryE w ok 11 v z.entries := by
  obtain ⟨a, b, c, d, rfl, h0, h1, h2, h3, hp⟩ := h
  exact ⟨b, rfl, h1⟩
theorem at_entry {w : World} {ok : Nat → Prop} {v : Value} {l : List Entry} (h : ListR entryE w ok 11 v l) : ∀ i (hi : i < l.length), ∃ g off c r, v = .slice (some ⟨g, off, none⟩) l.length c ∧ l.length ≤ c ∧ g < w.heap.size ∧ ok g ∧ w.rangeAt g (off + i * 11) r ∧ entryE w ok r l[i] := by
  intro i hi
  obtain ⟨rows, ⟨A, c, rfl, hc, hm, hat⟩, hlen, hel⟩ := h
  rcases hat with h0 | ⟨g, off, rfl, hok, hg, hcell⟩
  · subst h0
    simp at hlen
    omega
  · refine ⟨g, off, c, rows[i]'(by omega), by rw [hlen], by omega, hg, hok.1, fun j v hv => ?_, hel i hi (by omega)⟩
    have hj := (List.getElem?_eq_some_iff.1 hv)
    obtain ⟨hj1, hj2⟩ := hj
    rw [(hcell i (by omega)).2 j hj1, hj2]
theorem rangeAt_old {w w' : World} (h : Old w w') {g o : Nat} {cs : List Value} (hr : w.rangeAt g o cs) (hg : g < w.heap.size) : w'.rangeAt g o cs := fun j v hv => by
  rw [← hr j v hv]
  exact World.cell?_of_block (h.block g hg id)
theorem cell_of_heap {w : World} {g i : Nat} {cs : List Value} {T : TypeId} {v : Value} (h : w.heap[g]? = some (.cells cs.toArray T (0, 0))) (hv : cs[i]? = some v) : w.cell? ⟨g, i, none⟩ = some v := by
  rw [cell_of_row w g i _ T (0, 0) h]
  simpa using hv
end Go.Proofs.Ytngcfnffbggniaa
