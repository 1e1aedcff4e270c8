/- append of a list onto nil, and of one row more, into memory that the call owns; what the rows point to lies where it lay. Lists that came out own their blocks: they may be written over, and grown. What writing over and growing lists that came out leaves: every block keeps its type and its size; the lists inside of the rows stay such lists. The writer through several calls; the smallest things. The document's own answers of layer 2: numbers and texts, laid. Lists of numbers and of texts, laid; numbers in a block of their own. -/
import Derived.Test.YtpmemcpfoapjmaaGreatV06
import Derived.Test.YtpmemcpfoapjmaaGreatV04
import Derived.Deep.Upon
import Derived.Maps.AppendAt
import Derived.Deep.AppendSrc
import Derived.Test.YtpmemcpfoapjmaaGreatV03
import Derived.Test.YtpmemcpfoapjmaaGreatV02
namespace Go.Proofs.YtpmemcpfoapjmaaGreat
open Go.ChangeShapes Go.WideShapes Go.ChangeAt Go.RowKit
set_option linter.unusedVariables false

/-- acc owns a row of the elements ys, in memory from base on; what they point to lies in blocks of ok -/
def AccO {α : Type} (E : CellsOf α) (base : Nat) (ok : Nat → Prop) (w : World) (T : TypeId) (sz : Nat) (acc : Value) (ys : List α) : Prop :=
  ∃ rows : List (List Value), w.ownsRow base T sz acc ys.length rows.flatten ∧ rows.length = ys.length ∧ (∀ r ∈ rows, Flat sz r) ∧
    ∀ i (h : i < ys.length) (h' : i < rows.length), E w ok rows[i] ys[i]

theorem AccO.nil {α : Type} (E : CellsOf α) (base : Nat) (ok : Nat → Prop) (w : World) (T : TypeId) (sz : Nat) : AccO E base ok w T sz (.slice none 0 0) [] :=
  ⟨[], by simpa using World.ownsRow_nil w base T sz, rfl, by simp, fun i h => absurd h (by simp)⟩
theorem AccO.keep {α : Type} {E : CellsOf α} (hE : E.Ok) {base : Nat} {ok : Nat → Prop} {w w' : World} {S : Nat → Prop} {T : TypeId} {sz : Nat} {acc : Value} {ys : List α} (h : AccO E base ok w T sz acc ys) (hk : Kept S w w') (hb : ∀ k, base ≤ k → ¬ S k) (hd : Disj ok S) : AccO E base ok w' T sz acc ys := by
  obtain ⟨rows, h1, h2, h3, h4⟩ := h
  exact ⟨rows, ownsRow_kept h1 hk hb, h2, h3, fun i hi hi' => hE.keep (h4 i hi hi') hk hd⟩
theorem AccO.list {α : Type} {E : CellsOf α} (hE : E.Ok) {base : Nat} {ok : Nat → Prop} {w : World} {T : TypeId} {sz : Nat} {acc : Value} {ys : List α} (h : AccO E base ok w T sz acc ys) (hT : TyOf sz T := by unfold TyOf; decide) : ListR E w (fun k => ok k ∨ base ≤ k) sz acc ys := by
  obtain ⟨rows, h1, h2, h3, h4⟩ := h
  refine ⟨rows, ?_, h2, fun i hi hi' => hE.mono (h4 i hi hi') (fun k _ hk => Or.inl hk)⟩
  have hl : ∀ r ∈ rows, r.length = sz := fun r hr => (h3 r hr).1
  rcases h1.2 with ⟨rfl, hn⟩ | ⟨g, cap, cur, rfl, hb, hh, hnc, hcm, hcs, htake⟩
  · exact ⟨none, 0, by rw [h2, hn], by omega, by unfold maxLen; omega, Or.inl ⟨List.eq_nil_of_length_eq_zero (by omega), Or.inl rfl⟩⟩
  · refine ⟨_, cap, by rw [h2], by omega, hcm, Or.inr ⟨g, 0, rfl, ⟨Or.inr hb, fun k _ => by simp [World.frozen?, hh], fun _ => ⟨rfl, cur, T, hh, hcs, hT⟩⟩, lt_of_block hh, fun i hi => ⟨hl _ (List.getElem_mem _), fun j hj => ?_⟩⟩⟩
    have := World.ownsRow.cells h1 (g := g) rfl (i * sz + j) rows[i][j] (flatten_get rows i j hi hl hj)
    rw [Addr.add_mid] at this
    rw [← this, Nat.add_assoc]
theorem AccO.own {α : Type} {E : CellsOf α} {base : Nat} {ok : Nat → Prop} {w : World} {T : TypeId} {sz : Nat} {acc : Value} {ys : List α} (h : AccO E base ok w T sz acc ys) : ∀ k, acc.ownBlock = some k → base ≤ k ∧ k < w.heap.size := by
  obtain ⟨rows, h1, _⟩ := h
  intro k hk
  exact World.ownsRow.lt h1 k hk
theorem AccO.shape {α : Type} {E : CellsOf α} {base : Nat} {ok : Nat → Prop} {w : World} {T : TypeId} {sz : Nat} {acc : Value} {ys : List α} (h : AccO E base ok w T sz acc ys) : ∃ A c, acc = .slice A ys.length c ∧ ys.length ≤ c ∧ c ≤ maxLen := by
  obtain ⟨rows, h1, _⟩ := h
  rcases h1.2 with ⟨rfl, hn⟩ | ⟨g, cap, cur, rfl, hb, hh, hnc, hcm, hcs, htake⟩
  · exact ⟨none, 0, by rw [hn], by omega, by unfold maxLen; omega⟩
  · exact ⟨_, cap, rfl, hnc, hcm⟩

theorem rows_flat_at {w : World} {g off sz : Nat} : ∀ (rows : List (List Value)) (s : Nat), (∀ r ∈ rows, r.length = sz) → (∀ i (h : i < rows.length) j (hj : j < rows[i].length), w.cell? ⟨g, off + (s + i) * sz + j, none⟩ = some rows[i][j]) →
    ∀ j u, rows.flatten[j]? = some u → w.cell? ⟨g, off + s * sz + j, none⟩ = some u := by
  intro rows
  induction rows with
  | nil => intro s _ _ j u hu; simp at hu
  | cons r rows ih =>
    intro s hl h j u hu
    have hr : r.length = sz := hl r (by simp)
    rw [List.flatten_cons] at hu
    by_cases hj : j < r.length
    · rw [List.getElem?_append_left hj] at hu
      have h0 := h 0 (by simp) j (by simpa using hj)
      simp only [List.getElem_cons_zero, Nat.add_zero] at h0
      rw [h0, ← hu, List.getElem?_eq_getElem hj]
    · rw [List.getElem?_append_right (by omega)] at hu
      have := ih (s + 1) (fun r' h' => hl r' (by simp [h'])) (fun i hi j hj => by
        have h1 := h (i + 1) (by simpa using hi) j (by simpa using hj)
        simp only [List.getElem_cons_succ] at h1
        rw [← h1]
        congr 3
        rw [show s + 1 + i = s + (i + 1) by omega]) (j - r.length) u hu
      rw [← this]
      congr 2
      rw [Nat.add_mul]
      omega

section
variable {P : Program} {α : Type} {E : CellsOf α}

/-- a list onto nil: a row of its own -/
theorem run_append_nil_list (hE : E.Ok) {w : World} {ok : Nat → Prop} {sz bytes : Nat} {vx : Value} {ys : List α} (h : ListR E w ok sz vx ys) (hfl : ∀ {cs x}, E w ok cs x → Flat sz cs)
    (t ty T : TypeId) (i : TypeInfo) (z : Value) (ht : P.underlying t = some (.slice T)) (hi : P.info? T = some i) (hz : i.zero = some z) (hsize : i.size = sz) (hby : i.bytes = bytes) (hzs : z.cells.size = sz) (hsz : 0 < sz)
    (hm : ys.length ≤ maxLen) (hbytes : ys.length * bytes ≤ 140737488355328) (base : Nat) (hbase : base ≤ w.heap.size) :
    ∃ v' w', (Builtin.append_ #[t, t] ty #[.slice none 0 0, vx]).run P w = .ok v' w' ∧ AccO E base ok w' T sz v' ys ∧ Kept (fun _ => False) w w' := by
  obtain ⟨rows, ⟨A, c, rfl, hlc, hmc, hat⟩, hlen, hel⟩ := h
  have hflat : ∀ r ∈ rows, Flat sz r := fun r hr => by
    obtain ⟨i, hi, rfl⟩ := List.mem_iff_getElem.1 hr
    exact hfl (hel i (by omega) hi)
  have hnone : rows = [] → ∃ v' w', (Builtin.append_ #[t, t] ty #[.slice none 0 0, .slice A rows.length c]).run P w = .ok v' w' ∧ AccO E base ok w' T sz v' ys ∧ Kept (fun _ => False) w w' := fun h0 => by
    subst h0
    have hy : ys = [] := List.eq_nil_of_length_eq_zero (by simpa using hlen.symm)
    subst hy
    refine ⟨.slice none 0 0, w, ?_, AccO.nil E base ok w T sz, Kept.refl _ w⟩
    have hs : Src P i.size t (.slice A 0 c) 0 [] w := by
      cases A with
      | none => exact Src.ofNil w ht c
      | some a => exact Src.ofSlice w ht a 0 c [] (by simp) (fun j u hu => by simp at hu) (by simp)
    exact run_append_nothing w t t ty T i ht hi none 0 0 (Nat.le_refl _) (.slice A 0 c) hs
  rcases hat with h0 | ⟨g, off, rfl, hok, hg, hcell⟩
  · exact hnone h0.1
  · have hl : ∀ r ∈ rows, r.length = sz := fun r hr => (hflat r hr).1
    have hcs := rows_flat_at (w := w) (g := g) (off := off) (sz := sz) rows 0 hl (fun i hi j hj => by rw [Nat.zero_add]; exact (hcell i hi).2 j hj)
    rw [Nat.zero_mul, Nat.add_zero] at hcs
    obtain ⟨v', w', hr, h2, h3, h4, h5⟩ := run_append_own_at (P := P) w base t ty T i z sz bytes ht hi hz hsize hby hzs hsz (.slice none 0 0) 0 [] (World.ownsRow_nil w base T sz) ⟨g, off, none⟩ rows.length c rows.flatten (flatten_len rows hl)
      (fun j u hu => by rw [Addr.add_mid]; exact hcs j u hu) (fun u hu => by
        obtain ⟨r, hr, hur⟩ := List.mem_flatten.1 hu
        exact (hflat r hr).2 u hur) (by omega) (by rw [Nat.zero_add, hlen]; exact hbytes) hbase
    have hk : Kept (fun _ => False) w w' := (Kept.of_grownBy h3).mono (fun k _ hk => by simp [Value.ownBlock] at hk)
    refine ⟨v', w', hr, ⟨rows, ?_, hlen, hflat, fun i hi hi' => hE.keep (hel i hi hi') hk (disj_none _)⟩, hk⟩
    rw [Nat.zero_add, List.nil_append, hlen] at h2
    exact h2

/-- one row more -/
theorem run_append_one_more (hE : E.Ok) {w : World} {ok : Nat → Prop} {sz bytes : Nat} {acc : Value} {ys : List α} {base : Nat} {T : TypeId} (h : AccO E base ok w T sz acc ys) (hok : ∀ k, ok k → k < base)
    {B c : Nat} {cs : List Value} {y : α} (hB : w.rangeAt B 0 cs) (hy : E w ok cs y) (hfl : Flat sz cs)
    (t ty : TypeId) (i : TypeInfo) (z : Value) (ht : P.underlying t = some (.slice T)) (hi : P.info? T = some i) (hz : i.zero = some z) (hsize : i.size = sz) (hby : i.bytes = bytes) (hzs : z.cells.size = sz) (hsz : 0 < sz)
    (hm : ys.length + 1 ≤ maxLen) (hbytes : (ys.length + 1) * bytes ≤ 140737488355328) (hbase : base ≤ w.heap.size) :
    ∃ v' w', (Builtin.append_ #[t, t] ty #[acc, .slice (some ⟨B, 0, none⟩) 1 c]).run P w = .ok v' w' ∧ AccO E base ok w' T sz v' (ys ++ [y]) ∧ Kept (fun k => base ≤ k) w w' := by
  have hown := h.own
  obtain ⟨rows, h1, hlen, hflat, hel⟩ := h
  obtain ⟨v', w', hr, h2, h3, h4, h5⟩ := run_append_own_at (P := P) w base t ty T i z sz bytes ht hi hz hsize hby hzs hsz acc ys.length rows.flatten h1 ⟨B, 0, none⟩ 1 c cs (by rw [hfl.1, Nat.one_mul])
    (fun j u hu => by rw [Addr.add_mid]; exact hB j u hu) hfl.2 hm hbytes hbase
  have hk : Kept (fun k => base ≤ k) w w' := (Kept.of_grownBy h3).mono (fun k _ hk => (hown k hk.symm).1)
  have hd : Disj ok (fun k => base ≤ k) := fun k a b => by have := hok k a; omega
  refine ⟨v', w', hr, ⟨rows ++ [cs], by simpa using h2, by simp [hlen], fun r hr => ?_, fun i hi' hi2 => ?_⟩, hk⟩
  · rcases List.mem_append.1 hr with hr | hr
    · exact hflat r hr
    · rw [List.mem_singleton.1 hr]; exact hfl
  · by_cases hlt : i < ys.length
    · have := hE.keep (hel i hlt (by omega)) hk hd
      rw [List.getElem_append_left (by omega), List.getElem_append_left hlt]
      exact this
    · have hi3 : i = ys.length := by simp at hi'; omega
      subst hi3
      have := hE.keep hy hk hd
      rw [List.getElem_append_right (by omega), List.getElem_append_right (by omega)]
      simp only [hlen, Nat.sub_self, List.getElem_cons_zero]
      exact this

/-- at the list of a plain region's operations -/
theorem wpList_append_run {w : World} {ops : Array Oper} {rest : List Oper} {o : Oper} {a : Act} {Q : Exit → Act → World → Prop} (hgd : o.guard = none) (s x : Operand) (t : TypeId)
    (ho : o.op = .call { callee := .builtin .append, args := #[s, x], argTypes := #[t, t] }) (vs vx : Value) (hs : a.eval s = vs) (hx : a.eval x = vx) (v' : Value) (w' : World) (hr : (Builtin.append_ #[t, t] o.type #[vs, vx]).run P w = .ok v' w')
    (h : wpList P ops Q rest (a.put o.dst v') w') : wpList P ops Q (o :: rest) a w :=
  wpList_plain hgd fun _ hK => by
    unfold Oper.wp execOp
    simp only [ho, resolve, invoke, builtin, Sem.run_bind, Sem.run_pure, Result.andThen_ok, List.map_toArray, List.map_cons, List.map_nil, hs, hx, hr]
    exact hK _ _ h

/-- at a step of a region that draws its order -/
theorem step_append_run {w : World} {ops : Array Oper} {o : Oper} {a : Act} {K : Act → World → Prop} {Q : Exit → Act → World → Prop} {F : Prop} (hgd : o.guard = none) (s x : Operand) (t : TypeId)
    (ho : o.op = .call { callee := .builtin .append, args := #[s, x], argTypes := #[t, t] }) (vs vx : Value) (hs : a.eval s = vs) (hx : a.eval x = vx) (v' : Value) (w' : World) (hr : (Builtin.append_ #[t, t] o.type #[vs, vx]).run P w = .ok v' w')
    (h : K (a.put o.dst v') w') : if Region.wanted o (yielded ops a.tmps) = true then Oper.wp P o a w K Q else F := by
  have hw : Region.wanted o (yielded ops a.tmps) = true := by simp [Region.wanted, hgd]
  rw [if_pos hw]
  unfold Oper.wp execOp
  simp only [ho, resolve, invoke, builtin, Sem.run_bind, Sem.run_pure, Result.andThen_ok, List.map_toArray, List.map_cons, List.map_nil, hs, hx, hr]
  exact h

/-- a list onto nil, at a step: since w5 nothing that was there has turned -/
theorem step_nil_list (hE : E.Ok) {w5 W : World} {ok : Nat → Prop} {sz bytes : Nat} {vx : Value} {ys : List α} (h : ListR E w5 ok sz vx ys) (hO : Old w5 W) (hfl : ∀ {w : World} {ok : Nat → Prop} {cs x}, E w ok cs x → Flat sz cs)
    {ops : Array Oper} {o : Oper} {a : Act} {K : Act → World → Prop} {Q : Exit → Act → World → Prop} {F : Prop} (hgd : o.guard = none) (s x : Operand) (t : TypeId)
    (ho : o.op = .call { callee := .builtin .append, args := #[s, x], argTypes := #[t, t] }) (hs : a.eval s = .slice none 0 0) (hx : a.eval x = vx)
    (T : TypeId) (i : TypeInfo) (z : Value) (ht : P.underlying t = some (.slice T)) (hi : P.info? T = some i) (hz : i.zero = some z) (hsize : i.size = sz) (hby : i.bytes = bytes) (hzs : z.cells.size = sz) (hsz : 0 < sz)
    (hm : ys.length ≤ maxLen) (hbytes : ys.length * bytes ≤ 140737488355328)
    (hh : ∀ v' w', AccO E w5.heap.size ok w' T sz v' ys → Old W w' → Old w5 w' → K (a.put o.dst v') w') : if Region.wanted o (yielded ops a.tmps) = true then Oper.wp P o a W K Q else F := by
  obtain ⟨v', w', hr, h1, h2⟩ := run_append_nil_list (P := P) hE (ListR.keep hE h hO (disj_none _)) hfl t o.type T i z ht hi hz hsize hby hzs hsz hm hbytes w5.heap.size hO.size
  exact step_append_run hgd s x t ho _ _ hs hx v' w' hr (hh v' w' h1 h2 (hO.none h2))
/-- one row more, at a step -/
theorem step_one_more (hE : E.Ok) {w5 wA W : World} {ok : Nat → Prop} {sz bytes : Nat} {acc : Value} {ys : List α} {T : TypeId} (h : AccO E w5.heap.size ok wA T sz acc ys) (hOA : Old wA W) (hO : Old w5 W) (hok : ∀ k, ok k → k < w5.heap.size) (hOA5 : Old w5 wA)
    {B c : Nat} {cs : List Value} {y : α} (hB : W.heap[B]? = some (.cells cs.toArray T (0, 0))) (hy : E w5 ok cs y) (hfl : Flat sz cs)
    {ops : Array Oper} {o : Oper} {a : Act} {K : Act → World → Prop} {Q : Exit → Act → World → Prop} {F : Prop} (hgd : o.guard = none) (s x : Operand) (t : TypeId)
    (ho : o.op = .call { callee := .builtin .append, args := #[s, x], argTypes := #[t, t] }) (hs : a.eval s = acc) (hx : a.eval x = .slice (some ⟨B, 0, none⟩) 1 c)
    (i : TypeInfo) (z : Value) (ht : P.underlying t = some (.slice T)) (hi : P.info? T = some i) (hz : i.zero = some z) (hsize : i.size = sz) (hby : i.bytes = bytes) (hzs : z.cells.size = sz) (hsz : 0 < sz)
    (hm : ys.length + 1 ≤ maxLen) (hbytes : (ys.length + 1) * bytes ≤ 140737488355328)
    (hh : ∀ v' w', AccO E w5.heap.size ok w' T sz v' (ys ++ [y]) → Old w5 w' → K (a.put o.dst v') w') : if Region.wanted o (yielded ops a.tmps) = true then Oper.wp P o a W K Q else F := by
  have h' := h.keep hE hOA (fun _ _ f => f) (disj_none _)
  obtain ⟨v', w', hr, h1, h2⟩ := run_append_one_more (P := P) hE h' hok (range_row hB) (hE.keep hy hO (disj_none _)) hfl t o.type i z ht hi hz hsize hby hzs hsz hm hbytes hO.size
  exact step_append_run hgd s x t ho _ _ hs hx v' w' hr (hh v' w' h1 (hO.step h2 (fun k hk => hk)))
end
end Go.Proofs.YtpmemcpfoapjmaaGreat

namespace Go.Proofs.YtpmemcpfoapjmaaGreat
open Go.ChangeShapes Go.WideShapes Go.ChangeAt Go.RowKit
set_option linter.unusedVariables false

/-- v is nil, or a block of its own of that type between base and top, with room for its capacity -/
structure OwnL (w : World) (base top : Nat) (T : TypeId) (sz : Nat) (v : Value) : Prop where
  ex : ∃ A n c, v = .slice A n c ∧ n ≤ c ∧ c ≤ maxLen ∧ (c = 0 ∨ ∃ g cur, A = some ⟨g, 0, none⟩ ∧ base ≤ g ∧ g < top ∧ w.heap[g]? = some (.cells cur T (0, 0)) ∧ cur.size = c * sz)

theorem ListR.owns {α : Type} {E : CellsOf α} {w : World} {ok : Nat → Prop} {sz : Nat} {v : Value} {l : List α} (h : ListR E w ok sz v l) {T : TypeId} (hT : ∀ T', TyOf sz T' → T' = T) (h0 : ¬ ok 0) {base : Nat} (hb : ∀ k, ok k → base ≤ k) : OwnL w base w.heap.size T sz v := by
  obtain ⟨rows, ⟨A, c, rfl, hc, hm, hat⟩, hlen, hel⟩ := h
  refine ⟨A, rows.length, c, rfl, hc, hm, ?_⟩
  rcases hat with ⟨_, h1 | h1⟩ | ⟨g, off, hA, hok, hg, hcell⟩
  · exact Or.inl h1
  · exact absurd h1.1 h0
  · obtain ⟨rfl, cur, T', h2, h3, h4⟩ := hok.2.2 h0
    rw [hT T' h4] at h2
    exact Or.inr ⟨g, cur, hA, hb g hok.1, hg, h2, h3⟩

theorem setCells_block (w : World) (b o : Nat) (vs : List Value) {g : Nat} {cur : Array Value} {T : TypeId} (h : w.heap[g]? = some (.cells cur T (0, 0))) : ∃ cur', (w.setCells b o vs).heap[g]? = some (.cells cur' T (0, 0)) ∧ cur'.size = cur.size := by
  induction vs generalizing o w cur with
  | nil => exact ⟨cur, h, rfl⟩
  | cons v vs ih =>
    rw [World.setCells]
    by_cases hb : b = g
    · subst hb
      have h1 := setCell_row (w := w) (g := b) (i := o) (c := cur.toList) (T := T) (v := v) (by simpa using h)
      rw [h1]
      obtain ⟨cur', h2, h3⟩ := ih (w.setRow b (cur.toList.set o v).toArray) (o + 1) (setRow_heap _ _ _ _ _ _ h)
      exact ⟨cur', h2, by rw [h3]; simp⟩
    · have h1 : (w.setCell ⟨b, o, none⟩ v).heap[g]? = some (.cells cur T (0, 0)) := by
        rw [(Kept.setCell (S := fun k => k = b) (Kept.refl _ w) (a := ⟨b, o, none⟩) (Or.inl rfl) v).block g (lt_of_block h) (fun e => hb (by have e' : g = b := e; exact e'.symm))]
        exact h
      exact ih _ (o + 1) h1

section
variable {w w' : World} {base top : Nat} {T : TypeId} {sz : Nat} {v : Value}
theorem OwnL.keep {S : Nat → Prop} (h : OwnL w base top T sz v) (hk : Kept S w w') (hs : ∀ k, base ≤ k → k < top → ¬ S k) : OwnL w' base top T sz v := by
  obtain ⟨A, n, c, rfl, hc, hm, hx⟩ := h.ex
  refine ⟨A, n, c, rfl, hc, hm, ?_⟩
  rcases hx with h0 | ⟨g, cur, hA, hb, hg, hh, hz⟩
  · exact Or.inl h0
  · exact Or.inr ⟨g, cur, hA, hb, hg, by rw [hk.block g (lt_of_block hh) (hs g hb hg)]; exact hh, hz⟩
theorem OwnL.set (h : OwnL w base top T sz v) (b o : Nat) (vs : List Value) : OwnL (w.setCells b o vs) base top T sz v := by
  obtain ⟨A, n, c, rfl, hc, hm, hx⟩ := h.ex
  refine ⟨A, n, c, rfl, hc, hm, ?_⟩
  rcases hx with h0 | ⟨g, cur, hA, hb, hg, hh, hz⟩
  · exact Or.inl h0
  · obtain ⟨cur', h1, h2⟩ := setCells_block w b o vs hh
    exact Or.inr ⟨g, cur', hA, hb, hg, h1, by rw [h2, hz]⟩
theorem OwnL.shape (h : OwnL w base top T sz v) : IsSl v := by
  obtain ⟨A, n, c, rfl, _⟩ := h.ex
  exact ⟨A, n, c, rfl⟩
theorem OwnL.len {A : Option Addr} {n c : Nat} (h : OwnL w base top T sz (.slice A n c)) : n ≤ c ∧ c ≤ maxLen := by
  obtain ⟨A', n', c', hv, hc, hm, hx⟩ := h.ex
  simp only [Value.slice.injEq] at hv
  obtain ⟨rfl, rfl, rfl⟩ := hv
  exact ⟨hc, hm⟩
/-- the place of the element i -/
theorem OwnL.at_ {A : Option Addr} {n c : Nat} (h : OwnL w base top T sz (.slice A n c)) {i : Nat} (hi : i < n) : ∃ g, A = some ⟨g, 0, none⟩ ∧ base ≤ g ∧ g < top ∧ w.there g (i * sz) sz ∧ ∃ cur, w.heap[g]? = some (.cells cur T (0, 0)) := by
  obtain ⟨A', n', c', hv, hc, hm, hx⟩ := h.ex
  simp only [Value.slice.injEq] at hv
  obtain ⟨rfl, rfl, rfl⟩ := hv
  rcases hx with h0 | ⟨g, cur, hA, hb, hg, hh, hz⟩
  · omega
  · refine ⟨g, hA, hb, hg, fun j hj => ?_, cur, hh⟩
    have hm' : (i + 1) * sz ≤ c * sz := Nat.mul_le_mul_right _ (by omega)
    rw [Nat.add_mul, Nat.one_mul] at hm'
    have hlt : i * sz + j < cur.size := by omega
    refine ⟨?_, by simp [World.frozen?, hh]⟩
    have := cell_of_row w g (i * sz + j) cur T (0, 0) hh
    rw [this]
    simp [hlt]
theorem OwnL.block {g n c : Nat} (h : OwnL w base top T sz (.slice (some ⟨g, 0, none⟩) n c)) (hn : 0 < n) : base ≤ g ∧ g < top ∧ ∃ cur : Array Value, w.heap[g]? = some (.cells cur T (0, 0)) := by
  obtain ⟨A', n', c', hv, hc, hm, hx⟩ := h.ex
  simp only [Value.slice.injEq] at hv
  obtain ⟨rfl, rfl, rfl⟩ := hv
  rcases hx with h0 | ⟨g', cur, hA, hb, hg, hh, hz⟩
  · omega
  · simp only [Option.some.injEq, Addr.mk.injEq, and_true] at hA
    subst hA
    exact ⟨hb, hg, cur, hh⟩
end

/-- of the rows from i on, the list in the cell at is such a one -/
def RowsOwn (w : World) (base top : Nat) (vs : Value) (i : Nat) : Prop :=
  ∀ gs n c, vs = .slice (some ⟨gs, 0, none⟩) n c → ∀ j, i ≤ j → j < n → ∃ v, w.cell? ⟨gs, j * 8 + 3, none⟩ = some v ∧ OwnL w base top 56 2 v

theorem rows_own {w : World} {ok : Nat → Prop} {vs : Value} {l : List Part} (h : ListR partE w ok 8 vs l) (h0 : ¬ ok 0) {base : Nat} (hb : ∀ k, ok k → base ≤ k) : RowsOwn w base w.heap.size vs 0 := by
  obtain ⟨rows, ⟨A, c, rfl, hc, hm, hat⟩, hlen, hel⟩ := h
  intro gs n c' hv j _ hj
  simp only [Value.slice.injEq] at hv
  obtain ⟨rfl, rfl, rfl⟩ := hv
  rcases hat with ⟨h1, _⟩ | ⟨g, off, hA, hok, hg, hcell⟩
  · rw [h1] at hj; simp at hj
  · obtain ⟨hoff, _⟩ := hok.2.2 h0
    subst hoff
    simp only [Option.some.injEq, Addr.mk.injEq, and_true] at hA
    subst hA
    obtain ⟨vsubs, vacl, hrow, hacl, _⟩ := hel j (by omega) hj
    have hlr := (hcell j hj).1
    have h3 := (hcell j hj).2 3 (by omega)
    refine ⟨vacl, ?_, hacl.owns (fun T' h => h.1 rfl) h0 hb⟩
    rw [Nat.zero_add] at h3
    rw [h3]
    simp [hrow]

theorem types_apart {w : World} {g g' : Nat} {cur cur' : Array Value} (h : w.heap[g]? = some (.cells cur 36 (0, 0))) (h' : w.heap[g']? = some (.cells cur' 56 (0, 0))) : g ≠ g' := by
  intro e
  subst e
  rw [h] at h'
  simp at h'
end Go.Proofs.YtpmemcpfoapjmaaGreat

namespace Go.Proofs.YtpmemcpfoapjmaaGreat
open Go.ChangeShapes Go.WideShapes Go.ChangeAt Go.RowKit
set_option linter.unusedVariables false

structure Soft (base top : Nat) (w0 w : World) : Prop where
  kept : Kept (Mid base top) w0 w
  own : ∀ (g : Nat) (cur : Array Value) (T : TypeId), w0.heap[g]? = some (.cells cur T (0, 0)) → ∃ cur' : Array Value, w.heap[g]? = some (.cells cur' T (0, 0)) ∧ cur'.size = cur.size
  entry : ∀ (g : Nat) (cur : Array Value), w0.heap[g]? = some (.cells cur 38 (0, 0)) → w.heap[g]? = w0.heap[g]?
  rows : ∀ (g : Nat) (cur : Array Value), w0.heap[g]? = some (.cells cur 36 (0, 0)) → ∀ j : Nat, w.cell? ⟨g, j * 8 + 3, none⟩ = w0.cell? ⟨g, j * 8 + 3, none⟩ ∨ w.cell? ⟨g, j * 8 + 3, none⟩ = some (.slice none 0 0)

theorem RowsOwn.keep {w w' : World} {base top : Nat} {vs : Value} {i : Nat} {S : Nat → Prop} (h : RowsOwn w base top vs i) (ho : OwnL w base top 36 8 vs) (hk : Kept S w w') (hs : ∀ k, base ≤ k → k < top → ¬ S k) : RowsOwn w' base top vs i := by
  intro gs n c hv j hij hj
  obtain ⟨v, hc, hv'⟩ := h gs n c hv j hij hj
  rw [hv] at ho
  obtain ⟨h1, h2, cur, h3⟩ := ho.block (by omega)
  exact ⟨v, by rw [World.cell?_of_block (hk.block gs (lt_of_block h3) (hs gs h1 h2))]; exact hc, hv'.keep hk hs⟩
theorem Soft.refl (base top : Nat) (w : World) : Soft base top w w := ⟨Kept.refl _ _, fun g cur T h => ⟨cur, h, rfl⟩, fun _ _ _ => rfl, fun _ _ _ _ => Or.inl rfl⟩
theorem own_nil (w : World) (base top : Nat) (T : TypeId) (sz : Nat) : OwnL w base top T sz (.slice none 0 0) := ⟨none, 0, 0, rfl, Nat.le_refl _, by unfold maxLen; omega, Or.inl rfl⟩
section
variable {w0 w w' : World} {base top : Nat} {T : TypeId} {sz : Nat} {v : Value}
theorem OwnL.soft (h : OwnL w0 base top T sz v) (hs : Soft base top w0 w) : OwnL w base top T sz v := by
  obtain ⟨A, n, c, rfl, hc, hm, hx⟩ := h.ex
  refine ⟨A, n, c, rfl, hc, hm, ?_⟩
  rcases hx with h0 | ⟨g, cur, rfl, hb, hg, hh, hz⟩
  · exact Or.inl h0
  · obtain ⟨cur', h1, h2⟩ := hs.own g cur T hh
    exact Or.inr ⟨g, cur', rfl, hb, hg, h1, by rw [h2, hz]⟩
theorem RowsOwn.soft {i : Nat} (h : RowsOwn w0 base top v i) (ho : OwnL w0 base top 36 8 v) (hs : Soft base top w0 w) : RowsOwn w base top v i := by
  intro gs n c hv j hij hj
  obtain ⟨u, hc, hu⟩ := h gs n c hv j hij hj
  rw [hv] at ho
  obtain ⟨_, _, cur, hh⟩ := ho.block (by omega)
  rcases hs.rows gs cur hh j with h1 | h1
  · exact ⟨u, by rw [h1]; exact hc, hu.soft hs⟩
  · exact ⟨_, h1, own_nil _ _ _ _ _⟩
theorem Soft.old (h : Soft base top w0 w) (hk : Old w w') : Soft base top w0 w' := by
  have hl : ∀ (g : Nat) (cur : Array Value) (T : TypeId), w0.heap[g]? = some (.cells cur T (0, 0)) → w'.heap[g]? = w.heap[g]? := fun g cur T hg => by
    obtain ⟨cur', h1, _⟩ := h.own g cur T hg
    exact hk.block g (lt_of_block h1) id
  refine ⟨h.kept.trans (hk.mono (fun _ _ f => f.elim)), fun g cur T hg => ?_, fun g cur hg => ?_, fun g cur hg j => ?_⟩
  · rw [hl g cur T hg]; exact h.own g cur T hg
  · rw [hl g cur _ hg]; exact h.entry g cur hg
  · rw [World.cell?_of_block (a := ⟨g, j * 8 + 3, none⟩) (hl g cur _ hg)]; exact h.rows g cur hg j
theorem Soft.trans_ (h : Soft base top w0 w) (k : Soft base top w w') : Soft base top w0 w' := by
  refine ⟨h.kept.trans k.kept, fun g cur T hg => ?_, fun g cur hg => ?_, fun g cur hg j => ?_⟩
  · obtain ⟨c1, h1, h2⟩ := h.own g cur T hg
    obtain ⟨c2, h3, h4⟩ := k.own g c1 T h1
    exact ⟨c2, h3, h4.trans h2⟩
  · have h1 := h.entry g cur hg
    exact (k.entry g cur (h1.trans hg)).trans h1
  · obtain ⟨c1, h1, h2⟩ := h.own g cur _ hg
    rcases k.rows g c1 h1 j with h3 | h3
    · rw [h3]; exact h.rows g cur hg j
    · exact Or.inr h3
/-- a block that was not there at first -/
theorem Soft.newer (h : Soft base top w0 w) {g : Nat} (hg : w0.heap.size ≤ g) (o : Nat) (vs : List Value) : Soft base top w0 (w.setCells g o vs) := by
  have hne : ∀ (k : Nat) (cur : Array Value) (T : TypeId), w0.heap[k]? = some (.cells cur T (0, 0)) → k ≠ g := fun k cur T hk => by have := lt_of_block hk; omega
  refine ⟨Kept.trans' h.kept (setCells_kept w g o vs) (fun k hk hs => by have hs' : k = g := hs; omega), fun k cur T hk => ?_, fun k cur hk => ?_, fun k cur hk j => ?_⟩
  · rw [heap_setCells w g o vs (hne k cur T hk)]; exact h.own k cur T hk
  · rw [heap_setCells w g o vs (hne k cur _ hk)]; exact h.entry k cur hk
  · rw [World.cell?_of_block (a := ⟨k, j * 8 + 3, none⟩) (heap_setCells w g o vs (hne k cur _ hk))]; exact h.rows k cur hk j
/-- a block of another type than those of the rows -/
theorem Soft.misc (h : Soft base top w0 w) {g : Nat} {cur : Array Value} (hg : w.heap[g]? = some (.cells cur T (0, 0))) (hT : T ≠ 36) (hE : T ≠ 38) (hb : base ≤ g) (ht : g < top) (o : Nat) (vs : List Value) : Soft base top w0 (w.setCells g o vs) := by
  have hne : ∀ (k : Nat) (cur' : Array Value) (T' : TypeId), w0.heap[k]? = some (.cells cur' T' (0, 0)) → T' ≠ T → k ≠ g := fun k cur' T' hk hT' e => by
    obtain ⟨c2, h1, _⟩ := h.own k cur' T' hk
    rw [e, hg] at h1
    simp only [Option.some.injEq, Obj.cells.injEq] at h1
    exact hT' h1.2.1.symm
  refine ⟨Mid.set h.kept hb ht, fun k c2 T2 hk => ?_, fun k c2 hk => ?_, fun k c2 hk j => ?_⟩
  · obtain ⟨c3, h1, h2⟩ := h.own k c2 T2 hk
    obtain ⟨c4, h3, h4⟩ := setCells_block w g o vs h1
    exact ⟨c4, h3, by rw [h4, h2]⟩
  · rw [heap_setCells w g o vs (hne k c2 _ hk (Ne.symm hE))]; exact h.entry k c2 hk
  · rw [World.cell?_of_block (a := ⟨k, j * 8 + 3, none⟩) (heap_setCells w g o vs (hne k c2 _ hk (Ne.symm hT)))]; exact h.rows k c2 hk j
theorem txn_entry (h : 36 = (38 : Nat)) : False := by revert h; decide
/-- cells of a block of rows, none of them a list of its own but one that is nil then -/
theorem Soft.txn (h : Soft base top w0 w) {g : Nat} {cur : Array Value} (hg : w.heap[g]? = some (.cells cur 36 (0, 0))) (hb : base ≤ g) (ht : g < top) (o : Nat) (vs : List Value)
    (hr : ∀ j : Nat, (w.setCells g o vs).cell? ⟨g, j * 8 + 3, none⟩ = w.cell? ⟨g, j * 8 + 3, none⟩ ∨ (w.setCells g o vs).cell? ⟨g, j * 8 + 3, none⟩ = some (.slice none 0 0)) : Soft base top w0 (w.setCells g o vs) := by
  have hne : ∀ (k : Nat) (cur' : Array Value) (T' : TypeId), w0.heap[k]? = some (.cells cur' T' (0, 0)) → T' ≠ 36 → k ≠ g := fun k cur' T' hk hT' e => by
    obtain ⟨c2, h1, _⟩ := h.own k cur' T' hk
    rw [e, hg] at h1
    simp only [Option.some.injEq, Obj.cells.injEq] at h1
    exact hT' h1.2.1.symm
  refine ⟨Mid.set h.kept hb ht, fun k c2 T2 hk => ?_, fun k c2 hk => ?_, fun k c2 hk j => ?_⟩
  · obtain ⟨c3, h1, h2⟩ := h.own k c2 T2 hk
    obtain ⟨c4, h3, h4⟩ := setCells_block w g o vs h1
    exact ⟨c4, h3, by rw [h4, h2]⟩
  · rw [heap_setCells w g o vs (hne k c2 _ hk (fun e => txn_entry e.symm))]; exact h.entry k c2 hk
  · by_cases hkg : k = g
    · subst hkg
      rcases hr j with h1 | h1
      · rw [h1]; exact h.rows k c2 hk j
      · exact Or.inr h1
    · rw [World.cell?_of_block (a := ⟨k, j * 8 + 3, none⟩) (heap_setCells w g o vs hkg)]; exact h.rows k c2 hk j
theorem row_nil {g i : Nat} {vs : List Value} (hth : w.there g (i * 8) 8) (hl : vs.length = 8) (h3 : vs[3]? = some (.slice none 0 0)) (j : Nat) : (w.setCells g (i * 8) vs).cell? ⟨g, j * 8 + 3, none⟩ = w.cell? ⟨g, j * 8 + 3, none⟩ ∨ (w.setCells g (i * 8) vs).cell? ⟨g, j * 8 + 3, none⟩ = some (.slice none 0 0) := by
  by_cases hj : j = i
  · subst hj
    right
    have h := World.cell?_setCells_in g vs (j * 8) w (fun k hk => (hth k (by omega)).1) 3 (by omega)
    rw [h]
    obtain ⟨_, h4⟩ := List.getElem?_eq_some_iff.1 h3
    rw [h4]
  · left
    refine World.cell?_setCells_out g vs (i * 8) w _ (fun _ _ => ?_)
    simp only
    omega
theorem Soft.row (h : Soft base top w0 w) {g i : Nat} {cur : Array Value} (hg : w.heap[g]? = some (.cells cur 36 (0, 0))) (hb : base ≤ g) (ht : g < top) (vs : List Value) (hth : w.there g (i * 8) 8) (hl : vs.length = 8) (h3 : vs[3]? = some (.slice none 0 0)) : Soft base top w0 (w.setCells g (i * 8) vs) :=
  h.txn hg hb ht _ _ (row_nil hth hl h3)
theorem Soft.cell4 (h : Soft base top w0 w) {g i : Nat} {cur : Array Value} (hg : w.heap[g]? = some (.cells cur 36 (0, 0))) (hb : base ≤ g) (ht : g < top) (u : Value) : Soft base top w0 (w.setCells g (i * 8 + 4) [u]) :=
  h.txn hg hb ht _ _ (fun j => Or.inl (World.cell?_setCells_out g [u] (i * 8 + 4) w _ (fun _ _ => by simp only [List.length_cons, List.length_nil]; omega)))
end

/-- one row more: where it lies, in place or in a block that is new -/
theorem run_append_soft {P : Program} {w : World} {base top : Nat} {T : TypeId} {sz bytes : Nat} {A : Option Addr} {n c : Nat} (h : OwnL w base top T sz (.slice A n c)) {B c1 : Nat} {cs : List Value} (hB : w.rangeAt B 0 cs) (hfl : Flat sz cs)
    (t ty : TypeId) (i : TypeInfo) (z : Value) (ht : P.underlying t = some (.slice T)) (hi : P.info? T = some i) (hz : i.zero = some z) (hsize : i.size = sz) (hby : i.bytes = bytes) (hzs : z.cells.size = sz) (hsz : 0 < sz)
    (hn : n ≤ 1000) (hbs : bytes ≤ 1000) :
    ∃ g c' w', (Builtin.append_ #[t, t] ty #[.slice A n c, .slice (some ⟨B, 0, none⟩) 1 c1]).run P w = .ok (.slice (some ⟨g, 0, none⟩) (n + 1) c') w' ∧ n + 1 ≤ c' ∧ c' ≤ maxLen ∧ w'.there g (n * sz) sz ∧ (∃ cur : Array Value, w'.heap[g]? = some (.cells cur T (0, 0))) ∧
      ((g = w.heap.size ∧ Old w w') ∨ (base ≤ g ∧ g < top ∧ (∃ cur : Array Value, w.heap[g]? = some (.cells cur T (0, 0))) ∧ w.there g (n * sz) sz ∧ w' = w.setCells g (n * sz) cs)) := by
  subst hsize
  subst hby
  have hbytes : (n + 1) * i.bytes ≤ 140737488355328 := by
    have : (n + 1) * i.bytes ≤ 1001 * 1000 := Nat.mul_le_mul (by omega) hbs
    omega
  have hnew : ∀ (xs : List Value) (old : Nat), xs.length = n * i.size → old < n + 1 → ∃ g c' w', w.drew.alloc (.cells (xs.toArray ++ cs.toArray ++ Builtin.zeroCells z.cells (grownCap w (n + 1) old T - (n + 1))) T) = w' ∧ g = w.heap.size ∧ c' = grownCap w (n + 1) old T ∧ n + 1 ≤ c' ∧ c' ≤ maxLen ∧ w'.there g (n * i.size) i.size ∧ (∃ cur : Array Value, w'.heap[g]? = some (.cells cur T (0, 0))) ∧ Old w w' := by
    intro xs old hx ho
    have hh : (w.drew.alloc (.cells (xs.toArray ++ cs.toArray ++ Builtin.zeroCells z.cells (grownCap w (n + 1) old T - (n + 1))) T)).heap[w.heap.size]? = some (.cells (xs.toArray ++ cs.toArray ++ Builtin.zeroCells z.cells (grownCap w (n + 1) old T - (n + 1))) T (0, 0)) := heap_alloc_new w.drew _
    refine ⟨_, _, _, rfl, rfl, rfl, grownCap_ge w (n + 1) old T, grownCap_le_maxLen w (n + 1) old T (by unfold maxLen; omega), fun j hj => ⟨?_, ?_⟩, ⟨_, hh⟩, ((Kept.refl (fun _ => False) w).drewN 1).alloc _⟩
    · rw [cell_of_row _ _ (n * i.size + j) _ T (0, 0) hh]
      have hlt : n * i.size + j < (xs.toArray ++ cs.toArray ++ Builtin.zeroCells z.cells (grownCap w (n + 1) old T - (n + 1))).size := by
        simp only [Array.size_append, List.size_toArray, hx, hfl.1]; omega
      rw [Array.getElem?_eq_getElem hlt]; rfl
    · unfold World.frozen?
      rw [hh]
      simp
  obtain ⟨A', n', c', hv, hnc, hcm, hx⟩ := h.ex
  simp only [Value.slice.injEq] at hv
  obtain ⟨rfl, rfl, rfl⟩ := hv
  rcases hx with rfl | ⟨g, cur, rfl, hb, hg, hh, hcz⟩
  · obtain rfl : n = 0 := by omega
    obtain ⟨g, c', w', h1, h2, h3, h4, h5, h6, h7, h8⟩ := hnew [] 0 (by simp) (by omega)
    have hcb : ∀ j u, cs[j]? = some u → w.cell? ((⟨B, 0, none⟩ : Addr).add j) = some u := fun j u hu => by rw [Addr.add_mid]; exact hB j u hu
    have hsm : 1 * i.bytes ≤ 281474976710656 := by have hb := hbytes; simp only [Nat.zero_add] at hb; omega
    cases A with
    | none =>
      have hr := run_append_nil (P := P) w t ty T i z ht hi hz ⟨B, 0, none⟩ 1 c1 cs (by rw [hfl.1, Nat.one_mul]) hcb (by omega) (by omega) hsm
      simp only [Array.empty_append, Nat.zero_add] at h1 h3
      exact ⟨g, c', w', by rw [hr, h1, h2, h3], h4, h5, h6, h7, Or.inl ⟨h2, h8⟩⟩
    | some a =>
      have hr := run_append_grow (P := P) w t ty T i z ht hi hz a 0 0 [] (by simp) (fun j u hu => by simp at hu) ⟨B, 0, none⟩ 1 c1 cs (by rw [hfl.1, Nat.one_mul]) hcb (by omega) (by omega) (growslice_fits (by omega) hbytes)
      exact ⟨g, c', w', by rw [hr, h1, h2, h3], h4, h5, h6, h7, Or.inl ⟨h2, h8⟩⟩
  · by_cases hroom : n + 1 ≤ c
    · have hle : (n + 1) * i.size ≤ c * i.size := Nat.mul_le_mul_right _ hroom
      rw [Nat.add_mul, Nat.one_mul] at hle
      have hth : w.there g (n * i.size) i.size := fun j hj => by
        have hlt : n * i.size + j < cur.size := by omega
        refine ⟨?_, by simp [World.frozen?, hh]⟩
        rw [cell_of_row w g (n * i.size + j) cur T (0, 0) hh, Array.getElem?_eq_getElem hlt]; rfl
      have hf := run_firstCells_some (P := P) w i.size 1 ⟨B, 0, none⟩ 1 c1 cs (by rw [hfl.1, Nat.one_mul]) (fun j u hu => by rw [Addr.add_mid]; exact hB j u hu)
      have hst := run_storeCells_cells (P := P) g (n * i.size) cs 0 w (fun j hj => by rw [Nat.add_zero]; exact (hth j (by rw [hfl.1] at hj; exact hj)).1) (fun j hj => by rw [Nat.add_zero]; exact (hth j (by rw [hfl.1] at hj; exact hj)).2) hfl.2
      simp only [Nat.add_zero] at hst
      have hr : (Builtin.append_ #[t, t] ty #[.slice (some ⟨g, 0, none⟩) n c, .slice (some ⟨B, 0, none⟩) 1 c1]).run P w = .ok (.slice (some ⟨g, 0, none⟩) (n + 1) c) (w.setCells g (n * i.size) cs) := by
        simp [Builtin.append_, run_underlying ht, sizeOf, typeInfo, hi, Builtin.lenOf, hroom, hf, Addr.add_lit, hst]
      obtain ⟨cur', h1, h2⟩ := setCells_block w g (n * i.size) cs hh
      exact ⟨g, c, _, hr, hroom, hcm, World.there_setCells hth _ _ _, ⟨cur', h1⟩, Or.inr ⟨hb, hg, ⟨cur, hh⟩, hth, rfl⟩⟩
    · have hcn : c = n := by omega
      subst hcn
      have hl : (cur.toList.take (c * i.size)).length = c * i.size := by rw [List.length_take, Array.length_toList, hcz]; omega
      have hr := run_append_grow (P := P) w t ty T i z ht hi hz ⟨g, 0, none⟩ c c (cur.toList.take (c * i.size)) hl (fun j u hu => by
        rw [Addr.add_mid, Nat.zero_add, cell_of_row w g j cur T (0, 0) hh]
        rw [List.getElem?_take] at hu
        split at hu
        · simpa using hu
        · cases hu) ⟨B, 0, none⟩ 1 c1 cs (by rw [hfl.1, Nat.one_mul]) (fun j u hu => by rw [Addr.add_mid]; exact hB j u hu) (by omega) (by omega) (growslice_fits (by omega) hbytes)
      obtain ⟨g', c', w', h1, h2, h3, h4, h5, h6, h7, h8⟩ := hnew _ c hl (by omega)
      exact ⟨g', c', w', by rw [hr, h1, h2, h3], h4, h5, h6, h7, Or.inl ⟨h2, h8⟩⟩
end Go.Proofs.YtpmemcpfoapjmaaGreat

namespace Go.Proofs.YtpmemcpfoapjmaaGreat
open Go.ChangeShapes Go.WideShapes Go.ChangeAt Go.RowKit
set_option linter.unusedVariables false

/-- since w0 the writer alone has turned -/
structure WSt (w0 : World) (b : Nat) (v0 : Value) (w : World) (v : Value) (l : List UInt8) : Prop where
  at_ : WAt w b v l
  kept : Kept (WS b v0) w0 w
  sep : Sep w0 v0.ownBlock v

theorem WSt.start {w : World} {b : Nat} {v : Value} {l : List UInt8} (h : WAt w b v l) : WSt w b v w v l := ⟨h, Kept.refl _ _, Sep.refl _ _⟩
theorem WSt.box {w : World} {b : Nat} {v : Value} {l : List UInt8} (h : WAt w b v l) (o : Obj) : WSt (w.alloc o) b v (w.alloc o) v l :=
  WSt.start (h.keep ((Kept.refl (fun _ => False) w).alloc o) (disj_none _))
theorem WSt.alloc {w0 w : World} {b : Nat} {v0 v : Value} {l : List UInt8} (h : WSt w0 b v0 w v l) (o : Obj) : WSt w0 b v0 (w.alloc o) v l :=
  ⟨h.at_.keep ((Kept.refl (fun _ => False) w).alloc o) (disj_none _), h.kept.alloc o, h.sep⟩
theorem WSt.step {w0 w w' : World} {b : Nat} {v0 v : Value} {l l' : List UInt8} {e : Ending} (h : WSt w0 b v0 w v l) (hp : WPost w b v l' e w') : ∃ v', e = .returned (.tuple #[]) ∧ WSt w0 b v0 w' v' l' := by
  obtain ⟨v', he, h1, h2, h3⟩ := hp
  exact ⟨v', he, h1, h.kept.trans' h2 (WS.sep h.sep), h.sep.trans h3 h.kept.size⟩
theorem WSt.fin {w w' : World} {b : Nat} {v0 v : Value} {l l' : List UInt8} (h : WSt w b v0 w' v l) (e : l = l') : WPost w b v0 l' (.returned (.tuple #[])) w' :=
  ⟨v, rfl, e ▸ h.at_, h.kept, h.sep⟩
theorem WSt.unbox {w w' : World} {o : Obj} {b : Nat} {v0 v : Value} {l l' : List UInt8} (h : WSt (w.alloc o) b v0 w' v l) (e : l = l') : WPost w b v0 l' (.returned (.tuple #[])) w' :=
  ⟨v, rfl, e ▸ h.at_, Kept.trans' ((Kept.refl (WS b v0) w).alloc o) h.kept (fun _ _ s => s), h.sep.mono (by simp)⟩

/-- a block that is none of the writer's is as it was -/
theorem WSt.blk {w0 w : World} {b g : Nat} {v0 v : Value} {l : List UInt8} {o : Obj} (h : WSt w0 b v0 w v l) (hb : w0.heap[g]? = some o) (hn : ¬ WS b v0 g) : w.heap[g]? = some o := by
  rw [h.kept.block g (lt_of_block hb) hn]; exact hb
theorem box_new {w : World} {b : Nat} {v : Value} {l : List UInt8} (h : WAt w b v l) : ¬ WS b v w.heap.size := fun hs => by have := h.inn _ hs; omega

theorem putErr_any (n : Int) (w : World) (b : Nat) (v : Value) (l : List UInt8) (hW : WAt w b v l) (hn : I64 n) (hl : l.length ≤ 144900000000000) :
    Calls Tryz.prog 144 #[.pointer (some ⟨b, 0, none⟩), .int .i64 n] w (WPost w b v (l ++ numF.lay n)) := by
  go_enter Tryz.func144, Tryz.ntmps144
  go_wp2_with fail
  refine (wnum_wide n _ b v l hW hn.1 hn.2 hl).mono ?_
  rintro e w1 h1
  obtain ⟨v1, rfl, S1⟩ := (WSt.start hW).step h1
  go_wp2_with fail
  go_end0
  exact S1.fin rfl

theorem putNum_any (n : Int) (w : World) (b : Nat) (v : Value) (l : List UInt8) (hW : WAt w b v l) (hn : I64 n) (hl : l.length ≤ 144900000000000) :
    Calls Tryz.prog 54 #[.pointer (some ⟨b, 0, none⟩), .int .i64 n] w (WPost w b v (l ++ numF.lay n)) := by
  go_enter Tryz.func54, Tryz.ntmps54
  go_wp2_with fail
  refine (wnum_wide n _ b v l hW hn.1 hn.2 hl).mono ?_
  rintro e w1 h1
  obtain ⟨v1, rfl, S1⟩ := (WSt.start hW).step h1
  go_wp2_with fail
  go_end0
  exact S1.fin rfl

theorem putText_any (s : ByteArray) (w : World) (b : Nat) (v : Value) (l : List UInt8) (hW : WAt w b v l) (hs : Str s) (hl : l.length + ((textF 0).lay s).length ≤ 144900000000000) :
    Calls Tryz.prog 60 #[.pointer (some ⟨b, 0, none⟩), .string s] w (WPost w b v (l ++ (textF 0).lay s)) := by
  have hl' : l.length + s.size ≤ 144900000000000 := by simp only [textF, List.length_append, str_len] at hl; omega
  go_enter Tryz.func60, Tryz.ntmps60
  go_wp2_with fail
  refine (wtext_wide s _ b v l hW hs hl').mono ?_
  rintro e w1 h1
  obtain ⟨v1, rfl, S1⟩ := (WSt.start hW).step h1
  go_wp2_with fail
  go_end0
  exact S1.fin rfl

theorem putAcl_any (a : Acl) (w : World) (b : Nat) (v : Value) (l : List UInt8) (hW : WAt w b v l) (hn : I64 a.perms) (hs : Str a.id) (hl : l.length + (aclF.lay a).length ≤ 144900000000000) :
    Calls Tryz.prog 131 #[.pointer (some ⟨b, 0, none⟩), .agg #[.int .i64 a.perms, .string a.id]] w (WPost w b v (l ++ aclF.lay a)) := by
  obtain ⟨x0, x1⟩ := a
  simp only at hn hs ⊢
  have S0 := WSt.box hW (.cells #[.int .i64 x0, .string x1] 56)
  have hnb := box_new hW
  have hbk := heap_alloc_new w (.cells #[.int .i64 x0, .string x1] 56)
  have hl1 : l.length + (sev (zz x0)).length + ((sev x1.size).length + x1.size) ≤ 144900000000000 := by
    simp only [aclF, isoF, seqF, numF, textF, List.length_append, str_len] at hl; omega
  clear hl
  go_enter Tryz.func131, Tryz.ntmps131
  go_wp2_with fail
  refine (wnum_wide x0 _ b v l S0.at_ hn.1 hn.2 (by omega)).mono ?_
  rintro e w1 h1
  obtain ⟨v1, rfl, S1⟩ := S0.step h1
  have hb1 := S1.blk hbk hnb
  have c1 : w1.cell? ⟨w.heap.size, 1, none⟩ = some (.string x1) := by simp [World.cell?, hb1]
  clear S0 h1
  go_wp2_with fail
  refine (wtext_wide x1 _ b v1 _ S1.at_ hs (by simp only [List.length_append]; omega)).mono ?_
  rintro e w2 h2
  obtain ⟨v2, rfl, S2⟩ := S1.step h2
  clear S1 h2
  go_wp2_with fail
  go_end0
  exact S2.unbox (by simp only [aclF, isoF, seqF, numF, textF, List.append_assoc])

/-- at a loop's head: k of the list are laid -/
structure PutRelL (w0 : World) (b : Nat) (v0 : Value) (l : List UInt8) (n : Nat) (f : Nat → List UInt8) (iv : Value) (wr : World) : Prop where
  ex : ∃ (k : Nat) (v : Value), iv = .int .i64 k ∧ k ≤ n ∧ WSt w0 b v0 wr v (l ++ f k)

theorem layN_take {α : Type} {f : Fmt α} {xs : List α} {k : Nat} (h : k < xs.length) : layN f (xs.take (k + 1)) = layN f (xs.take k) ++ f.lay xs[k] := by
  unfold layN; rw [List.take_succ_eq_append_getElem h, List.flatMap_append]; simp
theorem layN_le {α : Type} {f : Fmt α} {xs : List α} {k : Nat} (h : k < xs.length) : (layN f (xs.take k)).length + (f.lay xs[k]).length ≤ (layN f xs).length := by
  have h1 := layN_take (f := f) h
  have h2 : layN f xs = layN f (xs.take (k + 1)) ++ layN f (xs.drop (k + 1)) := by
    simp only [layN, ← List.flatMap_append, List.take_append_drop]
  rw [h2, h1]
  simp only [List.length_append]
  omega

theorem putNums_any (ns : List Int) (sv : Value) (ok : Nat → Prop) (w : World) (b : Nat) (v : Value) (l : List UInt8) (hW : WAt w b v l) (hL : ListR intE w ok 1 sv ns) (hd : Disj ok (WS b v)) (hl : l.length + (layN numF ns).length ≤ 144900000000000) :
    Calls Tryz.prog 52 #[.pointer (some ⟨b, 0, none⟩), sv] w (WPost w b v (l ++ layN numF ns)) := by
  obtain ⟨rows, ⟨A, c, rfl, hlc, hm, hat⟩, hlen, hel⟩ := hL
  unfold maxLen at hm
  have hlen1 : rows.length ≤ ns.length := by omega
  have hlen2 : ns.length ≤ rows.length := by omega
  clear hlen
  go_enter Tryz.func52, Tryz.ntmps52
  go_wp2_with fail
  go_loopw [8] (fun iv wr => PutRelL w b v l ns.length (fun k => layN numF (ns.take k)) iv wr) (fun iv _ => ns.length - (intOf iv).toNat)
  case atStart => exact ⟨0, v, rfl, Nat.zero_le _, by simpa [layN] using WSt.start hW⟩
  case round =>
    obtain ⟨k, v1, rfl, hk, S1⟩ := hrel.ex
    clear hrel
    by_cases hlt : k < ns.length
    · have hkr : k < rows.length := by omega
      rcases hat with h0 | ⟨g, off, rfl, hok, hg, hc⟩
      · simp [h0.1] at hkr
      have hx := (hel k hlt hkr).1
      have hi := (hel k hlt hkr).2
      have hcell := (hc k hkr).2 0 (by rw [hx]; simp)
      simp only [hx, List.getElem_cons_zero, Nat.mul_one, Nat.add_zero] at hcell
      have hcell1 : wr.cell? ⟨g, off + k, none⟩ = some (.int .i64 ns[k]) := by
        rw [← hcell]; exact World.cell?_of_block (S1.kept.block g hg (hd g hok.1))
      have hle := layN_le (f := numF) hlt
      have HTK := Lib.hid (layN_take (f := numF) hlt)
      generalize ns[k] = x at hcell1 hi hle HTK
      clear hcell hx hc hel
      have hkl : (k : Int) < (rows.length : Int) := by omega
      go_wp2_with fail
      refine (wnum_wide x _ b v1 _ S1.at_ hi.1 hi.2 (by simp only [List.length_append]; omega)).mono ?_
      rintro e w2 h2
      obtain ⟨v2, rfl, S2⟩ := S1.step h2
      clear S1 h2
      go_wp2_with fail
      go_roundw
      case rel => exact ⟨k + 1, v2, rfl, hlt, by rw [HTK.out, ← List.append_assoc]; exact S2⟩
      case measure => simp [intOf]; omega
    · have hkl : ¬ (k : Int) < (rows.length : Int) := by omega
      obtain rfl : k = ns.length := by omega
      go_wp2_with fail
      go_end0
      exact S1.fin (by rw [List.take_length])
end Go.Proofs.YtpmemcpfoapjmaaGreat

namespace Go.Proofs.YtpmemcpfoapjmaaGreat
open Go.ChangeShapes Go.WideShapes Go.ChangeAt Go.RowKit
set_option linter.unusedVariables false

theorem add_str (P : Program) (a b : List UInt8) (h : a.length + b.length ≤ 1000000000000000) (W : World) : Sem.run P (Op.stringOp .add ⟨a.toArray⟩ ⟨b.toArray⟩) W = .ok (.string ⟨(a ++ b).toArray⟩) W := by
  rw [run_string_add_sum W _ _ (by rw [size_mk, size_mk]; omega), str_append]

structure NumsRel (w : World) (ns : List Int) (sv iv : Value) (wr : World) : Prop where
  ex : ∃ k, iv = .int .i64 (k : Nat) ∧ k ≤ ns.length ∧ sv = .string ⟨(layN numF (ns.take k)).toArray⟩ ∧ Old w wr

theorem refnums_any (ns : List Int) (sv : Value) (ok : Nat → Prop) (w : World) (hL : ListR intE w ok 1 sv ns) (hl : (layN numF ns).length ≤ 1000000000000000) :
    Calls Tryz.prog 22 #[sv] w (OldStr w (layN numF ns)) := by
  obtain ⟨rows, ⟨A, c, rfl, hlc, hm, hat⟩, hlen, hel⟩ := hL
  unfold maxLen at hm
  have hlen1 : rows.length ≤ ns.length := by omega
  have hlen2 : ns.length ≤ rows.length := by omega
  clear hlen
  go_enter Tryz.func22, Tryz.ntmps22
  go_wp2_with fail
  go_loopw [3, 4] (fun s i wr => NumsRel w ns s i wr) (fun _ i _ => ns.length - (intOf i).toNat)
  case atStart => exact ⟨0, rfl, Nat.zero_le _, rfl, Old.refl _⟩
  case round =>
    obtain ⟨k, rfl, hk, rfl, hO⟩ := hrel.ex
    clear hrel
    by_cases hlt : k < ns.length
    · have hkr : k < rows.length := by omega
      rcases hat with h0 | ⟨g, off, rfl, hok, hg, hc⟩
      · simp [h0.1] at hkr
      have hx := (hel k hlt hkr).1
      have hi := (hel k hlt hkr).2
      have hcell := (hc k hkr).2 0 (by rw [hx]; simp)
      simp only [hx, List.getElem_cons_zero, Nat.mul_one, Nat.add_zero] at hcell
      have hcell1 : wr.cell? ⟨g, off + k, none⟩ = some (.int .i64 ns[k]) := by
        rw [← hcell]; exact World.cell?_of_block (hO.block g hg id)
      have hle := layN_le (f := numF) hlt
      have HTK := Lib.hid (layN_take (f := numF) hlt)
      generalize ns[k] = x at hcell1 hi hle HTK
      clear hcell hx hc hel
      have hq : ∀ W, Sem.run Tryz.prog (Op.stringOp .add ⟨(layN numF (ns.take k)).toArray⟩ ⟨(sev (zz x)).toArray⟩) W = .ok (.string ⟨(layN numF (ns.take (k + 1))).toArray⟩) W := fun W => by
        rw [HTK.out]; exact add_str _ _ _ (by have e : (numF.lay x).length = (sev (zz x)).length := rfl; omega) W
      have hkl : (k : Int) < (rows.length : Int) := by omega
      go_wp2_with (go_at_call 62; refine (refnum_any x _ hi).mono ?_; rintro e w2 ⟨rfl, hO2⟩)
      go_roundw
      case rel => exact ⟨k + 1, by go_num, hlt, rfl, hO.none hO2⟩
      case measure => simp [intOf]; omega
    · have hkl : ¬ (k : Int) < (rows.length : Int) := by omega
      obtain rfl : k = ns.length := by omega
      have ht : ns.take ns.length = ns := List.take_length
      rw [ht]
      go_wp2_with fail
      go_ret
      exact ⟨rfl, hO⟩
end Go.Proofs.YtpmemcpfoapjmaaGreat

namespace Go.Proofs.YtpmemcpfoapjmaaGreat
open Go.ChangeShapes Go.WideShapes Go.ChangeAt Go.RowKit
set_option linter.unusedVariables false

theorem numF_lay (n : Int) : numF.lay n = sev (zz n) := rfl

/-- numbers in a block of their own -/
theorem nums_new (ns : List Int) (w : World) (h : ∀ n ∈ ns, I64 n) (hm : ns.length ≤ maxLen) :
    ListR intE (w.alloc (.cells (ns.map (Value.int .i64)).toArray 3)) (fun k => k = w.heap.size) 1 (.slice (some ⟨w.heap.size, 0, none⟩) ns.length ns.length) ns := by
  refine ⟨ns.map fun n => [Value.int .i64 n], ⟨_, _, by rw [List.length_map], by rw [List.length_map]; exact Nat.le_refl _, hm, Or.inr ⟨w.heap.size, 0, rfl, ⟨rfl, fun k _ => by
    have hb := heap_alloc_new w (.cells (ns.map (Value.int .i64)).toArray 3)
    unfold World.frozen?
    rw [hb]
    simp, fun _ => ⟨rfl, _, _, heap_alloc_new w (.cells (ns.map (Value.int .i64)).toArray 3), by simp, by unfold TyOf; decide⟩⟩, by simp, fun i hi => ⟨by simp, fun j hj => ?_⟩⟩⟩, by simp, fun i hi hi' => ?_⟩
  · have hj0 : j = 0 := by simpa using hj
    subst hj0
    have hi2 : i < ns.length := by simpa using hi
    have hb := heap_alloc_new w (.cells (ns.map (Value.int .i64)).toArray 3)
    have hc := cell_of_row _ w.heap.size i _ _ (0, 0) hb
    rw [show 0 + i * 1 + 0 = i from by omega, hc]
    simp [List.getElem?_eq_getElem hi2]
  · simp only [List.getElem_map]
    exact ⟨rfl, h _ (List.getElem_mem _)⟩

theorem nums_call (ns : List Int) (w : World) (g : Nat) (hg : w.heap.size = g) (b : Nat) (v : Value) (l : List UInt8) (hW : WAt w b v l) (h : ∀ n ∈ ns, I64 n) (hm : ns.length ≤ maxLen) (hl : l.length + (layN numF ns).length ≤ 144900000000000) :
    Calls Tryz.prog 52 #[.pointer (some ⟨b, 0, none⟩), .slice (some ⟨g, 0, none⟩) ns.length ns.length] (w.alloc (.cells (ns.map (Value.int .i64)).toArray 3)) (WPost (w.alloc (.cells (ns.map (Value.int .i64)).toArray 3)) b v (l ++ layN numF ns)) := by
  subst hg
  exact putNums_any ns _ _ _ b v l (hW.keep ((Kept.refl (fun _ => False) w).alloc _) (disj_none _)) (nums_new ns w h hm) (fun k hk hs => by have := hW.inn _ hs; have hk' : k = w.heap.size := hk; omega) hl

set_option maxRecDepth 100000 in
theorem putList_num (xs : List Int) (sv : Value) (ok : Nat → Prop) (w : World) (b : Nat) (v : Value) (l : List UInt8) (hW : WAt w b v l) (hL : ListR intE w ok 1 sv xs) (hd : Disj ok (WS b v)) (hi : In w ok) (hl : l.length + ((listF numF).lay xs).length ≤ 144900000000000) :
    Calls Tryz.prog 53 #[.pointer (some ⟨b, 0, none⟩), sv, .func (.func 54) #[] #[]] w (WPost w b v (l ++ (listF numF).lay xs)) := by
  obtain ⟨rows, ⟨A, c, rfl, hlc, hm, hat⟩, hlen, hel⟩ := hL
  unfold maxLen at hm
  have hlen1 : rows.length ≤ xs.length := by omega
  have hlen2 : xs.length ≤ rows.length := by omega
  have hfin := (show (listF numF).lay xs = sev xs.length ++ layN numF xs from rfl)
  rw [hfin] at hl ⊢
  rw [← hlen] at hl ⊢
  clear hfin hlen
  rw [List.length_append] at hl
  go_enter Tryz.func53, Tryz.ntmps53
  go_wp2_with fail
  refine (wcount_wide rows.length _ b v l hW (by omega) (by omega)).mono ?_
  rintro e w0 h0
  obtain ⟨v0, rfl, S0⟩ := (WSt.start hW).step h0
  clear h0
  go_wp2_with fail
  go_loopw [14] (fun iv wr => PutRelL w b v (l ++ sev rows.length) xs.length (fun k => layN numF (xs.take k)) iv wr) (fun iv _ => xs.length - (intOf iv).toNat)
  case atStart => exact ⟨0, v0, rfl, Nat.zero_le _, by simpa [layN] using S0⟩
  case round =>
    obtain ⟨k, v1, rfl, hk, S1⟩ := hrel.ex
    clear hrel S0
    by_cases hlt : k < xs.length
    · have hkr : k < rows.length := by omega
      rcases hat with h0 | ⟨g, off, rfl, hok, hg, hc⟩
      · simp [h0.1] at hkr
      have hx := (hel k hlt hkr).1
      have hi := (hel k hlt hkr).2
      have hcell := (hc k hkr).2 0 (by rw [hx]; simp)
      simp only [hx, List.getElem_cons_zero, Nat.mul_one, Nat.add_zero] at hcell
      have hcell1 : wr.cell? ⟨g, off + k, none⟩ = some (.int .i64 xs[k]) := by
        rw [← hcell]; exact World.cell?_of_block (S1.kept.block g hg (hd g hok.1))
      have hle := layN_le (f := numF) hlt
      have HTK := Lib.hid (layN_take (f := numF) hlt)
      generalize xs[k] = x at hcell1 hi hle HTK
      clear hcell hx hc hel
      have hkl : (k : Int) < (rows.length : Int) := by omega
      go_wp2_with fail
      refine (putNum_any x _ b v1 _ S1.at_ hi (by simp only [List.length_append]; omega)).mono ?_
      rintro e w2 h2
      obtain ⟨v2, rfl, S2⟩ := S1.step h2
      clear S1 h2
      go_wp2_with fail
      go_roundw
      case rel => exact ⟨k + 1, v2, rfl, hlt, by rw [HTK.out, ← List.append_assoc]; exact S2⟩
      case measure => simp [intOf]; omega
    · have hkl : ¬ (k : Int) < (rows.length : Int) := by omega
      obtain rfl : k = xs.length := by omega
      go_wp2_with fail
      go_end0
      exact S1.fin (by rw [List.take_length, List.append_assoc])

set_option maxRecDepth 100000 in
theorem putList_text (xs : List ByteArray) (sv : Value) (ok : Nat → Prop) (w : World) (b : Nat) (v : Value) (l : List UInt8) (hW : WAt w b v l) (hL : ListR textE w ok 1 sv xs) (hd : Disj ok (WS b v)) (hi : In w ok) (hl : l.length + ((listF (textF 4096)).lay xs).length ≤ 144900000000000) :
    Calls Tryz.prog 59 #[.pointer (some ⟨b, 0, none⟩), sv, .func (.func 60) #[] #[]] w (WPost w b v (l ++ (listF (textF 4096)).lay xs)) := by
  obtain ⟨rows, ⟨A, c, rfl, hlc, hm, hat⟩, hlen, hel⟩ := hL
  unfold maxLen at hm
  have hlen1 : rows.length ≤ xs.length := by omega
  have hlen2 : xs.length ≤ rows.length := by omega
  have hfin := (show (listF (textF 4096)).lay xs = sev xs.length ++ layN (textF 4096) xs from rfl)
  rw [hfin] at hl ⊢
  rw [← hlen] at hl ⊢
  clear hfin hlen
  rw [List.length_append] at hl
  go_enter Tryz.func59, Tryz.ntmps59
  go_wp2_with fail
  refine (wcount_wide rows.length _ b v l hW (by omega) (by omega)).mono ?_
  rintro e w0 h0
  obtain ⟨v0, rfl, S0⟩ := (WSt.start hW).step h0
  clear h0
  go_wp2_with fail
  go_loopw [14] (fun iv wr => PutRelL w b v (l ++ sev rows.length) xs.length (fun k => layN (textF 4096) (xs.take k)) iv wr) (fun iv _ => xs.length - (intOf iv).toNat)
  case atStart => exact ⟨0, v0, rfl, Nat.zero_le _, by simpa [layN] using S0⟩
  case round =>
    obtain ⟨k, v1, rfl, hk, S1⟩ := hrel.ex
    clear hrel S0
    by_cases hlt : k < xs.length
    · have hkr : k < rows.length := by omega
      rcases hat with h0 | ⟨g, off, rfl, hok, hg, hc⟩
      · simp [h0.1] at hkr
      have hx := (hel k hlt hkr).1
      have hi := (hel k hlt hkr).2
      have hcell := (hc k hkr).2 0 (by rw [hx]; simp)
      simp only [hx, List.getElem_cons_zero, Nat.mul_one, Nat.add_zero] at hcell
      have hcell1 : wr.cell? ⟨g, off + k, none⟩ = some (.string xs[k]) := by
        rw [← hcell]; exact World.cell?_of_block (S1.kept.block g hg (hd g hok.1))
      have hle := layN_le (f := (textF 4096)) hlt
      have HTK := Lib.hid (layN_take (f := (textF 4096)) hlt)
      generalize xs[k] = x at hcell1 hi hle HTK
      clear hcell hx hc hel
      have hkl : (k : Int) < (rows.length : Int) := by omega
      go_wp2_with fail
      refine (putText_any x _ b v1 _ S1.at_ hi (by simp only [List.length_append]; have : ((textF 0).lay x).length = ((textF 4096).lay x).length := rfl; omega)).mono ?_
      rintro e w2 h2
      obtain ⟨v2, rfl, S2⟩ := S1.step h2
      clear S1 h2
      go_wp2_with fail
      go_roundw
      case rel => exact ⟨k + 1, v2, rfl, hlt, by rw [HTK.out, ← List.append_assoc]; exact S2⟩
      case measure => simp [intOf]; omega
    · have hkl : ¬ (k : Int) < (rows.length : Int) := by omega
      obtain rfl : k = xs.length := by omega
      go_wp2_with fail
      go_end0
      exact S1.fin (by rw [List.take_length, List.append_assoc])

end Go.Proofs.YtpmemcpfoapjmaaGreat
