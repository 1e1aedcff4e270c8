/- append of a list onto nil, and of one row more, into memory that the call owns; what the rows point to lies where it lay. -/
import Derived.Test.YtngcfnffbggniaaThm
import Derived.Test.YtngcfnffbggniaaGet
import Derived.Deep.Upon
import Derived.Maps.AppendAt
import Derived.Deep.AppendSrc
namespace Go.Proofs.Ytngcfnffbggniaa
open Go.ChangeShapes Go.WideShapes Go.ChangeAt Go.RowKit
set_option linter.unusedVariables false

/-- acc owns a row of the elements ys, in memory from base on; what they point to lies in blocks of ok -/
def AccO {α : Type} (E : CellsOf α) (base : Nat) (ok : Nat → Prop) (w : World) (T : TypeId) (sz : Nat) (acc : Value) (ys : List α) : Prop :=
  ∃ rows : List (List Value), w.ownsRow base T sz acc ys.length rows.flatten ∧ rows.length = ys.length ∧ (∀ r ∈ rows, Flat sz r) ∧
    ∀ i (h : i < ys.length) (h' : i < rows.length), E w ok rows[i] ys[i]

theorem AccO.nil {α : Type} (E : CellsOf α) (base : Nat) (ok : Nat → Prop) (w : World) (T : TypeId) (sz : Nat) : AccO E base ok w T sz (.slice none 0 0) [] :=
  ⟨[], by simpa using World.ownsRow_nil w base T sz, rfl, by simp, fun i h => absurd h (by simp)⟩
theorem AccO.keep {α : Type} {E : CellsOf α} (hE : E.Ok) {base : Nat} {ok : Nat → Prop} {w w' : World} {S : Nat → Prop} {T : TypeId} {sz : Nat} {acc : Value} {ys : List α} (h : AccO E base ok w T sz acc ys) (hk : Kept S w w') (hb : ∀ k, base ≤ k → ¬ S k) (hd : Disj ok S) : AccO E base ok w' T sz acc ys := by
  obtain ⟨rows, h1, h2, h3, h4⟩ := h
  exact ⟨rows, ownsRow_kept h1 hk hb, h2, h3, fun i hi hi' => hE.keep (h4 i hi hi') hk hd⟩
theorem AccO.list {α : Type} {E : CellsOf α} (hE : E.Ok) {base : Nat} {ok : Nat → Prop} {w : World} {T : TypeId} {sz : Nat} {acc : Value} {ys : List α} (h : AccO E base ok w T sz acc ys) : ListR E w (fun k => ok k ∨ base ≤ k) sz acc ys := by
  obtain ⟨rows, h1, h2, h3, h4⟩ := h
  refine ⟨rows, ?_, h2, fun i hi hi' => hE.mono (h4 i hi hi') (fun k _ hk => Or.inl hk)⟩
  have hl : ∀ r ∈ rows, r.length = sz := fun r hr => (h3 r hr).1
  rcases h1.2 with ⟨rfl, hn⟩ | ⟨g, cap, cur, rfl, hb, hh, hnc, hcm, hcs, htake⟩
  · exact ⟨none, 0, by rw [h2, hn], by omega, by unfold maxLen; omega, Or.inl (List.eq_nil_of_length_eq_zero (by omega))⟩
  · refine ⟨_, cap, by rw [h2], by omega, hcm, Or.inr ⟨g, 0, rfl, ⟨Or.inr hb, fun k _ => by simp [World.frozen?, hh]⟩, lt_of_block hh, fun i hi => ⟨hl _ (List.getElem_mem _), fun j hj => ?_⟩⟩⟩
    have := World.ownsRow.cells h1 (g := g) rfl (i * sz + j) rows[i][j] (flatten_get rows i j hi hl hj)
    rw [Addr.add_mid] at this
    rw [← this, Nat.add_assoc]
theorem AccO.own {α : Type} {E : CellsOf α} {base : Nat} {ok : Nat → Prop} {w : World} {T : TypeId} {sz : Nat} {acc : Value} {ys : List α} (h : AccO E base ok w T sz acc ys) : ∀ k, acc.ownBlock = some k → base ≤ k ∧ k < w.heap.size := by
  obtain ⟨rows, h1, _⟩ := h
  intro k hk
  exact World.ownsRow.lt h1 k hk
theorem AccO.shape {α : Type} {E : CellsOf α} {base : Nat} {ok : Nat → Prop} {w : World} {T : TypeId} {sz : Nat} {acc : Value} {ys : List α} (h : AccO E base ok w T sz acc ys) : ∃ A c, acc = .slice A ys.length c ∧ ys.length ≤ c ∧ c ≤ maxLen := by
  obtain ⟨rows, h1, _⟩ := h
  rcases h1.2 with ⟨rfl, hn⟩ | ⟨g, cap, cur, rfl, hb, hh, hnc, hcm, hcs, htake⟩
  · exact ⟨none, 0, by rw [hn], by omega, by unfold maxLen; omega⟩
  · exact ⟨_, cap, rfl, hnc, hcm⟩

theorem rows_flat_at {w : World} {g off sz : Nat} : ∀ (rows : List (List Value)) (s : Nat), (∀ r ∈ rows, r.length = sz) → (∀ i (h : i < rows.length) j (hj : j < rows[i].length), w.cell? ⟨g, off + (s + i) * sz + j, none⟩ = some rows[i][j]) →
    ∀ j u, rows.flatten[j]? = some u → w.cell? ⟨g, off + s * sz + j, none⟩ = some u := by
  intro rows
  induction rows with
  | nil => intro s _ _ j u hu; simp at hu
  | cons r rows ih =>
    intro s hl h j u hu
    have hr : r.length = sz := hl r (by simp)
    rw [List.flatten_cons] at hu
    by_cases hj : j < r.length
    · rw [List.getElem?_append_left hj] at hu
      have h0 := h 0 (by simp) j (by simpa using hj)
      simp only [List.getElem_cons_zero, Nat.add_zero] at h0
      rw [h0, ← hu, List.getElem?_eq_getElem hj]
    · rw [List.getElem?_append_right (by omega)] at hu
      have := ih (s + 1) (fun r' h' => hl r' (by simp [h'])) (fun i hi j hj => by
        have h1 := h (i + 1) (by simpa using hi) j (by simpa using hj)
        simp only [List.getElem_cons_succ] at h1
        rw [← h1]
        congr 3
        rw [show s + 1 + i = s + (i + 1) by omega]) (j - r.length) u hu
      rw [← this]
      congr 2
      rw [Nat.add_mul]
      omega

section
variable {P : Program} {α : Type} {E : CellsOf α}

/-- a list onto nil: a row of its own -/
theorem run_append_nil_list (hE : E.Ok) {w : World} {ok : Nat → Prop} {sz bytes : Nat} {vx : Value} {ys : List α} (h : ListR E w ok sz vx ys) (hfl : ∀ {cs x}, E w ok cs x → Flat sz cs)
    (t ty T : TypeId) (i : TypeInfo) (z : Value) (ht : P.underlying t = some (.slice T)) (hi : P.info? T = some i) (hz : i.zero = some z) (hsize : i.size = sz) (hby : i.bytes = bytes) (hzs : z.cells.size = sz) (hsz : 0 < sz)
    (hm : ys.length ≤ maxLen) (hbytes : ys.length * bytes ≤ 140737488355328) (base : Nat) (hbase : base ≤ w.heap.size) :
    ∃ v' w', (Builtin.append_ #[t, t] ty #[.slice none 0 0, vx]).run P w = .ok v' w' ∧ AccO E base ok w' T sz v' ys ∧ Kept (fun _ => False) w w' := by
  obtain ⟨rows, ⟨A, c, rfl, hlc, hmc, hat⟩, hlen, hel⟩ := h
  have hflat : ∀ r ∈ rows, Flat sz r := fun r hr => by
    obtain ⟨i, hi, rfl⟩ := List.mem_iff_getElem.1 hr
    exact hfl (hel i (by omega) hi)
  have hnone : rows = [] → ∃ v' w', (Builtin.append_ #[t, t] ty #[.slice none 0 0, .slice A rows.length c]).run P w = .ok v' w' ∧ AccO E base ok w' T sz v' ys ∧ Kept (fun _ => False) w w' := fun h0 => by
    subst h0
    have hy : ys = [] := List.eq_nil_of_length_eq_zero (by simpa using hlen.symm)
    subst hy
    refine ⟨.slice none 0 0, w, ?_, AccO.nil E base ok w T sz, Kept.refl _ w⟩
    have hs : Src P i.size t (.slice A 0 c) 0 [] w := by
      cases A with
      | none => exact Src.ofNil w ht c
      | some a => exact Src.ofSlice w ht a 0 c [] (by simp) (fun j u hu => by simp at hu) (by simp)
    exact run_append_nothing w t t ty T i ht hi none 0 0 (Nat.le_refl _) (.slice A 0 c) hs
  rcases hat with h0 | ⟨g, off, rfl, hok, hg, hcell⟩
  · exact hnone h0
  · have hl : ∀ r ∈ rows, r.length = sz := fun r hr => (hflat r hr).1
    have hcs := rows_flat_at (w := w) (g := g) (off := off) (sz := sz) rows 0 hl (fun i hi j hj => by rw [Nat.zero_add]; exact (hcell i hi).2 j hj)
    rw [Nat.zero_mul, Nat.add_zero] at hcs
    obtain ⟨v', w', hr, h2, h3, h4, h5⟩ := run_append_own_at (P := P) w base t ty T i z sz bytes ht hi hz hsize hby hzs hsz (.slice none 0 0) 0 [] (World.ownsRow_nil w base T sz) ⟨g, off, none⟩ rows.length c rows.flatten (flatten_len rows hl)
      (fun j u hu => by rw [Addr.add_mid]; exact hcs j u hu) (fun u hu => by
        obtain ⟨r, hr, hur⟩ := List.mem_flatten.1 hu
        exact (hflat r hr).2 u hur) (by omega) (by rw [Nat.zero_add, hlen]; exact hbytes) hbase
    have hk : Kept (fun _ => False) w w' := (Kept.of_grownBy h3).mono (fun k _ hk => by simp [Value.ownBlock] at hk)
    refine ⟨v', w', hr, ⟨rows, ?_, hlen, hflat, fun i hi hi' => hE.keep (hel i hi hi') hk (disj_none _)⟩, hk⟩
    rw [Nat.zero_add, List.nil_append, hlen] at h2
    exact h2

/-- one row more -/
theorem run_append_one_more (hE : E.Ok) {w : World} {ok : Nat → Prop} {sz bytes : Nat} {acc : Value} {ys : List α} {base : Nat} {T : TypeId} (h : AccO E base ok w T sz acc ys) (hok : ∀ k, ok k → k < base)
    {B c : Nat} {cs : List Value} {y : α} (hB : w.rangeAt B 0 cs) (hy : E w ok cs y) (hfl : Flat sz cs)
    (t ty : TypeId) (i : TypeInfo) (z : Value) (ht : P.underlying t = some (.slice T)) (hi : P.info? T = some i) (hz : i.zero = some z) (hsize : i.size = sz) (hby : i.bytes = bytes) (hzs : z.cells.size = sz) (hsz : 0 < sz)
    (hm : ys.length + 1 ≤ maxLen) (hbytes : (ys.length + 1) * bytes ≤ 140737488355328) (hbase : base ≤ w.heap.size) :
    ∃ v' w', (Builtin.append_ #[t, t] ty #[acc, .slice (some ⟨B, 0, none⟩) 1 c]).run P w = .ok v' w' ∧ AccO E base ok w' T sz v' (ys ++ [y]) ∧ Kept (fun k => base ≤ k) w w' := by
  have hown := h.own
  obtain ⟨rows, h1, hlen, hflat, hel⟩ := h
  obtain ⟨v', w', hr, h2, h3, h4, h5⟩ := run_append_own_at (P := P) w base t ty T i z sz bytes ht hi hz hsize hby hzs hsz acc ys.length rows.flatten h1 ⟨B, 0, none⟩ 1 c cs (by rw [hfl.1, Nat.one_mul])
    (fun j u hu => by rw [Addr.add_mid]; exact hB j u hu) hfl.2 hm hbytes hbase
  have hk : Kept (fun k => base ≤ k) w w' := (Kept.of_grownBy h3).mono (fun k _ hk => (hown k hk.symm).1)
  have hd : Disj ok (fun k => base ≤ k) := fun k a b => by have := hok k a; omega
  refine ⟨v', w', hr, ⟨rows ++ [cs], by simpa using h2, by simp [hlen], fun r hr => ?_, fun i hi' hi2 => ?_⟩, hk⟩
  · rcases List.mem_append.1 hr with hr | hr
    · exact hflat r hr
    · rw [List.mem_singleton.1 hr]; exact hfl
  · by_cases hlt : i < ys.length
    · have := hE.keep (hel i hlt (by omega)) hk hd
      rw [List.getElem_append_left (by omega), List.getElem_append_left hlt]
      exact this
    · have hi3 : i = ys.length := by simp at hi'; omega
      subst hi3
      have := hE.keep hy hk hd
      rw [List.getElem_append_right (by omega), List.getElem_append_right (by omega)]
      simp only [hlen, Nat.sub_self, List.getElem_cons_zero]
      exact this

/-- at the list of a plain region's operations -/
theorem wpList_append_run {w : World} {ops : Array Oper} {rest : List Oper} {o : Oper} {a : Act} {Q : Exit → Act → World → Prop} (hgd : o.guard = none) (s x : Operand) (t : TypeId)
    (ho : o.op = .call { callee := .builtin .append, args := #[s, x], argTypes := #[t, t] }) (vs vx : Value) (hs : a.eval s = vs) (hx : a.eval x = vx) (v' : Value) (w' : World) (hr : (Builtin.append_ #[t, t] o.type #[vs, vx]).run P w = .ok v' w')
    (h : wpList P ops Q rest (a.put o.dst v') w') : wpList P ops Q (o :: rest) a w :=
  wpList_plain hgd fun _ hK => by
    unfold Oper.wp execOp
    simp only [ho, resolve, invoke, builtin, Sem.run_bind, Sem.run_pure, Result.andThen_ok, List.map_toArray, List.map_cons, List.map_nil, hs, hx, hr]
    exact hK _ _ h

/-- at a step of a region that draws its order -/
theorem step_append_run {w : World} {ops : Array Oper} {o : Oper} {a : Act} {K : Act → World → Prop} {Q : Exit → Act → World → Prop} {F : Prop} (hgd : o.guard = none) (s x : Operand) (t : TypeId)
    (ho : o.op = .call { callee := .builtin .append, args := #[s, x], argTypes := #[t, t] }) (vs vx : Value) (hs : a.eval s = vs) (hx : a.eval x = vx) (v' : Value) (w' : World) (hr : (Builtin.append_ #[t, t] o.type #[vs, vx]).run P w = .ok v' w')
    (h : K (a.put o.dst v') w') : if Region.wanted o (yielded ops a.tmps) = true then Oper.wp P o a w K Q else F := by
  have hw : Region.wanted o (yielded ops a.tmps) = true := by simp [Region.wanted, hgd]
  rw [if_pos hw]
  unfold Oper.wp execOp
  simp only [ho, resolve, invoke, builtin, Sem.run_bind, Sem.run_pure, Result.andThen_ok, List.map_toArray, List.map_cons, List.map_nil, hs, hx, hr]
  exact h

/-- a list onto nil, at a step: since w5 nothing that was there has turned -/
theorem step_nil_list (hE : E.Ok) {w5 W : World} {ok : Nat → Prop} {sz bytes : Nat} {vx : Value} {ys : List α} (h : ListR E w5 ok sz vx ys) (hO : Old w5 W) (hfl : ∀ {w : World} {ok : Nat → Prop} {cs x}, E w ok cs x → Flat sz cs)
    {ops : Array Oper} {o : Oper} {a : Act} {K : Act → World → Prop} {Q : Exit → Act → World → Prop} {F : Prop} (hgd : o.guard = none) (s x : Operand) (t : TypeId)
    (ho : o.op = .call { callee := .builtin .append, args := #[s, x], argTypes := #[t, t] }) (hs : a.eval s = .slice none 0 0) (hx : a.eval x = vx)
    (T : TypeId) (i : TypeInfo) (z : Value) (ht : P.underlying t = some (.slice T)) (hi : P.info? T = some i) (hz : i.zero = some z) (hsize : i.size = sz) (hby : i.bytes = bytes) (hzs : z.cells.size = sz) (hsz : 0 < sz)
    (hm : ys.length ≤ maxLen) (hbytes : ys.length * bytes ≤ 140737488355328)
    (hh : ∀ v' w', AccO E w5.heap.size ok w' T sz v' ys → Old W w' → Old w5 w' → K (a.put o.dst v') w') : if Region.wanted o (yielded ops a.tmps) = true then Oper.wp P o a W K Q else F := by
  obtain ⟨v', w', hr, h1, h2⟩ := run_append_nil_list (P := P) hE (ListR.keep hE h hO (disj_none _)) hfl t o.type T i z ht hi hz hsize hby hzs hsz hm hbytes w5.heap.size hO.size
  exact step_append_run hgd s x t ho _ _ hs hx v' w' hr (hh v' w' h1 h2 (hO.none h2))
/-- one row more, at a step -/
theorem step_one_more (hE : E.Ok) {w5 wA W : World} {ok : Nat → Prop} {sz bytes : Nat} {acc : Value} {ys : List α} {T : TypeId} (h : AccO E w5.heap.size ok wA T sz acc ys) (hOA : Old wA W) (hO : Old w5 W) (hok : ∀ k, ok k → k < w5.heap.size) (hOA5 : Old w5 wA)
    {B c : Nat} {cs : List Value} {y : α} (hB : W.heap[B]? = some (.cells cs.toArray T (0, 0))) (hy : E w5 ok cs y) (hfl : Flat sz cs)
    {ops : Array Oper} {o : Oper} {a : Act} {K : Act → World → Prop} {Q : Exit → Act → World → Prop} {F : Prop} (hgd : o.guard = none) (s x : Operand) (t : TypeId)
    (ho : o.op = .call { callee := .builtin .append, args := #[s, x], argTypes := #[t, t] }) (hs : a.eval s = acc) (hx : a.eval x = .slice (some ⟨B, 0, none⟩) 1 c)
    (i : TypeInfo) (z : Value) (ht : P.underlying t = some (.slice T)) (hi : P.info? T = some i) (hz : i.zero = some z) (hsize : i.size = sz) (hby : i.bytes = bytes) (hzs : z.cells.size = sz) (hsz : 0 < sz)
    (hm : ys.length + 1 ≤ maxLen) (hbytes : (ys.length + 1) * bytes ≤ 140737488355328)
    (hh : ∀ v' w', AccO E w5.heap.size ok w' T sz v' (ys ++ [y]) → Old w5 w' → K (a.put o.dst v') w') : if Region.wanted o (yielded ops a.tmps) = true then Oper.wp P o a W K Q else F := by
  have h' := h.keep hE hOA (fun _ _ f => f) (disj_none _)
  obtain ⟨v', w', hr, h1, h2⟩ := run_append_one_more (P := P) hE h' hok (range_row hB) (hE.keep hy hO (disj_none _)) hfl t o.type i z ht hi hz hsize hby hzs hsz hm hbytes hO.size
  exact step_append_run hgd s x t ho _ _ hs hx v' w' hr (hh v' w' h1 (hO.step h2 (fun k hk => hk)))
end
end Go.Proofs.Ytngcfnffbggniaa
