/- Appends to a byte row behind 2^47: the row's next size is at most a quarter beyond what is asked. -/
import Derived.Test.YtngcfnffbggniaaWcalls
namespace Go.Proofs.Ytngcfnffbggniaa
open Go.ChangeShapes Go.WideShapes Go.ChangeAt Go.RowKit
set_option linter.unusedVariables false

theorem quarter {need old : Nat} (h : old < need) : Builtin.nextslicecap need old ≤ need + need / 4 + 512 := by
  unfold Builtin.nextslicecap
  split
  · omega
  · split
    · omega
    · rw [growBy_four]
      split
      · omega
      · split
        · omega
        · split
          · omega
          · split <;> omega

/-- a new row that bears xs and news -/
theorem grown_row (w : World) (e : TypeId) (xs news : List Value) (N old : Nat) (row : Option Nat) (hN : (xs ++ news).length = N) (h63 : N ≤ maxLen) :
    (w.drew.alloc (.cells (xs.toArray ++ news.toArray ++ Builtin.zeroCells (Value.int .u8 0).cells (grownCap w N old e - N)) e)).ownsRow 0 e 1 (.slice (some ⟨w.heap.size, 0, none⟩) N (grownCap w N old e)) N (xs ++ news) ∧
    w.grownBy (w.drew.alloc (.cells (xs.toArray ++ news.toArray ++ Builtin.zeroCells (Value.int .u8 0).cells (grownCap w N old e - N)) e)) row := by
  have hge := grownCap_ge w N old e
  have hz1 : (Value.int IntKind.u8 0).cells.size = 1 := rfl
  have hnew := heap_alloc_new w.drew (.cells (xs.toArray ++ news.toArray ++ Builtin.zeroCells (Value.int .u8 0).cells (grownCap w N old e - N)) e)
  refine ⟨⟨by rw [hN, Nat.mul_one], Or.inr ⟨w.heap.size, grownCap w N old e, _, rfl, Nat.zero_le _, hnew, hge, grownCap_le_maxLen w N old e h63, ?_, ?_⟩⟩, rfl, rfl, rfl, by simp, fun k hk _ => Below.heap_alloc _ _ _ hk⟩
  · simp only [Array.size_append, List.size_toArray, size_zeroCells, hz1]
    rw [List.length_append] at hN
    omega
  · rw [Nat.mul_one, ← hN, Array.toList_append, Array.toList_append]
    exact List.take_left

theorem run_append_wide {P : Program} (w : World) (t ty e : TypeId) (i : TypeInfo) (ht : P.underlying t = some (.slice e)) (hi : P.info? e = some i) (hz : i.zero = some (.int .u8 0)) (hsize : i.size = 1) (hby : i.bytes = 1)
    (v : Value) (n : Nat) (xs : List Value) (hown : w.ownsRow 0 e 1 v n xs)
    (a : Addr) (m c : Nat) (news : List Value) (hl : news.length = m) (hnews : ∀ j u, news[j]? = some u → w.cell? (a.add j) = some u) (h1 : ∀ u ∈ news, u.oneCell' = true)
    (hm : m ≤ 140737488355328) (h63 : n + m ≤ 145000000000000) :
    ∃ v' w', (Builtin.append_ #[t, t] ty #[v, .slice (some a) m c]).run P w = .ok v' w' ∧ w'.ownsRow 0 e 1 v' (n + m) (xs ++ news) ∧ w.grownBy w' v.ownBlock ∧ Sep w v.ownBlock v' := by
  have hmax : n + m ≤ maxLen := by unfold maxLen; omega
  by_cases hsm : n + m ≤ 140737488355328
  · exact run_append_apart w 0 t ty e i (.int .u8 0) 1 1 ht hi hz hsize hby rfl (by decide) v n xs hown a m c news (by omega) hnews h1 hmax (by omega) (Nat.zero_le _)
  · have hxl : xs.length = n := by simpa using hown.1
    have hall : (xs ++ news).length = n + m := by rw [List.length_append, hxl, hl]
    rcases hown.2 with ⟨rfl, rfl⟩ | ⟨g, cap, cur, rfl, hbg, hg, hnc, hcm, hcs, htake⟩
    · omega
    · have hcs' : cur.size = cap := by simpa using hcs
      by_cases hroom : n + m ≤ cap
      · have hr := run_append_room (P := P) w t ty e i ht hi g n cap cur hg a m c news (by rw [hl, hsize, Nat.mul_one]) hnews h1 hroom (by rw [hsize, hl]; omega)
        rw [hsize] at hr
        refine ⟨_, _, hr, ⟨by rw [hall, Nat.mul_one], Or.inr ⟨g, cap, _, rfl, hbg, setRow_heap w g cur _ e _ hg, hroom, hcm, ?_, ?_⟩⟩, ⟨rfl, rfl, rfl, by simp, fun k _ hk => setRow_other w g k _ (fun e => hk (by simp [Value.ownBlock, e]))⟩, Or.inl rfl⟩
        · simp only [List.size_toArray, List.length_append, List.length_take, List.length_drop, Array.length_toList]
          omega
        · rw [htake, Nat.mul_one, ← hall]
          exact List.take_left
      · have holds : ∀ j u, xs[j]? = some u → w.cell? ((⟨g, 0, none⟩ : Addr).add j) = some u := hown.cells (g := g) rfl
        have hq := quarter (need := n + m) (old := cap) (by omega)
        have hr := run_append_grow (P := P) w t ty e i _ ht hi hz ⟨g, 0, none⟩ n cap xs (by rw [hsize]; omega) holds a m c news (by rw [hsize]; omega) hnews (by omega) (by omega) (by rw [hby]; omega)
        have hgr := grown_row w e xs news (n + m) cap (Value.ownBlock (.slice (some ⟨g, 0, none⟩) n cap)) hall hmax
        refine ⟨_, _, hr, hgr.1, hgr.2, Or.inr fun k hk => ?_⟩
        simp only [Value.ownBlock, Option.some.injEq] at hk
        omega

theorem run_append_wide_string {P : Program} (w : World) (t u ty e : TypeId) (i : TypeInfo) (ht : P.underlying t = some (.slice e)) (hu : P.underlying u = some .string) (hi : P.info? e = some i) (hz : i.zero = some (.int .u8 0)) (hsize : i.size = 1) (hby : i.bytes = 1)
    (v : Value) (n : Nat) (xs : List Value) (hown : w.ownsRow 0 e 1 v n xs) (s : ByteArray)
    (hm : s.size ≤ 140737488355328) (h63 : n + s.size ≤ 145000000000000) :
    ∃ v' w', (Builtin.append_ #[t, u] ty #[v, .string s]).run P w = .ok v' w' ∧ w'.ownsRow 0 e 1 v' (n + s.size) (xs ++ Lib.strCells s) ∧ w.grownBy w' v.ownBlock ∧ Sep w v.ownBlock v' := by
  have hmax : n + s.size ≤ maxLen := by unfold maxLen; omega
  by_cases hsm : n + s.size ≤ 140737488355328
  · exact run_append_apart_string w 0 t u ty e i ht hu hi hz hsize hby v n xs hown s hmax hsm (Nat.zero_le _)
  · have hxl : xs.length = n := by simpa using hown.1
    have hall : (xs ++ Lib.strCells s).length = n + s.size := by rw [List.length_append, hxl, Lib.strCells_length]
    rcases hown.2 with ⟨rfl, rfl⟩ | ⟨g, cap, cur, rfl, hbg, hg, hnc, hcm, hcs, htake⟩
    · omega
    · have hcs' : cur.size = cap := by simpa using hcs
      by_cases hroom : n + s.size ≤ cap
      · have hr := Lib.run_append_room_string (P := P) w t u ty e i ht hu hi hsize g n cap cur hg s hroom (by omega)
        refine ⟨_, _, hr, ⟨by rw [hall, Nat.mul_one], Or.inr ⟨g, cap, _, rfl, hbg, setRow_heap w g cur _ e _ hg, hroom, hcm, ?_, ?_⟩⟩, ⟨rfl, rfl, rfl, by simp, fun k _ hk => setRow_other w g k _ (fun e => hk (by simp [Value.ownBlock, e]))⟩, Or.inl rfl⟩
        · simp only [List.size_toArray, List.length_append, List.length_take, List.length_drop, Array.length_toList, Lib.strCells_length]
          omega
        · have ht' : cur.toList.take n = xs := by simpa using htake
          rw [ht', Nat.mul_one, ← hall]
          exact List.take_left
      · have holds : ∀ j u, xs[j]? = some u → w.cell? ((⟨g, 0, none⟩ : Addr).add j) = some u := hown.cells (g := g) rfl
        have hq := quarter (need := n + s.size) (old := cap) (by omega)
        have hr := Lib.run_append_grow_string (P := P) w t u ty e i (.int .u8 0) ht hu hi hz ⟨g, 0, none⟩ n cap xs (by rw [hsize]; omega) holds s (by omega) (by omega) (by rw [hby]; omega)
        have hgr := grown_row w e xs (Lib.strCells s) (n + s.size) cap (Value.ownBlock (.slice (some ⟨g, 0, none⟩) n cap)) hall hmax
        refine ⟨_, _, hr, hgr.1, hgr.2, Or.inr fun k hk => ?_⟩
        simp only [Value.ownBlock, Option.some.injEq] at hk
        omega

/-- one byte behind a row -/
theorem wpList_byte_wide (w : World) {ops : Array Oper} {rest : List Oper} {o : Oper} {a : Act} {Q : Exit → Act → World → Prop} (hgd : o.guard = none) (s x : Operand)
    (ho : o.op = .call { callee := .builtin .append, args := #[s, x], argTypes := #[157, 157] })
    (v : Value) (l : List UInt8) (hs : a.eval s = v) (hrow : Row w v l) (hl : l.length ≤ 144990000000000)
    (ad : Addr) (c : Nat) (b : UInt8) (hx : a.eval x = .slice (some ad) 1 c) (hb : w.cell? ad = some (.int .u8 b.toNat))
    (h : ∀ v' w', Row w' v' (l ++ [b]) → w.grownBy w' v.ownBlock → Sep w v.ownBlock v' → wpList Try.prog ops Q rest (a.put o.dst v') w') : wpList Try.prog ops Q (o :: rest) a w := by
  obtain ⟨i0, hi, hz0, hz1, hz2⟩ := info_parts info_u8
  refine wpList_plain hgd fun K hK => ?_
  obtain ⟨v', w', hr, h2, h3, h4⟩ := run_append_wide (P := Try.prog) w 157 o.type 5 i0 Try.underlying157 hi hz0 hz1 hz2 v l.length (cells l) hrow ad 1 c (cells [b]) rfl (by
    intro j u hu
    cases j with
    | zero => simp only [cells, List.map_cons, List.map_nil, List.getElem?_cons_zero, Option.some.injEq] at hu; subst hu; rw [← hb]; rfl
    | succ j => simp [cells] at hu) (by intro u hu; simp [cells] at hu; subst hu; rfl) (by omega) (by omega)
  unfold Oper.wp execOp
  simp only [ho, resolve, invoke, builtin, Sem.run_bind, Sem.run_pure, Result.andThen_ok, List.map_toArray, List.map_cons, List.map_nil, hs, hx, hr]
  exact hK _ _ (h v' w' (by unfold Row; rw [cells_append, List.length_append]; exact h2) h3 h4)

/-- a text behind a row -/
theorem wpList_text_wide (w : World) {ops : Array Oper} {rest : List Oper} {o : Oper} {a : Act} {Q : Exit → Act → World → Prop} (hgd : o.guard = none) (sl x : Operand)
    (ho : o.op = .call { callee := .builtin .append, args := #[sl, x], argTypes := #[157, 9] })
    (v : Value) (l : List UInt8) (hs : a.eval sl = v) (hrow : Row w v l) (s : ByteArray) (hx : a.eval x = .string s) (hm : s.size ≤ 140737488355328) (h63 : l.length + s.size ≤ 145000000000000)
    (h : ∀ v' w', Row w' v' (l ++ s.data.toList) → w.grownBy w' v.ownBlock → Sep w v.ownBlock v' → wpList Try.prog ops Q rest (a.put o.dst v') w') : wpList Try.prog ops Q (o :: rest) a w := by
  obtain ⟨i0, hi, hz0, hz1, hz2⟩ := info_parts info_u8
  have hss : s.data.toList.length = s.size := by simp
  refine wpList_plain hgd fun K hK => ?_
  obtain ⟨v', w', hr, h2, h3, h4⟩ := run_append_wide_string (P := Try.prog) w 157 9 o.type 5 i0 Try.underlying157 Try.underlying9 hi hz0 hz1 hz2 v l.length (cells l) hrow s hm h63
  unfold Oper.wp execOp
  simp only [ho, resolve, invoke, builtin, Sem.run_bind, Sem.run_pure, Result.andThen_ok, List.map_toArray, List.map_cons, List.map_nil, hs, hx, hr]
  exact hK _ _ (h v' w' (by unfold Row; rw [cells_append, List.length_append, hss]; exact h2) h3 h4)
end Go.Proofs.Ytngcfnffbggniaa
