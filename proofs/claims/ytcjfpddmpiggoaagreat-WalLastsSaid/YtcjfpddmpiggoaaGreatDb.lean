/- behind: what a crash leaves of a sector. -/
import Derived.Test.YtcjfpddmpiggoaaGreatDw
namespace Go.Proofs.YtcjfpddmpiggoaaGreat
open Go.ChangeShapes Go.WideShapes Go.ChangeAt Go.RowKit
set_option linter.unusedVariables false
set_option linter.unusedSimpArgs false

theorem ret_cell {P : Program} {fn : Func} {R : Ending → World → Prop} {a : Act} {w : World} (A t : Nat) (g : Nat) (cells : Array Value) (hres : fn.results = #[.cell A t]) (hA : a.tmps.getD A undef = .pointer (some ⟨g, 0, none⟩))
    (hload : (loadVar t ⟨g, 0, none⟩).run P w = .ok (.agg cells) w) (hd : a.defers = []) (hR : R (.returned (.agg cells)) w) : bodyPost P fn R .ret a w :=
  bodyPost_ret (v := .agg cells) (by have h1 : a.tmps[A]?.getD undef = .pointer (some ⟨g, 0, none⟩) := (by simpa using hA); simp [results, hres, h1, asAddr, hload]) hd hR

theorem sec_size {l : List UInt8} (h : l.length = 64) : (Tryz.prog.info? 72).map (·.size) = some (secL l).length := by
  rw [(zero_of_info zero_sector).2]; simp [secL, h]

/-- a fate, as Go reckons it -/
def fateN (f : Int) : Nat := (if f < 0 then -(f + 1) else f).toNat
def tornL (m : Nat) (old now : List UInt8) : List UInt8 := now.take (m / 3 % 65) ++ old.drop (m / 3 % 65)
def behindL (f : Int) (old now : List UInt8) : List UInt8 :=
  if fateN f % 3 = 1 then now else if fateN f % 3 = 2 then tornL (fateN f) old now else old

theorem range_block {w : World} {g : Nat} {l : List UInt8} {T : TypeId} (h : w.heap[g]? = some (.cells (secL l).toArray T (0, 0))) : w.rangeAt g 0 (secL l) := fun j v hv => by
  rw [Nat.zero_add, cell_of_row w g j _ T (0, 0) h]
  simpa using hv

/-- the three blocks: the old bytes, the new ones, the result -/
structure Three (w W : World) (o n : List UInt8) : Prop where
  h0 : W.heap[w.heap.size]? = some (.cells (secL o).toArray 72 (0, 0))
  h1 : W.heap[w.heap.size + 1]? = some (.cells (secL n).toArray 72 (0, 0))
  h2 : W.heap[w.heap.size + 1 + 1]? = some (.cells (secL zeros).toArray 72 (0, 0))
  kept : Kept (fun _ => False) w W
  sz : W.heap.size = w.heap.size + 3

theorem three_new (w : World) (o n : List UInt8) : Three w (((w.alloc (.cells (secL o).toArray 72)).alloc (.cells (secL n).toArray 72)).alloc (.cells (secL zeros).toArray 72)) o n := by
  have a1 := heap_alloc_last w (.cells (secL o).toArray 72)
  have a2 := heap_alloc_last (w.alloc (.cells (secL o).toArray 72)) (.cells (secL n).toArray 72)
  have a3 := heap_alloc_last ((w.alloc (.cells (secL o).toArray 72)).alloc (.cells (secL n).toArray 72)) (.cells (secL zeros).toArray 72)
  refine ⟨?_, ?_, ?_, (((Kept.refl _ w).alloc _).alloc _).alloc _, by simp⟩
  · rw [Below.heap_alloc _ _ _ (by simp; omega), Below.heap_alloc _ _ _ (by simp)]; exact a1
  · rw [Below.heap_alloc _ _ _ (by simp)]; simpa using a2
  · simpa using a3

theorem setRow_kept (w : World) (g : Nat) (cs : Array Value) : Kept (fun k => k = g) w (w.setRow g cs) :=
  ⟨rfl, rfl, rfl, by simp, fun k _ hk => setRow_other w g k cs hk⟩
theorem Three.res {w W : World} {o n : List UInt8} (h : Three w W o n) (cs : Array Value) : Kept (fun _ => False) w (W.setRow (w.heap.size + 1 + 1) cs) :=
  h.kept.trans' (setRow_kept W _ cs) (fun k hk e => by have e : k = w.heap.size + 1 + 1 := e; omega)

set_option maxRecDepth 100000 in
theorem slice_array (V : World) (g c : Nat) (hc : c ≤ 64) : Sem.run Tryz.prog (Instr.sliceAt 72 (.pointer (some ⟨g, 0, none⟩)) none (some (.int .i64 c)) none) V = .ok (.slice (some ⟨g, 0, none⟩) c 64) V := by
  have e : Tryz.prog.arrayLen 72 = 64 := by kernel_rfl
  have h1 := run_sliceAt_array_h (P := Tryz.prog) (w := V) (t := 72) (a := ⟨g, 0, none⟩) Tryz.underlying72 .i64 c (by omega) (by rw [e]; omega)
  have e2 : Tryz.prog.elem 72 = 5 := by kernel_rfl
  have hs : Sem.run Tryz.prog (sizeOf 5) V = .ok 1 V := by
    have hb := byte_size
    cases hq : Tryz.prog.info? 5 with
    | none => simp [hq] at hb
    | some i =>
      simp [hq] at hb
      simp [sizeOf, typeInfo, hq, hb]
  rw [h1, e, e2, hs]
  simp [Result.andThen, slicedAt, Addr.add]

theorem Three.copied {w W : World} {o n : List UInt8} (h : Three w W o n) (t : List UInt8) : Three w (W.setRow w.heap.size (secL t).toArray) t n :=
  ⟨setRow_heap _ _ _ _ _ _ h.h0, by rw [setRow_other W w.heap.size (w.heap.size + 1) _ (by omega)]; exact h.h1, by rw [setRow_other W w.heap.size (w.heap.size + 1 + 1) _ (by omega)]; exact h.h2,
   h.kept.trans' (setRow_kept W _ _) (fun k hk e => by have e : k = w.heap.size := e; omega), by simpa using h.sz⟩
theorem tlen (o n : List UInt8) (ho : o.length = 64) (hn : n.length = 64) (c : Nat) (hc : c ≤ 64) : (n.take c ++ o.drop c).length = 64 := by simp [ho, hn]; omega
theorem tcopy (o n : List UInt8) (ho : o.length = 64) (hn : n.length = 64) (c : Nat) (hc : c ≤ 64) :
    ((secL o).toArray.toList.take 0 ++ (secL (n.take c) ++ (secL o).toArray.toList.drop (0 + (secL (n.take c)).length))) = secL (n.take c ++ o.drop c) ∧
    ∀ (W : World) (g : Nat), W.heap[g]? = some (.cells (secL n).toArray 72 (0, 0)) → ∀ j v, (secL (n.take c))[j]? = some v → W.cell? (Addr.add ⟨g, 0, none⟩ j) = some v := by
  refine ⟨?_, ?_⟩
  · have h1 : (secL (n.take c)).length = c := by simp [secL, hn]; omega
    rw [h1]
    simp [secL, List.map_drop]
  · intro W g h j v hj
    rw [Addr.add_mid, cell_of_row W g (0 + j) _ _ (0, 0) h]
    have hjc : j < c := by
      have := (List.getElem?_eq_some_iff.1 hj).1
      simp [secL] at this; omega
    simp only [Nat.zero_add, List.getElem?_toArray]
    rw [← hj]
    simp [secL, List.map_take, List.getElem?_take, hjc]

set_option maxHeartbeats 1000000 in
set_option maxRecDepth 100000 in
theorem behind_any (w : World) (f : Int) (o n : List UInt8) (ho : o.length = 64) (hn : n.length = 64) (hf1 : -9223372036854775808 ≤ f) (hf2 : f ≤ 9223372036854775807) :
    Calls Tryz.prog 35 #[.int .i64 f, sec o, sec n] w fun e w' => e = .returned (sec (behindL f o n)) ∧ Kept (fun _ => False) w w' := by
  have HB : Hid (behindL f o n = if fateN f % 3 = 1 then n else if fateN f % 3 = 2 then tornL (fateN f) o n else o) := Lib.hid rfl
  obtain ⟨m, hm⟩ : ∃ m, fateN f = m := ⟨_, rfl⟩
  rw [hm] at HB
  have hm2 : m ≤ 9223372036854775807 := by rw [← hm]; unfold fateN; split <;> omega
  have hmf : (f < 0 → -(f + 1) = (m : Int)) ∧ (¬ f < 0 → f = (m : Int)) := by
    rw [← hm]; unfold fateN
    constructor
    · intro h; rw [if_pos h]; omega
    · intro h; rw [if_neg h]; omega
  clear hm
  have HSO := Lib.hid (sec_size ho)
  have HSN := Lib.hid (sec_size hn)
  have hno : (secL o).length = 64 := by simp [secL, ho]
  have hnn : (secL n).length = 64 := by simp [secL, hn]
  have HNO := Lib.hid hno
  have HNN := Lib.hid hnn
  have H3 := Lib.hid (three_new w o n)
  clear hno hnn
  by_cases hneg : f < 0
  · have hq := hmf.1 hneg
    clear hmf
    rcases (show m % 3 = 1 ∨ m % 3 = 2 ∨ m % 3 = 0 by omega) with hr | hr | hr
    · have E : Hid (behindL f o n = n) := Lib.hid (by rw [HB.out, if_pos hr])
      have g1 : ((m : Int) % 3 == 1) = true := by simp; omega
      clear hr HB
      go_enter Tryz.func35, Tryz.ntmps35
      simp only [sec]
      go_upto_region 1 with (fail)
      change Code.wp _ _ _ _ (((w.alloc (.cells (secL o).toArray 72)).alloc (.cells (secL n).toArray 72)).alloc (.cells (secL zeros).toArray 72))
      generalize ((w.alloc (.cells (secL o).toArray 72)).alloc (.cells (secL n).toArray 72)).alloc (.cells (secL zeros).toArray 72) = W at H3 ⊢
      go_wp2_with (first
        | (refine wpList_load_mid rfl 72 _ rfl (w.heap.size + 1) 0 rfl (secL n) _ (range_block H3.out.h1) Tryz.underlying72 rfl HSN.out ?_)
        | (refine wpList_store_row _ rfl 72 _ _ rfl (w.heap.size + 1 + 1) _ (secL n) rfl rfl H3.out.h2 HSN.out (by rw [HNN.out]; try rfl) (secL_one _) ?_))
      have hrow := setRow_heap W (w.heap.size + 1 + 1) _ (secL n).toArray _ _ H3.out.h2
      have hload := run_loadVar_row (P := Tryz.prog) _ (w.heap.size + 1 + 1) 72 72 _ (0, 0) _ hrow Tryz.underlying72 rfl (by rw [List.size_toArray]; exact HSN.out)
      exact ret_cell 6 72 (w.heap.size + 1 + 1) _ Tryz.results35 rfl hload rfl ⟨by rw [E.out], H3.out.res _⟩
    · have E : Hid (behindL f o n = tornL m o n) := Lib.hid (by rw [HB.out, if_neg (by omega), if_pos hr])
      have g1 : ((m : Int) % 3 == 1) = false := by simp; omega
      have g2 : ((m : Int) % 3 == 2) = true := by simp; omega
      clear hr HB
      obtain ⟨c, hc⟩ : ∃ c, m / 3 % 65 = c := ⟨_, rfl⟩
      have hc64 : c ≤ 64 := by omega
      have HC : Hid ((m : Int) / 3 % 65 = (c : Int)) := Lib.hid (by omega)
      have HT : Hid (tornL m o n = n.take c ++ o.drop c) := Lib.hid (by unfold tornL; rw [hc])
      clear hc
      go_enter Tryz.func35, Tryz.ntmps35
      simp only [sec]
      go_upto_region 1 with (fail)
      change Code.wp _ _ _ _ (((w.alloc (.cells (secL o).toArray 72)).alloc (.cells (secL n).toArray 72)).alloc (.cells (secL zeros).toArray 72))
      generalize ((w.alloc (.cells (secL o).toArray 72)).alloc (.cells (secL n).toArray 72)).alloc (.cells (secL zeros).toArray 72) = W at H3 ⊢
      go_upto_region 8 with (fail)
      rw [HC.out]
      have HT3 := Lib.hid (tcopy o n ho hn c hc64)
      have HST := Lib.hid (sec_size (tlen o n ho hn c hc64))
      have HNT : Hid ((secL (n.take c ++ o.drop c)).length = 64) := Lib.hid (by simp [secL, hn, ho]; omega)
      have hcs : (secL (n.take c)).length = c := by simp [secL, hn]; omega
      have HCS := Lib.hid hcs
      clear hcs
      have hsl0 := fun (V : World) => slice_array V w.heap.size c hc64
      have hsl1 := fun (V : World) => slice_array V (w.heap.size + 1) c hc64
      go_still_tail 4, (by kernel_rfl)
      change wpList _ _ _ _ _ W.drew
      have H3d : Hid (Three w W.drew o n) := Lib.hid ⟨H3.out.h0, H3.out.h1, H3.out.h2, H3.out.kept.drew, H3.out.sz⟩
      generalize W.drew = Wd at H3d ⊢
      refine wpList_copy_own rfl _ _ 80 80 rfl 5 Tryz.underlying80 byte_size w.heap.size 0 c 64 ⟨w.heap.size + 1, 0, none⟩ c 64 rfl rfl (secL o).toArray 72 H3d.out.h0 (secL (n.take c)) (by rw [HCS.out]; exact (Nat.min_self c).symm) (HT3.out.2 _ _ H3d.out.h1) (by rw [HCS.out, List.size_toArray, HNO.out]; omega) (secL_one _) ?_
      rw [HT3.out.1]
      have H5 := Lib.hid (H3d.out.copied (n.take c ++ o.drop c))
      generalize Wd.setRow w.heap.size (secL (n.take c ++ o.drop c)).toArray = W5 at H5 ⊢
      go_wp2_with (first
        | (refine wpList_load_mid rfl 72 _ rfl w.heap.size 0 rfl (secL (n.take c ++ o.drop c)) _ (range_block H5.out.h0) Tryz.underlying72 rfl HST.out ?_)
        | (refine wpList_store_row _ rfl 72 _ _ rfl (w.heap.size + 1 + 1) _ (secL (n.take c ++ o.drop c)) rfl rfl H5.out.h2 HST.out (by rw [HNT.out]; try rfl) (secL_one _) ?_))
      have hrow := setRow_heap W5 (w.heap.size + 1 + 1) _ (secL (n.take c ++ o.drop c)).toArray _ _ H5.out.h2
      have hload := run_loadVar_row (P := Tryz.prog) _ (w.heap.size + 1 + 1) 72 72 _ (0, 0) _ hrow Tryz.underlying72 rfl (by rw [List.size_toArray]; exact HST.out)
      exact ret_cell 6 72 (w.heap.size + 1 + 1) _ Tryz.results35 rfl hload rfl ⟨by rw [E.out, HT.out], H5.out.res _⟩
    · have E : Hid (behindL f o n = o) := Lib.hid (by rw [HB.out, if_neg (by omega), if_neg (by omega)])
      have g1 : ((m : Int) % 3 == 1) = false := by simp; omega
      have g2 : ((m : Int) % 3 == 2) = false := by simp; omega
      clear hr HB
      go_enter Tryz.func35, Tryz.ntmps35
      simp only [sec]
      go_upto_region 1 with (fail)
      change Code.wp _ _ _ _ (((w.alloc (.cells (secL o).toArray 72)).alloc (.cells (secL n).toArray 72)).alloc (.cells (secL zeros).toArray 72))
      generalize ((w.alloc (.cells (secL o).toArray 72)).alloc (.cells (secL n).toArray 72)).alloc (.cells (secL zeros).toArray 72) = W at H3 ⊢
      go_wp2_with (first
        | (refine wpList_load_mid rfl 72 _ rfl w.heap.size 0 rfl (secL o) _ (range_block H3.out.h0) Tryz.underlying72 rfl HSO.out ?_)
        | (refine wpList_store_row _ rfl 72 _ _ rfl (w.heap.size + 1 + 1) _ (secL o) rfl rfl H3.out.h2 HSO.out (by rw [HNO.out]; try rfl) (secL_one _) ?_))
      have hrow := setRow_heap W (w.heap.size + 1 + 1) _ (secL o).toArray _ _ H3.out.h2
      have hload := run_loadVar_row (P := Tryz.prog) _ (w.heap.size + 1 + 1) 72 72 _ (0, 0) _ hrow Tryz.underlying72 rfl (by rw [List.size_toArray]; exact HSO.out)
      exact ret_cell 6 72 (w.heap.size + 1 + 1) _ Tryz.results35 rfl hload rfl ⟨by rw [E.out], H3.out.res _⟩
  · have hq := hmf.2 hneg
    clear hmf
    have hfl : ¬ (m : Int) < 0 := by omega
    subst hq
    rcases (show m % 3 = 1 ∨ m % 3 = 2 ∨ m % 3 = 0 by omega) with hr | hr | hr
    · have E : Hid (behindL (m : Int) o n = n) := Lib.hid (by rw [HB.out, if_pos hr])
      have g1 : ((m : Int) % 3 == 1) = true := by simp; omega
      clear hr HB
      go_enter Tryz.func35, Tryz.ntmps35
      simp only [sec]
      go_upto_region 1 with (fail)
      change Code.wp _ _ _ _ (((w.alloc (.cells (secL o).toArray 72)).alloc (.cells (secL n).toArray 72)).alloc (.cells (secL zeros).toArray 72))
      generalize ((w.alloc (.cells (secL o).toArray 72)).alloc (.cells (secL n).toArray 72)).alloc (.cells (secL zeros).toArray 72) = W at H3 ⊢
      go_wp2_with (first
        | (refine wpList_load_mid rfl 72 _ rfl (w.heap.size + 1) 0 rfl (secL n) _ (range_block H3.out.h1) Tryz.underlying72 rfl HSN.out ?_)
        | (refine wpList_store_row _ rfl 72 _ _ rfl (w.heap.size + 1 + 1) _ (secL n) rfl rfl H3.out.h2 HSN.out (by rw [HNN.out]; try rfl) (secL_one _) ?_))
      have hrow := setRow_heap W (w.heap.size + 1 + 1) _ (secL n).toArray _ _ H3.out.h2
      have hload := run_loadVar_row (P := Tryz.prog) _ (w.heap.size + 1 + 1) 72 72 _ (0, 0) _ hrow Tryz.underlying72 rfl (by rw [List.size_toArray]; exact HSN.out)
      exact ret_cell 6 72 (w.heap.size + 1 + 1) _ Tryz.results35 rfl hload rfl ⟨by rw [E.out], H3.out.res _⟩
    · have E : Hid (behindL (m : Int) o n = tornL m o n) := Lib.hid (by rw [HB.out, if_neg (by omega), if_pos hr])
      have g1 : ((m : Int) % 3 == 1) = false := by simp; omega
      have g2 : ((m : Int) % 3 == 2) = true := by simp; omega
      clear hr HB
      obtain ⟨c, hc⟩ : ∃ c, m / 3 % 65 = c := ⟨_, rfl⟩
      have hc64 : c ≤ 64 := by omega
      have HC : Hid ((m : Int) / 3 % 65 = (c : Int)) := Lib.hid (by omega)
      have HT : Hid (tornL m o n = n.take c ++ o.drop c) := Lib.hid (by unfold tornL; rw [hc])
      clear hc
      go_enter Tryz.func35, Tryz.ntmps35
      simp only [sec]
      go_upto_region 1 with (fail)
      change Code.wp _ _ _ _ (((w.alloc (.cells (secL o).toArray 72)).alloc (.cells (secL n).toArray 72)).alloc (.cells (secL zeros).toArray 72))
      generalize ((w.alloc (.cells (secL o).toArray 72)).alloc (.cells (secL n).toArray 72)).alloc (.cells (secL zeros).toArray 72) = W at H3 ⊢
      go_upto_region 8 with (fail)
      rw [HC.out]
      have HT3 := Lib.hid (tcopy o n ho hn c hc64)
      have HST := Lib.hid (sec_size (tlen o n ho hn c hc64))
      have HNT : Hid ((secL (n.take c ++ o.drop c)).length = 64) := Lib.hid (by simp [secL, hn, ho]; omega)
      have hcs : (secL (n.take c)).length = c := by simp [secL, hn]; omega
      have HCS := Lib.hid hcs
      clear hcs
      have hsl0 := fun (V : World) => slice_array V w.heap.size c hc64
      have hsl1 := fun (V : World) => slice_array V (w.heap.size + 1) c hc64
      go_still_tail 4, (by kernel_rfl)
      change wpList _ _ _ _ _ W.drew
      have H3d : Hid (Three w W.drew o n) := Lib.hid ⟨H3.out.h0, H3.out.h1, H3.out.h2, H3.out.kept.drew, H3.out.sz⟩
      generalize W.drew = Wd at H3d ⊢
      refine wpList_copy_own rfl _ _ 80 80 rfl 5 Tryz.underlying80 byte_size w.heap.size 0 c 64 ⟨w.heap.size + 1, 0, none⟩ c 64 rfl rfl (secL o).toArray 72 H3d.out.h0 (secL (n.take c)) (by rw [HCS.out]; exact (Nat.min_self c).symm) (HT3.out.2 _ _ H3d.out.h1) (by rw [HCS.out, List.size_toArray, HNO.out]; omega) (secL_one _) ?_
      rw [HT3.out.1]
      have H5 := Lib.hid (H3d.out.copied (n.take c ++ o.drop c))
      generalize Wd.setRow w.heap.size (secL (n.take c ++ o.drop c)).toArray = W5 at H5 ⊢
      go_wp2_with (first
        | (refine wpList_load_mid rfl 72 _ rfl w.heap.size 0 rfl (secL (n.take c ++ o.drop c)) _ (range_block H5.out.h0) Tryz.underlying72 rfl HST.out ?_)
        | (refine wpList_store_row _ rfl 72 _ _ rfl (w.heap.size + 1 + 1) _ (secL (n.take c ++ o.drop c)) rfl rfl H5.out.h2 HST.out (by rw [HNT.out]; try rfl) (secL_one _) ?_))
      have hrow := setRow_heap W5 (w.heap.size + 1 + 1) _ (secL (n.take c ++ o.drop c)).toArray _ _ H5.out.h2
      have hload := run_loadVar_row (P := Tryz.prog) _ (w.heap.size + 1 + 1) 72 72 _ (0, 0) _ hrow Tryz.underlying72 rfl (by rw [List.size_toArray]; exact HST.out)
      exact ret_cell 6 72 (w.heap.size + 1 + 1) _ Tryz.results35 rfl hload rfl ⟨by rw [E.out, HT.out], H5.out.res _⟩
    · have E : Hid (behindL (m : Int) o n = o) := Lib.hid (by rw [HB.out, if_neg (by omega), if_neg (by omega)])
      have g1 : ((m : Int) % 3 == 1) = false := by simp; omega
      have g2 : ((m : Int) % 3 == 2) = false := by simp; omega
      clear hr HB
      go_enter Tryz.func35, Tryz.ntmps35
      simp only [sec]
      go_upto_region 1 with (fail)
      change Code.wp _ _ _ _ (((w.alloc (.cells (secL o).toArray 72)).alloc (.cells (secL n).toArray 72)).alloc (.cells (secL zeros).toArray 72))
      generalize ((w.alloc (.cells (secL o).toArray 72)).alloc (.cells (secL n).toArray 72)).alloc (.cells (secL zeros).toArray 72) = W at H3 ⊢
      go_wp2_with (first
        | (refine wpList_load_mid rfl 72 _ rfl w.heap.size 0 rfl (secL o) _ (range_block H3.out.h0) Tryz.underlying72 rfl HSO.out ?_)
        | (refine wpList_store_row _ rfl 72 _ _ rfl (w.heap.size + 1 + 1) _ (secL o) rfl rfl H3.out.h2 HSO.out (by rw [HNO.out]; try rfl) (secL_one _) ?_))
      have hrow := setRow_heap W (w.heap.size + 1 + 1) _ (secL o).toArray _ _ H3.out.h2
      have hload := run_loadVar_row (P := Tryz.prog) _ (w.heap.size + 1 + 1) 72 72 _ (0, 0) _ hrow Tryz.underlying72 rfl (by rw [List.size_toArray]; exact HSO.out)
      exact ret_cell 6 72 (w.heap.size + 1 + 1) _ Tryz.results35 rfl hload rfl ⟨by rw [E.out], H3.out.res _⟩
end Go.Proofs.YtcjfpddmpiggoaaGreat
