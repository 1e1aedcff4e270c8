/- Stat. -/
import Derived.Test.YtccoeccibokecaaNq
import Derived.Laws.Tables
namespace Go.Proofs.Ytccoeccibokecaa
open Go.ChangeShapes Go.WideShapes Go.ChangeAt Go.RowKit Go.Maps
set_option linter.unusedVariables false
set_option linter.unusedSimpArgs false
theorem wpList_store_row {P : Program} {ops : Array Oper} {rest : List Oper} {op : Oper} {a : Act} {Q : Exit → Act → World → Prop} (w : World) (hgd : op.guard = none) (ty : TypeId) (x y : Operand) (ho : op.op = .store ty x y)
    (g : Nat) (c : Array Value) (cs : List Value) (hx : a.eval x = .pointer (some ⟨g, 0, none⟩)) (hy : a.eval y = .agg cs.toArray) (hg : w.heap[g]? = some (.cells c ty (0, 0))) (hi : (P.info? ty).map (·.size) = some cs.length) (hc : c.size = cs.length) (h1 : ∀ v ∈ cs, v.oneCell' = true)
    (h : wpList P ops Q rest (a.put op.dst undef) (w.setRow g cs.toArray)) : wpList P ops Q (op :: rest) a w :=
  wpList_plain hgd fun _ hK => by
    unfold Oper.wp execOp
    simp only [ho, hx, hy, Instr.storeAt, Instr.sureAddr, Sem.run_bind, Sem.run_pure, Result.andThen_ok, run_storeVar_row (P := P) w g ty ty c cs.toArray hg (by simpa using hi) (by simpa using hc) (List.all_eq_true.2 (fun v hv => h1 v (by simpa using hv)) |> fun h => by simpa using h)]
    exact hK _ _ h
theorem setRow_kept (w : World) (g : Nat) (cs : Array Value) : Kept (fun k => k = g) w (w.setRow g cs) :=
  ⟨rfl, rfl, rfl, by simp, fun k _ hk => setRow_other w g k cs hk⟩
theorem ret_box_tmp {P : Program} {fn : Func} {R : Ending → World → Prop} {a : Act} {w : World} (A t s : Nat) (g : Nat) (cells : Array Value) (v : Value) (hres : fn.results = #[.cell A t, .tmp s]) (hA : a.tmps.getD A undef = .pointer (some ⟨g, 0, none⟩)) (hs : a.tmps.getD s undef = v)
    (hload : (loadVar t ⟨g, 0, none⟩).run P w = .ok (.agg cells) w) (hd : a.defers = []) (hR : R (.returned (.tuple #[.agg cells, v])) w) : bodyPost P fn R .ret a w :=
  bodyPost_ret (v := .tuple #[.agg cells, v]) (by
    have h1 : a.tmps[A]?.getD undef = .pointer (some ⟨g, 0, none⟩) := (by simpa using hA)
    have h2 : a.tmps[s]?.getD undef = v := (by simpa using hs)
    simp [results, hres, h1, h2, asAddr, hload]) hd hR
theorem stat_info : (Try.prog.info? 56).map (·.size) = some 9 := by kernel_rfl
def statL (s : St) (len kids : Int) : List Value := [.int .i64 s.cz, .int .i64 s.mz, .int .i64 s.pz, .int .i64 s.ver, .int .i64 s.cver, .int .i64 s.aver, .int .i64 s.owner, .int .i64 len, .int .i64 kids]
theorem statL_one (s : St) (len kids : Int) : ∀ v ∈ statL s len kids, v.oneCell' = true := by
  intro v hv
  simp only [statL, List.mem_cons, List.not_mem_nil, or_false] at hv
  rcases hv with rfl | rfl | rfl | rfl | rfl | rfl | rfl | rfl | rfl <;> rfl
abbrev statO (s : St) (len kids : Int) : Obj := .cells #[.int .i64 s.cz, .int .i64 s.mz, .int .i64 s.pz, .int .i64 s.ver, .int .i64 s.cver, .int .i64 s.aver, .int .i64 s.owner, .int .i64 len, .int .i64 kids] 56
theorem BoxS.load {w : World} {b : Nat} {s : St} {len kids : Int} (h : BoxS w b s len kids) : (loadVar 56 ⟨b, 0, none⟩).run Try.prog w = .ok (statV s len kids) w :=
  run_loadVar_row (P := Try.prog) _ b 56 56 _ (0, 0) _ h Try.underlying56 rfl stat_info
theorem stat_set {w : World} {b : Nat} {s : St} {len kids : Int} (h : BoxS w b s len kids) (l k : Int) : BoxS ((w.setCell ⟨b, 7, none⟩ (.int .i64 l)).setCell ⟨b, 8, none⟩ (.int .i64 k)) b s l k := by
  have h1 := heap_set (c := statL s len kids) (i := 7) (.int .i64 l) h
  exact heap_set (c := statL s l kids) (i := 8) (.int .i64 k) h1
abbrev St0 : St := ⟨0, 0, 0, 0, 0, 0, 0⟩
section
variable {Z : Nat → Prop} {w w' : World} {q : TB} {M : TM} {c : Nat} {D E : DV}
theorem strAt_shape {B : Nat} {v : Value} {l : List ByteArray} (h : StrAt B w v (l.map baseS)) : ∃ a cap, v = .slice a l.length cap := by
  rcases h.2 with ⟨hv, h0⟩ | ⟨g, cap, cur, hv, hb, hh, r⟩
  · rw [List.length_map] at h0
    exact ⟨none, 0, by rw [hv, h0]⟩
  · rw [List.length_map] at hv
    exact ⟨_, _, hv⟩
def StatPost (w : World) (M : TM) (p : ByteArray) (e : Ending) (w' : World) : Prop := Kept (fun _ => False) w w' ∧
  ((M.N p.data.toList = none ∧ e = .returned (.tuple #[statV St0 0 0, .bool false])) ∨
   ∃ nd l, M.N p.data.toList = some nd ∧ Below1 M p l ∧ e = .returned (.tuple #[statV nd.st nd.data.size l.length, .bool true]))
set_option maxRecDepth 100000 in
set_option maxHeartbeats 1000000 in
theorem stat_any (h : TAt Z w q M c) (p : ByteArray) (hp : p.size ≤ 140737488355328) (hc : c ≤ 4000000000000) :
    Calls Try.prog 22 #[.pointer (some ⟨q.t, 0, none⟩), .string p] w (StatPost w M p) := by
  obtain ⟨D, E, h⟩ := h
  have HD := Lib.hid h
  have hlt := h.lt _ (.inl rfl)
  obtain ⟨c0, c1, c2, f⟩ := h.three
  have hk1 : Kept (fun _ => False) w (w.alloc (statO ⟨0, 0, 0, 0, 0, 0, 0⟩ 0 0)) := (Kept.refl _ w).alloc _
  rcases h.look p.data.toList with ⟨nd, av, hM, hL, ha⟩ | ⟨hM, hL⟩
  · obtain ⟨va, vn, vc, rfl⟩ := ha.shape
    have hrun := (h.kept0 hk1).lookNode p hp
    rw [hL] at hrun
    simp only [Option.getD_some, Option.isSome_some, nodeV] at hrun
    have HM := Lib.hid hM
    have HB4 : Hid (BoxS (w.alloc (statO ⟨0, 0, 0, 0, 0, 0, 0⟩ 0 0)) w.heap.size St0 0 0) := Lib.hid (heap_alloc_new w _)
    clear h hL ha hM
    go_enter Try.func22, Try.ntmps22
    go_wp2_with fail
    have hk2 : Kept (fun _ => False) w (((w.alloc (statO ⟨0, 0, 0, 0, 0, 0, 0⟩ 0 0)).alloc (nodeO nd.data va vn vc nd.st)).alloc (statO nd.st 0 0)) := (((Kept.refl _ w).alloc _).alloc _).alloc _
    have hb4 : BoxS (((w.alloc (statO ⟨0, 0, 0, 0, 0, 0, 0⟩ 0 0)).alloc (nodeO nd.data va vn vc nd.st)).alloc (statO nd.st 0 0)) w.heap.size St0 0 0 := (Below.heap_alloc _ _ _ (by simp; omega)).trans ((Below.heap_alloc _ _ _ (by simp)).trans (heap_alloc_new w _))
    have hnd : (((w.alloc (statO ⟨0, 0, 0, 0, 0, 0, 0⟩ 0 0)).alloc (nodeO nd.data va vn vc nd.st)).alloc (statO nd.st 0 0)).heap[w.heap.size + 1]? = some (nodeO nd.data va vn vc nd.st) := by
      have h1 := heap_alloc_new (w.alloc (statO ⟨0, 0, 0, 0, 0, 0, 0⟩ 0 0)) (nodeO nd.data va vn vc nd.st)
      rw [show (w.alloc (statO ⟨0, 0, 0, 0, 0, 0, 0⟩ 0 0)).heap.size = w.heap.size + 1 by simp] at h1
      exact (Below.heap_alloc _ _ _ (by simp)).trans h1
    have hbs : BoxS (((w.alloc (statO ⟨0, 0, 0, 0, 0, 0, 0⟩ 0 0)).alloc (nodeO nd.data va vn vc nd.st)).alloc (statO nd.st 0 0)) (w.heap.size + 1 + 1) nd.st 0 0 := by
      have h1 := heap_alloc_new ((w.alloc (statO ⟨0, 0, 0, 0, 0, 0, 0⟩ 0 0)).alloc (nodeO nd.data va vn vc nd.st)) (statO nd.st 0 0)
      rw [show ((w.alloc (statO ⟨0, 0, 0, 0, 0, 0, 0⟩ 0 0)).alloc (nodeO nd.data va vn vc nd.st)).heap.size = w.heap.size + 1 + 1 by simp] at h1
      exact h1
    have HK2 := Lib.hid hk2
    have HB4' := Lib.hid hb4
    have HND := Lib.hid hnd
    have HBS := Lib.hid hbs
    clear hk1 hk2 hb4 hnd hbs hrun c0 c1 c2 f HB4
    generalize (((w.alloc (statO ⟨0, 0, 0, 0, 0, 0, 0⟩ 0 0)).alloc (nodeO nd.data va vn vc nd.st)).alloc (statO nd.st 0 0)) = w2 at HK2 HB4' HND HBS ⊢
    have HKI := Lib.hid (kids_any (TAt.kept0 ⟨_, _, HD.out⟩ HK2.out.drew) p hp hc)
    unfold KidsPost at HKI
    have e0 : w2.drew.cell? ⟨w.heap.size + 1, 0, none⟩ = some (.string nd.data) := cell_kept (X := fun _ => False) (w := w2.drew) (Kept.refl _ _) HND.out (fun f => f) 0 rfl
    go_region_held3 (fun w' => w'.cell? ⟨w.heap.size + 1, 0, none⟩ = some (.string nd.data))
      (first | assumption | go_keep)
      (first
        | (go_at_call 44; with_reducible refine HKI.out.mono ?_; rintro e w5 ⟨v', l, rfl, hl, hv, hk5⟩; obtain ⟨va', vc', rfl⟩ := strAt_shape hv; have HL := Lib.hid hl; have HK5 := Lib.hid hk5; have hbs := BoxS.kept' HBS.out hk5 (fun f => f); have HB5 := Lib.hid hbs; obtain ⟨b0, b1, b2, b3, b4, b5, b6, b7, b8, bf⟩ := hbs.nine; clear e0 hl hv hbs; have e0 : w5.cell? ⟨w.heap.size + 1, 0, none⟩ = some (.string nd.data) := cell_kept (X := fun _ => False) (w := w2.drew) hk5 HND.out (fun f => f) 0 rfl; clear hk5))
    have hb6 := stat_set HB5.out nd.data.size l.length
    have h46 : BoxS ((w5.setCell ⟨w.heap.size + 1 + 1, 7, none⟩ (.int .i64 nd.data.size)).setCell ⟨w.heap.size + 1 + 1, 8, none⟩ (.int .i64 l.length)) w.heap.size St0 0 0 := (other_set (w := w5) (b := w.heap.size) (b' := w.heap.size + 1 + 1) (i := 7) (j := 8) (by omega) (.int .i64 nd.data.size) (.int .i64 l.length)).trans (BoxS.kept' HB4'.out HK5.out (fun f => f))
    have hk6 : Kept (fun k => k = w.heap.size + 1 + 1) w5 ((w5.setCell ⟨w.heap.size + 1 + 1, 7, none⟩ (.int .i64 nd.data.size)).setCell ⟨w.heap.size + 1 + 1, 8, none⟩ (.int .i64 l.length)) := (kept_set w5 (w.heap.size + 1 + 1) 7 _).setCell (a := ⟨w.heap.size + 1 + 1, 8, none⟩) (.inl rfl) _
    have HK6 := Lib.hid (kept_in hk6 (HK2.out.drew.trans HK5.out) (Nat.le_add_right _ 2))
    clear hk6 b0 b1 b2 b3 b4 b5 b6 b7 b8 bf e0
    generalize ((w5.setCell ⟨w.heap.size + 1 + 1, 7, none⟩ (.int .i64 nd.data.size)).setCell ⟨w.heap.size + 1 + 1, 8, none⟩ (.int .i64 l.length)) = w6 at hb6 h46 HK6 ⊢
    obtain ⟨b0, b1, b2, b3, b4, b5, b6, b7, b8, bf⟩ := hb6.nine
    have H46 := Lib.hid h46
    clear h46 hb6
    go_wp2_with (refine wpList_store_row _ rfl 56 _ _ rfl w.heap.size _ (statL nd.st nd.data.size l.length) rfl rfl H46.out stat_info rfl (statL_one _ _ _) ?_)
    have hrow : BoxS (w6.setRow w.heap.size (statL nd.st nd.data.size l.length).toArray) w.heap.size nd.st nd.data.size l.length := setRow_heap w6 w.heap.size _ (statL nd.st nd.data.size l.length).toArray _ _ H46.out
    have hfin : Kept (fun _ => False) w (w6.setRow w.heap.size (statL nd.st nd.data.size l.length).toArray) := kept_in (setRow_kept w6 w.heap.size _) HK6.out (Nat.le_refl _)
    refine ret_box_tmp 4 56 5 w.heap.size _ (.bool true) Try.results22 ?_ ?_ hrow.load ?_ ?_
    exact rfl
    exact rfl
    exact rfl
    exact ⟨hfin, .inr ⟨nd, l, HM.out, HL.out, rfl⟩⟩
  · have hrun := (h.kept0 hk1).lookNode p hp
    rw [hL] at hrun
    simp only [Option.getD_none, Option.isSome_none, node0] at hrun
    have HM := Lib.hid hM
    clear h hL hM
    go_enter Try.func22, Try.ntmps22
    go_wp2_with fail
    have hbx : BoxS ((w.alloc (statO ⟨0, 0, 0, 0, 0, 0, 0⟩ 0 0)).alloc (nodeO ByteArray.empty none 0 0 ⟨0, 0, 0, 0, 0, 0, 0⟩)) w.heap.size St0 0 0 := (Below.heap_alloc _ _ _ (by simp)).trans (heap_alloc_new w _)
    refine ret_box_tmp 4 56 5 w.heap.size _ (.bool false) Try.results22 ?_ ?_ hbx.load ?_ ?_
    exact rfl
    exact rfl
    exact rfl
    exact ⟨((Kept.refl _ w).alloc _).alloc _, .inl ⟨HM.out, rfl⟩⟩
end
end Go.Proofs.Ytccoeccibokecaa
