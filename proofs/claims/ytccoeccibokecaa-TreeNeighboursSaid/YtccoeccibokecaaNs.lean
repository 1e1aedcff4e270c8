/- Get. -/
import Derived.Test.YtccoeccibokecaaNr
namespace Go.Proofs.Ytccoeccibokecaa
open Go.ChangeShapes Go.WideShapes Go.ChangeAt Go.RowKit Go.Maps
set_option linter.unusedVariables false
set_option linter.unusedSimpArgs false
theorem ret_tmp_box_tmp {P : Program} {fn : Func} {R : Ending → World → Prop} {a : Act} {w : World} (r A t s : Nat) (g : Nat) (cells : Array Value) (u v : Value) (hres : fn.results = #[.tmp r, .cell A t, .tmp s]) (hA : a.tmps.getD A undef = .pointer (some ⟨g, 0, none⟩)) (hr : a.tmps.getD r undef = u) (hs : a.tmps.getD s undef = v)
    (hload : (loadVar t ⟨g, 0, none⟩).run P w = .ok (.agg cells) w) (hd : a.defers = []) (hR : R (.returned (.tuple #[u, .agg cells, v])) w) : bodyPost P fn R .ret a w :=
  bodyPost_ret (v := .tuple #[u, .agg cells, v]) (by
    have h1 : a.tmps[A]?.getD undef = .pointer (some ⟨g, 0, none⟩) := (by simpa using hA)
    have h2 : a.tmps[s]?.getD undef = v := (by simpa using hs)
    have h3 : a.tmps[r]?.getD undef = u := (by simpa using hr)
    simp [results, hres, h1, h2, h3, asAddr, hload]) hd hR
section
variable {Z : Nat → Prop} {w w' : World} {q : TB} {M : TM} {c : Nat} {D E : DV}
theorem TD.lookNode1 (h : TD Z w q M c D E) (p : ByteArray) (hp : p.size ≤ 140737488355328) : (Instr.lookup 75 (.map (some q.n)) (.string p) false).run Try.prog w = .ok ((lookV D (.string p.data.toList)).getD node0) w :=
  owns_look1 h.n (t := 75) (e := 85) keyS Try.underlying75 (zero_node w) (keyStr hp)
theorem field_data (d : ByteArray) (va : Option Addr) (vn vc : Nat) (v2 v3 v4 v5 v6 v7 v8 v9 v10 : Value) (W : World) : (Instr.field 85 (.agg #[.string d, .slice va vn vc, v2, v3, v4, v5, v6, v7, v8, v9, v10]) 0).run Try.prog W = .ok (.string d) W := by kernel_rfl
abbrev nineW (w : World) (b : Nat) (s : St) (l k : Int) : World := (((((((((w.setCell ⟨b, 0, none⟩ (.int .i64 s.cz)).setCell ⟨b, 1, none⟩ (.int .i64 s.mz)).setCell ⟨b, 2, none⟩ (.int .i64 s.pz)).setCell ⟨b, 3, none⟩ (.int .i64 s.ver)).setCell ⟨b, 4, none⟩ (.int .i64 s.cver)).setCell ⟨b, 5, none⟩ (.int .i64 s.aver)).setCell ⟨b, 6, none⟩ (.int .i64 s.owner)).setCell ⟨b, 7, none⟩ (.int .i64 l)).setCell ⟨b, 8, none⟩ (.int .i64 k))
theorem nine_box {w : World} {b : Nat} {s0 : St} {l0 k0 : Int} (h : BoxS w b s0 l0 k0) (s : St) (l k : Int) : BoxS (nineW w b s l k) b s l k := by
  have h0 : w.heap[b]? = some (.cells (statL s0 l0 k0).toArray 56 (0, 0)) := h
  exact (heap_set (i := 8) _ (heap_set (i := 7) _ (heap_set (i := 6) _ (heap_set (i := 5) _ (heap_set (i := 4) _ (heap_set (i := 3) _ (heap_set (i := 2) _ (heap_set (i := 1) _ (heap_set (i := 0) _ h0)))))))))
theorem nine_kept (w : World) (b : Nat) (s : St) (l k : Int) : Kept (fun j => j = b) w (nineW w b s l k) := ((((((((((Kept.refl (fun j => j = b) w).setCell (a := ⟨b, 0, none⟩) (.inl rfl) _).setCell (a := ⟨b, 1, none⟩) (.inl rfl) _).setCell (a := ⟨b, 2, none⟩) (.inl rfl) _).setCell (a := ⟨b, 3, none⟩) (.inl rfl) _).setCell (a := ⟨b, 4, none⟩) (.inl rfl) _).setCell (a := ⟨b, 5, none⟩) (.inl rfl) _).setCell (a := ⟨b, 6, none⟩) (.inl rfl) _).setCell (a := ⟨b, 7, none⟩) (.inl rfl) _).setCell (a := ⟨b, 8, none⟩) (.inl rfl) _)
def GetPost (w : World) (M : TM) (p : ByteArray) (e : Ending) (w' : World) : Prop := Kept (fun _ => False) w w' ∧
  ((M.N p.data.toList = none ∧ e = .returned (.tuple #[.string ⟨#[]⟩, statV St0 0 0, .int .i64 60])) ∨
   ∃ nd l, M.N p.data.toList = some nd ∧ Below1 M p l ∧ e = .returned (.tuple #[.string nd.data, statV nd.st nd.data.size l.length, .int .i64 0]))
set_option maxRecDepth 100000 in
set_option maxHeartbeats 1000000 in
theorem get_any (h : TAt Z w q M c) (p : ByteArray) (hp : p.size ≤ 140737488355328) (hc : c ≤ 4000000000000) :
    Calls Try.prog 24 #[.pointer (some ⟨q.t, 0, none⟩), .string p] w (GetPost w M p) := by
  obtain ⟨D, E, h⟩ := h
  have HD := Lib.hid h
  have hlt := h.lt _ (.inl rfl)
  have hk1 : Kept (fun _ => False) w (w.alloc (statO ⟨0, 0, 0, 0, 0, 0, 0⟩ 0 0)) := (Kept.refl _ w).alloc _
  have HK1 := Lib.hid hk1
  have HB1 : Hid (BoxS (w.alloc (statO ⟨0, 0, 0, 0, 0, 0, 0⟩ 0 0)) w.heap.size St0 0 0) := Lib.hid (heap_alloc_new w _)
  have HS := Lib.hid (stat_any (TAt.kept0 ⟨_, _, h⟩ hk1) p hp hc)
  clear h hk1
  go_enter Try.func24, Try.ntmps24
  go_wp2_with fail
  refine HS.out.mono ?_
  rintro e w5 ⟨hk5, hcase⟩
  have HK5 := Lib.hid (HK1.out.trans hk5)
  have HB5 := Lib.hid (HB1.out.kept0 hk5)
  have hD5 := HD.out.kept0 HK5.out
  have hbl : w.heap.size < w5.heap.size := lt_of_block HB5.out
  have hlt5 : q.t < w5.heap.size := Nat.lt_of_lt_of_le hlt HK5.out.size
  obtain ⟨c0, c1, c2, f⟩ := hD5.three
  obtain ⟨a0, a1, a2, a3, a4, a5, a6, a7, a8, af⟩ := HB5.out.nine
  rcases hcase with ⟨hM, rfl⟩ | ⟨nd, l, hM, hl, rfl⟩
  · have HM := Lib.hid hM
    clear hk5 hM HS hD5
    unfold statV
    go_wp2_with (refine wpList_store_row _ rfl 56 _ _ rfl w.heap.size _ (statL St0 0 0) rfl rfl ((Below.heap_alloc _ _ _ hbl).trans HB5.out) stat_info rfl (statL_one _ _ _) ?_)
    have hrow : BoxS ((w5.alloc (statO ⟨0, 0, 0, 0, 0, 0, 0⟩ 0 0)).setRow w.heap.size (statL St0 0 0).toArray) w.heap.size St0 0 0 := setRow_heap _ w.heap.size _ (statL St0 0 0).toArray _ _ ((Below.heap_alloc _ _ _ hbl).trans HB5.out)
    have hfin : Kept (fun _ => False) w ((w5.alloc (statO ⟨0, 0, 0, 0, 0, 0, 0⟩ 0 0)).setRow w.heap.size (statL St0 0 0).toArray) := kept_in (setRow_kept _ w.heap.size _) (HK5.out.alloc _) (Nat.le_refl _)
    refine ret_tmp_box_tmp 4 5 56 6 w.heap.size _ (.string ⟨#[]⟩) (.int .i64 60) Try.results24 ?_ ?_ ?_ hrow.load ?_ ?_
    exact rfl
    exact rfl
    exact rfl
    exact rfl
    exact ⟨hfin, .inl ⟨HM.out, rfl⟩⟩
  · have HM := Lib.hid hM
    have HL := Lib.hid hl
    have hk6 : Kept (fun _ => False) w5 (w5.alloc (statO nd.st nd.data.size l.length)).drew := ((Kept.refl _ w5).alloc _).drew
    have hrun := (hD5.kept0 hk6).lookNode1 p hp
    obtain ⟨va, vn, vc, hva⟩ : ∃ va vn vc, lookV D (.string p.data.toList) = some (nodeV nd (.slice va vn vc)) := by
      rcases HD.out.look p.data.toList with ⟨nd', av, hM', hL', ha'⟩ | ⟨hM', _⟩
      · rw [hM] at hM'; cases hM'
        obtain ⟨va, vn, vc, rfl⟩ := ha'.shape
        exact ⟨_, _, _, hL'⟩
      · rw [hM] at hM'; cases hM'
    rw [hva] at hrun
    simp only [Option.getD_some, nodeV] at hrun
    clear hk5 hM hl HS hD5 hva hk6
    unfold statV
    go_wp2_with fail
    have hfd := fun W => field_data nd.data va vn vc (.int .i64 nd.st.cz) (.int .i64 nd.st.mz) (.int .i64 nd.st.pz) (.int .i64 nd.st.ver) (.int .i64 nd.st.cver) (.int .i64 nd.st.aver) (.int .i64 nd.st.owner) (.int .i64 0) (.int .i64 0) W
    go_region
    go_wp2_with fail
    have hn := nine_box HB5.out nd.st nd.data.size l.length
    have hk := kept_in (nine_kept w5 w.heap.size nd.st nd.data.size l.length) HK5.out (Nat.le_refl _)
    unfold nineW at hn hk
    generalize (((((((((w5.setCell ⟨w.heap.size, 0, none⟩ (.int .i64 nd.st.cz)).setCell ⟨w.heap.size, 1, none⟩ (.int .i64 nd.st.mz)).setCell ⟨w.heap.size, 2, none⟩ (.int .i64 nd.st.pz)).setCell ⟨w.heap.size, 3, none⟩ (.int .i64 nd.st.ver)).setCell ⟨w.heap.size, 4, none⟩ (.int .i64 nd.st.cver)).setCell ⟨w.heap.size, 5, none⟩ (.int .i64 nd.st.aver)).setCell ⟨w.heap.size, 6, none⟩ (.int .i64 nd.st.owner)).setCell ⟨w.heap.size, 7, none⟩ (.int .i64 nd.data.size)).setCell ⟨w.heap.size, 8, none⟩ (.int .i64 l.length)) = w6 at hn hk ⊢
    have hrow : BoxS (w6.alloc (statO nd.st nd.data.size l.length)).drew w.heap.size nd.st nd.data.size l.length := (Below.heap_alloc w6 (statO nd.st nd.data.size l.length) w.heap.size (lt_of_block hn)).trans hn
    have hfin : Kept (fun _ => False) w (w6.alloc (statO nd.st nd.data.size l.length)).drew := (hk.alloc _).drew
    refine ret_tmp_box_tmp 4 5 56 6 w.heap.size _ (.string nd.data) (.int .i64 0) Try.results24 ?_ ?_ ?_ hrow.load ?_ ?_
    exact rfl
    exact rfl
    exact rfl
    exact rfl
    exact ⟨hfin, .inr ⟨nd, l, HM.out, HL.out, rfl⟩⟩
end
end Go.Proofs.Ytccoeccibokecaa
