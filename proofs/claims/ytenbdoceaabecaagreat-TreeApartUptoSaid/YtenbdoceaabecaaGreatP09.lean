/- Get. Two ACLs compared; two nodes. Two nodes compared. -/
import Derived.Test.YtenbdoceaabecaaGreatP08
import Derived.IntWalk
import Derived.Deep.LoopGhost
namespace Go.Proofs.YtenbdoceaabecaaGreat
open Go.ChangeShapes Go.WideShapes Go.ChangeAt Go.RowKit Go.Maps
set_option linter.unusedVariables false
set_option linter.unusedSimpArgs false
theorem ret_tmp_box_tmp {P : Program} {fn : Func} {R : Ending → World → Prop} {a : Act} {w : World} (r A t s : Nat) (g : Nat) (cells : Array Value) (u v : Value) (hres : fn.results = #[.tmp r, .cell A t, .tmp s]) (hA : a.tmps.getD A undef = .pointer (some ⟨g, 0, none⟩)) (hr : a.tmps.getD r undef = u) (hs : a.tmps.getD s undef = v)
    (hload : (loadVar t ⟨g, 0, none⟩).run P w = .ok (.agg cells) w) (hd : a.defers = []) (hR : R (.returned (.tuple #[u, .agg cells, v])) w) : bodyPost P fn R .ret a w :=
  bodyPost_ret (v := .tuple #[u, .agg cells, v]) (by
    have h1 : a.tmps[A]?.getD undef = .pointer (some ⟨g, 0, none⟩) := (by simpa using hA)
    have h2 : a.tmps[s]?.getD undef = v := (by simpa using hs)
    have h3 : a.tmps[r]?.getD undef = u := (by simpa using hr)
    simp [results, hres, h1, h2, h3, asAddr, hload]) hd hR
section
variable {Z : Nat → Prop} {w w' : World} {q : TB} {M : TM} {c : Nat} {D E : DV}
theorem TD.lookNode1 (h : TD Z w q M c D E) (p : ByteArray) (hp : p.size ≤ 140737488355328) : (Instr.lookup 83 (.map (some q.n)) (.string p) false).run Tryz.prog w = .ok ((lookV D (.string p.data.toList)).getD node0) w :=
  owns_look1 h.n (t := 83) (e := 98) keyS Tryz.underlying83 (zero_node w) (keyStr hp)
theorem field_data (d : ByteArray) (va : Option Addr) (vn vc : Nat) (v2 v3 v4 v5 v6 v7 v8 v9 v10 : Value) (W : World) : (Instr.field 98 (.agg #[.string d, .slice va vn vc, v2, v3, v4, v5, v6, v7, v8, v9, v10]) 0).run Tryz.prog W = .ok (.string d) W := by kernel_rfl
abbrev nineW (w : World) (b : Nat) (s : St) (l k : Int) : World := (((((((((w.setCell ⟨b, 0, none⟩ (.int .i64 s.cz)).setCell ⟨b, 1, none⟩ (.int .i64 s.mz)).setCell ⟨b, 2, none⟩ (.int .i64 s.pz)).setCell ⟨b, 3, none⟩ (.int .i64 s.ver)).setCell ⟨b, 4, none⟩ (.int .i64 s.cver)).setCell ⟨b, 5, none⟩ (.int .i64 s.aver)).setCell ⟨b, 6, none⟩ (.int .i64 s.owner)).setCell ⟨b, 7, none⟩ (.int .i64 l)).setCell ⟨b, 8, none⟩ (.int .i64 k))
theorem nine_box {w : World} {b : Nat} {s0 : St} {l0 k0 : Int} (h : BoxS w b s0 l0 k0) (s : St) (l k : Int) : BoxS (nineW w b s l k) b s l k := by
  have h0 : w.heap[b]? = some (.cells (statL s0 l0 k0).toArray 36 (0, 0)) := h
  exact (heap_set (i := 8) _ (heap_set (i := 7) _ (heap_set (i := 6) _ (heap_set (i := 5) _ (heap_set (i := 4) _ (heap_set (i := 3) _ (heap_set (i := 2) _ (heap_set (i := 1) _ (heap_set (i := 0) _ h0)))))))))
theorem nine_kept (w : World) (b : Nat) (s : St) (l k : Int) : Kept (fun j => j = b) w (nineW w b s l k) := ((((((((((Kept.refl (fun j => j = b) w).setCell (a := ⟨b, 0, none⟩) (.inl rfl) _).setCell (a := ⟨b, 1, none⟩) (.inl rfl) _).setCell (a := ⟨b, 2, none⟩) (.inl rfl) _).setCell (a := ⟨b, 3, none⟩) (.inl rfl) _).setCell (a := ⟨b, 4, none⟩) (.inl rfl) _).setCell (a := ⟨b, 5, none⟩) (.inl rfl) _).setCell (a := ⟨b, 6, none⟩) (.inl rfl) _).setCell (a := ⟨b, 7, none⟩) (.inl rfl) _).setCell (a := ⟨b, 8, none⟩) (.inl rfl) _)
def GetPost (w : World) (M : TM) (p : ByteArray) (e : Ending) (w' : World) : Prop := Kept (fun _ => False) w w' ∧
  ((M.N p.data.toList = none ∧ e = .returned (.tuple #[.string ⟨#[]⟩, statV St0 0 0, .int .i64 60])) ∨
   ∃ nd l, M.N p.data.toList = some nd ∧ Below1 M p l ∧ e = .returned (.tuple #[.string nd.data, statV nd.st nd.data.size l.length, .int .i64 0]))
set_option maxRecDepth 100000 in
set_option maxHeartbeats 1000000 in
theorem get_any (h : TAt Z w q M c) (p : ByteArray) (hp : p.size ≤ 140737488355328) (hc : c ≤ 4000000000000) :
    Calls Tryz.prog 30 #[.pointer (some ⟨q.t, 0, none⟩), .string p] w (GetPost w M p) := by
  obtain ⟨D, E, h⟩ := h
  have HD := Lib.hid h
  have hlt := h.lt _ (.inl rfl)
  have hk1 : Kept (fun _ => False) w (w.alloc (statO ⟨0, 0, 0, 0, 0, 0, 0⟩ 0 0)) := (Kept.refl _ w).alloc _
  have HK1 := Lib.hid hk1
  have HB1 : Hid (BoxS (w.alloc (statO ⟨0, 0, 0, 0, 0, 0, 0⟩ 0 0)) w.heap.size St0 0 0) := Lib.hid (heap_alloc_new w _)
  have HS := Lib.hid (stat_any (TAt.kept0 ⟨_, _, h⟩ hk1) p hp hc)
  clear h hk1
  go_enter Tryz.func30, Tryz.ntmps30
  go_wp2_with fail
  refine HS.out.mono ?_
  rintro e w5 ⟨hk5, hcase⟩
  have HK5 := Lib.hid (HK1.out.trans hk5)
  have HB5 := Lib.hid (HB1.out.kept0 hk5)
  have hD5 := HD.out.kept0 HK5.out
  have hbl : w.heap.size < w5.heap.size := lt_of_block HB5.out
  have hlt5 : q.t < w5.heap.size := Nat.lt_of_lt_of_le hlt HK5.out.size
  obtain ⟨c0, c1, c2, f⟩ := hD5.three
  obtain ⟨a0, a1, a2, a3, a4, a5, a6, a7, a8, af⟩ := HB5.out.nine
  rcases hcase with ⟨hM, rfl⟩ | ⟨nd, l, hM, hl, rfl⟩
  · have HM := Lib.hid hM
    clear hk5 hM HS hD5
    unfold statV
    go_wp2_with (refine wpList_store_row _ rfl 36 _ _ rfl w.heap.size _ (statL St0 0 0) rfl rfl ((Below.heap_alloc _ _ _ hbl).trans HB5.out) stat_info rfl (statL_one _ _ _) ?_)
    have hrow : BoxS ((w5.alloc (statO ⟨0, 0, 0, 0, 0, 0, 0⟩ 0 0)).setRow w.heap.size (statL St0 0 0).toArray) w.heap.size St0 0 0 := setRow_heap _ w.heap.size _ (statL St0 0 0).toArray _ _ ((Below.heap_alloc _ _ _ hbl).trans HB5.out)
    have hfin : Kept (fun _ => False) w ((w5.alloc (statO ⟨0, 0, 0, 0, 0, 0, 0⟩ 0 0)).setRow w.heap.size (statL St0 0 0).toArray) := kept_in (setRow_kept _ w.heap.size _) (HK5.out.alloc _) (Nat.le_refl _)
    refine ret_tmp_box_tmp 4 5 36 6 w.heap.size _ (.string ⟨#[]⟩) (.int .i64 60) Tryz.results30 ?_ ?_ ?_ hrow.load ?_ ?_
    exact rfl
    exact rfl
    exact rfl
    exact rfl
    exact ⟨hfin, .inl ⟨HM.out, rfl⟩⟩
  · have HM := Lib.hid hM
    have HL := Lib.hid hl
    have hk6 : Kept (fun _ => False) w5 (w5.alloc (statO nd.st nd.data.size l.length)).drew := ((Kept.refl _ w5).alloc _).drew
    have hrun := (hD5.kept0 hk6).lookNode1 p hp
    obtain ⟨va, vn, vc, hva⟩ : ∃ va vn vc, lookV D (.string p.data.toList) = some (nodeV nd (.slice va vn vc)) := by
      rcases HD.out.look p.data.toList with ⟨nd', av, hM', hL', ha'⟩ | ⟨hM', _⟩
      · rw [hM] at hM'; cases hM'
        obtain ⟨va, vn, vc, rfl⟩ := ha'.shape
        exact ⟨_, _, _, hL'⟩
      · rw [hM] at hM'; cases hM'
    rw [hva] at hrun
    simp only [Option.getD_some, nodeV] at hrun
    clear hk5 hM hl HS hD5 hva hk6
    unfold statV
    go_wp2_with fail
    have hfd := fun W => field_data nd.data va vn vc (.int .i64 nd.st.cz) (.int .i64 nd.st.mz) (.int .i64 nd.st.pz) (.int .i64 nd.st.ver) (.int .i64 nd.st.cver) (.int .i64 nd.st.aver) (.int .i64 nd.st.owner) (.int .i64 0) (.int .i64 0) W
    go_region
    go_wp2_with fail
    have hn := nine_box HB5.out nd.st nd.data.size l.length
    have hk := kept_in (nine_kept w5 w.heap.size nd.st nd.data.size l.length) HK5.out (Nat.le_refl _)
    unfold nineW at hn hk
    generalize (((((((((w5.setCell ⟨w.heap.size, 0, none⟩ (.int .i64 nd.st.cz)).setCell ⟨w.heap.size, 1, none⟩ (.int .i64 nd.st.mz)).setCell ⟨w.heap.size, 2, none⟩ (.int .i64 nd.st.pz)).setCell ⟨w.heap.size, 3, none⟩ (.int .i64 nd.st.ver)).setCell ⟨w.heap.size, 4, none⟩ (.int .i64 nd.st.cver)).setCell ⟨w.heap.size, 5, none⟩ (.int .i64 nd.st.aver)).setCell ⟨w.heap.size, 6, none⟩ (.int .i64 nd.st.owner)).setCell ⟨w.heap.size, 7, none⟩ (.int .i64 nd.data.size)).setCell ⟨w.heap.size, 8, none⟩ (.int .i64 l.length)) = w6 at hn hk ⊢
    have hrow : BoxS (w6.alloc (statO nd.st nd.data.size l.length)).drew w.heap.size nd.st nd.data.size l.length := (Below.heap_alloc w6 (statO nd.st nd.data.size l.length) w.heap.size (lt_of_block hn)).trans hn
    have hfin : Kept (fun _ => False) w (w6.alloc (statO nd.st nd.data.size l.length)).drew := (hk.alloc _).drew
    refine ret_tmp_box_tmp 4 5 36 6 w.heap.size _ (.string nd.data) (.int .i64 0) Tryz.results30 ?_ ?_ ?_ hrow.load ?_ ?_
    exact rfl
    exact rfl
    exact rfl
    exact rfl
    exact ⟨hfin, .inr ⟨nd, l, HM.out, HL.out, rfl⟩⟩
end
end Go.Proofs.YtenbdoceaabecaaGreat

namespace Go.Proofs.YtenbdoceaabecaaGreat
open Go.ChangeShapes Go.WideShapes Go.ChangeAt Go.RowKit Go.Maps
set_option linter.unusedVariables false
set_option linter.unusedSimpArgs false
deriving instance DecidableEq for AR
deriving instance DecidableEq for St
def intOf : Value → Int
  | .int _ n => n
  | _ => 0
structure RowsA (w : World) (v : Value) (l : List AR) : Prop where
  ex : ∃ a cap, v = .slice a l.length cap ∧ ∀ i (h : i < l.length), ∃ g off, a = some ⟨g, off, none⟩ ∧ g < w.heap.size ∧
    w.cell? ⟨g, off + i * 2, none⟩ = some (.int .i64 l[i].perms) ∧ w.cell? ⟨g, off + i * 2 + 1, none⟩ = some (.string l[i].id)
  room : l.length ≤ 9223372036854775807
theorem aclC_at : ∀ (l : List AR) (i : Nat) (h : i < l.length), (aclC l)[i * 2]? = some (.int .i64 l[i].perms) ∧ (aclC l)[i * 2 + 1]? = some (.string l[i].id)
  | [], i, h => absurd h (by simp)
  | a :: l, 0, h => ⟨rfl, rfl⟩
  | a :: l, i + 1, h => by
    have := aclC_at l i (by simpa using h)
    have e : aclC (a :: l) = .int .i64 a.perms :: .string a.id :: aclC l := rfl
    rw [e, show (i + 1) * 2 = i * 2 + 1 + 1 by omega]
    simpa using this
theorem AclAt.rows {w : World} {Z : Nat → Prop} {v : Value} {l : List AR} (h : AclAt w Z v l) : RowsA w v l := by
  rcases h.1.2 with ⟨hv, h0⟩ | ⟨g, cap, cur, hv, hb, hh, h1, h2, h3⟩
  · exact ⟨⟨none, 0, by rw [hv, h0], fun i h => absurd h (by omega)⟩, by omega⟩
  · refine ⟨⟨some ⟨g, 0, none⟩, cap, hv, fun i hi => ⟨g, 0, rfl, lt_of_block hh, ?_, ?_⟩⟩, by unfold maxLen at h2; omega⟩
    · exact h.1.cells (g := g) (by rw [hv]; rfl) (i * 2) _ (aclC_at l i hi).1 |> fun e => by
        rw [show (⟨g, 0, none⟩ : Addr).add (i * 2) = ⟨g, i * 2, none⟩ by cases i <;> simp [Addr.add]] at e
        rw [Nat.zero_add]; exact e
    · exact h.1.cells (g := g) (by rw [hv]; rfl) (i * 2 + 1) _ (aclC_at l i hi).2 |> fun e => by
        rw [show (⟨g, 0, none⟩ : Addr).add (i * 2 + 1) = ⟨g, i * 2 + 1, none⟩ by simp [Addr.add]] at e
        rw [Nat.zero_add]; exact e
structure EqRel (w : World) (l1 l2 : List AR) (iv : Value) (wr : World) : Prop where
  ex : ∃ k n : Nat, k ≤ l1.length ∧ iv = .int .i64 k ∧ wr = w.drewN n ∧ l1.take k = l2.take k
theorem RowsA.at_ {w : World} {a : Option Addr} {n cap : Nat} {l : List AR} (h : RowsA w (.slice a n cap) l) {i : Nat} (hi : i < l.length) {r : AR} (hr : l[i] = r) : ∃ g off, a = some ⟨g, off, none⟩ ∧ g < w.heap.size ∧
    w.cell? ⟨g, off + i * 2, none⟩ = some (.int .i64 r.perms) ∧ w.cell? ⟨g, off + i * 2 + 1, none⟩ = some (.string r.id) := by
  obtain ⟨a', cap', hv, hc⟩ := h.ex
  injection hv with h1 h2 h3
  subst h1 hr
  exact hc i hi
set_option maxRecDepth 100000 in
set_option maxHeartbeats 2000000 in
theorem acleq_any {w : World} {v1 v2 : Value} {l1 l2 : List AR} (h1 : RowsA w v1 l1) (h2 : RowsA w v2 l2) :
    Calls Tryz.prog 88 #[v1, v2] w fun e w' => e = .returned (.bool (decide (l1 = l2))) ∧ ∃ n, w' = w.drewN n := by
  have H1 := Lib.hid h1
  have H2 := Lib.hid h2
  have hr1 := h1.room
  have hr2 := h2.room
  obtain ⟨a, cap, rfl, _⟩ := h1.ex
  obtain ⟨b, bcap, rfl, _⟩ := h2.ex
  clear h1 h2
  by_cases hl : l1.length = l2.length
  · have HL := Lib.hid hl
    rw [← hl]
    clear hl
    go_enter Tryz.func88, Tryz.ntmps88
    go_wp2
    go_loopw [13, 5] (fun iv _ wr => EqRel w l1 l2 iv wr) (fun iv _ _ => l1.length - (intOf iv).toNat)
    case atStart => exact ⟨0, 0, Nat.zero_le _, rfl, rfl, rfl⟩
    case round =>
      obtain ⟨k, n, hk, rfl, rfl, heq⟩ := hrel.ex
      clear hrel
      have HEQ := Lib.hid heq; clear heq
      by_cases hlt : k < l1.length
      · obtain ⟨r, hr⟩ : ∃ r, l1[k] = r := ⟨_, rfl⟩
        have hlt2 : k < l2.length := by rw [← HL.out]; exact hlt
        obtain ⟨s, hs⟩ : ∃ s, l2[k] = s := ⟨_, rfl⟩
        have HR := Lib.hid hr
        have HS := Lib.hid hs
        obtain ⟨g, off, rfl, hg, hc1, hc2⟩ := H1.out.at_ hlt hr
        obtain ⟨g2, off2, rfl, hg2, hc3, hc4⟩ := H2.out.at_ hlt2 hs
        clear hr hs
        have hw1 : IntKind.i64.wrap (↑k + 1) = ↑k + 1 := IntWalk.i64_in _ (by omega)
        have HRS : Hid (∀ (h1 : r.perms = s.perms) (h2 : r.id.toList = s.id.toList), r = s) := Lib.hid (fun h1 h2 => by
          rw [Lib.toList_data, Lib.toList_data] at h2
          have h3 := ba_inj h2
          cases r; cases s; simp_all)
        have HNE : Hid (r ≠ s → decide (l1 = l2) = false) := Lib.hid (fun e => by
          simp only [decide_eq_false_iff_not]
          intro h; subst h; exact e (HR.out.symm.trans HS.out))
        have HNX : Hid (r = s → l1.take (k + 1) = l2.take (k + 1)) := Lib.hid (fun e => by
          rw [List.take_succ_eq_append_getElem hlt, List.take_succ_eq_append_getElem hlt2, HEQ.out, HR.out, HS.out, e])
        by_cases hp : r.perms = s.perms
        · by_cases hq : r.id.toList = s.id.toList
          · have HRE := Lib.hid (HNX.out (HRS.out hp hq))
            go_wp2
            go_region
            all_goals go_wp2
            all_goals go_roundw
            case rel => exact ⟨k + 1, _, hlt, by push_cast; rfl, rfl, HRE.out⟩
            case measure => simp only [intOf]; omega
          · have HRE := Lib.hid (HNE.out (fun e => hq (by rw [e])))
            go_wp2
            go_region
            all_goals go_wp2
            all_goals go_ret
            all_goals exact ⟨ret_bool HRE.out.symm, _, rfl⟩
        · have HRE := Lib.hid (HNE.out (fun e => hp (by rw [e])))
          go_wp2
          go_region
          all_goals go_wp2
          all_goals go_ret
          all_goals exact ⟨ret_bool HRE.out.symm, _, rfl⟩
      · go_wp2
        go_ret
        refine ⟨ret_bool ?_, _, rfl⟩
        have he := HEQ.out
        rw [List.take_of_length_le (by omega), List.take_of_length_le (by have := HL.out; omega)] at he
        simp [he]
  · go_enter Tryz.func88, Tryz.ntmps88
    have b1 : ((l1.length : Int) != (l2.length : Int)) = true := by simp; omega
    have HN : Hid (decide (l1 = l2) = false) := Lib.hid (by simp; intro e; exact hl (by rw [e]))
    clear hl
    go_wp2
    go_ret
    exact ⟨ret_bool HN.out.symm, 0, rfl⟩
end Go.Proofs.YtenbdoceaabecaaGreat

namespace Go.Proofs.YtenbdoceaabecaaGreat
open Go.ChangeShapes Go.WideShapes Go.ChangeAt Go.RowKit Go.Maps
set_option linter.unusedVariables false
set_option linter.unusedSimpArgs false
deriving instance DecidableEq for Nd
theorem RowsA.kept0 {w w' : World} {v : Value} {l : List AR} (h : RowsA w v l) (hk : Kept (fun _ => False) w w') : RowsA w' v l := by
  obtain ⟨a, cap, hv, hc⟩ := h.ex
  refine ⟨⟨a, cap, hv, fun i hi => ?_⟩, h.room⟩
  obtain ⟨g, off, ha, hg, h1, h2⟩ := hc i hi
  have hb := hk.block g hg (fun f => f)
  exact ⟨g, off, ha, Nat.lt_of_lt_of_le hg hk.size, by rw [World.cell?_of_block (w := w) hb]; exact h1, by rw [World.cell?_of_block (w := w) hb]; exact h2⟩
theorem RowsA.shape {w : World} {v : Value} {l : List AR} (h : RowsA w v l) : ∃ a n cap, v = .slice a n cap := by
  obtain ⟨a, cap, hv, _⟩ := h.ex; exact ⟨_, _, _, hv⟩
set_option maxRecDepth 100000 in
set_option maxHeartbeats 4000000 in
theorem samenode_any {w : World} {n1 n2 : Nd} {v1 v2 : Value} (h1 : RowsA w v1 n1.acl) (h2 : RowsA w v2 n2.acl) :
    Calls Tryz.prog 50 #[nodeV n1 v1, nodeV n2 v2] w fun e w' => e = .returned (.bool (decide (n1 = n2))) ∧ Kept (fun _ => False) w w' := by
  obtain ⟨a, an, ac, rfl⟩ := h1.shape
  obtain ⟨b, bn, bc, rfl⟩ := h2.shape
  obtain ⟨d1, l1, ⟨cz1, mz1, pz1, vr1, cv1, av1, ow1⟩⟩ := n1
  obtain ⟨d2, l2, ⟨cz2, mz2, pz2, vr2, cv2, av2, ow2⟩⟩ := n2
  unfold nodeV
  dsimp only at h1 h2 ⊢
  have hk : Kept (fun _ => False) w ((w.alloc (nodeO d1 a an ac ⟨cz1, mz1, pz1, vr1, cv1, av1, ow1⟩)).alloc (nodeO d2 b bn bc ⟨cz2, mz2, pz2, vr2, cv2, av2, ow2⟩)) := ((Kept.refl _ w).alloc _).alloc _
  have HK := Lib.hid hk
  have HEQ := Lib.hid (acleq_any (h1.kept0 hk) (h2.kept0 hk))
  clear h1 h2 hk
  have HF : Hid (∀ {x : Nd} {y : Nd}, x ≠ y → decide (x = y) = false) := Lib.hid (fun h => by simp [h])
  by_cases hd : d1 = d2
  case neg =>
    have b1 : (d1.toList == d2.toList) = false := str_ne hd
    have HN := Lib.hid (HF.out (x := ⟨d1, l1, ⟨cz1, mz1, pz1, vr1, cv1, av1, ow1⟩⟩) (y := ⟨d2, l2, ⟨cz2, mz2, pz2, vr2, cv2, av2, ow2⟩⟩) (fun e => hd (by injection e)))
    go_enter Tryz.func50, Tryz.ntmps50
    go_wp2
    go_ret
    exact ⟨ret_bool HN.out.symm, HK.out⟩
  subst hd
  by_cases h : cz1 = cz2
  case neg =>
    have HN := Lib.hid (HF.out (x := ⟨d1, l1, ⟨cz1, mz1, pz1, vr1, cv1, av1, ow1⟩⟩) (y := ⟨d1, l2, ⟨cz2, mz2, pz2, vr2, cv2, av2, ow2⟩⟩) (fun e => h (by injection e with _ _ e3; injection e3)))
    go_enter Tryz.func50, Tryz.ntmps50
    go_wp2
    go_ret
    exact ⟨ret_bool HN.out.symm, HK.out⟩
  subst h
  by_cases h : mz1 = mz2
  case neg =>
    have HN := Lib.hid (HF.out (x := ⟨d1, l1, ⟨cz1, mz1, pz1, vr1, cv1, av1, ow1⟩⟩) (y := ⟨d1, l2, ⟨cz1, mz2, pz2, vr2, cv2, av2, ow2⟩⟩) (fun e => h (by injection e with _ _ e3; injection e3)))
    go_enter Tryz.func50, Tryz.ntmps50
    go_wp2
    go_ret
    exact ⟨ret_bool HN.out.symm, HK.out⟩
  subst h
  by_cases h : pz1 = pz2
  case neg =>
    have HN := Lib.hid (HF.out (x := ⟨d1, l1, ⟨cz1, mz1, pz1, vr1, cv1, av1, ow1⟩⟩) (y := ⟨d1, l2, ⟨cz1, mz1, pz2, vr2, cv2, av2, ow2⟩⟩) (fun e => h (by injection e with _ _ e3; injection e3)))
    go_enter Tryz.func50, Tryz.ntmps50
    go_wp2
    go_ret
    exact ⟨ret_bool HN.out.symm, HK.out⟩
  subst h
  by_cases h : vr1 = vr2
  case neg =>
    have HN := Lib.hid (HF.out (x := ⟨d1, l1, ⟨cz1, mz1, pz1, vr1, cv1, av1, ow1⟩⟩) (y := ⟨d1, l2, ⟨cz1, mz1, pz1, vr2, cv2, av2, ow2⟩⟩) (fun e => h (by injection e with _ _ e3; injection e3)))
    go_enter Tryz.func50, Tryz.ntmps50
    go_wp2
    go_ret
    exact ⟨ret_bool HN.out.symm, HK.out⟩
  subst h
  by_cases h : cv1 = cv2
  case neg =>
    have HN := Lib.hid (HF.out (x := ⟨d1, l1, ⟨cz1, mz1, pz1, vr1, cv1, av1, ow1⟩⟩) (y := ⟨d1, l2, ⟨cz1, mz1, pz1, vr1, cv2, av2, ow2⟩⟩) (fun e => h (by injection e with _ _ e3; injection e3)))
    go_enter Tryz.func50, Tryz.ntmps50
    go_wp2
    go_ret
    exact ⟨ret_bool HN.out.symm, HK.out⟩
  subst h
  by_cases h : av1 = av2
  case neg =>
    have HN := Lib.hid (HF.out (x := ⟨d1, l1, ⟨cz1, mz1, pz1, vr1, cv1, av1, ow1⟩⟩) (y := ⟨d1, l2, ⟨cz1, mz1, pz1, vr1, cv1, av2, ow2⟩⟩) (fun e => h (by injection e with _ _ e3; injection e3)))
    go_enter Tryz.func50, Tryz.ntmps50
    go_wp2
    go_ret
    exact ⟨ret_bool HN.out.symm, HK.out⟩
  subst h
  by_cases h : ow1 = ow2
  case neg =>
    have HN := Lib.hid (HF.out (x := ⟨d1, l1, ⟨cz1, mz1, pz1, vr1, cv1, av1, ow1⟩⟩) (y := ⟨d1, l2, ⟨cz1, mz1, pz1, vr1, cv1, av1, ow2⟩⟩) (fun e => h (by injection e with _ _ e3; injection e3)))
    go_enter Tryz.func50, Tryz.ntmps50
    go_wp2
    go_ret
    exact ⟨ret_bool HN.out.symm, HK.out⟩
  subst h
  have HN : Hid (decide ((⟨d1, l1, ⟨cz1, mz1, pz1, vr1, cv1, av1, ow1⟩⟩ : Nd) = ⟨d1, l2, ⟨cz1, mz1, pz1, vr1, cv1, av1, ow1⟩⟩) = decide (l1 = l2)) := Lib.hid (by simp)
  go_enter Tryz.func50, Tryz.ntmps50
  go_wp2_with fail
  refine HEQ.out.mono ?_
  rintro e w5 ⟨rfl, n, rfl⟩
  go_wp2_with fail
  go_ret
  exact ⟨ret_bool (by rw [HN.out]), HK.out.drewN n⟩
end Go.Proofs.YtenbdoceaabecaaGreat
