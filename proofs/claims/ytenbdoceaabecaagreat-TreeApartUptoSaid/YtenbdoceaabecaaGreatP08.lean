/- kids. Stat. -/
import Derived.Test.YtenbdoceaabecaaGreatP07
import Derived.Laws.Tables
namespace Go.Proofs.YtenbdoceaabecaaGreat
open Go.ChangeShapes Go.WideShapes Go.ChangeAt Go.RowKit Go.Maps
set_option linter.unusedVariables false
set_option linter.unusedSimpArgs false
def strC (l : List ByteArray) : List Value := l.map Value.string
def StrAt (B : Nat) (w : World) (v : Value) (l : List ByteArray) : Prop := w.ownsRow B 9 1 v l.length (strC l)
theorem str_info : (Tryz.prog.info? 9).map (fun i => (i.zero, i.size, i.bytes)) = some (some (.string ByteArray.empty), 1, 16) := by kernel_rfl
theorem strAt_nil {w : World} (B : Nat) : StrAt B w (.slice none 0 0) [] := World.ownsRow_nil _ _ _ _
theorem StrAt.kept {w w' : World} {B : Nat} {v : Value} {l : List ByteArray} (h : StrAt B w v l) {X : Nat → Prop} (hk : Kept X w w') (hx : ∀ k, v.ownBlock = some k → ¬ X k) : StrAt B w' v l := ownKept h hk hx
theorem wpList_strs1 {w : World} {ops : Array Oper} {rest : List Oper} {o : Oper} {a : Act} {Q : Exit → Act → World → Prop} (hgd : o.guard = none) (s x : Operand)
    (ho : o.op = .call { callee := .builtin .append, args := #[s, x], argTypes := #[102, 102] }) (B : Nat) (v : Value) (l : List ByteArray) (hs : a.eval s = v) (hown : StrAt B w v l)
    (p : ByteArray) (hx : a.eval x = .slice (some ⟨w.heap.size, 0, none⟩) 1 1) (hb : l.length ≤ 4000000000000) (hB : B ≤ w.heap.size)
    (h : ∀ v' w', StrAt B w' v' (l ++ [p]) → (w.alloc (.cells #[.string p] 9)).grownBy w' v.ownBlock → wpList Tryz.prog ops Q rest (a.put o.dst v') w') : wpList Tryz.prog ops Q (o :: rest) a (w.alloc (.cells #[.string p] 9)) := by
  obtain ⟨i0, hi, hz0, hz1, hz2⟩ := info_parts str_info
  refine wpList_append_own _ hgd s x 102 ho B 9 i0 _ 1 16 Tryz.underlying102 hi hz0 hz1 hz2 rfl (by decide) v l.length (strC l) hs (ownKept hown ((Kept.refl (fun _ => False) w).alloc _) (fun _ _ f => f)) ⟨w.heap.size, 0, none⟩ 1 1 [.string p] hx rfl (fun j u hj => ?_) (fun u hu => by simp at hu; subst hu; rfl) (by unfold maxLen; omega) (by omega) (by simp; omega) ?_
  · rw [show (⟨w.heap.size, 0, none⟩ : Addr).add j = ⟨w.heap.size, j, none⟩ by cases j <;> simp [Addr.add]]
    rw [cell_of_row _ w.heap.size j _ _ (0, 0) (heap_alloc_new w _), ← Array.getElem?_toList]; exact hj
  · intro v' w' h1 h2 _
    refine h v' w' ?_ h2
    unfold StrAt strC
    rw [List.length_append, List.map_append]; exact h1
section
variable {Z : Nat → Prop} {w w' : World} {q : TB} {M : TM} {c : Nat} {D E : DV}
theorem row_mono {B B' n m : Nat} {e : TypeId} {v : Value} {xs : List Value} (h : w.ownsRow B e n v m xs) (hB : B' ≤ B) : w.ownsRow B' e n v m xs := by
  refine ⟨h.1, ?_⟩
  rcases h.2 with h0 | ⟨g, cap, cur, rfl, hb, r⟩
  · exact .inl h0
  · exact .inr ⟨g, cap, cur, rfl, Nat.le_trans hB hb, r⟩
/-- those below p, each once -/
structure Below1 (M : TM) (p : ByteArray) (l : List ByteArray) : Prop where
  one : l.Nodup
  mem : ∀ x, x ∈ l ↔ (M.N x.data.toList).isSome = true ∧ parS x = p
def KidsPost (B : Nat) (w : World) (M : TM) (p : ByteArray) (e : Ending) (w' : World) : Prop := ∃ v l, e = .returned v ∧ Below1 M p l ∧ StrAt B w' v (l.map baseS) ∧ Kept (fun _ => False) w w'
theorem NdAt.same {o : Option Value} {m : Option Nd} (h : NdAt w Z o m) : o.isSome = m.isSome := by
  cases o <;> cases m <;> first | rfl | exact h.elim
theorem ba_inj {x y : ByteArray} (h : x.data.toList = y.data.toList) : x = y := by
  rw [← ba_mk x, ← ba_mk y, h]
theorem str_ne {x y : ByteArray} (h : ¬ x = y) : (x.toList == y.toList) = false := by
  rw [Lib.toList_data, Lib.toList_data]
  exact beq_false_of_ne (fun e => h (ba_inj e))
theorem kept_false {w0 : World} {b : Nat} (h : Kept (fun _ => False) w0 w) (hg : w.grownBy w' (some b)) (hb : w0.heap.size ≤ b) : Kept (fun _ => False) w0 w' := h.trans' (Kept.of_grownBy hg) (fun k hk e => by injection e with e; omega)
set_option maxRecDepth 100000 in
set_option maxHeartbeats 1000000 in
theorem kids_any (h : TAt Z w q M c) (p : ByteArray) (hp : p.size ≤ 140737488355328) (hc : c ≤ 4000000000000) :
    Calls Tryz.prog 73 #[.pointer (some ⟨q.t, 0, none⟩), .string p] w (KidsPost w.heap.size w M p) := by
  obtain ⟨D, E, h⟩ := h
  obtain ⟨c0, c1, c2, f⟩ := h.three
  have HD := Lib.hid h
  have hlt := h.lt _ (.inl rfl)
  have hown := h.n
  have hsz := h.n.size_le
  have hnt := h.nt.1
  clear h
  go_enter Tryz.func73, Tryz.ntmps73
  go_wp2_with (first
    | (at_range; refine wpList_range_own _ rfl _ 83 rfl 9 98 keyS Tryz.underlying83 _ q.n c _ rfl hown ?_; intro w0 hrg0 hg0 hs0)
    | go_in)
  go_frame
  go_loopw [5, 6] (fun v5 _ wr => ∃ (left : Lit → Bool) (cnt : Nat) (l : List ByteArray), wr.ranges Tryz.prog 9 tok q.n w.heap.size c D left cnt ∧ Kept (fun _ => False) w wr ∧ StrAt (w.heap.size + 1) wr v5 (l.map baseS) ∧ l.length + cnt ≤ c ∧ l.Nodup ∧
      (∀ x : ByteArray, x ∈ l ↔ (lookV D (.string x.data.toList)).isSome = true ∧ parS x = p ∧ left (.string x.data.toList) = false) ∧ (∀ k, left (.string k) = true → (lookV D (.string k)).isSome = true))
    (fun _ _ wr => wr.rangeLeft q.n w.heap.size)
  case atStart =>
    refine ⟨_, _, [], hrg0, (Kept.of_grownBy hg0).mono (fun k _ e => by simp at e), strAt_nil _, by simpa using hsz, List.nodup_nil, fun x => ?_, fun k hk => by rw [lookV_isSome]; exact hk⟩
    rw [lookV_isSome]
    constructor
    · intro hx; cases hx
    · rintro ⟨h1, _, h3⟩; rw [h1] at h3; cases h3
  case round =>
    obtain ⟨left, cnt, l, hrg, hkw, hvs, hln, hnd, hI, hJ⟩ := hrel
    have HI := Lib.hid hI
    have HJ := Lib.hid hJ
    have HV := Lib.hid hvs
    have HKW := Lib.hid hkw
    have HL := Lib.hid hln
    clear hI hJ hvs hkw hln
    go_wp2_with (first
      | (at_next; refine wpList_next_ranges _ rfl _ rfl 9 keyS tok (fun x : ByteArray => Value.string x) id (fun key kl hkey => by obtain ⟨x, rfl, _⟩ := keyOf_string_inv hkey; exact ⟨x, rfl⟩) (fun v _ _ => ⟨v, rfl⟩) q.n w.heap.size c _ _ _ rfl hrg ?_ ?_)
      | go_in)
    · intro _ hl0
      go_wp2
      go_ret
      refine ⟨_, l, rfl, ⟨hnd, fun x => ?_⟩, ?_, HKW.out⟩
      · rw [HI.out x, hl0, (HD.out.N _).same]; simp
      · exact row_mono HV.out (Nat.le_succ _)
    · intro x v kl yd yp w1 cnt1 hkey hlx hv hat hrg1 hlt1 hg1 hs1 hen
      obtain ⟨x', ex, rfl, hx⟩ := keyOf_string_inv hkey
      cases ex
      have hsome := HJ.out _ hlx
      have hxl : x.data.toList.length ≤ 60 := by
        have h2 := (HD.out.N x.data.toList).same
        apply HD.out.okk
        intro e
        rw [e, hsome] at h2; cases h2
      have hxs : x.size ≤ 140737488355328 := by
        have : x.size = x.data.toList.length := (Array.length_toList (xs := x.data)).symm
        omega
      have hkr : Kept (fun k => k = w.heap.size) _ w1 := kept_grown hg1 rfl
      have hkw1 : Kept (fun _ => False) w w1 := HKW.out.trans' hkr (fun k hk e => by omega)
      have HV1 := Lib.hid (HV.out.kept hkr (own_ne HV.out (Nat.lt_succ_self _)))
      have HVN := Lib.hid (own_ne HV.out (Nat.lt_succ_self w.heap.size))
      have HVM := Lib.hid (own_ne HV.out (b := q.n) (Nat.lt_succ_of_lt (HD.out.lt _ (.inr (.inl rfl)))))
      have HK1 := Lib.hid hkw1
      have hbig : w.heap.size + 1 ≤ w1.heap.size := hrg1.lt
      have HPA := Lib.hid (parent_any x w1 hxs)
      have HBA := Lib.hid (base_any x w1 hxs)
      have HIx : ∀ k, (Lit.string k).sameKey (.string x.data.toList) = true → k = x.data.toList := fun k e => by
        have := WideAt.sameKey_eq e; injection this
      have HXs : (Lit.string x.data.toList).sameKey (.string x.data.toList) = true := WideAt.sameKey_self trivial
      have HNK := Lib.hid (fun (y : ByteArray) (hy : y ≠ x) => show (Lit.string y.data.toList).sameKey (.string x.data.toList) = false from by
        cases hh : (Lit.string y.data.toList).sameKey (.string x.data.toList) with
        | false => rfl
        | true => exact absurd (ba_inj (HIx _ hh)) hy)
      have hlen := HL.out
      have hll : l.length ≤ 4000000000000 := by omega
      have HLL := Lib.hid (show (l.map baseS).length ≤ 4000000000000 by rw [List.length_map]; exact hll)
      have hln1 : l.length + 1 + cnt1 ≤ c := by omega
      have HLN := Lib.hid hln1
      clear hkr hkw1 hlen hll hln1 hsz hc HL hs1
      by_cases hpx : parS x = p
      · subst hpx
        go_wp2_with (first
          | (go_at_call 101; refine HPA.out.mono ?_; rintro e w2 ⟨rfl, rfl⟩)
          | (go_at_call 102; refine HBA.out.mono ?_; rintro e w2 ⟨rfl, rfl⟩)
          | (at_builtin; refine wpList_strs1 rfl _ _ rfl (w.heap.size + 1) _ (l.map baseS) rfl HV1.out (baseS x) rfl HLL.out hbig (fun v2 w2 hv2 hg2 => ?_); have HV2 := Lib.hid hv2; have HG2 := Lib.hid hg2; clear hv2 hg2)
          | go_in)
        have hkk : Kept (fun _ => False) w w2 := (HK1.out.alloc _).trans' (Kept.of_grownBy HG2.out) (fun k hk e => by have h9 := own_ge HV1.out e.symm; omega)
        have hr2 := (hrg1.alloc (.cells #[.string (baseS x)] 9)).kept HG2.out (fun e => HVM.out _ e.symm rfl) (fun e => HVN.out _ e.symm rfl)
        go_roundw
        case rel =>
          refine ⟨_, cnt1, l ++ [x], hr2, hkk, by rw [List.map_append]; exact HV2.out, by rw [List.length_append]; exact HLN.out, ?_, fun y => ?_, fun k hk => HJ.out k (by simp at hk; exact hk.1)⟩
          · refine List.nodup_append.2 ⟨hnd, by simp, fun a ha b hb e => ?_⟩
            simp only [List.mem_singleton] at hb
            subst hb; subst e
            have := ((HI.out _).1 ha).2.2
            rw [hlx] at this; cases this
          · by_cases e : y = x
            · subst e
              simp [hsome, HXs]
            · have h9 := HNK.out y e
              rw [List.mem_append, List.mem_singleton, HI.out y, h9]
              simp [e]
        case measure => rw [hr2.left_eq, hrg.left_eq]; exact hlt1
      · have b1 : ((parS x).toList == p.toList) = false := str_ne hpx
        go_wp2_with fail
        refine HPA.out.mono ?_
        rintro e w2 ⟨rfl, rfl⟩
        go_wp2_with fail
        go_roundw
        case rel =>
          refine ⟨_, cnt1, l, hrg1, HK1.out, HV1.out, by have := HLN.out; omega, hnd, fun y => ?_, fun k hk => HJ.out k (by simp at hk; exact hk.1)⟩
          by_cases e : y = x
          · subst e
            rw [HI.out y]
            simp [hpx]
          · have h9 := HNK.out y e
            rw [HI.out y, h9]; simp
        case measure => rw [hrg1.left_eq, hrg.left_eq]; exact hlt1
end
end Go.Proofs.YtenbdoceaabecaaGreat

namespace Go.Proofs.YtenbdoceaabecaaGreat
open Go.ChangeShapes Go.WideShapes Go.ChangeAt Go.RowKit Go.Maps
set_option linter.unusedVariables false
set_option linter.unusedSimpArgs false
theorem wpList_store_row {P : Program} {ops : Array Oper} {rest : List Oper} {op : Oper} {a : Act} {Q : Exit → Act → World → Prop} (w : World) (hgd : op.guard = none) (ty : TypeId) (x y : Operand) (ho : op.op = .store ty x y)
    (g : Nat) (c : Array Value) (cs : List Value) (hx : a.eval x = .pointer (some ⟨g, 0, none⟩)) (hy : a.eval y = .agg cs.toArray) (hg : w.heap[g]? = some (.cells c ty (0, 0))) (hi : (P.info? ty).map (·.size) = some cs.length) (hc : c.size = cs.length) (h1 : ∀ v ∈ cs, v.oneCell' = true)
    (h : wpList P ops Q rest (a.put op.dst undef) (w.setRow g cs.toArray)) : wpList P ops Q (op :: rest) a w :=
  wpList_plain hgd fun _ hK => by
    unfold Oper.wp execOp
    simp only [ho, hx, hy, Instr.storeAt, Instr.sureAddr, Sem.run_bind, Sem.run_pure, Result.andThen_ok, run_storeVar_row (P := P) w g ty ty c cs.toArray hg (by simpa using hi) (by simpa using hc) (List.all_eq_true.2 (fun v hv => h1 v (by simpa using hv)) |> fun h => by simpa using h)]
    exact hK _ _ h
theorem setRow_kept (w : World) (g : Nat) (cs : Array Value) : Kept (fun k => k = g) w (w.setRow g cs) :=
  ⟨rfl, rfl, rfl, by simp, fun k _ hk => setRow_other w g k cs hk⟩
theorem ret_box_tmp {P : Program} {fn : Func} {R : Ending → World → Prop} {a : Act} {w : World} (A t s : Nat) (g : Nat) (cells : Array Value) (v : Value) (hres : fn.results = #[.cell A t, .tmp s]) (hA : a.tmps.getD A undef = .pointer (some ⟨g, 0, none⟩)) (hs : a.tmps.getD s undef = v)
    (hload : (loadVar t ⟨g, 0, none⟩).run P w = .ok (.agg cells) w) (hd : a.defers = []) (hR : R (.returned (.tuple #[.agg cells, v])) w) : bodyPost P fn R .ret a w :=
  bodyPost_ret (v := .tuple #[.agg cells, v]) (by
    have h1 : a.tmps[A]?.getD undef = .pointer (some ⟨g, 0, none⟩) := (by simpa using hA)
    have h2 : a.tmps[s]?.getD undef = v := (by simpa using hs)
    simp [results, hres, h1, h2, asAddr, hload]) hd hR
theorem stat_info : (Tryz.prog.info? 36).map (·.size) = some 9 := by kernel_rfl
def statL (s : St) (len kids : Int) : List Value := [.int .i64 s.cz, .int .i64 s.mz, .int .i64 s.pz, .int .i64 s.ver, .int .i64 s.cver, .int .i64 s.aver, .int .i64 s.owner, .int .i64 len, .int .i64 kids]
theorem statL_one (s : St) (len kids : Int) : ∀ v ∈ statL s len kids, v.oneCell' = true := by
  intro v hv
  simp only [statL, List.mem_cons, List.not_mem_nil, or_false] at hv
  rcases hv with rfl | rfl | rfl | rfl | rfl | rfl | rfl | rfl | rfl <;> rfl
abbrev statO (s : St) (len kids : Int) : Obj := .cells #[.int .i64 s.cz, .int .i64 s.mz, .int .i64 s.pz, .int .i64 s.ver, .int .i64 s.cver, .int .i64 s.aver, .int .i64 s.owner, .int .i64 len, .int .i64 kids] 36
theorem BoxS.load {w : World} {b : Nat} {s : St} {len kids : Int} (h : BoxS w b s len kids) : (loadVar 36 ⟨b, 0, none⟩).run Tryz.prog w = .ok (statV s len kids) w :=
  run_loadVar_row (P := Tryz.prog) _ b 36 36 _ (0, 0) _ h Tryz.underlying36 rfl stat_info
theorem stat_set {w : World} {b : Nat} {s : St} {len kids : Int} (h : BoxS w b s len kids) (l k : Int) : BoxS ((w.setCell ⟨b, 7, none⟩ (.int .i64 l)).setCell ⟨b, 8, none⟩ (.int .i64 k)) b s l k := by
  have h1 := heap_set (c := statL s len kids) (i := 7) (.int .i64 l) h
  exact heap_set (c := statL s l kids) (i := 8) (.int .i64 k) h1
abbrev St0 : St := ⟨0, 0, 0, 0, 0, 0, 0⟩
section
variable {Z : Nat → Prop} {w w' : World} {q : TB} {M : TM} {c : Nat} {D E : DV}
theorem strAt_shape {B : Nat} {v : Value} {l : List ByteArray} (h : StrAt B w v (l.map baseS)) : ∃ a cap, v = .slice a l.length cap := by
  rcases h.2 with ⟨hv, h0⟩ | ⟨g, cap, cur, hv, hb, hh, r⟩
  · rw [List.length_map] at h0
    exact ⟨none, 0, by rw [hv, h0]⟩
  · rw [List.length_map] at hv
    exact ⟨_, _, hv⟩
def StatPost (w : World) (M : TM) (p : ByteArray) (e : Ending) (w' : World) : Prop := Kept (fun _ => False) w w' ∧
  ((M.N p.data.toList = none ∧ e = .returned (.tuple #[statV St0 0 0, .bool false])) ∨
   ∃ nd l, M.N p.data.toList = some nd ∧ Below1 M p l ∧ e = .returned (.tuple #[statV nd.st nd.data.size l.length, .bool true]))
set_option maxRecDepth 100000 in
set_option maxHeartbeats 1000000 in
theorem stat_any (h : TAt Z w q M c) (p : ByteArray) (hp : p.size ≤ 140737488355328) (hc : c ≤ 4000000000000) :
    Calls Tryz.prog 26 #[.pointer (some ⟨q.t, 0, none⟩), .string p] w (StatPost w M p) := by
  obtain ⟨D, E, h⟩ := h
  have HD := Lib.hid h
  have hlt := h.lt _ (.inl rfl)
  obtain ⟨c0, c1, c2, f⟩ := h.three
  have hk1 : Kept (fun _ => False) w (w.alloc (statO ⟨0, 0, 0, 0, 0, 0, 0⟩ 0 0)) := (Kept.refl _ w).alloc _
  rcases h.look p.data.toList with ⟨nd, av, hM, hL, ha⟩ | ⟨hM, hL⟩
  · obtain ⟨va, vn, vc, rfl⟩ := ha.shape
    have hrun := (h.kept0 hk1).lookNode p hp
    rw [hL] at hrun
    simp only [Option.getD_some, Option.isSome_some, nodeV] at hrun
    have HM := Lib.hid hM
    have HB4 : Hid (BoxS (w.alloc (statO ⟨0, 0, 0, 0, 0, 0, 0⟩ 0 0)) w.heap.size St0 0 0) := Lib.hid (heap_alloc_new w _)
    clear h hL ha hM
    go_enter Tryz.func26, Tryz.ntmps26
    go_wp2_with fail
    have hk2 : Kept (fun _ => False) w (((w.alloc (statO ⟨0, 0, 0, 0, 0, 0, 0⟩ 0 0)).alloc (nodeO nd.data va vn vc nd.st)).alloc (statO nd.st 0 0)) := (((Kept.refl _ w).alloc _).alloc _).alloc _
    have hb4 : BoxS (((w.alloc (statO ⟨0, 0, 0, 0, 0, 0, 0⟩ 0 0)).alloc (nodeO nd.data va vn vc nd.st)).alloc (statO nd.st 0 0)) w.heap.size St0 0 0 := (Below.heap_alloc _ _ _ (by simp; omega)).trans ((Below.heap_alloc _ _ _ (by simp)).trans (heap_alloc_new w _))
    have hnd : (((w.alloc (statO ⟨0, 0, 0, 0, 0, 0, 0⟩ 0 0)).alloc (nodeO nd.data va vn vc nd.st)).alloc (statO nd.st 0 0)).heap[w.heap.size + 1]? = some (nodeO nd.data va vn vc nd.st) := by
      have h1 := heap_alloc_new (w.alloc (statO ⟨0, 0, 0, 0, 0, 0, 0⟩ 0 0)) (nodeO nd.data va vn vc nd.st)
      rw [show (w.alloc (statO ⟨0, 0, 0, 0, 0, 0, 0⟩ 0 0)).heap.size = w.heap.size + 1 by simp] at h1
      exact (Below.heap_alloc _ _ _ (by simp)).trans h1
    have hbs : BoxS (((w.alloc (statO ⟨0, 0, 0, 0, 0, 0, 0⟩ 0 0)).alloc (nodeO nd.data va vn vc nd.st)).alloc (statO nd.st 0 0)) (w.heap.size + 1 + 1) nd.st 0 0 := by
      have h1 := heap_alloc_new ((w.alloc (statO ⟨0, 0, 0, 0, 0, 0, 0⟩ 0 0)).alloc (nodeO nd.data va vn vc nd.st)) (statO nd.st 0 0)
      rw [show ((w.alloc (statO ⟨0, 0, 0, 0, 0, 0, 0⟩ 0 0)).alloc (nodeO nd.data va vn vc nd.st)).heap.size = w.heap.size + 1 + 1 by simp] at h1
      exact h1
    have HK2 := Lib.hid hk2
    have HB4' := Lib.hid hb4
    have HND := Lib.hid hnd
    have HBS := Lib.hid hbs
    clear hk1 hk2 hb4 hnd hbs hrun c0 c1 c2 f HB4
    generalize (((w.alloc (statO ⟨0, 0, 0, 0, 0, 0, 0⟩ 0 0)).alloc (nodeO nd.data va vn vc nd.st)).alloc (statO nd.st 0 0)) = w2 at HK2 HB4' HND HBS ⊢
    have HKI := Lib.hid (kids_any (TAt.kept0 ⟨_, _, HD.out⟩ HK2.out.drew) p hp hc)
    unfold KidsPost at HKI
    have e0 : w2.drew.cell? ⟨w.heap.size + 1, 0, none⟩ = some (.string nd.data) := cell_kept (X := fun _ => False) (w := w2.drew) (Kept.refl _ _) HND.out (fun f => f) 0 rfl
    go_region_held3 (fun w' => w'.cell? ⟨w.heap.size + 1, 0, none⟩ = some (.string nd.data))
      (first | assumption | go_keep)
      (first
        | (go_at_call 73; with_reducible refine HKI.out.mono ?_; rintro e w5 ⟨v', l, rfl, hl, hv, hk5⟩; obtain ⟨va', vc', rfl⟩ := strAt_shape hv; have HL := Lib.hid hl; have HK5 := Lib.hid hk5; have hbs := BoxS.kept' HBS.out hk5 (fun f => f); have HB5 := Lib.hid hbs; obtain ⟨b0, b1, b2, b3, b4, b5, b6, b7, b8, bf⟩ := hbs.nine; clear e0 hl hv hbs; have e0 : w5.cell? ⟨w.heap.size + 1, 0, none⟩ = some (.string nd.data) := cell_kept (X := fun _ => False) (w := w2.drew) hk5 HND.out (fun f => f) 0 rfl; clear hk5))
    have hb6 := stat_set HB5.out nd.data.size l.length
    have h46 : BoxS ((w5.setCell ⟨w.heap.size + 1 + 1, 7, none⟩ (.int .i64 nd.data.size)).setCell ⟨w.heap.size + 1 + 1, 8, none⟩ (.int .i64 l.length)) w.heap.size St0 0 0 := (other_set (w := w5) (b := w.heap.size) (b' := w.heap.size + 1 + 1) (i := 7) (j := 8) (by omega) (.int .i64 nd.data.size) (.int .i64 l.length)).trans (BoxS.kept' HB4'.out HK5.out (fun f => f))
    have hk6 : Kept (fun k => k = w.heap.size + 1 + 1) w5 ((w5.setCell ⟨w.heap.size + 1 + 1, 7, none⟩ (.int .i64 nd.data.size)).setCell ⟨w.heap.size + 1 + 1, 8, none⟩ (.int .i64 l.length)) := (kept_set w5 (w.heap.size + 1 + 1) 7 _).setCell (a := ⟨w.heap.size + 1 + 1, 8, none⟩) (.inl rfl) _
    have HK6 := Lib.hid (kept_in hk6 (HK2.out.drew.trans HK5.out) (Nat.le_add_right _ 2))
    clear hk6 b0 b1 b2 b3 b4 b5 b6 b7 b8 bf e0
    generalize ((w5.setCell ⟨w.heap.size + 1 + 1, 7, none⟩ (.int .i64 nd.data.size)).setCell ⟨w.heap.size + 1 + 1, 8, none⟩ (.int .i64 l.length)) = w6 at hb6 h46 HK6 ⊢
    obtain ⟨b0, b1, b2, b3, b4, b5, b6, b7, b8, bf⟩ := hb6.nine
    have H46 := Lib.hid h46
    clear h46 hb6
    go_wp2_with (refine wpList_store_row _ rfl 36 _ _ rfl w.heap.size _ (statL nd.st nd.data.size l.length) rfl rfl H46.out stat_info rfl (statL_one _ _ _) ?_)
    have hrow : BoxS (w6.setRow w.heap.size (statL nd.st nd.data.size l.length).toArray) w.heap.size nd.st nd.data.size l.length := setRow_heap w6 w.heap.size _ (statL nd.st nd.data.size l.length).toArray _ _ H46.out
    have hfin : Kept (fun _ => False) w (w6.setRow w.heap.size (statL nd.st nd.data.size l.length).toArray) := kept_in (setRow_kept w6 w.heap.size _) HK6.out (Nat.le_refl _)
    refine ret_box_tmp 4 36 5 w.heap.size _ (.bool true) Tryz.results26 ?_ ?_ hrow.load ?_ ?_
    exact rfl
    exact rfl
    exact rfl
    exact ⟨hfin, .inr ⟨nd, l, HM.out, HL.out, rfl⟩⟩
  · have hrun := (h.kept0 hk1).lookNode p hp
    rw [hL] at hrun
    simp only [Option.getD_none, Option.isSome_none, node0] at hrun
    have HM := Lib.hid hM
    clear h hL hM
    go_enter Tryz.func26, Tryz.ntmps26
    go_wp2_with fail
    have hbx : BoxS ((w.alloc (statO ⟨0, 0, 0, 0, 0, 0, 0⟩ 0 0)).alloc (nodeO ByteArray.empty none 0 0 ⟨0, 0, 0, 0, 0, 0, 0⟩)) w.heap.size St0 0 0 := (Below.heap_alloc _ _ _ (by simp)).trans (heap_alloc_new w _)
    refine ret_box_tmp 4 36 5 w.heap.size _ (.bool false) Tryz.results26 ?_ ?_ hbx.load ?_ ?_
    exact rfl
    exact rfl
    exact rfl
    exact ⟨((Kept.refl _ w).alloc _).alloc _, .inl ⟨HM.out, rfl⟩⟩
end
end Go.Proofs.YtenbdoceaabecaaGreat
