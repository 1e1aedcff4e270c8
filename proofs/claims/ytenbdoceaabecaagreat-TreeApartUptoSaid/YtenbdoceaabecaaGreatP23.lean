/- The document's own tree: Kids, Owned. The document's own tree: part, finds. -/
import Derived.Test.YtenbdoceaabecaaGreatP21
import Derived.Test.YtenbdoceaabecaaGreatP22
import Derived.Test.YtenbdoceaabecaaGreatP10
namespace Go.Proofs.YtenbdoceaabecaaGreat
open Go.ChangeShapes Go.WideShapes Go.ChangeAt Go.RowKit Go.Maps
set_option linter.unusedVariables false
set_option linter.unusedSimpArgs false
theorem str_row : RowTy Tryz.prog 102 9 1 16 := RowTy.of Tryz.underlying102 str_info rfl (by decide)
def kidQ (p : ByteArray) (n : RN) : Bool := decide (n.path.data.toList ≠ [47]) && decide (parS n.path = p)
def kidsR (R : RT) (p : ByteArray) : List ByteArray := (R.N.filter (kidQ p)).map fun n => baseS n.path
def ownQ (s : Int) (n : RN) : Bool := decide (s ≠ 0) && decide (n.st.owner = s)
def ownedR (R : RT) (s : Int) : List ByteArray := (R.N.filter (ownQ s)).map fun n => n.path
/-- what a loop has collected of the first k nodes -/
structure ColRel (w : World) (L : List (RN × Value)) (f : RN → Bool) (g : RN → ByteArray) (lv iv : Value) (wr : World) : Prop where
  ex : ∃ k : Nat, k ≤ L.length ∧ iv = .int .i64 k ∧ StrAt w.heap.size wr lv ((((L.take k).map (·.1)).filter f).map g) ∧ Kept (fun _ => False) w wr
def StrsPost (w : World) (l : List ByteArray) (e : Ending) (w' : World) : Prop := ∃ v, e = .returned v ∧ StrAt w.heap.size w' v l ∧ Kept (fun _ => False) w w'
theorem col_yes {L : List (RN × Value)} {k : Nat} {q : RN × Value} {f : RN → Bool} {g : RN → ByteArray} (hq : L[k]? = some q) (h : f q.1 = true) : (((L.take (k + 1)).map (·.1)).filter f).map g = (((L.take k).map (·.1)).filter f).map g ++ [g q.1] := by
  rw [take_at hq, List.map_append, List.filter_append, List.map_append]; simp [h]
theorem col_no {L : List (RN × Value)} {k : Nat} {q : RN × Value} {f : RN → Bool} {g : RN → ByteArray} (hq : L[k]? = some q) (h : f q.1 = false) : (((L.take (k + 1)).map (·.1)).filter f).map g = (((L.take k).map (·.1)).filter f).map g := by
  rw [take_at hq, List.map_append, List.filter_append, List.map_append]; simp [h]
theorem col_len (L : List (RN × Value)) (k : Nat) (f : RN → Bool) (g : RN → ByteArray) : ((((L.take k).map (·.1)).filter f).map g).length ≤ L.length := by
  rw [List.length_map]
  refine Nat.le_trans (List.length_filter_le _ _) ?_
  rw [List.length_map, List.length_take]; omega
theorem col_all (L : List (RN × Value)) (R : RT) (h : L.map (·.1) = R.N) (f : RN → Bool) (g : RN → ByteArray) {k : Nat} (hk : L.length ≤ k) : (((L.take k).map (·.1)).filter f).map g = (R.N.filter f).map g := by
  rw [List.take_of_length_le hk, h]
theorem strAt_add {w : World} {B : Nat} {v : Value} {l : List ByteArray} {x : ByteArray} (h : w.ownsRow B 9 1 v (l.length + 1) (strC l ++ [.string x])) : StrAt B w v (l ++ [x]) := by
  unfold StrAt strC
  rw [List.length_append, List.map_append]; exact h
set_option maxRecDepth 100000 in
set_option maxHeartbeats 1000000 in
theorem rkids_any {w : World} {b : Nat} {R : RT} (h : RAt w b R) (p : ByteArray) (hps : ∀ n ∈ R.N, n.path.size ≤ 1048576) (hlen : R.N.length ≤ 1000000000) :
    Calls Tryz.prog 41 #[.pointer (some ⟨b, 0, none⟩), .string p] w (StrsPost w (kidsR R p)) := by
  obtain ⟨L, nv, sv, hD⟩ := h
  obtain ⟨a, cap, rfl, hcap, hnode⟩ := hD.node
  have hlL : L.length ≤ 1000000000 := by rw [rd_len hD]; exact hlen
  have HD := Lib.hid hD
  have HN := Lib.hid hnode
  have HR := Lib.hid str_row
  have HP := Lib.hid hps
  have HEQ := Lib.hid hD.eq
  clear hD hnode hlen hps
  go_enter Tryz.func41, Tryz.ntmps41
  go_wp2_with fail
  go_loopw [5, 6] (fun lv iv wr => ColRel w L (kidQ p) (fun n => baseS n.path) lv iv wr) (fun _ iv _ => L.length - (intOf iv).toNat)
  case atStart => exact ⟨0, Nat.zero_le _, rfl, strAt_nil _, Kept.refl _ _⟩
  case round =>
    obtain ⟨k, hk, rfl, hown, hkw⟩ := hrel.ex
    have HOWN := Lib.hid hown
    have HKW := Lib.hid hkw
    have HSZ : Hid (w.heap.size ≤ wr.heap.size) := Lib.hid hkw.size
    obtain ⟨c0, c1, c2, cf⟩ := (HD.out.kept0 hkw).cells
    have hcl := col_len L k (kidQ p) (fun n => baseS n.path)
    obtain ⟨acc, hacc⟩ : ∃ acc, (((L.take k).map (·.1)).filter (kidQ p)).map (fun n => baseS n.path) = acc := ⟨_, rfl⟩
    rw [hacc] at HOWN hcl
    have HACC := Lib.hid hacc
    clear hown hkw hrel hacc
    by_cases hlt : k < L.length
    · obtain ⟨g, q, rfl, hg, hq, hc, hfz⟩ := HN.out k hlt
      obtain ⟨x0, x1, x2, x3, x4, x5, x6, x7, x8, x9, x10, x11⟩ := nodeAt hc hg HKW.out
      have HQ := Lib.hid hq
      have hqs : q.1.path.size ≤ 1048576 := HP.out q.1 (List.mem_of_getElem? (rd_at HD.out hq))
      clear hc hq hfz x1 x2 x3 x4 x5 x6 x7 x8 x9 x10 x11
      by_cases hr : q.1.path.data.toList = [47]
      · have h1 : (q.1.path.toList == [47]) = true := by rw [eqSlash]; simpa using hr
        have h2 : (!q.1.path.toList == [47]) = false := by rw [h1]; rfl
        have HK : Hid (kidQ p q.1 = false) := Lib.hid (by unfold kidQ; simp [hr])
        clear hr
        go_wp2_with fail
        go_roundw
        case rel => exact ⟨k + 1, by omega, by go_num, by rw [col_no HQ.out HK.out, HACC.out]; exact HOWN.out, HKW.out⟩
        case measure => simp [intOf]; omega
      · have h1 : (q.1.path.toList == [47]) = false := by rw [eqSlash]; simpa using hr
        have h2 : (!q.1.path.toList == [47]) = true := by rw [h1]; rfl
        have hpar : (parS q.1.path).size ≤ 140737488355328 := parS_le (by omega)
        by_cases he : parS q.1.path = p
        · have h3 : ((parS q.1.path).toList == p.toList) = true := by rw [he]; simp
          have HK : Hid (kidQ p q.1 = true) := Lib.hid (by unfold kidQ; simp [hr, he])
          clear hr he
          go_wp2_with (first
            | (go_at_call 82; with_reducible refine (refParent_any _ _ (by omega)).mono ?_; rintro e w' ⟨rfl, rfl⟩)
            | (go_at_call 83; with_reducible refine (refBase_any _ _ (by omega)).mono ?_; rintro e w' ⟨rfl, rfl⟩)
            | (at_builtin; refine wpList_row1 HR.out (by rfl) _ _ (by rfl) (by rfl) HOWN.out [.string (baseS q.1.path)] (by rfl) (by rfl) (by intro u hu; simp only [List.mem_singleton] at hu; subst hu; rfl) (by omega) (by unfold maxLen; omega) HSZ.out ?_; intro v1 w1 hown1 hg1; have HK1 := Lib.hid (kept_own1 HKW.out HOWN.out (Nat.le_refl _) hg1); have HOWN1 := Lib.hid (strAt_add hown1); clear hown1 hg1))
          go_roundw
          case rel => exact ⟨k + 1, by omega, by go_num, by rw [col_yes HQ.out HK.out, HACC.out]; exact HOWN1.out, HK1.out⟩
          case measure => simp [intOf]; omega
        · have h3 : ((parS q.1.path).toList == p.toList) = false := str_ne he
          have HK : Hid (kidQ p q.1 = false) := Lib.hid (by unfold kidQ; simp [hr, he])
          clear hr he
          go_wp2_with (first
            | (go_at_call 82; with_reducible refine (refParent_any _ _ (by omega)).mono ?_; rintro e w' ⟨rfl, rfl⟩))
          go_roundw
          case rel => exact ⟨k + 1, by omega, by go_num, by rw [col_no HQ.out HK.out, HACC.out]; exact HOWN.out, HKW.out⟩
          case measure => simp [intOf]; omega
    · go_wp2_with fail
      go_ret
      refine ⟨_, rfl, ?_, HKW.out⟩
      rw [kidsR, ← col_all L R HEQ.out (kidQ p) (fun n => baseS n.path) (k := k) (by omega), HACC.out]; exact HOWN.out
set_option maxRecDepth 100000 in
set_option maxHeartbeats 1000000 in
theorem rowned_any {w : World} {b : Nat} {R : RT} (h : RAt w b R) (s : Int) (hlen : R.N.length ≤ 1000000000) :
    Calls Tryz.prog 43 #[.pointer (some ⟨b, 0, none⟩), .int .i64 s] w (StrsPost w (ownedR R s)) := by
  obtain ⟨L, nv, sv, hD⟩ := h
  obtain ⟨a, cap, rfl, hcap, hnode⟩ := hD.node
  have hlL : L.length ≤ 1000000000 := by rw [rd_len hD]; exact hlen
  have HD := Lib.hid hD
  have HN := Lib.hid hnode
  have HR := Lib.hid str_row
  have HEQ := Lib.hid hD.eq
  clear hD hnode hlen
  by_cases hr : s = 0
  · subst hr
    go_enter Tryz.func43, Tryz.ntmps43
    go_wp2_with fail
    go_loopw [5, 6] (fun lv iv wr => ColRel w L (ownQ 0) (fun n => n.path) lv iv wr) (fun _ iv _ => L.length - (intOf iv).toNat)
    case atStart => exact ⟨0, Nat.zero_le _, rfl, strAt_nil _, Kept.refl _ _⟩
    case round =>
      obtain ⟨k, hk, rfl, hown, hkw⟩ := hrel.ex
      have HOWN := Lib.hid hown
      have HKW := Lib.hid hkw
      have HSZ : Hid (w.heap.size ≤ wr.heap.size) := Lib.hid hkw.size
      obtain ⟨c0, c1, c2, cf⟩ := (HD.out.kept0 hkw).cells
      have hcl := col_len L k (ownQ 0) (fun n => n.path)
      obtain ⟨acc, hacc⟩ : ∃ acc, (((L.take k).map (·.1)).filter (ownQ 0)).map (fun n => n.path) = acc := ⟨_, rfl⟩
      rw [hacc] at HOWN hcl
      have HACC := Lib.hid hacc
      clear hown hkw hrel hacc
      by_cases hlt : k < L.length
      · obtain ⟨g, q, rfl, hg, hq, hc, hfz⟩ := HN.out k hlt
        obtain ⟨x0, x1, x2, x3, x4, x5, x6, x7, x8, x9, x10, x11⟩ := nodeAt hc hg HKW.out
        have HQ := Lib.hid hq
        obtain ⟨ow, how⟩ : ∃ ow, q.1.st.owner = ow := ⟨_, rfl⟩
        rw [how] at x9
        have HOW := Lib.hid how
        clear hc hq hfz x1 x2 x3 x4 x5 x6 x7 x8 x10 x11 how
        have HK : Hid (ownQ 0 q.1 = false) := Lib.hid (by unfold ownQ; simp)
        go_wp2_with fail
        go_roundw
        case rel => exact ⟨k + 1, by omega, by go_num, by rw [col_no HQ.out HK.out, HACC.out]; exact HOWN.out, HKW.out⟩
        case measure => simp [intOf]; omega
      · go_wp2_with fail
        go_ret
        refine ⟨_, rfl, ?_, HKW.out⟩
        rw [ownedR, ← col_all L R HEQ.out (ownQ 0) (fun n => n.path) (k := k) (by omega), HACC.out]; exact HOWN.out
  · have h1 : (s == 0) = false := by simpa using hr
    have h2 : (!s == 0) = true := by rw [h1]; rfl
    have HSN := Lib.hid hr
    clear hr
    go_enter Tryz.func43, Tryz.ntmps43
    go_wp2_with fail
    go_loopw [5, 6] (fun lv iv wr => ColRel w L (ownQ s) (fun n => n.path) lv iv wr) (fun _ iv _ => L.length - (intOf iv).toNat)
    case atStart => exact ⟨0, Nat.zero_le _, rfl, strAt_nil _, Kept.refl _ _⟩
    case round =>
      obtain ⟨k, hk, rfl, hown, hkw⟩ := hrel.ex
      have HOWN := Lib.hid hown
      have HKW := Lib.hid hkw
      have HSZ : Hid (w.heap.size ≤ wr.heap.size) := Lib.hid hkw.size
      obtain ⟨c0, c1, c2, cf⟩ := (HD.out.kept0 hkw).cells
      have hcl := col_len L k (ownQ s) (fun n => n.path)
      obtain ⟨acc, hacc⟩ : ∃ acc, (((L.take k).map (·.1)).filter (ownQ s)).map (fun n => n.path) = acc := ⟨_, rfl⟩
      rw [hacc] at HOWN hcl
      have HACC := Lib.hid hacc
      clear hown hkw hrel hacc
      by_cases hlt : k < L.length
      · obtain ⟨g, q, rfl, hg, hq, hc, hfz⟩ := HN.out k hlt
        obtain ⟨x0, x1, x2, x3, x4, x5, x6, x7, x8, x9, x10, x11⟩ := nodeAt hc hg HKW.out
        have HQ := Lib.hid hq
        obtain ⟨ow, how⟩ : ∃ ow, q.1.st.owner = ow := ⟨_, rfl⟩
        rw [how] at x9
        have HOW := Lib.hid how
        clear hc hq hfz x1 x2 x3 x4 x5 x6 x7 x8 x10 x11 how
        by_cases he : ow = s
        · have h3 : (ow == s) = true := by rw [he]; simp
          have HK : Hid (ownQ s q.1 = true) := Lib.hid (by unfold ownQ; simp [HSN.out, he, HOW.out])
          clear he
          go_wp2_with (first
            | (at_builtin; refine wpList_row1 HR.out (by rfl) _ _ (by rfl) (by rfl) HOWN.out [.string q.1.path] (by rfl) (by rfl) (by intro u hu; simp only [List.mem_singleton] at hu; subst hu; rfl) (by omega) (by unfold maxLen; omega) HSZ.out ?_; intro v1 w1 hown1 hg1; have HK1 := Lib.hid (kept_own1 HKW.out HOWN.out (Nat.le_refl _) hg1); have HOWN1 := Lib.hid (strAt_add hown1); clear hown1 hg1))
          go_roundw
          case rel => exact ⟨k + 1, by omega, by go_num, by rw [col_yes HQ.out HK.out, HACC.out]; exact HOWN1.out, HK1.out⟩
          case measure => simp [intOf]; omega
        · have h3 : (ow == s) = false := by simpa using he
          have HK : Hid (ownQ s q.1 = false) := Lib.hid (by unfold ownQ; simp [HSN.out, he, HOW.out])
          clear he
          go_wp2_with fail
          go_roundw
          case rel => exact ⟨k + 1, by omega, by go_num, by rw [col_no HQ.out HK.out, HACC.out]; exact HOWN.out, HKW.out⟩
          case measure => simp [intOf]; omega
      · go_wp2_with fail
        go_ret
        refine ⟨_, rfl, ?_, HKW.out⟩
        rw [ownedR, ← col_all L R HEQ.out (ownQ s) (fun n => n.path) (k := k) (by omega), HACC.out]; exact HOWN.out
end Go.Proofs.YtenbdoceaabecaaGreat

namespace Go.Proofs.YtenbdoceaabecaaGreat
open Go.ChangeShapes Go.WideShapes Go.ChangeAt Go.RowKit Go.Maps
set_option linter.unusedVariables false
set_option linter.unusedSimpArgs false
def setF (x : T1) (zx : Int) (n : RN) : RN := { n with data := x.data, st := { n.st with ver := x.number, mz := zx } }
def aclF (x : T1) (n : RN) : RN := { n with acl := x.acl, st := { n.st with aver := x.number } }
def setR (R : RT) (x : T1) (zx : Int) : RT × List Ev := if placed R x.path = true then (modN R (placeI R.N x.path).toNat (setF x zx), [⟨3, x.path, zx⟩]) else (R, [])
def aclR (R : RT) (x : T1) : RT := if placed R x.path = true then modN R (placeI R.N x.path).toNat (aclF x) else R
def partR (R : RT) (x : T1) (zx : Int) : RT × List Ev :=
  if x.kind = 1 then createR R x zx else if x.kind = 2 then eraseR R x zx else if x.kind = 3 then setR R x zx else if x.kind = 4 then (aclR R x, []) else (R, [])
def findsB (R : RT) (x : T1) : Bool :=
  if x.kind = 1 then mayCome x.path && !placed R x.path && placed R (parS x.path)
  else if x.kind = 2 then decide (x.path.data.toList ≠ [47]) && placed R x.path && decide ((kidsR R x.path).length = 0)
  else if x.kind = 3 ∨ x.kind = 4 then placed R x.path else false
set_option maxRecDepth 100000 in
set_option maxHeartbeats 2000000 in
theorem rfinds_any {w : World} {b : Nat} {R : RT} (h : RAt w b R) (x : T1) (y : TX) (hp : x.path.size ≤ 1099511627776) (hps : ∀ n ∈ R.N, n.path.size ≤ 1048576) (hlen : R.N.length ≤ 1000000000) :
    Calls Tryz.prog 100 #[.pointer (some ⟨b, 0, none⟩), txnV x y] w (QPost (findsB R x) w) := by
  unfold txnV txnL
  have hk0 : Kept (fun _ => False) w (w.alloc (txnO x y)) := (Kept.refl _ w).alloc _
  have HB0 : Hid ((w.alloc (txnO x y)).heap[w.heap.size]? = some (txnO x y)) := Lib.hid (heap_alloc_new w _)
  have HR1 := Lib.hid (h.kept0 hk0)
  have HK0 := Lib.hid hk0
  have HC := Lib.hid (fun w => able_any x.path w hp)
  have HKD := Lib.hid (fun (W : World) (hW : RAt W b R) => rkids_any hW x.path hps hlen)
  have HPL := Lib.hid (fun (W : World) (hW : RAt W b R) (p : ByteArray) => place_any hW p)
  clear h hk0 hlen hps
  obtain ⟨pl, hpl⟩ : ∃ pl, placeI R.N x.path = pl := ⟨_, rfl⟩
  have HP1 : Hid (∀ W, RAt W b R → Calls Tryz.prog 62 #[.pointer (some ⟨b, 0, none⟩), .string x.path] W fun e w' => e = .returned (.int .i64 pl) ∧ W = w') := Lib.hid (fun W hW => by rw [← hpl]; exact HPL.out W hW x.path)
  obtain ⟨th, hth⟩ : ∃ th : Bool, decide (0 ≤ pl) = th := ⟨_, rfl⟩
  have HTH : Hid (placed R x.path = th) := Lib.hid (by unfold placed; rw [hpl]; exact hth)
  clear hpl
  have hcase : x.kind = 1 ∨ x.kind = 2 ∨ x.kind = 3 ∨ x.kind = 4 ∨ (x.kind ≠ 1 ∧ x.kind ≠ 2 ∧ x.kind ≠ 3 ∧ x.kind ≠ 4) := by omega
  have HX : Hid (txnO x y = .cells #[.int .i64 x.kind, .string x.path, .string x.data, .slice y.aa y.an y.ac, .int .i64 x.owner, .int .i64 x.number, .int .i64 y.err, .slice y.sa y.sn y.sc] 32) := Lib.hid rfl
  rcases hcase with hk | hk | hk | hk | ⟨n1, n2, n3, n4⟩
  · have HE : Hid (findsB R x = (mayCome x.path && !th && placed R (parS x.path))) := Lib.hid (by unfold findsB; rw [if_pos hk, HTH.out])
    have hki : (x.kind == 1) = true := by rw [hk]; rfl
    clear hk
    go_enter Tryz.func100, Tryz.ntmps100
    go_wp2_with fail
    refine (HP1.out _ HR1.out).mono ?_
    rintro e w1 ⟨rfl, rfl⟩
    go_wp2_with fail
    refine (HC.out _).mono ?_
    rintro e w1 ⟨rfl, hk1⟩
    have HK1 := Lib.hid (HK0.out.trans hk1)
    have HR2 := Lib.hid (HR1.out.kept0 hk1)
    have HB2 := Lib.hid (box_kept0 HB0.out hk1)
    have t1 : w1.cell? ⟨w.heap.size, 1, none⟩ = some (.string x.path) := cell_box HB2.out rfl
    clear hk1
    cases hmc : mayCome x.path
    · rw [hmc] at HE
      clear hmc
      go_wp2_with fail
      go_ret
      exact ⟨by rw [HE.out]; rfl, HK1.out⟩
    · rw [hmc] at HE
      clear hmc
      cases th
      · obtain ⟨pu, hpu⟩ : ∃ pu, placeI R.N (parS x.path) = pu := ⟨_, rfl⟩
        have HP2 : Hid (Calls Tryz.prog 62 #[.pointer (some ⟨b, 0, none⟩), .string (parS x.path)] w1 fun e w' => e = .returned (.int .i64 pu) ∧ w1 = w') := Lib.hid (by rw [← hpu]; exact HPL.out _ HR2.out (parS x.path))
        have HPP : Hid (placed R (parS x.path) = decide (0 ≤ pu)) := Lib.hid (by unfold placed; rw [hpu])
        clear hpu
        go_wp2_with (first
          | (go_at_call 82; with_reducible refine (refParent_any _ _ (by omega)).mono ?_; rintro e w' ⟨rfl, rfl⟩)
          | (go_at_call 62; with_reducible refine HP2.out.mono ?_; rintro e w' ⟨rfl, rfl⟩))
        go_ret
        exact ⟨ret_bool (by rw [HE.out, HPP.out]; simp), HK1.out⟩
      · go_wp2_with fail
        go_ret
        exact ⟨by rw [HE.out]; rfl, HK1.out⟩
  · have HE : Hid (findsB R x = (decide (x.path.data.toList ≠ [47]) && th && decide ((kidsR R x.path).length = 0))) := Lib.hid (by unfold findsB; rw [if_neg (by omega), if_pos hk, HTH.out])
    have hk1 : (x.kind == 1) = false := by rw [hk]; rfl
    have hk2 : (x.kind == 2) = true := by rw [hk]; rfl
    clear hk
    by_cases hr : x.path.data.toList = [47]
    · have h1 : (x.path.toList == [47]) = true := by rw [eqSlash]; simpa using hr
      have h2 : (!x.path.toList == [47]) = false := by rw [h1]; rfl
      have HE2 : Hid (findsB R x = false) := Lib.hid (by rw [HE.out]; simp [hr])
      clear hr
      go_enter Tryz.func100, Tryz.ntmps100
      go_wp2_with fail
      refine (HP1.out _ HR1.out).mono ?_
      rintro e w1 ⟨rfl, rfl⟩
      go_wp2_with fail
      go_ret
      exact ⟨by rw [HE2.out]; rfl, HK0.out⟩
    · have h1 : (x.path.toList == [47]) = false := by rw [eqSlash]; simpa using hr
      have h2 : (!x.path.toList == [47]) = true := by rw [h1]; rfl
      have HE2 : Hid (findsB R x = (th && decide ((kidsR R x.path).length = 0))) := Lib.hid (by rw [HE.out]; simp [hr])
      clear hr
      cases th
      · go_enter Tryz.func100, Tryz.ntmps100
        go_wp2_with fail
        refine (HP1.out _ HR1.out).mono ?_
        rintro e w1 ⟨rfl, rfl⟩
        go_wp2_with fail
        go_ret
        exact ⟨by rw [HE2.out]; rfl, HK0.out⟩
      · go_enter Tryz.func100, Tryz.ntmps100
        go_wp2_with fail
        refine (HP1.out _ HR1.out).mono ?_
        rintro e w1 ⟨rfl, rfl⟩
        go_wp2_with fail
        refine (HKD.out _ HR1.out).mono ?_
        rintro e w2 ⟨v, rfl, hv, hk⟩
        obtain ⟨va, vc, rfl⟩ := own_shape hv
        have HK2 := Lib.hid (HK0.out.trans hk)
        clear hv hk
        obtain ⟨n, hn⟩ : ∃ n, (kidsR R x.path).length = n := ⟨_, rfl⟩
        rw [hn] at HE2 ⊢
        clear hn
        go_wp2_with fail
        go_ret
        exact ⟨ret_bool (by rw [HE2.out]; first | rfl | (rw [Bool.eq_iff_iff]; simp)), HK2.out⟩
  · have HE : Hid (findsB R x = th) := Lib.hid (by unfold findsB; rw [if_neg (by omega), if_neg (by omega), if_pos (.inl hk), HTH.out])
    have hk1 : (x.kind == 1) = false := by rw [hk]; rfl
    have hk2 : (x.kind == 2) = false := by rw [hk]; rfl
    have hk3 : (x.kind == 3) = true := by rw [hk]; rfl
    clear hk
    go_enter Tryz.func100, Tryz.ntmps100
    go_wp2_with fail
    refine (HP1.out _ HR1.out).mono ?_
    rintro e w1 ⟨rfl, rfl⟩
    go_wp2_with fail
    go_ret
    exact ⟨ret_bool HE.out.symm, HK0.out⟩
  · have HE : Hid (findsB R x = th) := Lib.hid (by unfold findsB; rw [if_neg (by omega), if_neg (by omega), if_pos (.inr hk), HTH.out])
    have hk1 : (x.kind == 1) = false := by rw [hk]; rfl
    have hk2 : (x.kind == 2) = false := by rw [hk]; rfl
    have hk3 : (x.kind == 3) = false := by rw [hk]; rfl
    have hk4 : (x.kind == 4) = true := by rw [hk]; rfl
    clear hk
    go_enter Tryz.func100, Tryz.ntmps100
    go_wp2_with fail
    refine (HP1.out _ HR1.out).mono ?_
    rintro e w1 ⟨rfl, rfl⟩
    go_wp2_with fail
    go_ret
    exact ⟨ret_bool HE.out.symm, HK0.out⟩
  · have HE : Hid (findsB R x = false) := Lib.hid (by unfold findsB; rw [if_neg n1, if_neg n2, if_neg (by omega)])
    have hk1 : (x.kind == 1) = false := by simpa using n1
    have hk2 : (x.kind == 2) = false := by simpa using n2
    have hk3 : (x.kind == 3) = false := by simpa using n3
    have hk4 : (x.kind == 4) = false := by simpa using n4
    clear n1 n2 n3 n4
    go_enter Tryz.func100, Tryz.ntmps100
    go_wp2_with fail
    refine (HP1.out _ HR1.out).mono ?_
    rintro e w1 ⟨rfl, rfl⟩
    go_wp2_with fail
    go_ret
    exact ⟨by rw [HE.out]; rfl, HK0.out⟩
end Go.Proofs.YtenbdoceaabecaaGreat
