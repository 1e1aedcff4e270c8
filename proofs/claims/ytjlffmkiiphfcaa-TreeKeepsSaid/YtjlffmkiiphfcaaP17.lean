/- The document's own tree: Kids, Owned. Two nodes compared. -/
import Derived.Test.YtjlffmkiiphfcaaP15
import Derived.Test.YtjlffmkiiphfcaaP12
namespace Go.Proofs.Ytjlffmkiiphfcaa
open Go.ChangeShapes Go.WideShapes Go.ChangeAt Go.RowKit Go.Maps
set_option linter.unusedVariables false
set_option linter.unusedSimpArgs false
theorem str_row : RowTy Try.prog 43 9 1 16 := RowTy.of Try.underlying43 str_info rfl (by decide)
def kidQ (p : ByteArray) (n : RN) : Bool := decide (n.path.data.toList ≠ [47]) && decide (parS n.path = p)
def kidsR (R : RT) (p : ByteArray) : List ByteArray := (R.N.filter (kidQ p)).map fun n => baseS n.path
def ownQ (s : Int) (n : RN) : Bool := decide (s ≠ 0) && decide (n.st.owner = s)
def ownedR (R : RT) (s : Int) : List ByteArray := (R.N.filter (ownQ s)).map fun n => n.path
/-- what a loop has collected of the first k nodes -/
structure ColRel (w : World) (L : List (RN × Value)) (f : RN → Bool) (g : RN → ByteArray) (lv iv : Value) (wr : World) : Prop where
  ex : ∃ k : Nat, k ≤ L.length ∧ iv = .int .i64 k ∧ StrAt w.heap.size wr lv ((((L.take k).map (·.1)).filter f).map g) ∧ Kept (fun _ => False) w wr
def StrsPost (w : World) (l : List ByteArray) (e : Ending) (w' : World) : Prop := ∃ v, e = .returned v ∧ StrAt w.heap.size w' v l ∧ Kept (fun _ => False) w w'
theorem col_yes {L : List (RN × Value)} {k : Nat} {q : RN × Value} {f : RN → Bool} {g : RN → ByteArray} (hq : L[k]? = some q) (h : f q.1 = true) : (((L.take (k + 1)).map (·.1)).filter f).map g = (((L.take k).map (·.1)).filter f).map g ++ [g q.1] := by
  rw [take_at hq, List.map_append, List.filter_append, List.map_append]; simp [h]
theorem col_no {L : List (RN × Value)} {k : Nat} {q : RN × Value} {f : RN → Bool} {g : RN → ByteArray} (hq : L[k]? = some q) (h : f q.1 = false) : (((L.take (k + 1)).map (·.1)).filter f).map g = (((L.take k).map (·.1)).filter f).map g := by
  rw [take_at hq, List.map_append, List.filter_append, List.map_append]; simp [h]
theorem col_len (L : List (RN × Value)) (k : Nat) (f : RN → Bool) (g : RN → ByteArray) : ((((L.take k).map (·.1)).filter f).map g).length ≤ L.length := by
  rw [List.length_map]
  refine Nat.le_trans (List.length_filter_le _ _) ?_
  rw [List.length_map, List.length_take]; omega
theorem col_all (L : List (RN × Value)) (R : RT) (h : L.map (·.1) = R.N) (f : RN → Bool) (g : RN → ByteArray) {k : Nat} (hk : L.length ≤ k) : (((L.take k).map (·.1)).filter f).map g = (R.N.filter f).map g := by
  rw [List.take_of_length_le hk, h]
theorem strAt_add {w : World} {B : Nat} {v : Value} {l : List ByteArray} {x : ByteArray} (h : w.ownsRow B 9 1 v (l.length + 1) (strC l ++ [.string x])) : StrAt B w v (l ++ [x]) := by
  unfold StrAt strC
  rw [List.length_append, List.map_append]; exact h
set_option maxRecDepth 100000 in
set_option maxHeartbeats 1000000 in
theorem rkids_any {w : World} {b : Nat} {R : RT} (h : RAt w b R) (p : ByteArray) (hps : ∀ n ∈ R.N, n.path.size ≤ 1000000) (hlen : R.N.length ≤ 1000000000) :
    Calls Try.prog 86 #[.pointer (some ⟨b, 0, none⟩), .string p] w (StrsPost w (kidsR R p)) := by
  obtain ⟨L, nv, sv, hD⟩ := h
  obtain ⟨a, cap, rfl, hcap, hnode⟩ := hD.node
  have hlL : L.length ≤ 1000000000 := by rw [rd_len hD]; exact hlen
  have HD := Lib.hid hD
  have HN := Lib.hid hnode
  have HR := Lib.hid str_row
  have HP := Lib.hid hps
  have HEQ := Lib.hid hD.eq
  clear hD hnode hlen hps
  go_enter Try.func86, Try.ntmps86
  go_wp2_with fail
  go_loopw [5, 6] (fun lv iv wr => ColRel w L (kidQ p) (fun n => baseS n.path) lv iv wr) (fun _ iv _ => L.length - (intOf iv).toNat)
  case atStart => exact ⟨0, Nat.zero_le _, rfl, strAt_nil _, Kept.refl _ _⟩
  case round =>
    obtain ⟨k, hk, rfl, hown, hkw⟩ := hrel.ex
    have HOWN := Lib.hid hown
    have HKW := Lib.hid hkw
    have HSZ : Hid (w.heap.size ≤ wr.heap.size) := Lib.hid hkw.size
    obtain ⟨c0, c1, c2, cf⟩ := (HD.out.kept0 hkw).cells
    have hcl := col_len L k (kidQ p) (fun n => baseS n.path)
    obtain ⟨acc, hacc⟩ : ∃ acc, (((L.take k).map (·.1)).filter (kidQ p)).map (fun n => baseS n.path) = acc := ⟨_, rfl⟩
    rw [hacc] at HOWN hcl
    have HACC := Lib.hid hacc
    clear hown hkw hrel hacc
    by_cases hlt : k < L.length
    · obtain ⟨g, q, rfl, hg, hq, hc, hfz⟩ := HN.out k hlt
      obtain ⟨x0, x1, x2, x3, x4, x5, x6, x7, x8, x9, x10, x11⟩ := nodeAt hc hg HKW.out
      have HQ := Lib.hid hq
      have hqs : q.1.path.size ≤ 1000000 := HP.out q.1 (List.mem_of_getElem? (rd_at HD.out hq))
      clear hc hq hfz x1 x2 x3 x4 x5 x6 x7 x8 x9 x10 x11
      by_cases hr : q.1.path.data.toList = [47]
      · have h1 : (q.1.path.toList == [47]) = true := by rw [eqSlash]; simpa using hr
        have h2 : (!q.1.path.toList == [47]) = false := by rw [h1]; rfl
        have HK : Hid (kidQ p q.1 = false) := Lib.hid (by unfold kidQ; simp [hr])
        clear hr
        go_wp2_with fail
        go_roundw
        case rel => exact ⟨k + 1, by omega, by go_num, by rw [col_no HQ.out HK.out, HACC.out]; exact HOWN.out, HKW.out⟩
        case measure => simp [intOf]; omega
      · have h1 : (q.1.path.toList == [47]) = false := by rw [eqSlash]; simpa using hr
        have h2 : (!q.1.path.toList == [47]) = true := by rw [h1]; rfl
        have hpar : (parS q.1.path).size ≤ 140737488355328 := parS_le (by omega)
        by_cases he : parS q.1.path = p
        · have h3 : ((parS q.1.path).toList == p.toList) = true := by rw [he]; simp
          have HK : Hid (kidQ p q.1 = true) := Lib.hid (by unfold kidQ; simp [hr, he])
          clear hr he
          go_wp2_with (first
            | (go_at_call 50; with_reducible refine (refParent_any _ _ (by omega)).mono ?_; rintro e w' ⟨rfl, rfl⟩)
            | (go_at_call 111; with_reducible refine (refBase_any _ _ (by omega)).mono ?_; rintro e w' ⟨rfl, rfl⟩)
            | (at_builtin; refine wpList_row1 HR.out (by rfl) _ _ (by rfl) (by rfl) HOWN.out [.string (baseS q.1.path)] (by rfl) (by rfl) (by intro u hu; simp only [List.mem_singleton] at hu; subst hu; rfl) (by omega) (by unfold maxLen; omega) HSZ.out ?_; intro v1 w1 hown1 hg1; have HK1 := Lib.hid (kept_own1 HKW.out HOWN.out (Nat.le_refl _) hg1); have HOWN1 := Lib.hid (strAt_add hown1); clear hown1 hg1))
          go_roundw
          case rel => exact ⟨k + 1, by omega, by go_num, by rw [col_yes HQ.out HK.out, HACC.out]; exact HOWN1.out, HK1.out⟩
          case measure => simp [intOf]; omega
        · have h3 : ((parS q.1.path).toList == p.toList) = false := str_ne he
          have HK : Hid (kidQ p q.1 = false) := Lib.hid (by unfold kidQ; simp [hr, he])
          clear hr he
          go_wp2_with (first
            | (go_at_call 50; with_reducible refine (refParent_any _ _ (by omega)).mono ?_; rintro e w' ⟨rfl, rfl⟩))
          go_roundw
          case rel => exact ⟨k + 1, by omega, by go_num, by rw [col_no HQ.out HK.out, HACC.out]; exact HOWN.out, HKW.out⟩
          case measure => simp [intOf]; omega
    · go_wp2_with fail
      go_ret
      refine ⟨_, rfl, ?_, HKW.out⟩
      rw [kidsR, ← col_all L R HEQ.out (kidQ p) (fun n => baseS n.path) (k := k) (by omega), HACC.out]; exact HOWN.out
set_option maxRecDepth 100000 in
set_option maxHeartbeats 1000000 in
theorem rowned_any {w : World} {b : Nat} {R : RT} (h : RAt w b R) (s : Int) (hlen : R.N.length ≤ 1000000000) :
    Calls Try.prog 59 #[.pointer (some ⟨b, 0, none⟩), .int .i64 s] w (StrsPost w (ownedR R s)) := by
  obtain ⟨L, nv, sv, hD⟩ := h
  obtain ⟨a, cap, rfl, hcap, hnode⟩ := hD.node
  have hlL : L.length ≤ 1000000000 := by rw [rd_len hD]; exact hlen
  have HD := Lib.hid hD
  have HN := Lib.hid hnode
  have HR := Lib.hid str_row
  have HEQ := Lib.hid hD.eq
  clear hD hnode hlen
  by_cases hr : s = 0
  · subst hr
    go_enter Try.func59, Try.ntmps59
    go_wp2_with fail
    go_loopw [5, 6] (fun lv iv wr => ColRel w L (ownQ 0) (fun n => n.path) lv iv wr) (fun _ iv _ => L.length - (intOf iv).toNat)
    case atStart => exact ⟨0, Nat.zero_le _, rfl, strAt_nil _, Kept.refl _ _⟩
    case round =>
      obtain ⟨k, hk, rfl, hown, hkw⟩ := hrel.ex
      have HOWN := Lib.hid hown
      have HKW := Lib.hid hkw
      have HSZ : Hid (w.heap.size ≤ wr.heap.size) := Lib.hid hkw.size
      obtain ⟨c0, c1, c2, cf⟩ := (HD.out.kept0 hkw).cells
      have hcl := col_len L k (ownQ 0) (fun n => n.path)
      obtain ⟨acc, hacc⟩ : ∃ acc, (((L.take k).map (·.1)).filter (ownQ 0)).map (fun n => n.path) = acc := ⟨_, rfl⟩
      rw [hacc] at HOWN hcl
      have HACC := Lib.hid hacc
      clear hown hkw hrel hacc
      by_cases hlt : k < L.length
      · obtain ⟨g, q, rfl, hg, hq, hc, hfz⟩ := HN.out k hlt
        obtain ⟨x0, x1, x2, x3, x4, x5, x6, x7, x8, x9, x10, x11⟩ := nodeAt hc hg HKW.out
        have HQ := Lib.hid hq
        obtain ⟨ow, how⟩ : ∃ ow, q.1.st.owner = ow := ⟨_, rfl⟩
        rw [how] at x9
        have HOW := Lib.hid how
        clear hc hq hfz x1 x2 x3 x4 x5 x6 x7 x8 x10 x11 how
        have HK : Hid (ownQ 0 q.1 = false) := Lib.hid (by unfold ownQ; simp)
        go_wp2_with fail
        go_roundw
        case rel => exact ⟨k + 1, by omega, by go_num, by rw [col_no HQ.out HK.out, HACC.out]; exact HOWN.out, HKW.out⟩
        case measure => simp [intOf]; omega
      · go_wp2_with fail
        go_ret
        refine ⟨_, rfl, ?_, HKW.out⟩
        rw [ownedR, ← col_all L R HEQ.out (ownQ 0) (fun n => n.path) (k := k) (by omega), HACC.out]; exact HOWN.out
  · have h1 : (s == 0) = false := by simpa using hr
    have h2 : (!s == 0) = true := by rw [h1]; rfl
    have HSN := Lib.hid hr
    clear hr
    go_enter Try.func59, Try.ntmps59
    go_wp2_with fail
    go_loopw [5, 6] (fun lv iv wr => ColRel w L (ownQ s) (fun n => n.path) lv iv wr) (fun _ iv _ => L.length - (intOf iv).toNat)
    case atStart => exact ⟨0, Nat.zero_le _, rfl, strAt_nil _, Kept.refl _ _⟩
    case round =>
      obtain ⟨k, hk, rfl, hown, hkw⟩ := hrel.ex
      have HOWN := Lib.hid hown
      have HKW := Lib.hid hkw
      have HSZ : Hid (w.heap.size ≤ wr.heap.size) := Lib.hid hkw.size
      obtain ⟨c0, c1, c2, cf⟩ := (HD.out.kept0 hkw).cells
      have hcl := col_len L k (ownQ s) (fun n => n.path)
      obtain ⟨acc, hacc⟩ : ∃ acc, (((L.take k).map (·.1)).filter (ownQ s)).map (fun n => n.path) = acc := ⟨_, rfl⟩
      rw [hacc] at HOWN hcl
      have HACC := Lib.hid hacc
      clear hown hkw hrel hacc
      by_cases hlt : k < L.length
      · obtain ⟨g, q, rfl, hg, hq, hc, hfz⟩ := HN.out k hlt
        obtain ⟨x0, x1, x2, x3, x4, x5, x6, x7, x8, x9, x10, x11⟩ := nodeAt hc hg HKW.out
        have HQ := Lib.hid hq
        obtain ⟨ow, how⟩ : ∃ ow, q.1.st.owner = ow := ⟨_, rfl⟩
        rw [how] at x9
        have HOW := Lib.hid how
        clear hc hq hfz x1 x2 x3 x4 x5 x6 x7 x8 x10 x11 how
        by_cases he : ow = s
        · have h3 : (ow == s) = true := by rw [he]; simp
          have HK : Hid (ownQ s q.1 = true) := Lib.hid (by unfold ownQ; simp [HSN.out, he, HOW.out])
          clear he
          go_wp2_with (first
            | (at_builtin; refine wpList_row1 HR.out (by rfl) _ _ (by rfl) (by rfl) HOWN.out [.string q.1.path] (by rfl) (by rfl) (by intro u hu; simp only [List.mem_singleton] at hu; subst hu; rfl) (by omega) (by unfold maxLen; omega) HSZ.out ?_; intro v1 w1 hown1 hg1; have HK1 := Lib.hid (kept_own1 HKW.out HOWN.out (Nat.le_refl _) hg1); have HOWN1 := Lib.hid (strAt_add hown1); clear hown1 hg1))
          go_roundw
          case rel => exact ⟨k + 1, by omega, by go_num, by rw [col_yes HQ.out HK.out, HACC.out]; exact HOWN1.out, HK1.out⟩
          case measure => simp [intOf]; omega
        · have h3 : (ow == s) = false := by simpa using he
          have HK : Hid (ownQ s q.1 = false) := Lib.hid (by unfold ownQ; simp [HSN.out, he, HOW.out])
          clear he
          go_wp2_with fail
          go_roundw
          case rel => exact ⟨k + 1, by omega, by go_num, by rw [col_no HQ.out HK.out, HACC.out]; exact HOWN.out, HKW.out⟩
          case measure => simp [intOf]; omega
      · go_wp2_with fail
        go_ret
        refine ⟨_, rfl, ?_, HKW.out⟩
        rw [ownedR, ← col_all L R HEQ.out (ownQ s) (fun n => n.path) (k := k) (by omega), HACC.out]; exact HOWN.out
end Go.Proofs.Ytjlffmkiiphfcaa

namespace Go.Proofs.Ytjlffmkiiphfcaa
open Go.ChangeShapes Go.WideShapes Go.ChangeAt Go.RowKit Go.Maps
set_option linter.unusedVariables false
set_option linter.unusedSimpArgs false
deriving instance DecidableEq for Nd
theorem RowsA.kept0 {w w' : World} {v : Value} {l : List AR} (h : RowsA w v l) (hk : Kept (fun _ => False) w w') : RowsA w' v l := by
  obtain ⟨a, cap, hv, hc⟩ := h.ex
  refine ⟨⟨a, cap, hv, fun i hi => ?_⟩, h.room⟩
  obtain ⟨g, off, ha, hg, h1, h2⟩ := hc i hi
  have hb := hk.block g hg (fun f => f)
  exact ⟨g, off, ha, Nat.lt_of_lt_of_le hg hk.size, by rw [World.cell?_of_block (w := w) hb]; exact h1, by rw [World.cell?_of_block (w := w) hb]; exact h2⟩
theorem RowsA.shape {w : World} {v : Value} {l : List AR} (h : RowsA w v l) : ∃ a n cap, v = .slice a n cap := by
  obtain ⟨a, cap, hv, _⟩ := h.ex; exact ⟨_, _, _, hv⟩
set_option maxRecDepth 100000 in
set_option maxHeartbeats 4000000 in
theorem samenode_any {w : World} {n1 n2 : Nd} {v1 v2 : Value} (h1 : RowsA w v1 n1.acl) (h2 : RowsA w v2 n2.acl) :
    Calls Try.prog 47 #[nodeV n1 v1, nodeV n2 v2] w fun e w' => e = .returned (.bool (decide (n1 = n2))) ∧ Kept (fun _ => False) w w' := by
  obtain ⟨a, an, ac, rfl⟩ := h1.shape
  obtain ⟨b, bn, bc, rfl⟩ := h2.shape
  obtain ⟨d1, l1, ⟨cz1, mz1, pz1, vr1, cv1, av1, ow1⟩⟩ := n1
  obtain ⟨d2, l2, ⟨cz2, mz2, pz2, vr2, cv2, av2, ow2⟩⟩ := n2
  unfold nodeV
  dsimp only at h1 h2 ⊢
  have hk : Kept (fun _ => False) w ((w.alloc (nodeO d1 a an ac ⟨cz1, mz1, pz1, vr1, cv1, av1, ow1⟩)).alloc (nodeO d2 b bn bc ⟨cz2, mz2, pz2, vr2, cv2, av2, ow2⟩)) := ((Kept.refl _ w).alloc _).alloc _
  have HK := Lib.hid hk
  have HEQ := Lib.hid (acleq_any (h1.kept0 hk) (h2.kept0 hk))
  clear h1 h2 hk
  have HF : Hid (∀ {x : Nd} {y : Nd}, x ≠ y → decide (x = y) = false) := Lib.hid (fun h => by simp [h])
  by_cases hd : d1 = d2
  case neg =>
    have b1 : (d1.toList == d2.toList) = false := str_ne hd
    have HN := Lib.hid (HF.out (x := ⟨d1, l1, ⟨cz1, mz1, pz1, vr1, cv1, av1, ow1⟩⟩) (y := ⟨d2, l2, ⟨cz2, mz2, pz2, vr2, cv2, av2, ow2⟩⟩) (fun e => hd (by injection e)))
    go_enter Try.func47, Try.ntmps47
    go_wp2
    go_ret
    exact ⟨ret_bool HN.out.symm, HK.out⟩
  subst hd
  by_cases h : cz1 = cz2
  case neg =>
    have HN := Lib.hid (HF.out (x := ⟨d1, l1, ⟨cz1, mz1, pz1, vr1, cv1, av1, ow1⟩⟩) (y := ⟨d1, l2, ⟨cz2, mz2, pz2, vr2, cv2, av2, ow2⟩⟩) (fun e => h (by injection e with _ _ e3; injection e3)))
    go_enter Try.func47, Try.ntmps47
    go_wp2
    go_ret
    exact ⟨ret_bool HN.out.symm, HK.out⟩
  subst h
  by_cases h : mz1 = mz2
  case neg =>
    have HN := Lib.hid (HF.out (x := ⟨d1, l1, ⟨cz1, mz1, pz1, vr1, cv1, av1, ow1⟩⟩) (y := ⟨d1, l2, ⟨cz1, mz2, pz2, vr2, cv2, av2, ow2⟩⟩) (fun e => h (by injection e with _ _ e3; injection e3)))
    go_enter Try.func47, Try.ntmps47
    go_wp2
    go_ret
    exact ⟨ret_bool HN.out.symm, HK.out⟩
  subst h
  by_cases h : pz1 = pz2
  case neg =>
    have HN := Lib.hid (HF.out (x := ⟨d1, l1, ⟨cz1, mz1, pz1, vr1, cv1, av1, ow1⟩⟩) (y := ⟨d1, l2, ⟨cz1, mz1, pz2, vr2, cv2, av2, ow2⟩⟩) (fun e => h (by injection e with _ _ e3; injection e3)))
    go_enter Try.func47, Try.ntmps47
    go_wp2
    go_ret
    exact ⟨ret_bool HN.out.symm, HK.out⟩
  subst h
  by_cases h : vr1 = vr2
  case neg =>
    have HN := Lib.hid (HF.out (x := ⟨d1, l1, ⟨cz1, mz1, pz1, vr1, cv1, av1, ow1⟩⟩) (y := ⟨d1, l2, ⟨cz1, mz1, pz1, vr2, cv2, av2, ow2⟩⟩) (fun e => h (by injection e with _ _ e3; injection e3)))
    go_enter Try.func47, Try.ntmps47
    go_wp2
    go_ret
    exact ⟨ret_bool HN.out.symm, HK.out⟩
  subst h
  by_cases h : cv1 = cv2
  case neg =>
    have HN := Lib.hid (HF.out (x := ⟨d1, l1, ⟨cz1, mz1, pz1, vr1, cv1, av1, ow1⟩⟩) (y := ⟨d1, l2, ⟨cz1, mz1, pz1, vr1, cv2, av2, ow2⟩⟩) (fun e => h (by injection e with _ _ e3; injection e3)))
    go_enter Try.func47, Try.ntmps47
    go_wp2
    go_ret
    exact ⟨ret_bool HN.out.symm, HK.out⟩
  subst h
  by_cases h : av1 = av2
  case neg =>
    have HN := Lib.hid (HF.out (x := ⟨d1, l1, ⟨cz1, mz1, pz1, vr1, cv1, av1, ow1⟩⟩) (y := ⟨d1, l2, ⟨cz1, mz1, pz1, vr1, cv1, av2, ow2⟩⟩) (fun e => h (by injection e with _ _ e3; injection e3)))
    go_enter Try.func47, Try.ntmps47
    go_wp2
    go_ret
    exact ⟨ret_bool HN.out.symm, HK.out⟩
  subst h
  by_cases h : ow1 = ow2
  case neg =>
    have HN := Lib.hid (HF.out (x := ⟨d1, l1, ⟨cz1, mz1, pz1, vr1, cv1, av1, ow1⟩⟩) (y := ⟨d1, l2, ⟨cz1, mz1, pz1, vr1, cv1, av1, ow2⟩⟩) (fun e => h (by injection e with _ _ e3; injection e3)))
    go_enter Try.func47, Try.ntmps47
    go_wp2
    go_ret
    exact ⟨ret_bool HN.out.symm, HK.out⟩
  subst h
  have HN : Hid (decide ((⟨d1, l1, ⟨cz1, mz1, pz1, vr1, cv1, av1, ow1⟩⟩ : Nd) = ⟨d1, l2, ⟨cz1, mz1, pz1, vr1, cv1, av1, ow1⟩⟩) = decide (l1 = l2)) := Lib.hid (by simp)
  go_enter Try.func47, Try.ntmps47
  go_wp2_with fail
  refine HEQ.out.mono ?_
  rintro e w5 ⟨rfl, n, rfl⟩
  go_wp2_with fail
  go_ret
  exact ⟨ret_bool (by rw [HN.out]), HK.out.drewN n⟩
end Go.Proofs.Ytjlffmkiiphfcaa
