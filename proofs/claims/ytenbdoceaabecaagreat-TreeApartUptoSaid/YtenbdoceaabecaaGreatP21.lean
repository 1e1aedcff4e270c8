/- The document's own tree: Lay walks. -/
import Derived.Test.YtenbdoceaabecaaGreatP20
namespace Go.Proofs.YtenbdoceaabecaaGreat
open Go.ChangeShapes Go.WideShapes Go.ChangeAt Go.RowKit Go.Maps
set_option linter.unusedVariables false
set_option linter.unusedSimpArgs false
theorem take_at {α : Type} {l : List α} {k : Nat} {x : α} (h : l[k]? = some x) : l.take (k + 1) = l.take k ++ [x] := by
  obtain ⟨hk, rfl⟩ := List.getElem?_eq_some_iff.1 h
  exact List.take_succ_eq_append_getElem hk
theorem nd_box {w : World} {b : Nat} {p : RN × Value} {wr : World} (h : w.heap[b]? = some (rnO p)) (hk : Kept (fun _ => False) w wr) : BoxN wr b p :=
  boxN ((hk.block b (lt_of_block h) (fun f => f)).trans h)
/-- the tree's own cell is written -/
theorem RD.setNodes {w : World} {b : Nat} {R : RT} {L L' : List (RN × Value)} {nv nv' sv : Value} {B : Nat} (h : RD w b R L nv sv) (hl : w.ownsRow B 91 12 nv' L'.length (ndC L')) (ha : ∀ p ∈ L', AclW w p.2 p.1.acl) :
    RD (w.setCell ⟨b, 0, none⟩ nv') b { R with N := L'.map (·.1) } L' nv' sv ∧ (B ≤ w.heap.size → (∀ k, nv'.ownBlock = some k → B ≤ k) → ∀ k, RBs (w.setCell ⟨b, 0, none⟩ nv') b k → RBs w b k ∨ B ≤ k) := by
  have hk := kept_set w b 0 nv'
  have hne : ∀ k cur' e, w.heap[k]? = some (.cells cur' e (0, 0)) → e ≠ 95 → ¬ k = b := fun k cur' e hc hne' e' => by
    subst e'
    rw [h.at_] at hc
    injection hc with hc
    injection hc with _ hc
    exact hne' hc.symm
  have hat : (w.setCell ⟨b, 0, none⟩ nv').heap[b]? = some (.cells #[nv', sv, .int .i64 R.z] 95 (0, 0)) := heap_set nv' (c := [nv, sv, .int .i64 R.z]) h.at_
  have hD : RD (w.setCell ⟨b, 0, none⟩ nv') b { R with N := L'.map (·.1) } L' nv' sv := by
    refine ⟨hat, ?_, rfl, fun p hp => ?_, ?_⟩
    · refine ownKept (row0 hl) hk (fun k e => ?_)
      obtain ⟨_, _, cur', hc'⟩ := own_lo hl e
      exact hne k _ _ hc' (by decide)
    · refine ⟨ownKept (ha p hp).own hk (fun k e => ?_), (ha p hp).room⟩
      obtain ⟨_, _, cur', hc'⟩ := own_lo (ha p hp).own e
      exact hne k _ _ hc' (by decide)
    · refine ownKept h.s hk (fun k e => ?_)
      obtain ⟨_, _, cur', hc'⟩ := own_lo h.s e
      exact hne k _ _ hc' (by decide)
  refine ⟨hD, fun hB hb k hk' => ?_⟩
  rcases (hD.bs k).1 hk' with e | e | e
  · exact .inl ((h.bs k).2 (.inl e))
  · exact .inr (hb k e)
  · exact .inl ((h.bs k).2 (.inr (.inr e)))
theorem own_drewN {w : World} {B size n : Nat} {e : TypeId} {v : Value} {xs : List Value} (h : w.ownsRow B e size v n xs) (k : Nat) : (w.drewN k).ownsRow B e size v n xs := ownKept h ((Kept.refl (fun _ => False) w).drewN k) (fun _ _ f => f)
theorem lay_stepR {w wr : World} {b : Nat} {R : RT} {L : List (RN × Value)} {nv sv nv' : Value} (hD : RD w b R L nv sv) (hk : Kept (fun _ => False) w wr) {B : Nat} (hB : w.heap.size ≤ B) {i : Nat} (h : ∀ k, RBs (wr.setCell ⟨b, i, none⟩ nv') b k → RBs wr b k ∨ B ≤ k) : RStep w b (wr.setCell ⟨b, i, none⟩ nv') := by
  refine ⟨(hk.mono (fun _ _ f => f.elim)).setCell (a := ⟨b, i, none⟩) (.inl ((hD.bs b).2 (.inl rfl))) _, fun k e => ?_⟩
  rcases h k e with h | h
  · exact .inl ((rbs_kept hk (lt_of_block hD.at_) (fun f => f) k).1 h)
  · exact .inr (Nat.le_trans hB h)
theorem layStep_eq {α : Type} {key : α → ByteArray} {n x : α} {acc : List α} {inb ls : Bool} (h : key x = key n) (hl : Op.bytesLess (key x).toList (key n).toList = ls) : layStep key n (acc, inb) x = (acc ++ (if inb = false ∧ ls = false then [n] else []), inb || !ls) := by
  unfold layStep
  simp only
  rw [hl, if_pos h, List.append_nil]
theorem layStep_ne {α : Type} {key : α → ByteArray} {n x : α} {acc : List α} {inb ls : Bool} (h : ¬ key x = key n) (hl : Op.bytesLess (key x).toList (key n).toList = ls) : layStep key n (acc, inb) x = (acc ++ (if inb = false ∧ ls = false then [n] else []) ++ [x], inb || !ls) := by
  unfold layStep
  simp only
  rw [hl, if_neg h]
structure NodeAt (w : World) (g k : Nat) (p : RN × Value) : Prop where
  x0 : w.cell? ⟨g, k * 12, none⟩ = some (.string p.1.path)
  x1 : w.cell? ⟨g, k * 12 + 1, none⟩ = some (.string p.1.data)
  x2 : w.cell? ⟨g, k * 12 + 2, none⟩ = some p.2
  x3 : w.cell? ⟨g, k * 12 + 3, none⟩ = some (.int .i64 p.1.st.cz)
  x4 : w.cell? ⟨g, k * 12 + 4, none⟩ = some (.int .i64 p.1.st.mz)
  x5 : w.cell? ⟨g, k * 12 + 5, none⟩ = some (.int .i64 p.1.st.pz)
  x6 : w.cell? ⟨g, k * 12 + 6, none⟩ = some (.int .i64 p.1.st.ver)
  x7 : w.cell? ⟨g, k * 12 + 7, none⟩ = some (.int .i64 p.1.st.cver)
  x8 : w.cell? ⟨g, k * 12 + 8, none⟩ = some (.int .i64 p.1.st.aver)
  x9 : w.cell? ⟨g, k * 12 + 9, none⟩ = some (.int .i64 p.1.st.owner)
  x10 : w.cell? ⟨g, k * 12 + 10, none⟩ = some (.int .i64 0)
  x11 : w.cell? ⟨g, k * 12 + 11, none⟩ = some (.int .i64 0)
theorem nodeAt {w w' : World} {g k : Nat} {p : RN × Value} (hc : ∀ j u, (ndL p)[j]? = some u → w.cell? ⟨g, k * 12 + j, none⟩ = some u) (hg : g < w.heap.size) (hk : Kept (fun _ => False) w w') : NodeAt w' g k p := by
  have e : ∀ j u, (ndL p)[j]? = some u → w'.cell? ⟨g, k * 12 + j, none⟩ = some u := fun j u hu => (World.cell?_of_block (w := w) (hk.block g hg (fun f => f))).trans (hc j u hu)
  exact ⟨e 0 _ rfl, e 1 _ rfl, e 2 _ rfl, e 3 _ rfl, e 4 _ rfl, e 5 _ rfl, e 6 _ rfl, e 7 _ rfl, e 8 _ rfl, e 9 _ rfl, e 10 _ rfl, e 11 _ rfl⟩
set_option maxRecDepth 100000 in
set_option maxHeartbeats 4000000 in
theorem rlay_any {w : World} {b : Nat} {R : RT} (h : RAt w b R) (n : RN) (av : Value) (ha : AclW w av n.acl) (hlen : R.N.length ≤ 1000000000) :
    Calls Tryz.prog 90 #[.pointer (some ⟨b, 0, none⟩), .agg #[.string n.path, .string n.data, av, .int .i64 n.st.cz, .int .i64 n.st.mz, .int .i64 n.st.pz, .int .i64 n.st.ver, .int .i64 n.st.cver, .int .i64 n.st.aver, .int .i64 n.st.owner, .int .i64 0, .int .i64 0]] w (RPost w b { R with N := layF (·.path) n R.N }) := by
  obtain ⟨L, nv, sv, hD⟩ := h
  obtain ⟨P, hP⟩ : ∃ P : RN × Value, P = (n, av) := ⟨_, rfl⟩
  have HE : Hid (layF (·.path) P.1 R.N = (layF key2 P L).map (·.1)) := Lib.hid (by rw [← hD.eq]; exact (layF_map (fun n : RN => n.path) (fun p : RN × Value => p.1) P L).symm)
  have hav : ∃ a m c, av = .slice a m c := by obtain ⟨a, c, e⟩ := own_shape ha.own; exact ⟨_, _, _, e⟩
  have HO : Hid (∀ p, p = P ∨ p ∈ L → ∀ u ∈ ndL p, u.oneCell' = true) := Lib.hid (fun p hp => ndL_one p (by
    rcases hp with rfl | hp
    · rw [hP]; exact hav
    · obtain ⟨a, c, e⟩ := own_shape (hD.acl p hp).own; exact ⟨_, _, _, e⟩))
  have hk0 : Kept (fun _ => False) w (w.alloc (rnO P)) := (Kept.refl _ w).alloc _
  have HD := Lib.hid (hD.kept0 hk0)
  have HA := Lib.hid (show ∀ p, p = P ∨ p ∈ L → AclW (w.alloc (rnO P)) p.2 p.1.acl from fun p hp => by
    rcases hp with rfl | hp
    · exact (show AclW w p.2 p.1.acl by rw [hP]; exact ha).kept0 hk0
    · exact (hD.acl p hp).kept0 hk0)
  have HBX : Hid ((w.alloc (rnO P)).heap[w.heap.size]? = some (rnO P)) := Lib.hid (heap_alloc_new w _)
  have HLL := Lib.hid (rd_len hD)
  have hlL : L.length ≤ 1000000000 := by rw [rd_len hD]; exact hlen
  have HR := Lib.hid nd_row
  have HDw := Lib.hid hD
  have HW0 : Hid ((w.alloc (rnO P)).heap.size = w.heap.size + 1) := Lib.hid (by simp)
  rw [show n = P.1 by rw [hP], show av = P.2 by rw [hP]]
  clear hP ha hav hD hk0 hlen
  go_enter Tryz.func90, Tryz.ntmps90
  go_wp2_with fail
  generalize hw0 : w.alloc (rnO P) = w0 at HD HA HBX HW0 ⊢
  have HW := Lib.hid hw0
  clear hw0
  obtain ⟨a, cap, rfl, hcap, hnode⟩ := HD.out.node
  have HN := Lib.hid hnode
  have hmax := own_max HD.out.n
  unfold maxLen at hmax
  clear hnode
  go_loopw [4, 5, 6] (fun lv inv iv wr => LayRel w0 L P lv inv iv wr) (fun _ _ iv _ => L.length - (intOf iv).toNat)
  case atStart => exact ⟨0, Nat.zero_le _, rfl, rfl, World.ownsRow_nil _ _ _ _, Kept.refl _ _⟩
  case round =>
    obtain ⟨k, hk, rfl, rfl, hown, hkw⟩ := hrel.ex
    have HOWN := Lib.hid hown
    have HKW := Lib.hid hkw
    have HSZ : Hid (w0.heap.size ≤ wr.heap.size) := Lib.hid hkw.size
    have HLN := Lib.hid (lay_len key2 P (L.take k))
    have hlt0 : (L.take k).length ≤ 1000000000 := by rw [List.length_take]; omega
    clear hown hkw hrel
    obtain ⟨acc, inb, hacc⟩ : ∃ acc inb, layFold key2 P (L.take k) = (acc, inb) := ⟨_, _, rfl⟩
    rw [hacc] at HOWN HLN
    have HACC := Lib.hid hacc
    have haccl : acc.length ≤ 1000000001 := by have := HLN.out.1; simp only at this; omega
    rw [hacc]
    clear hacc hlt0
    by_cases hlt : k < L.length
    · obtain ⟨g, q, rfl, hg, hq, hc, hfz⟩ := HN.out k hlt
      have HC := Lib.hid hc
      have HQ := Lib.hid hq
      have i1 : (0 : Int) ≤ (k : Int) := by omega
      have i2 : (k : Int) < (L.length : Int) := by omega
      clear hc hq hfz
      have HNX : Hid (layFold key2 P (L.take (k + 1)) = layStep key2 P (acc, inb) q) := Lib.hid (by rw [take_at HQ.out, layFold_snoc, HACC.out])
      obtain ⟨b0, b1, b2, b3, b4, b5, b6, b7, b8, b9, b10, b11⟩ := nd_box HBX.out HKW.out
      obtain ⟨c0, c1, c2, cf⟩ := (HD.out.kept0 HKW.out).cells
      obtain ⟨x0, x1, x2, x3, x4, x5, x6, x7, x8, x9, x10, x11⟩ := nodeAt HC.out hg HKW.out
      obtain ⟨ls, hls⟩ : ∃ ls, Op.bytesLess q.1.path.toList P.1.path.toList = ls := ⟨_, rfl⟩
      have HLS := Lib.hid hls
      by_cases he : q.1.path = P.1.path
      · have e1 : (q.1.path.toList == P.1.path.toList) = true := by rw [he]; simp
        have e2 : (!q.1.path.toList == P.1.path.toList) = false := by rw [e1]; rfl
        have HEQ := Lib.hid he
        clear he
        cases inb with
        | true =>
          go_wp2_with fail
          go_quiet (fail)
          go_wp2_with fail
          go_quiet (fail)
          go_wp2_with fail
          clear b0 b1 b2 b3 b4 b5 b6 b7 b8 b9 b10 b11 c0 c1 c2 cf x0 x1 x2 x3 x4 x5 x6 x7 x8 x9 x10 x11
          go_roundw
          case rel =>
            refine ⟨k + 1, by omega, by go_num, ?_, ?_, HKW.out.drewN _⟩
            · rw [HNX.out, layStep_eq (key := key2) HEQ.out HLS.out]; simp
            · rw [HNX.out, layStep_eq (key := key2) HEQ.out HLS.out]
              have h9 := fun z => own_drewN HOWN.out z
              simpa using h9 _
          case measure => simp [intOf]; omega
        | false =>
          cases ls with
          | true =>
            go_wp2_with fail
            go_quiet (fail)
            go_wp2_with fail
            go_quiet (fail)
            go_wp2_with fail
            clear b0 b1 b2 b3 b4 b5 b6 b7 b8 b9 b10 b11 c0 c1 c2 cf x0 x1 x2 x3 x4 x5 x6 x7 x8 x9 x10 x11
            go_roundw
            case rel =>
              refine ⟨k + 1, by omega, by go_num, ?_, ?_, HKW.out.drewN _⟩
              · rw [HNX.out, layStep_eq (key := key2) HEQ.out HLS.out]; simp
              · rw [HNX.out, layStep_eq (key := key2) HEQ.out HLS.out]
                have h9 := fun z => own_drewN HOWN.out z
                simpa using h9 _
            case measure => simp [intOf]; omega
          | false =>
            go_wp2_with fail
            go_quiet (fail)
            go_wp2_with (at_builtin; refine wpList_row1 HR.out (by rfl) _ _ (by rfl) (by rfl) (own_drewN HOWN.out _) (ndL P) (by rfl) (by rfl) (HO.out P (.inl rfl)) (by omega) (by unfold maxLen; omega) (by simpa using HSZ.out) ?_; intro v1 w1 hown1 hg1)
            have HK1 := Lib.hid (kept_own1 (HKW.out.drewN _) (own_drewN HOWN.out _) (Nat.le_refl _) hg1)
            rw [← ndC_one1, ← ndC_app] at hown1
            have HOWN : Hid (w1.ownsRow w0.heap.size 91 12 v1 (acc ++ [P]).length (ndC (acc ++ [P]))) := Lib.hid (by rw [List.length_append]; exact hown1)
            have HSZ : Hid (w0.heap.size ≤ w1.heap.size) := Lib.hid HK1.out.size
            clear hown1 hg1
            clear b0 b1 b2 b3 b4 b5 b6 b7 b8 b9 b10 b11 c0 c1 c2 cf x0 x1 x2 x3 x4 x5 x6 x7 x8 x9 x10 x11
            obtain ⟨b0, b1, b2, b3, b4, b5, b6, b7, b8, b9, b10, b11⟩ := nd_box HBX.out HK1.out
            obtain ⟨c0, c1, c2, cf⟩ := (HD.out.kept0 HK1.out).cells
            obtain ⟨x0, x1, x2, x3, x4, x5, x6, x7, x8, x9, x10, x11⟩ := nodeAt HC.out hg HK1.out
            go_wp2_with fail
            go_quiet (fail)
            go_wp2_with fail
            clear b0 b1 b2 b3 b4 b5 b6 b7 b8 b9 b10 b11 c0 c1 c2 cf x0 x1 x2 x3 x4 x5 x6 x7 x8 x9 x10 x11
            go_roundw
            case rel =>
              refine ⟨k + 1, by omega, by go_num, ?_, ?_, HK1.out.drewN _⟩
              · rw [HNX.out, layStep_eq (key := key2) HEQ.out HLS.out]; simp
              · rw [HNX.out, layStep_eq (key := key2) HEQ.out HLS.out]
                have h9 := fun z => own_drewN HOWN.out z
                simpa using h9 _
            case measure => simp [intOf]; omega
      · have e1 : (q.1.path.toList == P.1.path.toList) = false := str_ne he
        have e2 : (!q.1.path.toList == P.1.path.toList) = true := by rw [e1]; rfl
        have HEQ := Lib.hid he
        clear he
        cases inb with
        | true =>
          go_wp2_with fail
          go_quiet (fail)
          go_wp2_with fail
          go_quiet (fail)
          go_wp2_with (at_builtin; refine wpList_row1 HR.out (by rfl) _ _ (by rfl) (by rfl) (own_drewN HOWN.out _) (ndL q) (by rfl) (by rfl) (HO.out q (.inr (List.mem_of_getElem? HQ.out))) (by omega) (by unfold maxLen; omega) (by simpa using HSZ.out) ?_; intro v2 w2 hown2 hg2)
          have HK2 := Lib.hid (kept_own1 (HKW.out.drewN _) (own_drewN HOWN.out _) (Nat.le_refl _) hg2)
          rw [← ndC_one1, ← ndC_app] at hown2
          have HOWN : Hid (w2.ownsRow w0.heap.size 91 12 v2 (acc ++ [q]).length (ndC (acc ++ [q]))) := Lib.hid (by rw [List.length_append]; exact hown2)
          clear hown2 hg2
          clear b0 b1 b2 b3 b4 b5 b6 b7 b8 b9 b10 b11 c0 c1 c2 cf x0 x1 x2 x3 x4 x5 x6 x7 x8 x9 x10 x11
          go_roundw
          case rel =>
            refine ⟨k + 1, by omega, by go_num, ?_, ?_, HK2.out⟩
            · rw [HNX.out, layStep_ne (key := key2) HEQ.out HLS.out]; simp
            · rw [HNX.out, layStep_ne (key := key2) HEQ.out HLS.out]
              have h9 := HOWN.out
              simpa using h9
          case measure => simp [intOf]; omega
        | false =>
          cases ls with
          | true =>
            go_wp2_with fail
            go_quiet (fail)
            go_wp2_with fail
            go_quiet (fail)
            go_wp2_with (at_builtin; refine wpList_row1 HR.out (by rfl) _ _ (by rfl) (by rfl) (own_drewN HOWN.out _) (ndL q) (by rfl) (by rfl) (HO.out q (.inr (List.mem_of_getElem? HQ.out))) (by omega) (by unfold maxLen; omega) (by simpa using HSZ.out) ?_; intro v2 w2 hown2 hg2)
            have HK2 := Lib.hid (kept_own1 (HKW.out.drewN _) (own_drewN HOWN.out _) (Nat.le_refl _) hg2)
            rw [← ndC_one1, ← ndC_app] at hown2
            have HOWN : Hid (w2.ownsRow w0.heap.size 91 12 v2 (acc ++ [q]).length (ndC (acc ++ [q]))) := Lib.hid (by rw [List.length_append]; exact hown2)
            clear hown2 hg2
            clear b0 b1 b2 b3 b4 b5 b6 b7 b8 b9 b10 b11 c0 c1 c2 cf x0 x1 x2 x3 x4 x5 x6 x7 x8 x9 x10 x11
            go_roundw
            case rel =>
              refine ⟨k + 1, by omega, by go_num, ?_, ?_, HK2.out⟩
              · rw [HNX.out, layStep_ne (key := key2) HEQ.out HLS.out]; simp
              · rw [HNX.out, layStep_ne (key := key2) HEQ.out HLS.out]
                have h9 := HOWN.out
                simpa using h9
            case measure => simp [intOf]; omega
          | false =>
            go_wp2_with fail
            go_quiet (fail)
            go_wp2_with (at_builtin; refine wpList_row1 HR.out (by rfl) _ _ (by rfl) (by rfl) (own_drewN HOWN.out _) (ndL P) (by rfl) (by rfl) (HO.out P (.inl rfl)) (by omega) (by unfold maxLen; omega) (by simpa using HSZ.out) ?_; intro v1 w1 hown1 hg1)
            have HK1 := Lib.hid (kept_own1 (HKW.out.drewN _) (own_drewN HOWN.out _) (Nat.le_refl _) hg1)
            rw [← ndC_one1, ← ndC_app] at hown1
            have HOWN : Hid (w1.ownsRow w0.heap.size 91 12 v1 (acc ++ [P]).length (ndC (acc ++ [P]))) := Lib.hid (by rw [List.length_append]; exact hown1)
            have HSZ : Hid (w0.heap.size ≤ w1.heap.size) := Lib.hid HK1.out.size
            clear hown1 hg1
            clear b0 b1 b2 b3 b4 b5 b6 b7 b8 b9 b10 b11 c0 c1 c2 cf x0 x1 x2 x3 x4 x5 x6 x7 x8 x9 x10 x11
            obtain ⟨b0, b1, b2, b3, b4, b5, b6, b7, b8, b9, b10, b11⟩ := nd_box HBX.out HK1.out
            obtain ⟨c0, c1, c2, cf⟩ := (HD.out.kept0 HK1.out).cells
            obtain ⟨x0, x1, x2, x3, x4, x5, x6, x7, x8, x9, x10, x11⟩ := nodeAt HC.out hg HK1.out
            go_wp2_with fail
            go_quiet (fail)
            have hla : (acc ++ [P]).length ≤ 1000000002 := by simp; try omega
            go_wp2_with (at_builtin; refine wpList_row1 HR.out (by rfl) _ _ (by rfl) (by rfl) (own_drewN HOWN.out _) (ndL q) (by rfl) (by rfl) (HO.out q (.inr (List.mem_of_getElem? HQ.out))) (by omega) (by unfold maxLen; omega) (by simpa using HSZ.out) ?_; intro v2 w2 hown2 hg2)
            have HK2 := Lib.hid (kept_own1 (HK1.out.drewN _) (own_drewN HOWN.out _) (Nat.le_refl _) hg2)
            rw [← ndC_one1, ← ndC_app] at hown2
            have HOWN : Hid (w2.ownsRow w0.heap.size 91 12 v2 ((acc ++ [P]) ++ [q]).length (ndC ((acc ++ [P]) ++ [q]))) := Lib.hid (by rw [List.length_append]; exact hown2)
            clear hown2 hg2
            clear b0 b1 b2 b3 b4 b5 b6 b7 b8 b9 b10 b11 c0 c1 c2 cf x0 x1 x2 x3 x4 x5 x6 x7 x8 x9 x10 x11
            go_roundw
            case rel =>
              refine ⟨k + 1, by omega, by go_num, ?_, ?_, HK2.out⟩
              · rw [HNX.out, layStep_ne (key := key2) HEQ.out HLS.out]; simp
              · rw [HNX.out, layStep_ne (key := key2) HEQ.out HLS.out]
                have h9 := HOWN.out
                simpa using h9
            case measure => simp [intOf]; omega
    · have hkL : L.take k = L := List.take_of_length_le (by omega)
      rw [hkL] at HACC
      have HDr := Lib.hid (HD.out.kept0 HKW.out)
      obtain ⟨c0, c1, c2, cf⟩ := HDr.out.cells
      obtain ⟨b0, b1, b2, b3, b4, b5, b6, b7, b8, b9, b10, b11⟩ := nd_box HBX.out HKW.out
      have HM := Lib.hid (layF_mem key2 P L)
      clear hkL
      have HKB : Hid (Kept (fun _ => False) w w0) := Lib.hid (HW.out ▸ (Kept.refl _ w).alloc _)
      have HWB : Hid (w.heap.size ≤ w0.heap.size) := Lib.hid (by rw [HW0.out]; omega)
      cases inb with
      | true =>
        obtain ⟨aa, ac, rfl⟩ := own_shape HOWN.out
        have HF : Hid (layF key2 P L = acc) := Lib.hid (by unfold layF; rw [HACC.out, if_pos rfl])
        go_wp2_with fail
        go_end0
        have hm := HM.out
        rw [HF.out] at hm
        have hs := HDr.out.setNodes HOWN.out (fun p hp => (HA.out p (hm p hp)).kept0 HKW.out)
        rw [HE.out, HF.out]
        exact ⟨rfl, ⟨_, _, _, hs.1⟩, lay_stepR HDw.out (HKB.out.trans HKW.out) HWB.out (hs.2 HKW.out.size (fun k e => (own_lo HOWN.out e).1))⟩
      | false =>
        have HF : Hid (layF key2 P L = acc ++ [P]) := Lib.hid (by unfold layF; rw [HACC.out, if_neg (by simp)])
        go_wp2_with (at_builtin; go_loud (refine wpList_row1 HR.out (by rfl) _ _ (by rfl) (by rfl) HOWN.out (ndL P) (by rfl) (by rfl) (HO.out P (.inl rfl)) (by show (acc.length + 1) * 128 ≤ _; omega) (by show acc.length + 1 ≤ _; unfold maxLen; omega) HSZ.out ?_); intro v1 w1 hown1 hg1; have HK1 := Lib.hid (kept_own1 HKW.out HOWN.out (Nat.le_refl _) hg1); clear b0 b1 b2 b3 b4 b5 b6 b7 b8 b9 b10 b11 c0 c1 c2 cf; obtain ⟨c0, c1, c2, cf⟩ := (HD.out.kept0 HK1.out).cells; obtain ⟨aa, ac, rfl⟩ := own_shape hown1; have HOWN1 := Lib.hid hown1; clear hown1 hg1)
        go_end0
        have hm := HM.out
        rw [HF.out] at hm
        have hown := HOWN1.out
        rw [← ndC_one1, ← ndC_app] at hown
        have hown2 : w1.ownsRow w0.heap.size 91 12 (.slice aa (acc.length + 1) ac) (acc ++ [P]).length (ndC (acc ++ [P])) := by rw [List.length_append]; exact hown
        have hs := (HD.out.kept0 HK1.out).setNodes hown2 (fun p hp => (HA.out p (hm p hp)).kept0 HK1.out)
        rw [HE.out, HF.out]
        exact ⟨rfl, ⟨_, _, _, hs.1⟩, lay_stepR HDw.out (HKB.out.trans HK1.out) HWB.out (hs.2 HK1.out.size (fun k e => (own_lo hown2 e).1))⟩
end Go.Proofs.YtenbdoceaabecaaGreat
