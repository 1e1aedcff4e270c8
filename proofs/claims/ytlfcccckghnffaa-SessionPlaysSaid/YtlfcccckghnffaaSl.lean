/- The document's tracker: Open. -/
import Derived.Test.YtlfcccckghnffaaSj
namespace Go.Proofs.Ytlfcccckghnffaa
open Go.ChangeShapes Go.WideShapes Go.ChangeAt Go.RowKit Go.Maps
set_option linter.unusedVariables false
set_option linter.unusedSimpArgs false
theorem put_lo {P R : SL} {s : Se} (h : ∀ y ∈ P, y.id < s.id) : putL (P ++ R) s = P ++ putL R s := by
  induction P with
  | nil => rfl
  | cons x r ih =>
    have h1 := h x (List.mem_cons_self ..)
    rw [List.cons_append, List.cons_append]
    conv => lhs; unfold putL
    rw [if_pos h1, ih (fun y hy => h y (List.mem_cons_of_mem _ hy))]
theorem put_hi {P R : SL} {s : Se} (h : ∃ y ∈ P, s.id ≤ y.id) : putL (P ++ R) s = putL P s ++ R := by
  induction P with
  | nil => obtain ⟨y, hy, _⟩ := h; cases hy
  | cons x r ih =>
    rw [List.cons_append]
    unfold putL
    by_cases h1 : x.id < s.id
    · rw [if_pos h1, if_pos h1, List.cons_append, ih ?_]
      obtain ⟨y, hy, hys⟩ := h
      rcases List.mem_cons.1 hy with rfl | hy
      · omega
      · exact ⟨y, hy, hys⟩
    · rw [if_neg h1, if_neg h1]
      by_cases h2 : x.id = s.id
      · rw [if_pos h2, if_pos h2]; rfl
      · rw [if_neg h2, if_neg h2]; rfl
/-- what is built, behind k sessions -/
inductive Bld (L : SL) (s : Se) (k : Nat) : Bool → SL → Prop
  | lo : (∀ y ∈ L.take k, y.id < s.id) → Bld L s k false (L.take k)
  | hi : (∃ y ∈ L.take k, s.id ≤ y.id) → Bld L s k true (putL (L.take k) s)
theorem bld_zero (L : SL) (s : Se) : Bld L s 0 false [] := by
  have := Bld.lo (L := L) (s := s) (k := 0) (fun y hy => by simp at hy)
  simpa using this
section
variable {L : SL} {s : Se} {k : Nat}
theorem bld_len {p : Bool} {M : SL} (h : Bld L s k p M) (hL : Rising L) : M.length ≤ k + 1 := by
  cases h with
  | lo h => rw [List.length_take]; omega
  | hi h =>
    have := length_put_le (L := L.take k) (List.Pairwise.sublist (List.take_sublist _ _) hL) s
    rw [List.length_take] at this; omega
theorem bld_lo (hk : k < L.length) {M : SL} (h : Bld L s k false M) (hx : L[k].id < s.id) : Bld L s (k + 1) false (M ++ [L[k]]) := by
  cases h with
  | lo h =>
    rw [← List.take_succ_eq_append_getElem hk]
    refine .lo fun y hy => ?_
    rw [List.take_succ_eq_append_getElem hk, List.mem_append, List.mem_singleton] at hy
    rcases hy with hy | rfl
    · exact h y hy
    · exact hx
theorem bld_eq (hk : k < L.length) {M : SL} (h : Bld L s k false M) (hx : L[k].id = s.id) : Bld L s (k + 1) true (M ++ [s]) := by
  cases h with
  | lo h =>
    have : L.take k ++ [s] = putL (L.take (k + 1)) s := by
      rw [List.take_succ_eq_append_getElem hk, put_lo h]
      unfold putL
      rw [if_neg (by omega), if_pos hx]
    rw [this]
    exact .hi ⟨L[k], by rw [List.take_succ_eq_append_getElem hk]; exact List.mem_append_right _ (List.mem_singleton.2 rfl), by omega⟩
theorem bld_gt (hk : k < L.length) {M : SL} (h : Bld L s k false M) (hx : s.id < L[k].id) : Bld L s (k + 1) true (M ++ [s] ++ [L[k]]) := by
  cases h with
  | lo h =>
    have : L.take k ++ [s] ++ [L[k]] = putL (L.take (k + 1)) s := by
      rw [List.take_succ_eq_append_getElem hk, put_lo h]
      unfold putL
      rw [if_neg (by omega), if_neg (by omega)]; simp
    rw [this]
    exact .hi ⟨L[k], by rw [List.take_succ_eq_append_getElem hk]; exact List.mem_append_right _ (List.mem_singleton.2 rfl), by omega⟩
theorem bld_hi (hL : Rising L) (hk : k < L.length) {M : SL} (h : Bld L s k true M) : L[k].id ≠ s.id ∧ Bld L s (k + 1) true (M ++ [L[k]]) := by
  cases h with
  | hi h =>
    obtain ⟨y, hy, hys⟩ := h
    have hp := List.pairwise_append.1 (show List.Pairwise (fun a b : Se => a.id < b.id) (L.take k ++ L[k] :: L.drop (k + 1)) by rw [← List.drop_eq_getElem_cons hk, List.take_append_drop]; exact hL)
    have := hp.2.2 y hy L[k] (List.mem_cons_self ..)
    refine ⟨by omega, ?_⟩
    rw [← put_hi ⟨y, hy, hys⟩, ← List.take_succ_eq_append_getElem hk]
    exact .hi ⟨y, by rw [List.take_succ_eq_append_getElem hk]; exact List.mem_append_left _ hy, hys⟩
theorem bld_end_lo (hk : L.length ≤ k) {M : SL} (h : Bld L s k false M) : M ++ [s] = putL L s := by
  cases h with
  | lo h =>
    rw [List.take_of_length_le hk] at h ⊢
    have := put_lo (R := []) h
    rw [List.append_nil] at this
    rw [this]; rfl
theorem bld_end_hi (hk : L.length ≤ k) {M : SL} (h : Bld L s k true M) : M = putL L s := by
  cases h with
  | hi h => rw [List.take_of_length_le hk]
end
structure OpRel (w : World) (L : SL) (s : Se) (ov pv iv : Value) (wr : World) : Prop where
  ex : ∃ (k : Nat) (p : Bool) (M : SL), iv = .int .i64 k ∧ k ≤ L.length ∧ pv = .bool p ∧ Bld L s k p M ∧ SRow (w.heap.size + 1) wr ov M ∧ Kept (fun _ => False) w wr ∧ wr.heap[w.heap.size]? = some (.cells #[.int .i64 s.id, .int .i64 s.to, .int .i64 s.dl] 57 (0, 0))
theorem three_cells {w : World} {b : Nat} {x y z : Value} {T : TypeId} (h : w.heap[b]? = some (.cells #[x, y, z] T (0, 0))) : w.cell? ⟨b, 0, none⟩ = some x ∧ w.cell? ⟨b, 1, none⟩ = some y ∧ w.cell? ⟨b, 2, none⟩ = some z := by
  refine ⟨?_, ?_, ?_⟩ <;> simp [World.cell?, h]
theorem srow_snoc {B : Nat} {w : World} {v : Value} {M : SL} {x : Se} (h : w.ownsRow B 57 3 v (M.length + 1) (seC M ++ x.cells)) : SRow B w v (M ++ [x]) := by
  unfold SRow
  rw [seC_append, List.length_append]
  simpa [seC] using h
theorem blk_own {w w2 : World} {ob o : Obj} {b B n size : Nat} {e : TypeId} {v : Value} {xs : List Value} (h : w.heap[b]? = some o) (hv : w.ownsRow B e size v n xs) (hB : b < B) (hg : (w.alloc ob).grownBy w2 v.ownBlock) : w2.heap[b]? = some o := by
  have hl := lt_of_block h
  rw [hg.block b (by simp; omega) (fun e => by have := (own_lo hv e.symm).1; omega), Below.heap_alloc _ _ _ hl]; exact h
section
variable {w w' : World} {t B : Nat} {v : Value} {L : SL}
set_option maxRecDepth 100000 in
set_option maxHeartbeats 4000000 in
theorem ropen_any (h : RD w t v B L) (i to now : Int) :
    Calls Try.prog 23 #[.pointer (some ⟨t, 0, none⟩), .int .i64 i, .int .i64 to, .int .i64 now] w (RSPost w t v (openL L i to now) (openE L i to now)) := by
  have HP := Lib.hid (place_any h i)
  have HH := Lib.hid h
  have hl := h.ok.few
  have HM := Lib.hid (RMoved.same h (Kept.refl _ w))
  cases ho : okOpen i to now with
  | false =>
    have HE : Hid (openE L i to now = 1 ∧ openL L i to now = L) := Lib.hid (by unfold openE openL; simp [ho])
    rw [HE.out.1, HE.out.2]
    have hcs : i < 1 ∨ (1 ≤ i ∧ to < 4) ∨ (1 ≤ i ∧ 4 ≤ to ∧ 60 < to) ∨ (1 ≤ i ∧ 4 ≤ to ∧ to ≤ 60 ∧ now < 0) ∨ (1 ≤ i ∧ 4 ≤ to ∧ to ≤ 60 ∧ 0 ≤ now ∧ 1099511627776 < now) := by
      simp [okOpen] at ho; omega
    clear h ho
    rcases hcs with h1 | ⟨h1, h2⟩ | ⟨h1, h2, h3⟩ | ⟨h1, h2, h3, h4⟩ | ⟨h1, h2, h3, h4, h5⟩
    · go_enter Try.func23, Try.ntmps23
      go_wp2
      go_ret
      exact ⟨rfl, HM.out⟩
    · have b1 : decide (i < 1) = false := by simp; omega
      go_enter Try.func23, Try.ntmps23
      go_wp2
      go_ret
      exact ⟨rfl, HM.out⟩
    · have b1 : decide (i < 1) = false := by simp; omega
      have b2 : decide (to < 4) = false := by simp; omega
      go_enter Try.func23, Try.ntmps23
      go_wp2
      go_ret
      exact ⟨rfl, HM.out⟩
    · have b1 : decide (i < 1) = false := by simp; omega
      have b2 : decide (to < 4) = false := by simp; omega
      have b3 : decide (60 < to) = false := by simp; omega
      have b3' : decide (to > 60) = false := by simp; omega
      go_enter Try.func23, Try.ntmps23
      go_wp2
      go_ret
      exact ⟨rfl, HM.out⟩
    · have b1 : decide (i < 1) = false := by simp; omega
      have b2 : decide (to < 4) = false := by simp; omega
      have b3 : decide (60 < to) = false := by simp; omega
      have b3' : decide (to > 60) = false := by simp; omega
      have b4 : decide (now < 0) = false := by simp; omega
      go_enter Try.func23, Try.ntmps23
      go_wp2
      go_ret
      exact ⟨rfl, HM.out⟩
  | true =>
    have ho' : 1 ≤ i ∧ 4 ≤ to ∧ to ≤ 60 ∧ 0 ≤ now ∧ now ≤ 1099511627776 := by simpa [okOpen] using ho
    obtain ⟨i1, t0, t1, n0, n1⟩ := ho'
    have b1 : decide (i < 1) = false := by simp; omega
    have b2 : decide (to < 4) = false := by simp; omega
    have b3 : decide (60 < to) = false := by simp; omega
    have b3' : decide (to > 60) = false := by simp; omega
    have b4 : decide (now < 0) = false := by simp; omega
    have b5 : decide (1099511627776 < now) = false := by simp; omega
    have b5' : decide (now > 1099511627776) = false := by simp; omega
    obtain ⟨a0, cp0, hv⟩ := own_shape h.row
    subst hv
    obtain ⟨c0, f0⟩ := h.two
    obtain ⟨p, hp⟩ : ∃ p, placeL L i = p := ⟨_, rfl⟩
    rw [hp] at HP
    by_cases hfull : (getL L i).isSome = false ∧ 16 ≤ L.length
    · have HE : Hid (openE L i to now = 91 ∧ openL L i to now = L) := Lib.hid (by unfold openE openL; rw [if_pos ho, if_pos ho, if_pos hfull, if_pos hfull]; exact ⟨rfl, rfl⟩)
      rw [HE.out.1, HE.out.2]
      have hp1 : p = -1 := by
        rcases find_idx (L := L) (i := i) with ⟨h1, h2⟩ | ⟨k, hk, h3, _⟩
        · omega
        · rw [h3] at hfull; cases hfull.1
      subst hp1
      have h16 := hfull.2
      clear h ho hfull hp
      go_enter Try.func23, Try.ntmps23
      go_wp2_with (first | (go_at_call 24; refine HP.out.mono ?_; rintro e w' ⟨rfl, rfl⟩) | go_in)
      go_ret
      exact ⟨rfl, HM.out⟩
    · have hnf : ¬ ((getL L i).isSome = false ∧ 16 ≤ L.length) := hfull
      obtain ⟨z, hz⟩ : ∃ z, endsI now to = z := ⟨_, rfl⟩
      have HE : Hid (openE L i to now = 0 ∧ openL L i to now = putL L ⟨i, to, z⟩) := Lib.hid (by unfold openE openL; rw [if_pos ho, if_pos ho, if_neg hnf, if_neg hnf, hz]; exact ⟨rfl, rfl⟩)
      have hok : SlOk (openL L i to now) := h.ok.open' i to now
      rw [HE.out.2] at hok
      rw [HE.out.1, HE.out.2]
      have HOK := Lib.hid hok
      have hcase : (p = -1 ∧ L.length < 16) ∨ 0 ≤ p := by
        rcases find_idx (L := L) (i := i) with ⟨h1, h2⟩ | ⟨k, hk, h3, h4, _⟩
        · left
          refine ⟨by omega, Nat.lt_of_not_le fun h16 => hnf ⟨by rw [h1]; rfl, h16⟩⟩
        · right; omega
      have HEN := Lib.hid (fun W => ends_any now to W n0 n1 t0 t1)
      rw [hz] at HEN
      have HUP := Lib.hid h.ok.up
      have HT : Hid (∀ W, Kept (fun _ => False) w W → W.cell? ⟨t, 0, none⟩ = some (.slice a0 L.length cp0) ∧ W.frozen? ⟨t, 0, none⟩ = false) := Lib.hid (fun W hK => (HH.out.kept0 hK).two)
      clear h ho hfull hp hnf hok hz HE HM
      rcases hcase with ⟨rfl, h16⟩ | hp0
      all_goals
        first
        | (have hpb : decide (p < 0) = false := by simpa using hp0)
        | skip
        go_enter Try.func23, Try.ntmps23
        go_wp2_with (first
          | (go_at_call 24; refine HP.out.mono ?_; rintro e w' ⟨rfl, rfl⟩)
          | (go_at_call 32; refine (HEN.out _).mono ?_; rintro e w' ⟨rfl, rfl⟩)
          | go_in)
        go_loopw [11, 12, 13] (fun ov pv iv wr => OpRel w L ⟨i, to, z⟩ ov pv iv wr) (fun _ _ iv _ => L.length - (Go.RowKit.intOf iv).toNat)
        case atStart => exact ⟨0, false, [], rfl, Nat.zero_le _, rfl, bld_zero _ _, World.ownsRow_nil _ _ _ _, (Kept.refl _ w).alloc _, heap_alloc_new w _⟩
        case round =>
          obtain ⟨k, pb, M, rfl, hk, rfl, hbld, hr, hkp, hsb⟩ := hrel.ex
          clear hrel c0 f0
          have HLE := Lib.hid (bld_len hbld HUP.out)
          have HR := Lib.hid hr
          have HK := Lib.hid hkp
          have HS := Lib.hid hsb
          have hsz := lt_of_block hsb
          obtain ⟨s0, s1, s2⟩ := three_cells hsb
          obtain ⟨c0, f0⟩ := HT.out _ hkp
          obtain ⟨va, vc, rfl⟩ := own_shape hr
          by_cases hlt : k < L.length
          · obtain ⟨g, cap, e, hgB, hgl, _⟩ := HH.out.at3 hlt
            injection e with e1 e2 e3
            subst e1; subst e3
            have HX3 : Hid (∀ W, Kept (fun _ => False) w W → W.cell? ⟨g, k * 3, none⟩ = some (.int .i64 L[k].id) ∧ W.cell? ⟨g, k * 3 + 1, none⟩ = some (.int .i64 L[k].to) ∧ W.cell? ⟨g, k * 3 + 2, none⟩ = some (.int .i64 L[k].dl)) := Lib.hid (fun W hK => by
              obtain ⟨g', cap', e', _, _, x1, x2, x3, _⟩ := (HH.out.kept0 hK).at3 hlt
              injection e' with e1 e2 e3
              cases e1
              rw [Nat.zero_add] at x1 x2 x3
              exact ⟨x1, x2, x3⟩)
            obtain ⟨X, hX⟩ : ∃ X, L[k] = X := ⟨_, rfl⟩
            rw [hX] at HX3
            have HB := Lib.hid hbld
            obtain ⟨x1, x2, x3⟩ := HX3.out _ hkp
            obtain ⟨x, xt, xd⟩ := X
            simp only at x1 x2 x3 HX3
            have HXX := Lib.hid hX
            clear e2 hr hkp hsb hX hbld
            cases pb with
            | true =>
              have hne : (x != i) = true := by
                have := (bld_hi HUP.out hlt HB.out).1
                rw [HXX.out] at this
                simpa using this
              go_wp2_with (first
                | (at_builtin; refine wpList_row1 rowSe rfl _ _ rfl rfl HR.out [.int .i64 x, .int .i64 xt, .int .i64 xd] rfl rfl (by simp [Value.oneCell']) (by have := HLE.out; omega) (by have := HLE.out; unfold maxLen; omega) (by omega) (fun v2 w2 hv2 hg2 => ?_); have HV2 := Lib.hid hv2; have HG2 := Lib.hid hg2; clear hv2 hg2)
                | go_in)
              have hb9 := (bld_hi HUP.out hlt HB.out).2
              rw [HXX.out] at hb9
              go_roundw
              case rel => exact ⟨k + 1, true, M ++ [⟨x, xt, xd⟩], by go_num, by omega, rfl, hb9, srow_snoc (x := ⟨x, xt, xd⟩) HV2.out, kept_own1 HK.out HR.out (Nat.le_succ _) HG2.out, blk_own HS.out HR.out (Nat.lt_succ_self _) HG2.out⟩
              case measure => simp [Go.RowKit.intOf]; omega
            | false =>
              rcases Int.lt_trichotomy x i with hxi | hxi | hxi
              · have hge : decide (x ≥ i) = false := by simp; omega
                have hge' : decide (i ≤ x) = false := by simp; omega
                have hne : (x != i) = true := by simp; omega
                go_wp2_with (first
                  | (at_builtin; refine wpList_row1 rowSe rfl _ _ rfl rfl HR.out [.int .i64 x, .int .i64 xt, .int .i64 xd] rfl rfl (by simp [Value.oneCell']) (by have := HLE.out; omega) (by have := HLE.out; unfold maxLen; omega) (by omega) (fun v2 w2 hv2 hg2 => ?_); have HV2 := Lib.hid hv2; have HG2 := Lib.hid hg2; clear hv2 hg2)
                  | go_in)
                have hb9 := bld_lo hlt HB.out (by rw [HXX.out]; exact hxi)
                rw [HXX.out] at hb9
                go_roundw
                case rel => exact ⟨k + 1, false, M ++ [⟨x, xt, xd⟩], by go_num, by omega, rfl, hb9, srow_snoc (x := ⟨x, xt, xd⟩) HV2.out, kept_own1 HK.out HR.out (Nat.le_succ _) HG2.out, blk_own HS.out HR.out (Nat.lt_succ_self _) HG2.out⟩
                case measure => simp [Go.RowKit.intOf]; omega
              · subst hxi
                go_wp2_with (first
                  | (at_builtin; refine wpList_row1 rowSe rfl _ _ rfl rfl HR.out [.int .i64 x, .int .i64 to, .int .i64 z] rfl rfl (by simp [Value.oneCell']) (by have := HLE.out; omega) (by have := HLE.out; unfold maxLen; omega) (by omega) (fun v2 w2 hv2 hg2 => ?_); have HV2 := Lib.hid hv2; have HG2 := Lib.hid hg2; clear hv2 hg2; obtain ⟨c0, f0⟩ := HT.out w2 (kept_own1 HK.out HR.out (Nat.le_succ _) HG2.out); obtain ⟨x1, x2, x3⟩ := HX3.out w2 (kept_own1 HK.out HR.out (Nat.le_succ _) HG2.out))
                  | go_in)
                have hb9 := bld_eq hlt HB.out (by rw [HXX.out])
                go_roundw
                case rel => exact ⟨k + 1, true, M ++ [⟨x, to, z⟩], by go_num, by omega, rfl, hb9, srow_snoc (x := ⟨x, to, z⟩) HV2.out, kept_own1 HK.out HR.out (Nat.le_succ _) HG2.out, blk_own HS.out HR.out (Nat.lt_succ_self _) HG2.out⟩
                case measure => simp [Go.RowKit.intOf]; omega
              · have hge : decide (x ≥ i) = true := by simp; omega
                have hge' : decide (i ≤ x) = true := by simp; omega
                have hne : (x != i) = true := by simp; omega
                go_wp2_with (first
                  | (at_builtin; refine wpList_row1 rowSe rfl _ _ rfl rfl HR.out [.int .i64 i, .int .i64 to, .int .i64 z] rfl rfl (by simp [Value.oneCell']) (by have := HLE.out; omega) (by have := HLE.out; unfold maxLen; omega) (by omega) (fun v2 w2 hv2 hg2 => ?_); have HV2 := Lib.hid hv2; have HG2 := Lib.hid hg2; clear hv2 hg2; have HV2' := Lib.hid (srow_snoc (x := ⟨i, to, z⟩) HV2.out); obtain ⟨c0, f0⟩ := HT.out w2 (kept_own1 HK.out HR.out (Nat.le_succ _) HG2.out); obtain ⟨x1, x2, x3⟩ := HX3.out w2 (kept_own1 HK.out HR.out (Nat.le_succ _) HG2.out); have hsz2 := HG2.out.size; simp only [World.size_alloc] at hsz2; obtain ⟨va2, vc2, rfl⟩ := own_shape HV2.out)
                  | (at_builtin; refine wpList_row1 rowSe rfl _ _ rfl rfl HV2'.out [.int .i64 x, .int .i64 xt, .int .i64 xd] rfl rfl (by simp [Value.oneCell']) (by have := HLE.out; simp only [List.length_append, List.length_singleton]; omega) (by have := HLE.out; simp only [List.length_append, List.length_singleton]; unfold maxLen; omega) (by omega) (fun v3 w3 hv2 hg2 => ?_); have HV3 := Lib.hid hv2; have HG3 := Lib.hid hg2; clear hv2 hg2)
                  | go_in)
                have hb9 := bld_gt hlt HB.out (by rw [HXX.out]; exact hxi)
                rw [HXX.out] at hb9
                go_roundw
                case rel => exact ⟨k + 1, true, M ++ [⟨i, to, z⟩] ++ [⟨x, xt, xd⟩], by go_num, by omega, rfl, hb9, srow_snoc (x := ⟨x, xt, xd⟩) HV3.out, kept_own1 (kept_own1 HK.out HR.out (Nat.le_succ _) HG2.out) HV2'.out (Nat.le_succ _) HG3.out, blk_own (blk_own HS.out HR.out (Nat.lt_succ_self _) HG2.out) HV2'.out (Nat.lt_succ_self _) HG3.out⟩
                case measure => simp [Go.RowKit.intOf]; omega
          · have hkn : L.length ≤ k := by omega
            have HB := Lib.hid hbld
            clear hr hkp hsb hbld
            cases pb with
            | true =>
              go_wp2_with fail
              go_ret
              have h9 := HR.out
              have e9 := bld_end_hi hkn HB.out
              exact ⟨rfl, by rw [← e9]; exact HH.out.store HK.out h9 (Nat.le_succ _) (by rw [e9]; exact HOK.out)⟩
            | false =>
              go_wp2_with (first
                | (at_builtin; refine wpList_row1 rowSe rfl _ _ rfl rfl HR.out [.int .i64 i, .int .i64 to, .int .i64 z] rfl rfl (by simp [Value.oneCell']) (by have := HLE.out; omega) (by have := HLE.out; unfold maxLen; omega) (by omega) (fun v2 w2 hv2 hg2 => ?_); have HV2 := Lib.hid hv2; have HG2 := Lib.hid hg2; clear hv2 hg2; obtain ⟨c0, f0⟩ := HT.out w2 (kept_own1 HK.out HR.out (Nat.le_succ _) HG2.out); obtain ⟨va2, vc2, rfl⟩ := own_shape HV2.out)
                | go_in)
              go_ret
              have e9 := bld_end_lo hkn HB.out
              exact ⟨rfl, by rw [← e9]; exact HH.out.store (kept_own1 HK.out HR.out (Nat.le_succ _) HG2.out) (srow_snoc (x := ⟨i, to, z⟩) HV2.out) (Nat.le_succ _) (by rw [e9]; exact HOK.out)⟩
end
end Go.Proofs.Ytlfcccckghnffaa
