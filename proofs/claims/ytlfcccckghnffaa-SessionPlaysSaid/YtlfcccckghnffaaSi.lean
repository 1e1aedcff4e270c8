/- The document's tracker: Expired, All, Touch, Close. -/
import Derived.Test.YtlfcccckghnffaaSh
import Derived.Test.YtlfcccckghnffaaSc
import Derived.Deep.RegionHeld3
import Derived.Deep.RegionWith
namespace Go.Proofs.Ytlfcccckghnffaa
open Go.ChangeShapes Go.WideShapes Go.ChangeAt Go.RowKit Go.Maps
set_option linter.unusedVariables false
set_option linter.unusedSimpArgs false
theorem exp_snoc (L : SL) (k : Nat) (hk : k < L.length) (now : Int) : expL (L.take (k + 1)) now = expL (L.take k) now ++ (if L[k].dl ≤ now then [L[k].id] else []) := by
  unfold expL
  rw [List.take_succ_eq_append_getElem hk, List.filter_append, List.map_append]
  congr 1
  by_cases h : L[k].dl ≤ now <;> simp [h]
theorem all_snoc (L : SL) (k : Nat) (hk : k < L.length) : allL (L.take (k + 1)) = allL (L.take k) ++ [L[k].id] := by
  unfold allL
  rw [List.take_succ_eq_append_getElem hk, List.map_append]; rfl
theorem exp_len (L : SL) (k : Nat) (now : Int) : (expL (L.take k) now).length ≤ k := by
  unfold expL
  rw [List.length_map]
  exact Nat.le_trans (List.length_filter_le _ _) (by simp; omega)
structure ReRel (w : World) (l : Nat → List Int) (n : Nat) (v iv : Value) (wr : World) : Prop where
  ex : ∃ k : Nat, iv = .int .i64 k ∧ k ≤ n ∧ ZRow w.heap.size wr v (l k) ∧ Kept (fun _ => False) w wr
section
variable {w w' : World} {t B : Nat} {v : Value} {L : SL}
set_option maxHeartbeats 1000000 in
theorem rexp_any (h : RD w t v B L) (now : Int) :
    Calls Try.prog 16 #[.pointer (some ⟨t, 0, none⟩), .int .i64 now] w (RowPost w (expL L now)) := by
  obtain ⟨a0, cp0, hv⟩ := own_shape h.row
  subst hv
  have HH := Lib.hid h
  have hl := h.ok.few
  obtain ⟨c0, f0⟩ := h.two
  clear h
  go_enter Try.func16, Try.ntmps16
  go_wp2_with fail
  go_loopw [5, 6] (fun v5 iv wr => ReRel w (fun k => expL (L.take k) now) L.length v5 iv wr) (fun _ iv _ => L.length - (Go.RowKit.intOf iv).toNat)
  case atStart => exact ⟨0, rfl, Nat.zero_le _, World.ownsRow_nil _ _ _ _, Kept.refl _ _⟩
  case round =>
    obtain ⟨k, rfl, hk, hr, hkp⟩ := hrel.ex
    clear hrel c0 f0
    have HR := Lib.hid hr
    have HK := Lib.hid hkp
    have hsz := hkp.size
    obtain ⟨c0, f0⟩ := (HH.out.kept0 hkp).two
    by_cases hlt : k < L.length
    · obtain ⟨g, cap, e, _, _, c1, _, c3, _⟩ := (HH.out.kept0 hkp).at3 hlt
      injection e with e1 e2 e3
      subst e1; subst e3
      have hs := exp_snoc L k hlt now
      obtain ⟨x, hx⟩ : ∃ x, L[k].id = x := ⟨_, rfl⟩
      obtain ⟨y, hy⟩ : ∃ y, L[k].dl = y := ⟨_, rfl⟩
      rw [hx, hy] at hs
      rw [hx] at c1
      rw [hy] at c3
      rw [Nat.zero_add] at c1 c3
      have HLE := Lib.hid (exp_len L k now)
      have HS := Lib.hid hs
      clear hs hx hy e2 hr hkp
      by_cases hd : y ≤ now
      · go_wp2_with (first
          | (at_builtin; refine wpList_row1 rowInt rfl _ _ rfl rfl HR.out [.int .i64 x] rfl rfl (by simp [Value.oneCell']) (by have := HLE.out; omega) (by have := HLE.out; unfold maxLen; omega) (by omega) (fun v2 w2 hv2 hg2 => ?_); have HV2 := Lib.hid hv2; have HG2 := Lib.hid hg2; clear hv2 hg2)
          | go_in)
        go_roundw
        case rel =>
          refine ⟨k + 1, by go_num, by omega, ?_, kept_own1 HK.out HR.out (Nat.le_refl _) HG2.out⟩
          have h9 := HV2.out
          unfold ZRow
          simp only [HS.out, if_pos hd, List.length_append, List.map_append, List.length_singleton]
          exact h9
        case measure => simp [Go.RowKit.intOf]; omega
      · have hb : decide (y ≤ now) = false := by simpa using hd
        go_wp2_with fail
        go_roundw
        case rel =>
          refine ⟨k + 1, by go_num, by omega, ?_, HK.out⟩
          have h9 := HR.out
          simp only [HS.out, if_neg hd, List.append_nil]
          exact h9
        case measure => simp [Go.RowKit.intOf]; omega
    · have hkn : k = L.length := by omega
      have HT : Hid (L.take k = L) := Lib.hid (by rw [hkn, List.take_length])
      clear hkn hr hkp
      go_wp2_with fail
      go_ret
      have h9 := HR.out
      rw [HT.out] at h9
      exact ⟨_, rfl, h9, HK.out⟩
set_option maxHeartbeats 1000000 in
theorem rall_any (h : RD w t v B L) :
    Calls Try.prog 17 #[.pointer (some ⟨t, 0, none⟩)] w (RowPost w (allL L)) := by
  obtain ⟨a0, cp0, hv⟩ := own_shape h.row
  subst hv
  have HH := Lib.hid h
  have hl := h.ok.few
  obtain ⟨c0, f0⟩ := h.two
  clear h
  go_enter Try.func17, Try.ntmps17
  go_wp2_with fail
  go_loopw [3, 4] (fun v5 iv wr => ReRel w (fun k => allL (L.take k)) L.length v5 iv wr) (fun _ iv _ => L.length - (Go.RowKit.intOf iv).toNat)
  case atStart => exact ⟨0, rfl, Nat.zero_le _, World.ownsRow_nil _ _ _ _, Kept.refl _ _⟩
  case round =>
    obtain ⟨k, rfl, hk, hr, hkp⟩ := hrel.ex
    clear hrel c0 f0
    have HR := Lib.hid hr
    have HK := Lib.hid hkp
    have hsz := hkp.size
    obtain ⟨c0, f0⟩ := (HH.out.kept0 hkp).two
    by_cases hlt : k < L.length
    · obtain ⟨g, cap, e, _, _, c1, _, c3, _⟩ := (HH.out.kept0 hkp).at3 hlt
      injection e with e1 e2 e3
      subst e1; subst e3
      have hs := all_snoc L k hlt
      obtain ⟨x, hx⟩ : ∃ x, L[k].id = x := ⟨_, rfl⟩
      rw [hx] at hs
      rw [hx] at c1
      rw [Nat.zero_add] at c1
      have HLE : Hid ((allL (L.take k)).length ≤ k) := Lib.hid (by rw [length_all, List.length_take]; omega)
      have HS := Lib.hid hs
      clear hs hx e2 hr hkp c3
      go_wp2_with (first
        | (at_builtin; refine wpList_row1 rowInt rfl _ _ rfl rfl HR.out [.int .i64 x] rfl rfl (by simp [Value.oneCell']) (by have := HLE.out; omega) (by have := HLE.out; unfold maxLen; omega) (by omega) (fun v2 w2 hv2 hg2 => ?_); have HV2 := Lib.hid hv2; have HG2 := Lib.hid hg2; clear hv2 hg2)
        | go_in)
      go_roundw
      case rel =>
        refine ⟨k + 1, by go_num, by omega, ?_, kept_own1 HK.out HR.out (Nat.le_refl _) HG2.out⟩
        have h9 := HV2.out
        unfold ZRow
        simp only [HS.out, List.length_append, List.map_append, List.length_singleton]
        exact h9
      case measure => simp [Go.RowKit.intOf]; omega
    · have hkn : k = L.length := by omega
      have HT : Hid (L.take k = L) := Lib.hid (by rw [hkn, List.take_length])
      clear hkn hr hkp
      go_wp2_with fail
      go_ret
      have h9 := HR.out
      rw [HT.out] at h9
      exact ⟨_, rfl, h9, HK.out⟩
def RMoved (w : World) (t : Nat) (v : Value) (L : SL) (w' : World) : Prop := ∃ v' B', RD w' t v' B' L ∧ (∀ k, RBs t v' k → RBs t v k ∨ w.heap.size ≤ k) ∧ Kept (RBs t v) w w'
def RSPost (w : World) (t : Nat) (v : Value) (L : SL) (r : Int) (e : Ending) (w' : World) : Prop := e = .returned (.int .i64 r) ∧ RMoved w t v L w'
theorem RMoved.after {w2 : World} (h : RMoved w t v L w') (hk : Kept (fun _ => False) w' w2) : RMoved w t v L w2 := by
  obtain ⟨v', B', h1, h2, h3⟩ := h
  exact ⟨v', B', h1.kept0 hk, h2, h3.trans (hk.mono (fun _ _ f => f.elim))⟩
theorem RMoved.same (h : RD w t v B L) (hk : Kept (fun _ => False) w w') : RMoved w t v L w' := ⟨v, B, h.kept0 hk, fun k hk => .inl hk, hk.mono (fun _ _ f => f.elim)⟩
/-- the k-th session's deadline is another -/
theorem putL_set {L : SL} (hL : Rising L) {k : Nat} (hk : k < L.length) {s : Se} (hs : s.id = L[k].id) : putL L s = L.set k s := by
  induction L generalizing k with
  | nil => simp at hk
  | cons x r ih =>
    obtain ⟨h1, h2⟩ := rising_cons.1 hL
    unfold putL
    cases k with
    | zero =>
      have e : x.id = s.id := hs.symm
      rw [if_neg (by omega), if_pos e]; rfl
    | succ k =>
      have hk' : k < r.length := by simpa using hk
      have hs' : s.id = r[k].id := hs
      have := h1 r[k] (List.getElem_mem hk')
      rw [if_pos (by omega), ih h2 hk' hs', List.set_cons_succ]
theorem seC_set (L : SL) {k : Nat} (hk : k < L.length) (d : Int) : (seC L).set (k * 3 + 2) (.int .i64 d) = seC (L.set k ⟨L[k].id, L[k].to, d⟩) := by
  induction L generalizing k with
  | nil => simp at hk
  | cons x r ih =>
    have e : seC (x :: r) = [.int .i64 x.id, .int .i64 x.to, .int .i64 x.dl] ++ seC r := rfl
    rw [e]
    cases k with
    | zero => rfl
    | succ k =>
      have hk' : k < r.length := by simpa using hk
      rw [List.set_append_right _ _ (by simp; omega), show (k + 1) * 3 + 2 - [Value.int .i64 x.id, Value.int .i64 x.to, Value.int .i64 x.dl].length = k * 3 + 2 by simp; omega, ih hk']
      rfl
theorem touch_set {L : SL} (hL : Rising L) {k : Nat} (hk : k < L.length) {i now : Int} (hg : getL L i = some L[k]) (hn : okNow now = true) : touchE L i now = 0 ∧ touchL L i now = L.set k ⟨L[k].id, L[k].to, max L[k].dl (endsI now L[k].to)⟩ := by
  have hid := getL_id hg
  refine ⟨by unfold touchE; rw [hg]; simp [hn], ?_⟩
  unfold touchL
  rw [hg]
  simp only [hn, if_true]
  split
  · rename_i h
    rw [putL_set hL hk hid.symm, Int.max_eq_right (by omega), ← hid]
  · rename_i h
    rw [Int.max_eq_left (by omega)]
    exact (List.set_getElem_self hk).symm
theorem own_set {B size n cap g j : Nat} {e : TypeId} {xs : List Value} (h : w.ownsRow B e size (.slice (some ⟨g, 0, none⟩) n cap) n xs) (hj : j < xs.length) (u : Value) :
    (w.setCell ⟨g, j, none⟩ u).ownsRow B e size (.slice (some ⟨g, 0, none⟩) n cap) n (xs.set j u) := by
  have hl := h.1
  rcases h.2 with ⟨h1, _⟩ | ⟨g', cap', cur, hv, hb, hh, hnc, hcm, hcs, htake⟩
  · cases h1
  · injection hv with h1 h2 h3
    injection h1 with h1
    injection h1 with h1
    subst h1 h3
    refine ⟨by rw [List.length_set]; exact hl, .inr ⟨g, cap, (cur.toList.set j u).toArray, rfl, hb, heap_set u (c := cur.toList) (by simpa using hh), hnc, hcm, by simp [hcs], ?_⟩⟩
    rw [List.toList_toArray, List.take_set, htake]
theorem RD.setDl {g cap : Nat} (h : RD w t (.slice (some ⟨g, 0, none⟩) L.length cap) B L) {k : Nat} (hk : k < L.length) (d : Int) (hok : SlOk (L.set k ⟨L[k].id, L[k].to, d⟩)) :
    RMoved w t (.slice (some ⟨g, 0, none⟩) L.length cap) (L.set k ⟨L[k].id, L[k].to, d⟩) (w.setCell ⟨g, k * 3 + 2, none⟩ (.int .i64 d)) := by
  have hs := own_set h.row (j := k * 3 + 2) (by rw [seC_len]; omega) (.int .i64 d)
  rw [seC_set L hk] at hs
  have hkp := kept_set w g (k * 3 + 2) (.int .i64 d)
  refine ⟨_, B, ⟨?_, ?_, hok⟩, fun j hj => .inl hj, hkp.mono (fun j _ e => .inr (by rw [e]; rfl))⟩
  · rw [hkp.block t (lt_of_block h.at_) (fun e => h.nt rfl e.symm)]; exact h.at_
  · unfold SRow; rw [List.length_set]; exact hs
set_option maxHeartbeats 4000000 in
theorem rtouch_any (h : RD w t v B L) (i now : Int) :
    Calls Try.prog 21 #[.pointer (some ⟨t, 0, none⟩), .int .i64 i, .int .i64 now] w (RSPost w t v (touchL L i now) (touchE L i now)) := by
  have HP := Lib.hid (place_any h i)
  have HH := Lib.hid h
  have hl := h.ok.few
  have HM := Lib.hid (RMoved.same h (Kept.refl _ w))
  rcases find_idx (L := L) (i := i) with ⟨h1, h2⟩ | ⟨k, hk, h3, h4, _⟩
  · have HE : Hid (touchL L i now = L ∧ touchE L i now = 90) := Lib.hid (by unfold touchL touchE; rw [h1]; exact ⟨rfl, rfl⟩)
    rw [h2] at HP
    rw [HE.out.1, HE.out.2]
    clear h h1 h2
    go_enter Try.func21, Try.ntmps21
    go_wp2_with (first | (go_at_call 24; refine HP.out.mono ?_; rintro e w' ⟨rfl, rfl⟩) | go_in)
    go_ret
    exact ⟨rfl, HM.out⟩
  · rw [h4] at HP
    cases hn : okNow now with
    | false =>
      have HE : Hid (touchL L i now = L ∧ touchE L i now = 1) := Lib.hid (by unfold touchL touchE; rw [h3]; simp [hn])
      rw [HE.out.1, HE.out.2]
      have hn' : now < 0 ∨ (0 ≤ now ∧ 1099511627776 < now) := by
        simp [okNow] at hn; omega
      clear h h3 h4 hn
      rcases hn' with hx | ⟨hx, hy⟩
      · go_enter Try.func21, Try.ntmps21
        go_wp2_with (first | (go_at_call 24; refine HP.out.mono ?_; rintro e w' ⟨rfl, rfl⟩) | go_in)
        go_ret
        exact ⟨rfl, HM.out⟩
      · have hb : decide (now < 0) = false := by simpa using hx
        go_enter Try.func21, Try.ntmps21
        go_wp2_with (first | (go_at_call 24; refine HP.out.mono ?_; rintro e w' ⟨rfl, rfl⟩) | go_in)
        go_ret
        exact ⟨rfl, HM.out⟩
    | true =>
      obtain ⟨t1, t2⟩ := touch_set h.ok.up hk h3 hn
      have hok : SlOk (touchL L i now) := h.ok.touch i now
      rw [t2] at hok
      rw [t1, t2]
      have hn' : 0 ≤ now ∧ now ≤ 1099511627776 := by simpa [okNow] using hn
      obtain ⟨n0, n1⟩ := hn'
      have htt := h.ok.to L[k] (List.getElem_mem hk)
      have HEN := Lib.hid (fun W => ends_any now L[k].to W n0 n1 htt.1 htt.2)
      obtain ⟨g, cap, e, _, _, _, c2, c3, f3⟩ := h.at3 hk
      subst e
      have HS := Lib.hid (fun W (hK : Kept (fun _ => False) w W) => (HH.out.kept0 hK).setDl hk (max L[k].dl (endsI now L[k].to)) hok)
      obtain ⟨c0, f0⟩ := h.two
      have b1 : decide (now < 0) = false := by simp; omega
      have b2 : decide (now > 1099511627776) = false := by simp; omega
      have b3 : decide (1099511627776 < now) = false := by simp; omega
      obtain ⟨x, hx⟩ : ∃ x, L[k].to = x := ⟨_, rfl⟩
      obtain ⟨y, hy⟩ : ∃ y, L[k].dl = y := ⟨_, rfl⟩
      obtain ⟨z, hz⟩ : ∃ z, endsI now x = z := ⟨_, rfl⟩
      rw [hx, hz] at HEN
      rw [hx, hy, hz] at HS ⊢
      rw [hx] at c2
      rw [hy] at c3
      rw [Nat.zero_add] at c2 c3 f3
      have HEW := Lib.hid ((HEN.out w.drew).mono (R' := fun e w' => e = .returned (.int .i64 z) ∧ w' = w.drew) (fun e w' h => ⟨h.1, h.2.symm⟩))
      have HS0 := Lib.hid (HS.out w (Kept.refl _ w))
      clear h h3 h4 hn t1 t2 hok hx hy hz htt HM HH HS HEN
      go_enter Try.func21, Try.ntmps21
      go_wp2_with (first | (go_at_call 24; refine HP.out.mono ?_; rintro e w' ⟨rfl, rfl⟩) | go_in)
      refine wp_region_still_tail 26 (by kernel_rfl) (by kernel_rfl) ?_
      simp only [List.take_succ_cons, List.take_zero, List.drop_succ_cons, List.drop_zero]
      repeat still_step
      still_call HEW.out
      repeat still_step
      refine wpStill_nil ?_
      go_wp2
      go_ret
      exact ⟨rfl, HS0.out.after ((Kept.refl _ _).drew)⟩
theorem seC_append (L M : SL) : seC (L ++ M) = seC L ++ seC M := List.flatMap_append
theorem del_at {L : SL} (hL : Rising L) {k : Nat} (hk : k < L.length) : delL L L[k].id = L.take k ++ L.drop (k + 1) := by
  refine sl_ext (delL_rising hL _) ?_ fun i => ?_
  · have h := (List.pairwise_append.1 (show List.Pairwise (fun a b : Se => a.id < b.id) (L.take k ++ L.drop k) by rw [List.take_append_drop]; exact hL))
    refine List.pairwise_append.2 ⟨h.1, h.2.1.sublist (by rw [← List.drop_drop]; exact List.drop_sublist _ _) , fun a ha b hb => h.2.2 a ha b (List.mem_of_mem_drop (by rw [List.drop_drop]; exact hb))⟩
  · rw [getL_del]
    have hs : L = L.take k ++ L[k] :: L.drop (k + 1) := by rw [← List.drop_eq_getElem_cons hk, List.take_append_drop]
    have hg : ∀ (A B : SL), getL (A ++ B) i = (getL A i).or (getL B i) := fun A B => by unfold getL; rw [List.find?_append]
    have h1 : getL L i = (getL (L.take k) i).or (if L[k].id = i then some L[k] else getL (L.drop (k + 1)) i) := by
      conv => lhs; rw [hs]
      rw [hg, getL_cons]
    rw [hg, h1]
    by_cases e : i = L[k].id
    · rw [if_pos e]
      have hp := List.pairwise_append.1 (show List.Pairwise (fun a b : Se => a.id < b.id) (L.take k ++ L[k] :: L.drop (k + 1)) by rw [← hs]; exact hL)
      have a1 : getL (L.take k) i = none := getL_none.2 fun s hs' => by have := hp.2.2 s hs' L[k] (List.mem_cons_self ..); omega
      have a2 : getL (L.drop (k + 1)) i = none := getL_none.2 fun s hs' => by have := (List.pairwise_cons.1 hp.2.1).1 s hs'; omega
      rw [a1, a2]; rfl
    · rw [if_neg e, if_neg (fun e' => e e'.symm)]
end
end Go.Proofs.Ytlfcccckghnffaa
