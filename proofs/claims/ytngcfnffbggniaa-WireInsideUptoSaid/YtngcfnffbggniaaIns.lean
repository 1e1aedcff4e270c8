/- WireInside: the walk. -/
import Derived.Test.YtngcfnffbggniaaInm
import Derived.Test.YtngcfnffbggniaaGotem
import Derived.Test.YtngcfnffbggniaaWawake
import Derived.Deep.RegionHeld3
import Derived.Deep.DeepCutAuto
import Derived.WalkSpells
import Derived.Outline
namespace Go.Proofs.Ytngcfnffbggniaa.wireInside
open Go.ChangeShapes Go.WideShapes Go.ChangeAt Go.RowKit
set_option linter.unusedVariables false

theorem o_drew {w w' : World} (h : Old w w') : Old w w'.drew := ⟨h.os, h.tape, h.output, h.size, h.block⟩
theorem o_undrew {w w' : World} (h : Old w w'.drew) : Old w w' := ⟨h.os, h.tape, h.output, h.size, h.block⟩
theorem o_make {w w' : World} (h : Old w w') (o : Obj) : Old w (w'.alloc o) := Kept.alloc h o
theorem o_kept {S : Nat → Prop} {w w' : World} (h : Old w w') : Kept S w w' := Kept.mono h (fun _ _ f => f.elim)
theorem o_set {w w' : World} (h : Old w w') (b i : Nat) (v : Value) : Kept (fun j => j = b) w (w'.setCell ⟨b, i, none⟩ v) := Kept.setCell (S := fun j => j = b) (o_kept h) (a := ⟨b, i, none⟩) (Or.inl rfl) v
theorem set_get7 {cm : List Value} {v : Value} (h : cm.length = 19) : (cm.set 7 v)[7]? = some v := by
  have : 7 < cm.length := by omega
  simp [this]
theorem set_same {α : Type} {l : List α} {i : Nat} {v : α} (h : l[i]? = some v) : l.set i v = l := by
  obtain ⟨hi, rfl⟩ := List.getElem?_eq_some_iff.1 h
  exact List.set_getElem_self hi

set_option maxRecDepth 100000 in
set_option maxHeartbeats 1600000 in
theorem walk0 (x : Entry) (y : Message) (ce cm : List Value) (ok : Nat → Prop) (w : World) (hE : entryE w ok ce x) (hM : messageE w ok cm y) (hi : In w ok) (hx : (entryF.lay x).length ≤ 20000000) (hy : (messageF.lay y).length ≤ 20000000) :
    Calls Try.prog 8 #[.agg ce.toArray, .agg cm.toArray] w fun e w' => e = .returned (.bool true) ∧ Old w w' := by
  have HSZ_e := Lib.hid (show (Try.prog.info? 28).map (·.size) = some 11 by kernel_rfl)
  have HSZ_m := Lib.hid (show (Try.prog.info? 62).map (·.size) = some 19 by kernel_rfl)
  have HSZ_l := Lib.hid (show (Try.prog.info? 60).map (·.size) = some 1 by kernel_rfl)
  have HLE := Lib.hid (entryE_flat hE).1
  have HLM := Lib.hid (messageE_flat hM).1
  obtain ⟨ve, hve, hL⟩ := msg_entries hM
  obtain ⟨rows0, ⟨A, c, rfl, hnc, hcm, hat0⟩, hlen0, hel0⟩ := id hL
  clear hat0 hel0
  obtain ⟨n, hn⟩ : ∃ n, rows0.length = n := ⟨_, rfl⟩
  rw [hn] at hve hL hnc hlen0
  clear hn rows0
  obtain ⟨s, hs⟩ : ∃ s : ByteArray, (⟨(entryF.lay x).toArray⟩ : ByteArray) = s := ⟨_, rfl⟩
  have hsl : s.data.toList = entryF.lay x := by rw [← hs]
  have hsz : s.size = (entryF.lay x).length := by rw [← hsl, str_len]
  have HS := Lib.hid hs; clear hs
  have HVE := Lib.hid hve; clear hve
  have HL := Lib.hid hL; clear hL
  have HE := Lib.hid hE; clear hE
  have HM := Lib.hid hM; clear hM
  have HI := Lib.hid hi; clear hi
  have HX := Lib.hid hx
  have HSL := Lib.hid hsl; clear hsl
  have HSX := Lib.hid hsz; clear hsz
  clear hx
  unfold maxLen at hcm
  go_enter Try.func8, Try.ntmps8
  go_wp2_with fail
  refine (wawake_any _).mono ?_
  rintro en w2 ⟨rfl, hO2⟩
  have hb0 : w2.heap[w.heap.size]? = some (.cells ce.toArray 28 (0, 0)) := by
    rw [hO2.block _ (by simp; omega) id]
    rw [((Kept.refl (fun _ => False) (w.alloc (.cells ce.toArray 28))).alloc (.cells cm.toArray 62)).block _ (by simp) id]
    exact heap_alloc_new w _
  have hb1 : w2.heap[w.heap.size + 1]? = some (.cells cm.toArray 62 (0, 0)) := by
    rw [hO2.block _ (by simp) id]
    have h := heap_alloc_new (w.alloc (.cells ce.toArray 28)) (.cells cm.toArray 62)
    rwa [show (w.alloc (.cells ce.toArray 28)).heap.size = w.heap.size + 1 from by simp] at h
  have hP2 : Old w w2 := (((Old.refl w).alloc _).alloc _).none hO2
  have hsz2 : w.heap.size + 2 ≤ w2.heap.size := by have := hO2.size; simp at this; omega
  have HB0 := Lib.hid hb0; clear hb0
  have HB1 := Lib.hid hb1; clear hb1
  have HP2 := Lib.hid hP2; clear hP2 hO2
  have c7 : w2.cell? ⟨w.heap.size + 1, 7, none⟩ = some (.slice A n c) := cell_of_heap HB1.out HVE.out
  go_upto_if 17 with fail
  go_cut [] (fun wx => ∃ k, k ≤ n ∧ k ≤ 100 ∧ wx.heap[w.heap.size + 1]? = some (.cells (cm.set 7 (.slice A k c)).toArray 62 (0, 0)) ∧ Kept (fun j => j = w.heap.size + 1) w2 wx)
  case first =>
    by_cases hbig : 100 < n
    · have hbi : (100 : Int) < (n : Int) := by omega
      have hci : (100 : Int) ≤ (c : Int) := by omega
      go_wp2_with (refine wpList_store_at rfl 60 (.tmp 21) (.tmp 20) rfl (w.heap.size + 1) 7 (.slice A 100 c) rfl rfl rfl cm 62 HB1.out (by rw [HLM.out]; decide) HSZ_l.out ?_)
      go_meet
      exact ⟨100, by omega, by omega, setRow_heap _ _ _ _ _ _ HB1.out, setRow_kept _ _ _⟩
    · have hbi : ¬ (100 : Int) < (n : Int) := by omega
      go_wp2_with fail
      go_meet
      refine ⟨n, by omega, by omega, ?_, Kept.refl _ _⟩
      rw [set_same HVE.out]
      exact HB1.out
  case rest =>
  obtain ⟨k, hkn, hk100, hb1, hK3⟩ := hcut
  obtain ⟨w3, rfl⟩ : ∃ w3, w3 = wc := ⟨_, rfl⟩
  clear c7
  have hz3 : w2.heap.size ≤ w3.heap.size := hK3.size
  have hO3 : Old w w3 := HP2.out.step hK3 (fun j hj => by have hj' : j = w.heap.size + 1 := hj; omega)
  have hb0 : w3.heap[w.heap.size]? = some (.cells ce.toArray 28 (0, 0)) := (hK3.block _ (by omega) (by omega)).trans HB0.out
  have hL3 := (ListR.keep entryE_ok HL.out hO3 (disj_none _)).take k hkn
  have hll : (y.entries.take k).length = k := by rw [List.length_take]; omega
  have hin := inside_at y (y.entries.take k) x
  have hilen := inside_len y x k hk100
  generalize y.entries.take k = l at hL3 hll hin hilen
  obtain ⟨i0, hi0, hz0, hz1, hz2⟩ := info_parts info_entry
  obtain ⟨v6, w5, hr5, hA5, hK5⟩ := run_append_nil_list (P := Try.prog) entryE_ok hL3 (fun h => entryE_flat h) 60 60 28 i0 _ Try.underlying60 hi0 hz0 hz1 hz2 rfl (by decide) (by unfold maxLen; omega) (by omega) w3.heap.size (Nat.le_refl _)
  have c7 : w3.cell? ⟨w.heap.size + 1, 7, none⟩ = some (.slice A k c) := by
    rw [cell_of_row w3 _ 7 _ _ (0, 0) hb1]
    have : 7 < cm.length := by rw [HLM.out]; decide
    simp [this]
  obtain ⟨A6, c6, rfl, hc6, hm6⟩ := hA5.shape
  have HB1' := Lib.hid hb1; clear hb1
  have HB0' := Lib.hid hb0; clear hb0
  have HO3 := Lib.hid hO3; clear hO3
  have HL3 := Lib.hid hL3; clear hL3
  have HIN := Lib.hid hin; clear hin
  have HIL := Lib.hid hilen; clear hilen
  have HLL := Lib.hid hll; clear hll
  have HK3 := Lib.hid hK3; clear hK3
  have HR5 := Lib.hid hr5
  have HA5 := Lib.hid hA5; clear hA5
  have HK5 := Lib.hid hK5; clear hK5
  have HI0 := Lib.hid (And.intro hi0 (And.intro hz0 (And.intro hz1 hz2))); clear hi0 hz0 hz1 hz2
  clear hr5
  go_wp2_with (refine wpList_append_run rfl _ _ 60 rfl (.slice none 0 0) (.slice A k c) (by rfl) (by rfl) (.slice A6 l.length c6) w5 HR5.out ?_)
  have HO5 := Lib.hid (HO3.out.none HK5.out)
  have hz5 : w3.heap.size ≤ w5.heap.size := HK5.out.size
  have hL5 : ListR entryE w5 (fun j => j < w5.heap.size ∧ j ≠ w.heap.size + 1) 11 (.slice A6 l.length c6) l := (HA5.out.list entryE_ok).mono entryE_ok (fun k hk hk' => ⟨hk, by rcases hk' with hk' | hk'; (have := HI.out k hk'; omega); omega⟩)
  have hE5 : entryE w5 (fun j => j < w5.heap.size ∧ j ≠ w.heap.size + 1) ce x := entryE_ok.mono (entryE_ok.keep HE.out HO5.out (disj_none _)) (fun k hk hk' => ⟨hk, by have := HI.out k hk'; omega⟩)
  have hb0 : w5.heap[w.heap.size]? = some (.cells ce.toArray 28 (0, 0)) := (HK5.out.block _ (by omega) id).trans HB0'.out
  have hb1 : w5.heap[w.heap.size + 1]? = some (.cells (cm.set 7 (.slice A k c)).toArray 62 (0, 0)) := (HK5.out.block _ (by omega) id).trans HB1'.out
  have HL5 := Lib.hid hL5; clear hL5
  have HE5 := Lib.hid hE5; clear hE5
  have HB05 := Lib.hid hb0; clear hb0
  have HB15 := Lib.hid hb1; clear hb1
  clear HB0' HB1' HR5 HA5 HK5 HL3 c7
  go_wp2_with fail
  go_cut [] (fun wx => ∃ v30, AccO entryE w5.heap.size (fun j => j < w5.heap.size ∧ j ≠ w.heap.size + 1) wx 28 11 v30 (l ++ [x]) ∧ wx.heap[w.heap.size + 1]? = some (.cells (cm.set 7 v30).toArray 62 (0, 0)) ∧ Kept (fun j => j = w.heap.size + 1) w5 wx)
  case first =>
    have hfe := entryE_flat HE.out
    obtain ⟨A1, n1, c1, A2, n2, c2, rfl⟩ := entryE_cells HE.out
    have HSS := Lib.hid (show ∀ w', Kept (fun j => j = w.heap.size + 1) w5 w' → w'.cell? ⟨w.heap.size, 0, none⟩ = some (Value.int .i64 x.zxid) ∧ w'.cell? ⟨w.heap.size, 1, none⟩ = some (Value.int .i64 x.session) ∧ w'.cell? ⟨w.heap.size, 2, none⟩ = some (Value.int .i64 x.xid) ∧ w'.cell? ⟨w.heap.size, 3, none⟩ = some (Value.int .i64 x.txn.part.kind) ∧ w'.cell? ⟨w.heap.size, 4, none⟩ = some (Value.string x.txn.part.path) ∧ w'.cell? ⟨w.heap.size, 5, none⟩ = some (Value.string x.txn.part.data) ∧ w'.cell? ⟨w.heap.size, 6, none⟩ = some (Value.slice A1 n1 c1) ∧ w'.cell? ⟨w.heap.size, 7, none⟩ = some (Value.int .i64 x.txn.part.owner) ∧ w'.cell? ⟨w.heap.size, 8, none⟩ = some (Value.int .i64 x.txn.part.number) ∧ w'.cell? ⟨w.heap.size, 9, none⟩ = some (Value.int .i64 x.txn.part.err) ∧ w'.cell? ⟨w.heap.size, 10, none⟩ = some (Value.slice A2 n2 c2) ∧ Kept (fun j => j = w.heap.size + 1) w5 w' from fun w' hO => by
      have hc := fun i v hv => cell_of_heap (i := i) (v := v) ((hO.block _ (by omega) (by omega)).trans HB05.out) hv
      exact ⟨hc 0 _ rfl, hc 1 _ rfl, hc 2 _ rfl, hc 3 _ rfl, hc 4 _ rfl, hc 5 _ rfl, hc 6 _ rfl, hc 7 _ rfl, hc 8 _ rfl, hc 9 _ rfl, hc 10 _ rfl, hO⟩)
    have HC7 := Lib.hid (set_get7 (v := .slice A k c) HLM.out)
    have HFE := Lib.hid hfe; clear hfe
    go_region_held3 (fun w' => w'.cell? ⟨w.heap.size, 0, none⟩ = some (Value.int .i64 x.zxid) ∧ w'.cell? ⟨w.heap.size, 1, none⟩ = some (Value.int .i64 x.session) ∧ w'.cell? ⟨w.heap.size, 2, none⟩ = some (Value.int .i64 x.xid) ∧ w'.cell? ⟨w.heap.size, 3, none⟩ = some (Value.int .i64 x.txn.part.kind) ∧ w'.cell? ⟨w.heap.size, 4, none⟩ = some (Value.string x.txn.part.path) ∧ w'.cell? ⟨w.heap.size, 5, none⟩ = some (Value.string x.txn.part.data) ∧ w'.cell? ⟨w.heap.size, 6, none⟩ = some (Value.slice A1 n1 c1) ∧ w'.cell? ⟨w.heap.size, 7, none⟩ = some (Value.int .i64 x.txn.part.owner) ∧ w'.cell? ⟨w.heap.size, 8, none⟩ = some (Value.int .i64 x.txn.part.number) ∧ w'.cell? ⟨w.heap.size, 9, none⟩ = some (Value.int .i64 x.txn.part.err) ∧ w'.cell? ⟨w.heap.size, 10, none⟩ = some (Value.slice A2 n2 c2) ∧ Kept (fun j => j = w.heap.size + 1) w5 w')
      (((try dsimp only); first | exact HSS.out _ (o_set (by assumption) _ _ _) | exact HSS.out _ (o_kept (o_drew (Old.refl _))) | exact HSS.out _ (o_kept (by assumption)) | exact HSS.out _ (o_kept (o_drew (by assumption))) | exact HSS.out _ (o_kept (o_make (by assumption) _)) | exact HSS.out _ (o_kept (o_make (o_undrew (by assumption)) _)) | exact HSS.out _ (o_kept (o_drew (o_make (by assumption) _))) | exact HSS.out _ (o_kept (o_drew (o_make (Old.refl _) _))) | exact HSS.out _ (o_kept (o_make (Old.refl _) _)) | exact HSS.out _ (o_kept (o_make (o_drew (Old.refl _)) _))))
      (first
        | (refine step_one_more (w5 := w5) entryE_ok h27 (by first | exact Old.refl _ | exact o_drew (Old.refl _) | exact o_make (Old.refl _) _ | exact o_drew (o_make (Old.refl _) _) | exact o_make (o_drew (Old.refl _)) _) (by first | assumption | exact Old.refl _ | exact o_drew (Old.refl _) | exact o_make (Old.refl _) _ | exact o_drew (o_make (Old.refl _) _) | exact o_make (o_drew (Old.refl _)) _ | exact o_drew (by assumption) | exact o_make (by assumption) _ | exact o_drew (o_make (by assumption) _)) (fun k hk => hk.1) hP27 (by first | exact heap_alloc_new _ _ | exact (hk27.block _ (by simp) id).trans (heap_alloc_new _ _)) HE5.out HFE.out (by rfl) _ _ _ (by rfl) (by rfl) (by rfl) i0 _ Try.underlying60 HI0.out.1 HI0.out.2.1 HI0.out.2.2.1 HI0.out.2.2.2 rfl (by decide) (by have := HLL.out; unfold maxLen; omega) (by have := HLL.out; omega) ?_; intro v30 w30 h30 hP30; obtain ⟨A30, c30, rfl, hc30, hm30⟩ := h30.shape; have c7 : w30.cell? ⟨w.heap.size + 1, 7, none⟩ = some (.slice A k c) := cell_of_heap ((hP30.block _ (by omega) id).trans HB15.out) HC7.out; have f7 : w30.frozen? ⟨w.heap.size + 1, 7, none⟩ = false := by simp [World.frozen?, (hP30.block _ (by omega) id).trans HB15.out])
        | (refine step_nil_list (w5 := w5) entryE_ok HL5.out (by first | assumption | exact Old.refl _ | exact o_drew (Old.refl _) | exact o_make (Old.refl _) _ | exact o_drew (o_make (Old.refl _) _) | exact o_make (o_drew (Old.refl _)) _ | exact o_drew (by assumption) | exact o_make (by assumption) _ | exact o_drew (o_make (by assumption) _)) (fun h => entryE_flat h) (by rfl) _ _ _ (by rfl) (by rfl) (by rfl) 28 i0 _ Try.underlying60 HI0.out.1 HI0.out.2.1 HI0.out.2.2.1 HI0.out.2.2.2 rfl (by decide) (by have := HLL.out; unfold maxLen; omega) (by have := HLL.out; omega) ?_; intro v27 w27 h27 hk27 hP27))
    all_goals go_wp2_with fail
    all_goals go_meet
    all_goals
      refine ⟨.slice A30 (l.length + 1) c30, ?_, ?_, ?_⟩
      · have := h30.keep entryE_ok (o_set (Old.refl w30) (w.heap.size + 1) 7 (.slice A30 (l.length + 1) c30)) (fun j hj hj' => by have hj2 : j = w.heap.size + 1 := hj'; omega) (fun j hj hj' => hj.2 hj')
        simpa using this
      · rw [setCell_row ((hP30.block _ (by omega) id).trans HB15.out), List.set_set]
        exact setRow_heap _ _ _ _ _ _ ((hP30.block _ (by omega) id).trans HB15.out)
      · exact o_set hP30 _ _ _
  case rest =>
  obtain ⟨v30, hA6, hb1, hK6⟩ := hcut
  have hb0 : wc.heap[w.heap.size]? = some (.cells ce.toArray 28 (0, 0)) := (hK6.block _ (by omega) (by omega)).trans HB05.out
  have hO6 : Old w wc := HO5.out.step hK6 (fun j hj => by have hj' : j = w.heap.size + 1 := hj; omega)
  have hz6 : w5.heap.size ≤ wc.heap.size := hK6.size
  obtain ⟨z, hz⟩ : ∃ z, withEntries y (l ++ [x]) = z := ⟨_, rfl⟩
  obtain ⟨t, ht⟩ : ∃ t : ByteArray, (⟨(messageF.lay z).toArray⟩ : ByteArray) = t := ⟨_, rfl⟩
  have htl : t.data.toList = messageF.lay z := by rw [← ht]
  have htz : t.size = (messageF.lay z).length := by rw [← htl, str_len]
  have hM6 : messageE wc (fun j => j < wc.heap.size) (cm.set 7 v30) z := by
    rw [← hz]
    exact messageE_set (messageE_ok.keep HM.out hO6 (disj_none _)) (fun k hk _ => hk) ((hA6.list entryE_ok).mono entryE_ok (fun k hk _ => hk))
  have hE6 : entryE wc (fun j => j < wc.heap.size) ce x := entryE_ok.mono (entryE_ok.keep HE.out hO6 (disj_none _)) (fun k hk _ => hk)
  have hLM6 : (cm.set 7 v30).length = 19 := by rw [List.length_set]; exact HLM.out
  have hil := HIL.out
  have hzl : z.entries = l ++ [x] := by rw [← hz]; rfl
  obtain ⟨p, hp⟩ := HIN.out
  rw [hz] at hp hil
  rw [← HSL.out, ← htl] at hp
  have hx := HX.out
  have hsx := HSX.out
  have hpr := hp.room
  rw [str_len, str_len] at hpr
  have ht2 : t.size ≤ 50000000 := by omega
  have hs2 : s.size ≤ 20000000 := by omega
  have hll := HLL.out
  have hl100 : l.length ≤ 100 := by omega
  generalize cm.set 7 v30 = cm6 at hb1 hM6 hLM6
  clear hx hsx htz hil hA6
  have HP := Lib.hid hp; clear hp
  have HT := Lib.hid ht; clear ht
  have HTL := Lib.hid htl; clear htl
  have HZL := Lib.hid hzl; clear hzl
  have HB0 := Lib.hid hb0; clear hb0
  have HB1 := Lib.hid hb1; clear hb1
  have HO6 := Lib.hid hO6; clear hO6
  have HM6 := Lib.hid hM6; clear hM6
  have HE6 := Lib.hid hE6; clear hE6
  have HLM6 := Lib.hid hLM6; clear hLM6
  clear HIL HIN HL5 HE5 HB05 HB15 hK6 HO5 HM HE HLM HL HK3 HO3 HI0 hz HX hll HLL
  have HRG0 := Lib.hid (range_row HB0.out)
  go_wp2_with (refine wpList_load_mid rfl 28 (.tmp 2) rfl w.heap.size 0 rfl ce _ HRG0.out Try.underlying28 rfl (by rw [HLE.out]; exact HSZ_e.out) ?_)
  refine (PutEntry_any x _ _ _ HE6.out (fun k hk => hk) (by rw [← HSX.out]; omega)).mono ?_
  rintro en w7 ⟨rfl, hO7⟩
  rw [HS.out]
  have HRG1 := Lib.hid (range_row ((hO7.block _ (by omega) id).trans HB1.out))
  have HM7 := Lib.hid (messageE_ok.keep HM6.out hO7 (disj_none _))
  have HI7 := Lib.hid (show In w7 (fun j => j < wc.heap.size) from fun k hk => Nat.lt_of_lt_of_le hk hO7.size)
  have HO7 := Lib.hid (HO6.out.none hO7)
  clear HM6 HE6 HRG0 HB0 HB1 HO6 hO7
  go_wp2_with (refine wpList_load_mid rfl 62 (.tmp 3) rfl (w.heap.size + 1) 0 rfl cm6 _ HRG1.out Try.underlying62 rfl (by rw [HLM6.out]; exact HSZ_m.out) ?_)
  refine (PutMessage_any z _ _ _ HM7.out HI7.out (by rw [← HTL.out, str_len]; omega)).mono ?_
  rintro en w8 ⟨rfl, hO8⟩
  rw [HT.out]
  have HO8 := Lib.hid (HO7.out.none hO8)
  clear HM7 HI7 HRG1 HO7 hO8 HLM6 HLE
  go_wp2_with fail
  go_loop [9, 10] (fun vin vi => ∃ (k : Nat) (b : Bool), vin = .bool b ∧ vi = .int .i64 k ∧ k ≤ p + 1 ∧ (b = false → k ≤ p)) (fun _ vi => t.size + 1 - (intOf vi).toNat)
  case atStart => exact ⟨0, false, rfl, rfl, by omega, fun _ => by omega⟩
  case round =>
    obtain ⟨i, b, rfl, rfl, hi1, hib⟩ := hrel
    cases b with
    | false =>
      have hip := hib rfl
      clear hib
      have hle : (i : Int) + (s.size : Int) ≤ (t.size : Int) := by omega
      go_wp2_with fail
      go_round
      case rel =>
        by_cases hb : (t.extract i (i + s.size)).toList = s.toList
        · exact ⟨i + 1, true, by simp [hb], by go_num, by omega, fun h => by cases h⟩
        · refine ⟨i + 1, false, by simp [hb], by go_num, by omega, fun _ => ?_⟩
          have : i ≠ p := fun e => hb (by rw [e, at_str HP.out])
          omega
      case measure => simp [intOf]; omega
    | true =>
      clear hib
      have hle : (i : Int) + (s.size : Int) ≤ (t.size : Int) := by omega
      have HIT := Lib.hid (And.intro hi1 hle); 
      go_wp2_with fail
      obtain ⟨om, hom⟩ : ∃ o, messageF.read t = o := ⟨_, rfl⟩
      have hcase : om = some z ∨ om = none := by
        rw [← hom]
        rcases read_of_lay messageF_ok HTL.out with ⟨h3, h4⟩ | ⟨h3, h4⟩
        · exact Or.inl h3
        · exact Or.inr h3
      have HOM := Lib.hid hom; clear hom
      refine (got_message t _ (by unfold maxLen; omega) HOM.out).mono ?_
      rintro en w9 ⟨cs2, e2, rfl, hO9, hfl2, hc2⟩
      have HFL2 := Lib.hid hfl2.1
      have HF12 := Lib.hid hfl2.2
      clear hfl2
      have hG2 := Got.mk (T := 62) messageE_ok hc2
      clear hc2
      have hA9 : Old w9 (w9.alloc (.cells cs2.toArray 62)) := (Old.refl _).alloc _
      have HO9 := Lib.hid ((HO8.out.none hO9).none hA9)
      clear HO8 hO9 hA9
      have HG2 := Lib.hid hG2; clear hG2
      have HCA := Lib.hid hcase; clear hcase
      go_upto_region 15 with (refine wpList_store_new w9 rfl 62 _ _ rfl _ cs2 rfl rfl (by rw [HFL2.out]; exact HSZ_m.out) HFL2.out.symm HF12.out ?_)
      obtain ⟨hb2, hg2⟩ := HG2.out
      clear HG2
      rcases hg2 with ⟨rfl, z', B2, hz2, hB2, hE2⟩ | ⟨rfl, hnone⟩
      · have hzz : z' = z := by
          rcases HCA.out with h | h
          · rw [h] at hz2; simpa using hz2.symm
          · rw [h] at hz2; cases hz2
        subst hzz
        clear hz2 HCA HOM
        obtain ⟨ve, hve, hL⟩ := msg_entries hE2
        rw [HZL.out] at hL
        obtain ⟨g, off, cap, r, rfl, hcap, hg, hgB, hr, hEr⟩ := at_entry hL l.length (by simp)
        have hlast : (l ++ [x])[l.length]'(by simp) = x := by simp
        rw [hlast] at hEr
        clear hL
        simp only [List.length_append, List.length_singleton] at hve hcap
        have hgz := Nat.lt_of_lt_of_le hg (Nat.le_refl _)
        have c7 := cell_of_heap hb2 hve
        have HR2 := Lib.hid hr; clear hr
        have HFR := Lib.hid (info_len HSZ_e.out (entryE_flat hEr).1)
        have HER := Lib.hid hEr; clear hEr
        have HBB := Lib.hid (in_lt hB2); clear hB2
        clear hb2 hve hE2
        have hi0 : (0 : Int) ≤ (l.length : Int) := by omega
        have hi1 : (l.length : Int) < (l.length : Int) + 1 := by omega
        go_wp2_with (first
          | (refine wpList_load_guarded rfl 28 (.tmp 91) rfl g (off + l.length * 11) rfl r _ HR2.out Try.underlying28 rfl HFR.out ?_)
          | (go_at_call 11; refine (PutEntry_any x r _ _ HER.out HBB.out (by rw [← HSX.out]; omega)).mono ?_; rintro en wa ⟨rfl, hOa⟩; rw [HS.out]; have HOA := Lib.hid (HO9.out.none hOa); clear hOa))
        go_ret
        exact ⟨rfl, HOA.out⟩
      · clear HCA HOM hnone
        go_wp2_with fail
        go_ret
        exact ⟨rfl, HO9.out⟩
end Go.Proofs.Ytngcfnffbggniaa.wireInside
