/- awake of layer 2: the chapter's examples. WireMessages: the walk. -/
import Derived.Test.YtpmemcpfoapjmaaGreatV09
import Derived.Test.YtpmemcpfoapjmaaGreatV12
import Derived.Test.YtpmemcpfoapjmaaGreatV24
import Derived.Test.YtpmemcpfoapjmaaGreatV18
import Derived.Deep.RegionHeld3
import Derived.Deep.DeepCutAuto
import Derived.WalkSpells
import Derived.IntWalk
namespace Go.Proofs.YtpmemcpfoapjmaaGreat
open Go.ChangeShapes Go.WideShapes Go.ChangeAt Go.RowKit
set_option linter.unusedVariables false

theorem Old.alloc {w0 w : World} (h : Old w0 w) (o : Obj) : Old w0 (w.alloc o) := Kept.alloc h o

theorem wex1 : eventF.lay ⟨3, ⟨#[47, 97]⟩, 7⟩ = [6, 2, 47, 97, 14] := by decide +kernel
theorem wex2 : helloF.lay ⟨1, 0, 10, ⟨#[115]⟩⟩ = [2, 0, 20, 1, 115] := by decide +kernel
theorem wex3 : noteF.lay ⟨1, 2, 3, 4, 5, 6⟩ = [2, 4, 6, 8, 10, 12] := by decide +kernel

theorem small_i64 {n : Int} (h : 0 ≤ n) (h2 : n ≤ 100) : I64 n := by unfold I64; omega
theorem wexr1 : eventF.read ⟨#[6, 2, 47, 97, 14]⟩ = some ⟨3, ⟨#[47, 97]⟩, 7⟩ :=
  Fmt.read_lay eventF_ok wex1.symm ⟨small_i64 (by decide) (by decide), (by decide : (2 : Nat) ≤ 4096), small_i64 (by decide) (by decide)⟩
theorem wexr2 : eventF.read ⟨#[6, 2, 47, 97, 14, 0]⟩ = none := by
  cases h : eventF.read ⟨#[6, 2, 47, 97, 14, 0]⟩ with
  | none => rfl
  | some x =>
    have h1 := (Fmt.read_some eventF_ok h).1
    have h2 := eventF_ok.pf x ⟨3, ⟨#[47, 97]⟩, 7⟩ [] [0] (by rw [← h1, wex1]; rfl)
    simp at h2

theorem get_event_ok (w : World) : Calls Tryz.prog 16 #[.string ⟨#[6, 2, 47, 97, 14]⟩] w fun en w' => en = .returned (.tuple #[.agg #[.int .i64 3, .string ⟨#[47, 97]⟩, .int .i64 7], .int .i64 0]) ∧ Old w w' := by
  have h := GetEvent_any ⟨#[6, 2, 47, 97, 14]⟩ w (by decide)
  rw [wexr1] at h
  refine h.mono fun en w' ⟨cs, he, hO, hE⟩ => ?_
  have hcs : cs = [.int .i64 3, .string ⟨#[47, 97]⟩, .int .i64 7] := hE.1
  subst hcs
  exact ⟨he, hO⟩
theorem get_event_bad (w : World) : Calls Tryz.prog 16 #[.string ⟨#[6, 2, 47, 97, 14, 0]⟩] w fun en w' => en = .returned (.tuple #[.agg #[.int .i64 0, .string ⟨#[]⟩, .int .i64 0], .int .i64 120]) ∧ Old w w' := by
  have h := GetEvent_any ⟨#[6, 2, 47, 97, 14, 0]⟩ w (by decide)
  rw [wexr2] at h
  refine h.mono fun en w' ⟨cs, he, hO, hE⟩ => ?_
  have hcs : cs = [.int .i64 0, .string ⟨#[]⟩, .int .i64 0] := hE.1
  subst hcs
  exact ⟨he, hO⟩
theorem put_event_ex (w : World) : Calls Tryz.prog 15 #[.agg #[.int .i64 3, .string ⟨#[47, 97]⟩, .int .i64 7]] w fun en w' => en = .returned (.string ⟨#[6, 2, 47, 97, 14]⟩) ∧ Old w w' := by
  have h := PutEvent_any ⟨3, ⟨#[47, 97]⟩, 7⟩ [.int .i64 3, .string ⟨#[47, 97]⟩, .int .i64 7] (fun _ => False) w ⟨rfl, small_i64 (by decide) (by decide), (by unfold Str; decide), small_i64 (by decide) (by decide)⟩ (fun _ f => f.elim) (by rw [wex1]; decide)
  rw [wex1] at h
  exact h
theorem put_hello_ex (w : World) : Calls Tryz.prog 17 #[.agg #[.int .i64 1, .int .i64 0, .int .i64 10, .string ⟨#[115]⟩]] w fun en w' => en = .returned (.string ⟨#[2, 0, 20, 1, 115]⟩) ∧ Old w w' := by
  have h := PutHello_any ⟨1, 0, 10, ⟨#[115]⟩⟩ [.int .i64 1, .int .i64 0, .int .i64 10, .string ⟨#[115]⟩] (fun _ => False) w ⟨rfl, small_i64 (by decide) (by decide), small_i64 (by decide) (by decide), small_i64 (by decide) (by decide), (by unfold Str; decide)⟩ (fun _ f => f.elim) (by rw [wex2]; decide)
  rw [wex2] at h
  exact h
theorem put_note_ex (w : World) : Calls Tryz.prog 18 #[.agg #[.int .i64 1, .int .i64 2, .int .i64 3, .int .i64 4, .int .i64 5, .int .i64 6]] w fun en w' => en = .returned (.string ⟨#[2, 4, 6, 8, 10, 12]⟩) ∧ Old w w' := by
  have h := PutNote_any ⟨1, 2, 3, 4, 5, 6⟩ [.int .i64 1, .int .i64 2, .int .i64 3, .int .i64 4, .int .i64 5, .int .i64 6] (fun _ => False) w ⟨rfl, small_i64 (by decide) (by decide), small_i64 (by decide) (by decide), small_i64 (by decide) (by decide), small_i64 (by decide) (by decide), small_i64 (by decide) (by decide), small_i64 (by decide) (by decide)⟩ (fun _ f => f.elim) (by rw [wex3]; decide)
  rw [wex3] at h
  exact h

set_option maxRecDepth 100000 in
theorem wawake_any (w : World) : Calls Tryz.prog 5 #[] w fun e w' => e = .returned (.bool true) ∧ Old w w' := by
  have hO0 := Old.refl w
  go_enter Tryz.func5, Tryz.ntmps5
  go_wp2_with fail
  refine (put_event_ex _).mono ?_
  rintro en w1 ⟨rfl, hO1⟩
  have hP1 := hO0.none hO1
  clear hO0 hO1
  go_wp2_with fail
  refine (get_event_ok _).mono ?_
  rintro en w2 ⟨rfl, hO2⟩
  have hP2 := hP1.none hO2
  clear hP1 hO2
  go_wp2_with fail
  refine (get_event_bad _).mono ?_
  rintro en w3 ⟨rfl, hO3⟩
  have hb3 : w3.heap[w2.heap.size]? = some (.cells #[.int .i64 3, .string ⟨#[47, 97]⟩, .int .i64 7] 46 (0, 0)) := by
    rw [hO3.block _ (by simp) id]; exact heap_alloc_new w2 _
  have hP3 := (hP2.alloc _).none hO3
  clear hP2 hO3
  go_wp2_with fail
  refine (put_hello_ex _).mono ?_
  rintro en w4 ⟨rfl, hO4⟩
  have hQ4 : Old w3 w4 := ((Old.refl w3).alloc _).none hO4
  have hb4 := (hQ4.block _ (lt_of_block hb3) id).trans hb3
  have hP4 := hP3.none hQ4
  clear hb3 hP3 hO4 hQ4
  go_wp2_with fail
  refine (put_note_ex _).mono ?_
  rintro en w5 ⟨rfl, hO5⟩
  have hb5 := (hO5.block _ (lt_of_block hb4) id).trans hb4
  have hP5 := hP4.none hO5
  clear hb4 hP4 hO5
  have c0 : w5.cell? ⟨w2.heap.size, 0, none⟩ = some (.int .i64 3) := by simp [World.cell?, hb5]
  have c1 : w5.cell? ⟨w2.heap.size, 1, none⟩ = some (.string ⟨#[47, 97]⟩) := by simp [World.cell?, hb5]
  have c2 : w5.cell? ⟨w2.heap.size, 2, none⟩ = some (.int .i64 7) := by simp [World.cell?, hb5]
  clear hb5
  go_wp2_with fail
  go_ret
  exact ⟨rfl, hP5⟩
end Go.Proofs.YtpmemcpfoapjmaaGreat

namespace Go.Proofs.YtpmemcpfoapjmaaGreat.wireMessages
open Go.ChangeShapes Go.WideShapes Go.ChangeAt Go.RowKit
set_option linter.unusedVariables false

theorem o_set {w w' : World} (h : Old w w') (b i : Nat) (v : Value) : Kept (fun j => j = b) w (w'.setCell ⟨b, i, none⟩ v) := Kept.setCell (S := fun j => j = b) (o_keptS h) (a := ⟨b, i, none⟩) (Or.inl rfl) v
theorem intE_flat {w : World} {ok : Nat → Prop} {cs : List Value} {x : Int} (h : intE w ok cs x) : Flat 1 cs := by
  rw [h.1]; exact ⟨rfl, by simp [Value.oneCell']⟩

theorem at_int {w : World} {ok : Nat → Prop} {v : Value} {l : List Int} (h : ListR intE w ok 1 v l) : ∀ i (hi : i < l.length), ∃ g off c, v = .slice (some ⟨g, off, none⟩) l.length c ∧ l.length ≤ c ∧ w.cell? ⟨g, off + i, none⟩ = some (.int .i64 l[i]) := by
  intro i hi
  obtain ⟨rows, ⟨A, c, rfl, hc, hm, hat⟩, hlen, hel⟩ := h
  rcases hat with h0 | ⟨g, off, rfl, hok, hg, hcell⟩
  · rw [h0.1] at hlen; simp at hlen; omega
  · refine ⟨g, off, c, by rw [hlen], by omega, ?_⟩
    have hi' : i < rows.length := by omega
    have he := hel i hi hi'
    have h1 : rows[i] = [.int .i64 l[i]] := he.1
    have h2 := (hcell i hi').2 0 (by simp [h1])
    simp only [h1, List.getElem_cons_zero, Nat.mul_one, Nat.add_zero] at h2
    exact h2
set_option maxRecDepth 100000 in
set_option maxHeartbeats 1600000 in
theorem walk0 (m : Message) (cm : List Value) (ok : Nat → Prop) (w : World) (hE : messageE w ok cm m) (hi : In w ok) (hm : (messageF.lay m).length ≤ 20000000) :
    Calls Tryz.prog 3 #[.agg cm.toArray] w fun e w' => e = .returned (.bool true) ∧ Old w w' := by
  have hsz0 : (Tryz.prog.info? 31).map (·.size) = some 19 := by kernel_rfl
  have HSM := Lib.hid (info_len hsz0 (messageE_flat hE).1)
  have HS0 := Lib.hid hsz0
  have HSI := Lib.hid (show (Tryz.prog.info? 22).map (·.size) = some 1 by kernel_rfl)
  clear hsz0
  have hflm := messageE_flat hE
  obtain ⟨s, hs⟩ : ∃ s : ByteArray, (⟨(messageF.lay m).toArray⟩ : ByteArray) = s := ⟨_, rfl⟩
  have hsl : s.data.toList = messageF.lay m := by rw [← hs]
  have hsz : s.size ≤ 140737488355328 := by rw [← str_len, hsl]; omega
  have HN := Lib.hid (msg_lens m)
  have hl1 := HN.out.1
  have hl2 := HN.out.2.1
  obtain ⟨vm, hvm, hMk⟩ := msg_marks hE
  obtain ⟨ve, hve, hEn⟩ := msg_entries hE
  obtain ⟨Am, nm, cmk, rfl⟩ := hMk.shape
  obtain ⟨Ae, ne, cme, rfl⟩ := hEn.shape
  have hnm := hMk.size_le'
  have hne := hEn.size_le'
  rw [hnm] at hl1
  rw [hne] at hl2
  have hcm1 := hMk.cap
  have hcm2 := hEn.cap
  unfold maxLen at hcm1 hcm2
  have HS := Lib.hid hs; clear hs hsl
  have HZ := Lib.hid hsz; clear hsz
  have HE := Lib.hid hE; clear hE
  have HX := Lib.hid hm
  have HFL := Lib.hid hflm; clear hflm
  have HVM := Lib.hid hvm; clear hvm
  have HVE := Lib.hid hve; clear hve
  have HMK := Lib.hid hMk; clear hMk
  have HEN := Lib.hid hEn; clear hEn
  have HIN := Lib.hid hi; clear hi
  have HNM := Lib.hid hnm
  have HNE := Lib.hid hne
  have HL12 := Lib.hid (show nm ≤ 20000000 ∧ ne ≤ 20000000 from ⟨by omega, by omega⟩)
  clear hl1 hl2 hnm hne hm
  obtain ⟨i0, hi0, hz0, hz1, hz2⟩ := info_parts info_num
  have HI0 := Lib.hid (And.intro hi0 (And.intro hz0 (And.intro hz1 hz2))); clear hi0 hz0 hz1 hz2
  go_enter Tryz.func3, Tryz.ntmps3
  go_wp2_with fail
  refine (wawake_any _).mono ?_
  rintro en w1 ⟨rfl, hO1⟩
  have hb0 : w1.heap[w.heap.size]? = some (.cells cm.toArray 31 (0, 0)) := (hO1.block _ (by simp) id).trans (heap_alloc_new w _)
  have hP1 : Old w w1 := ((Old.refl w).make _).none hO1
  have hlt1 : w.heap.size < w1.heap.size := lt_of_block hb0
  have HR0 := Lib.hid (range_row hb0)
  have hA3 : Old w1 (w1.alloc (.cells cm.toArray 31)) := (Old.refl _).make _
  have HBO := Lib.hid (heap_alloc_new w1 (.cells cm.toArray 31))
  have HB3 := Lib.hid ((hA3.block _ hlt1 id).trans hb0)
  have HO3 := Lib.hid (hP1.none hA3)
  have hz3 : w1.heap.size < (w1.alloc (.cells cm.toArray 31)).heap.size := by simp
  clear hb0 hP1 hO1 hA3
  go_wp2_with (first
    | (refine wpList_load_mid rfl 31 (.tmp 1) rfl w.heap.size 0 rfl cm _ HR0.out Tryz.underlying31 rfl HSM.out ?_)
    | (refine wpList_store_new w1 rfl 31 _ _ rfl _ cm rfl rfl HSM.out (by rw [HFL.out.1]; rfl) HFL.out.2 ?_))
  clear HR0
  generalize w1.alloc (.cells cm.toArray 31) = w3 at HBO HB3 HO3 hz3 ⊢
  obtain ⟨g4, hg4⟩ : ∃ g, w1.heap.size = g := ⟨_, rfl⟩
  rw [hg4] at HBO hlt1 hz3 ⊢
  clear hg4
  have HM3 := Lib.hid (ListR.keep intE_ok HMK.out HO3.out (disj_none _))
  have HIN3 := Lib.hid (show ∀ k, ok k → k < w3.heap.size from fun k hk => by have := HIN.out k hk; omega)
  simp only [Act.put]
  go_cut [] (fun wx => ∃ gm c5, More intE w3.heap.size ok wx 3 1 gm nm c5 m.marks 77 ∧ wx.heap[g4]? = some (.cells (cm.set 5 (.slice (some ⟨gm, 0, none⟩) nm c5)).toArray 31 (0, 0)) ∧ Kept (fun j => j = g4) w3 wx)
  case first =>
    have HSS := Lib.hid (show ∀ w', Kept (fun j => j = g4) w3 w' → w'.cell? ⟨w.heap.size, 5, none⟩ = some (.slice Am nm cmk) ∧ Kept (fun j => j = g4) w3 w' from fun w' hO => ⟨cell_of_heap ((hO.block _ (by omega) (by omega)).trans HB3.out) HVM.out, hO⟩)
    have hl12 := HL12.out
    go_region_held3 (fun w' => w'.cell? ⟨w.heap.size, 5, none⟩ = some (.slice Am nm cmk) ∧ Kept (fun j => j = g4) w3 w')
      (((try dsimp only); first | exact HSS.out _ (o_set (by assumption) _ _ _) | exact HSS.out _ (o_keptS (Old.drew (Old.refl _))) | exact HSS.out _ (o_keptS (by assumption)) | exact HSS.out _ (o_keptS (Old.drew (by assumption))) | exact HSS.out _ (o_keptS (Old.make (by assumption) _)) | exact HSS.out _ (o_keptS (Old.drew (Old.make (by assumption) _))) | exact HSS.out _ (o_keptS (Old.drew (Old.make (Old.refl _) _))) | exact HSS.out _ (o_keptS (Old.make (Old.refl _) _)) | exact HSS.out _ (o_keptS (Old.make (Old.drew (Old.refl _)) _))))
      (first
        | (refine step_one_more (w5 := w3) intE_ok h27 (by first | exact Old.refl _ | exact Old.drew (Old.refl _) | exact Old.make (Old.refl _) _ | exact Old.drew (Old.make (Old.refl _) _) | exact Old.make (Old.drew (Old.refl _)) _) (by first | assumption | exact Old.refl _ | exact Old.drew (Old.refl _) | exact Old.make (Old.refl _) _ | exact Old.drew (Old.make (Old.refl _) _) | exact Old.make (Old.drew (Old.refl _)) _ | exact Old.drew (by assumption) | exact Old.make (by assumption) _ | exact Old.drew (Old.make (by assumption) _)) HIN3.out hP27 (by first | exact heap_alloc_new _ _ | exact (hk27.block _ (by simp) id).trans (heap_alloc_new _ _)) (show intE w3 ok [.int .i64 77] 77 from ⟨rfl, i64_77⟩) ⟨rfl, by simp [Value.oneCell']⟩ (by rfl) _ _ _ (by rfl) (by rfl) (by rfl) i0 _ Tryz.underlying22 HI0.out.1 HI0.out.2.1 HI0.out.2.2.1 HI0.out.2.2.2 rfl (by decide) (by have := HNM.out; unfold maxLen; omega) (by have := HNM.out; omega) ?_; intro v30 w30 h30 hP30; obtain ⟨gm, c5, rfl, hmo⟩ := More.of h30; have hnc : nm ≤ c5 := (by have := hmo.room; have := HNM.out; omega); have c7 : w30.cell? ⟨g4, 5, none⟩ = some (.slice Am nm cmk) := cell_of_heap ((hP30.block _ (by omega) id).trans HBO.out) HVM.out; have f7 : w30.frozen? ⟨g4, 5, none⟩ = false := by simp [World.frozen?, (hP30.block _ (by omega) id).trans HBO.out])
        | (refine step_nil_list (w5 := w3) intE_ok HM3.out (by first | assumption | exact Old.refl _ | exact Old.drew (Old.refl _) | exact Old.make (Old.refl _) _ | exact Old.drew (Old.make (Old.refl _) _) | exact Old.make (Old.drew (Old.refl _)) _ | exact Old.drew (by assumption) | exact Old.make (by assumption) _ | exact Old.drew (Old.make (by assumption) _)) (fun h => intE_flat h) (by rfl) _ _ _ (by rfl) (by rfl) (by rfl) 3 i0 _ Tryz.underlying22 HI0.out.1 HI0.out.2.1 HI0.out.2.2.1 HI0.out.2.2.2 rfl (by decide) (by have := HNM.out; unfold maxLen; omega) (by have := HNM.out; omega) ?_; intro v27 w27 h27 hk27 hP27))
    all_goals go_wp2_with fail
    all_goals go_meet
    all_goals
      rw [HNM.out] at hmo
      refine ⟨gm, c5, hmo.keep intE_ok (o_set (Old.refl w30) g4 5 _) (fun j hj hj' => by have hj2 : j = g4 := hj'; omega) (fun j hj hj' => by have hj2 : j = g4 := hj'; have := HIN.out j hj; omega), ?_, o_set hP30 _ _ _⟩
      rw [setCell_row ((hP30.block _ (by omega) id).trans HBO.out)]
      exact setRow_heap _ _ _ _ _ _ ((hP30.block _ (by omega) id).trans HBO.out)
  case rest =>
  obtain ⟨gm, c5, hmo, hb4, hKc⟩ := hcut
  obtain ⟨wb, rfl⟩ : ∃ wb, wb = wc := ⟨_, rfl⟩
  have hzc : w3.heap.size ≤ wb.heap.size := hKc.size
  have hbc0 := (hKc.block _ (by omega) (by omega)).trans HB3.out
  have hOc : Old w wb := HO3.out.step hKc (fun k hk => by have hk' : k = g4 := hk; omega)
  obtain ⟨cm5, hcm5⟩ : ∃ c, cm.set 5 (.slice (some ⟨gm, 0, none⟩) nm c5) = c := ⟨_, rfl⟩
  rw [hcm5] at hb4
  have HCM5 := Lib.hid hcm5; clear hcm5
  have HMO := Lib.hid hmo; clear hmo
  have HB0 := Lib.hid hbc0; clear hbc0
  have HB4 := Lib.hid hb4; clear hb4
  have HOC := Lib.hid hOc; clear hOc
  have HENC := Lib.hid (ListR.keep entryE_ok HEN.out HOC.out (disj_none _))
  have HINC := Lib.hid (show ∀ k, ok k → k < wb.heap.size from fun k hk => by have := HIN.out k hk; omega)
  clear hKc HBO HB3 HO3 HM3 HIN3 HI0 i0
  obtain ⟨i1, hi1, hz4, hz5, hz6⟩ := info_parts info_entry
  have HI1 := Lib.hid (And.intro hi1 (And.intro hz4 (And.intro hz5 hz6))); clear hi1 hz4 hz5 hz6
  have HSE0 := Lib.hid (show (Tryz.prog.info? 38).map (·.size) = some 11 by kernel_rfl)
  have hzg : w.heap.size < g4 ∧ g4 < wb.heap.size ∧ g4 < w3.heap.size := ⟨by omega, by omega, by omega⟩
  have HZG := Lib.hid hzg; clear hzg hz3 hzc hlt1
  go_wp2_with fail
  go_loopw [5, 6] (fun acc iv wr => ∃ (k : Nat) (rows : List (List Value)), iv = .int .i64 (k : Nat) ∧ k ≤ ne ∧ Lents wb.heap.size ok wr acc 0 (m.entries.take k) rows [] ∧ Old wb wr) (fun _ iv _ => ne - (intOf iv).toNat)
  case atStart => exact ⟨0, [], rfl, Nat.zero_le _, by rw [List.take_zero]; exact Lents.nil _ _ _, Old.refl _⟩
  case round =>
    obtain ⟨k, rows, rfl, hk, hLr, hOr⟩ := hrel
    have hOw := HOC.out.none hOr
    have hbr := (hOr.block _ (by have := HZG.out; omega) id).trans HB0.out
    have cq := cell_of_heap hbr HVE.out
    by_cases hlt : k < ne
    · have hkl : (k : Int) < (ne : Int) := by omega
      have hkm : k < m.entries.length := by rw [HNE.out]; exact hlt
      obtain ⟨ge, off, c, r, hv, hcap, hgl, hgok, hrg, hEr⟩ := at_entry (ListR.keep entryE_ok HEN.out hOw (disj_none _)) k hkm
      simp only [Value.slice.injEq] at hv
      obtain ⟨rfl, _, rfl⟩ := hv
      have HRG := Lib.hid hrg
      have HLR := Lib.hid hLr
      have HOR := Lib.hid hOr
      have hfr := entryE_flat hEr
      have HFR := Lib.hid (info_len HSE0.out hfr.1)
      have hlay : (entryF.lay m.entries[k]).length ≤ 20000000 := by have := HN.out.2.2 _ (List.getElem_mem hkm); have := HX.out; omega
      have hel := entry_lens' m.entries[k]
      have HLE := Lib.hid (lent_entry m.entries[k] r ok wr hEr (HIN.out.kept hOw) (by omega) (by omega))
      have HTK := Lib.hid (List.take_succ_eq_append_getElem hkm)
      have HY := Lib.hid (show (m.entries.take k).length = k by rw [List.length_take]; omega)
      generalize m.entries[k] = y at HLE HTK
      have HLT := Lib.hid hlt
      clear hrg hLr hOr hEr hfr hlay hel hOw hbr
      go_wp2_with (refine wpList_load_mid rfl 38 (.tmp 35) rfl ge (off + k * 11) rfl r _ HRG.out Tryz.underlying38 rfl HFR.out ?_)
      refine HLE.out.mono ?_
      rintro en w2 ⟨co, ga, ca, gs, cc, rfl, hO2, hL⟩
      have hflo := hL.row.flat
      have HFO := Lib.hid hflo
      have HSO := Lib.hid (info_len HSE0.out hflo.1)
      have hAB : Old w2 ((w2.alloc (.cells co.toArray 38)).alloc (.cells co.toArray 38)) := ((Old.refl _).make _).make _
      have HRN := Lib.hid (range_new w2 co 38)
      have hB2 := heap_alloc_new (w2.alloc (.cells co.toArray 38)) (.cells co.toArray 38)
      obtain ⟨v', w', hr, hL', hK'⟩ := HLR.out.push (P := Tryz.prog) (W := (w2.alloc (.cells co.toArray 38)).alloc (.cells co.toArray 38)) (hO2.none hAB) HOR.out.size HINC.out (hL.keepTo hAB id id (disj_none _)) hB2 (c := 1) 23 23 i1 _ Tryz.underlying23 HI1.out.1 HI1.out.2.1 HI1.out.2.2.1 HI1.out.2.2.2 rfl (by have := HY.out; have := HL12.out; unfold maxLen; omega) (by have := HY.out; have := HL12.out; omega)
      have HR := Lib.hid hr
      have HL' := Lib.hid hL'
      have hzr := HOR.out.size
      have HO' := Lib.hid (show Old wb w' from (HOR.out.none (hO2.none hAB)).step hK' (fun j hj => by
        rcases HLR.out.block with h0 | ⟨g, cur, h0, hbg, _⟩
        · rw [h0] at hj; simp at hj
        · rw [h0] at hj; simp only [Option.some.injEq] at hj; omega))
      clear hr hL' hK' hB2 hAB hL hO2 hflo hzr HLE HRG HFR
      go_wp2_with (first
        | (refine wpList_store_new w2 rfl 38 _ _ rfl _ co rfl rfl HSO.out (by rw [HFO.out.1]; rfl) HFO.out.2 ?_)
        | (refine wpList_load_mid rfl 38 (.tmp 7) rfl w2.heap.size 0 rfl co _ HRN.out Tryz.underlying38 rfl HSO.out ?_)
        | (refine wpList_one rfl 23 38 (.tmp 39) rfl (.agg co.toArray) co rfl rfl i1 _ Tryz.underlying23 HI1.out.1 HI1.out.2.1 (by rw [HFO.out.1]; exact HI1.out.2.2.1) (by rw [HFO.out.1]; decide) (by rw [HFO.out.1]; decide) ?_)
        | (refine wpList_append_run rfl (.tmp 38) (.tmp 40) 23 rfl _ _ (by rfl) (by rfl) v' w' HR.out ?_))
      go_roundw
      case rel => exact ⟨k + 1, rows ++ [co], by go_num, HLT.out, by rw [HTK.out]; exact HL'.out, HO'.out⟩
      case measure => have h := HLT.out; simp [intOf]; omega
    · have hkl : ¬ (k : Int) < (ne : Int) := by omega
      have hke : k = ne := by omega
      rw [List.take_of_length_le (by rw [HNE.out]; omega)] at hLr
      have hb4q := (hOr.block _ (by have := HZG.out; omega) id).trans HB4.out
      have hc5q : cm5[7]? = some (.slice Ae ne cme) := by rw [← HCM5.out, List.getElem?_set_ne (by decide)]; exact HVE.out
      have HLQ := Lib.hid hLr
      have HOQ := Lib.hid hOr
      have HBQ := Lib.hid hbr
      have HB4Q := Lib.hid hb4q
      have HC5Q := Lib.hid hc5q
      clear hLr hOr hbr hb4q hc5q hOw hke hk hlt
      go_wp2_with fail
      clear cq hkl
      go_cut [] (fun wx => ∃ gl cl, Lents wb.heap.size ok wx (.slice (some ⟨gl, 0, none⟩) (ne + 1) cl) 0 m.entries rows [cells77] ∧ ne + 1 ≤ cl ∧ cl ≤ maxLen ∧ wx.heap[g4]? = some (.cells (cm5.set 7 (.slice (some ⟨gl, 0, none⟩) ne cl)).toArray 31 (0, 0)) ∧ Kept (fun j => wb.heap.size ≤ j ∨ j = g4) wr wx)
      case first =>
        have HSS := Lib.hid (show ∀ w', Kept (fun j => wb.heap.size ≤ j ∨ j = g4) wr w' → w'.cell? ⟨w.heap.size, 7, none⟩ = some (.slice Ae ne cme) ∧ Kept (fun j => wb.heap.size ≤ j ∨ j = g4) wr w' from fun w' hO => ⟨cell_of_heap ((hO.block _ (lt_of_block HBQ.out) (fun hs => by have := HZG.out; rcases hs with hs | hs <;> omega)).trans HBQ.out) HVE.out, hO⟩)
        have hl12 := HL12.out
        go_region_held3 (fun w' => w'.cell? ⟨w.heap.size, 7, none⟩ = some (.slice Ae ne cme) ∧ Kept (fun j => wb.heap.size ≤ j ∨ j = g4) wr w')
          (((try dsimp only); first | exact HSS.out _ (k_set (by assumption)) | exact HSS.out _ (by assumption) | exact HSS.out _ (Kept.drew (by assumption)) | exact HSS.out _ (o_keptS (Old.drew (Old.refl _))) | exact HSS.out _ (o_keptS (Old.drew (Old.make (Old.refl _) _))) | exact HSS.out _ (o_keptS (Old.make (Old.refl _) _)) | exact HSS.out _ (o_keptS (Old.make (Old.drew (Old.refl _)) _))))
          (first
            | (refine step_behind (wA := wr) HLQ.out (by first | exact Old.refl _ | exact Old.drew (Old.refl _) | exact Old.make (Old.refl _) _ | exact Old.drew (Old.make (Old.refl _) _) | exact Old.make (Old.drew (Old.refl _)) _) HOQ.out.size HINC.out (by first | exact heap_alloc_new _ _) (by rfl) _ _ 23 (by rfl) (by rfl) (by rfl) i1 _ Tryz.underlying23 HI1.out.1 HI1.out.2.1 HI1.out.2.2.1 HI1.out.2.2.2 rfl (by have := HNE.out; unfold maxLen; omega) (by have := HNE.out; omega) ?_; intro v30 w30 h30 hk30; have hP30 : Kept (fun j => wb.heap.size ≤ j ∨ j = g4) wr w30 := hk30.mono (fun _ _ h => Or.inl h); have hb30 := (hk30.block g4 (lt_of_block HB4Q.out) (by have := HZG.out; omega)).trans HB4Q.out; obtain ⟨gl, cl, rfl, hcl, hcl2, hgl1, hgl2⟩ := h30.form; have hnc : ne ≤ cl := (by have := HNE.out; omega); have c7 : w30.cell? ⟨g4, 7, none⟩ = some (.slice Ae ne cme) := cell_of_heap hb30 HC5Q.out; have f7 : w30.frozen? ⟨g4, 7, none⟩ = false := by simp [World.frozen?, hb30]))
        all_goals go_wp2_with fail
        all_goals go_meet
        all_goals
          rw [HNE.out] at h30
          refine ⟨gl, cl, h30.keepBox (by have := HZG.out; omega) HINC.out (fun hg => by have := HIN.out g4 hg; have := HZG.out; omega) hb30 (Kept.setCell (S := fun j => j = g4) (Kept.refl _ w30) (a := ⟨g4, 7, none⟩) (Or.inl rfl) _), by have := HNE.out; omega, hcl2, ?_, k_set hP30⟩
          rw [setCell_row hb30]
          exact setRow_heap _ _ _ _ _ _ hb30
      case rest =>
      obtain ⟨gl, cl, hLx, hcl, hclm, hb4x, hKx⟩ := hcut
      obtain ⟨wx, rfl⟩ : ∃ wx, wx = wc := ⟨_, rfl⟩
      have hzq := HOQ.out.size
      have hOx : Old w wx := (HOC.out.none HOQ.out).step hKx (fun j hj => by have := HZG.out; have := HOC.out.size; rcases hj with hj | hj <;> omega)
      have hbx : wx.heap[w.heap.size]? = some (.cells cm.toArray 31 (0, 0)) := (hKx.block _ (lt_of_block HBQ.out) (fun hs => by have := HZG.out; have := HOC.out.size; rcases hs with hs | hs <;> omega)).trans HBQ.out
      have hmx : More intE w3.heap.size ok wx 3 1 gm nm c5 m.marks 77 := (HMO.out.keepTo intE_ok HOQ.out id (disj_none _)).keepTo intE_ok hKx (fun hs => by have h1 := HMO.out.lt; have h2 := HMO.out.blk.1; have := HZG.out; rcases hs with hs | hs <;> omega) (fun j hj hs => by have := HIN.out j hj; have := HZG.out; rcases hs with hs | hs <;> omega)
      have hex : More entryE wb.heap.size (fun k => ok k ∨ wb.heap.size ≤ k) wx 38 11 gl ne cl m.entries entry77 := by
        obtain ⟨g, c, hv, h⟩ := hLx.more (ListR.keep entryE_ok HEN.out hOx (disj_none _))
        rw [HNE.out] at hv h
        simp only [Value.slice.injEq, Option.some.injEq, Addr.mk.injEq, and_true, true_and] at hv
        rw [hv.1, hv.2]
        exact h
      obtain ⟨co, hco⟩ : ∃ c, cm5.set 7 (.slice (some ⟨gl, 0, none⟩) ne cl) = c := ⟨_, rfl⟩
      rw [hco] at hb4x
      have hMx : messageE wx (fun k => k < wx.heap.size) co m := by
        rw [← hco, ← HCM5.out]
        exact messageE_ents (messageE_marks (messageE_ok.keep HE.out hOx (disj_none _)) (fun k hk _ => hk) ((hmx.list intE_ok).mono intE_ok (fun k hk _ => hk))) (fun k hk _ => hk) ((hex.list entryE_ok).mono entryE_ok (fun k hk _ => hk))
      have hc5 : co[5]? = some (.slice (some ⟨gm, 0, none⟩) nm c5) := by
        have h19 : 5 < cm.length := by rw [HFL.out.1]; decide
        rw [← hco, ← HCM5.out, List.getElem?_set_ne (by decide)]
        simp [h19]
      have hc7 : co[7]? = some (.slice (some ⟨gl, 0, none⟩) ne cl) := by
        have h19 : 7 < cm.length := by rw [HFL.out.1]; decide
        rw [← hco, ← HCM5.out]
        simp [h19]
      have HSO := Lib.hid (info_len HS0.out (messageE_flat hMx).1)
      have HRO := Lib.hid (range_row hb4x)
      have HPM := Lib.hid (PutMessage_any m co _ wx hMx (fun k hk => hk) (by have := HX.out; omega))
      have HC5 := Lib.hid hc5
      have HC7 := Lib.hid hc7
      have HLX := Lib.hid hLx
      have HB4X := Lib.hid hb4x
      have HBX := Lib.hid hbx
      have HMX := Lib.hid hmx
      have HEX := Lib.hid hex
      have HOX := Lib.hid hOx
      clear hLx hb4x hKx hOx hbx hmx hex hco hMx hc5 hc7 HC5Q HB4Q HBQ HOQ HLQ HMO HCM5 HI1 i1 hzq
      go_wp2_with (refine wpList_load_mid rfl 31 (.tmp 4) rfl g4 0 rfl co _ HRO.out Tryz.underlying31 rfl HSO.out ?_)
      refine HPM.out.mono ?_
      rintro en w4 ⟨he4, hO4⟩
      rw [HS.out] at he4
      subst he4
      have hbx := (hO4.block _ (lt_of_block HBX.out) id).trans HBX.out
      have hb4 := (hO4.block _ (lt_of_block HB4X.out) id).trans HB4X.out
      have hm4 := HMX.out.keepTo intE_ok hO4 id (disj_none _)
      have h77m := hm4.behind (cs := [.int .i64 77]) (fun w ok cs' h => by rw [h.1]) rfl (by decide)
      have h77e := (HEX.out.keepTo entryE_ok hO4 id (disj_none _)).behind (cs := cells77) (fun w ok cs' h => by obtain ⟨_, rfl, _⟩ := h; rfl) rfl (by decide)
      rw [Nat.mul_one] at h77m
      have hmc := hm4.room
      have hmm := hm4.max
      unfold maxLen at hmm hclm
      have HO4 := Lib.hid (HOX.out.none hO4)
      have HL4 := Lib.hid (HLX.out.old hO4)
      have HM4 := Lib.hid hm4
      have HB0X := Lib.hid hbx
      have HB44 := Lib.hid hb4
      clear hm4 hO4 HPM HRO HLX HB4X HBX HMX HEX HOX
      have HSS := Lib.hid (show ∀ w', Old w4 w' → w'.cell? ⟨w.heap.size, 5, none⟩ = some (.slice Am nm cmk) ∧ w'.cell? ⟨w.heap.size, 7, none⟩ = some (.slice Ae ne cme) ∧ w'.cell? ⟨g4, 5, none⟩ = some (.slice (some ⟨gm, 0, none⟩) nm c5) ∧ w'.cell? ⟨g4, 7, none⟩ = some (.slice (some ⟨gl, 0, none⟩) ne cl) ∧ w'.cell? ⟨gm, nm, none⟩ = some (.int .i64 77) ∧ w'.cell? ⟨gl, ne * 11, none⟩ = some (.int .i64 77) ∧ Old w4 w' from fun w' hO =>
        ⟨cell_of_heap ((hO.block _ (lt_of_block hbx) id).trans hbx) HVM.out, cell_of_heap ((hO.block _ (lt_of_block hbx) id).trans hbx) HVE.out, cell_of_heap ((hO.block _ (lt_of_block hb4) id).trans hb4) HC5.out, cell_of_heap ((hO.block _ (lt_of_block hb4) id).trans hb4) HC7.out, Old.cell hO h77m, Old.cell hO h77e, hO⟩)
      clear hbx hb4 h77m h77e
      go_wp2_with fail
      go_cut [9] (fun v wx => v = .bool true ∧ Old w4 wx)
      case first =>
        have hl12 := HL12.out
        have hsl1 : (nm : Int) + 1 ≤ (c5 : Int) := by omega
        have hsl2 : (ne : Int) + 1 ≤ (cl : Int) := by omega
        have hsl3 : (0 : Int) ≤ (nm : Int) + 1 := by omega
        have hsl4 : (0 : Int) ≤ (ne : Int) + 1 := by omega
        have hsl5 : (nm : Int) < (nm : Int) + 1 := by omega
        have hsl6 : (ne : Int) < (ne : Int) + 1 := by omega
        have hsl7 : (0 : Int) ≤ (nm : Int) := by omega
        have hsl8 : (0 : Int) ≤ (ne : Int) := by omega
        have hx1 := IntWalk.i64_in ((nm : Int) + 1) (by omega)
        have hx2 := IntWalk.i64_in ((ne : Int) + 1) (by omega)
        have hy1 : ((nm : Int) + 1).toNat = nm + 1 := by omega
        have hy2 : ((ne : Int) + 1).toNat = ne + 1 := by omega
        go_region_held3 (fun w' => w'.cell? ⟨w.heap.size, 5, none⟩ = some (.slice Am nm cmk) ∧ w'.cell? ⟨w.heap.size, 7, none⟩ = some (.slice Ae ne cme) ∧ w'.cell? ⟨g4, 5, none⟩ = some (.slice (some ⟨gm, 0, none⟩) nm c5) ∧ w'.cell? ⟨g4, 7, none⟩ = some (.slice (some ⟨gl, 0, none⟩) ne cl) ∧ w'.cell? ⟨gm, nm, none⟩ = some (.int .i64 77) ∧ w'.cell? ⟨gl, ne * 11, none⟩ = some (.int .i64 77) ∧ Old w4 w')
          (((try dsimp only); first | exact HSS.out _ (Old.drew (Old.refl _)) | exact HSS.out _ (by assumption) | exact HSS.out _ (Old.drew (by assumption))))
          (fail)
        all_goals go_wp2_with fail
        all_goals go_meet
        all_goals exact ⟨rfl, by first | assumption | exact Old.drew (Old.refl _)⟩
      case rest =>
      obtain ⟨rfl, hOy⟩ := hcut
      obtain ⟨wy, rfl⟩ : ∃ wy, wy = wc := ⟨_, rfl⟩
      have HOY := Lib.hid (HO4.out.none hOy)
      have HLY := Lib.hid (HL4.out.old hOy)
      have HMY := Lib.hid (HM4.out.keepTo intE_ok hOy id (disj_none _))
      have HBY := Lib.hid ((hOy.block _ (lt_of_block HB0X.out) id).trans HB0X.out)
      have HB4Y := Lib.hid ((hOy.block _ (lt_of_block HB44.out) id).trans HB44.out)
      clear HSS HO4 HL4 HM4 HB0X HB44 hOy
      go_wp2_with fail
      go_loopw [9, 10] (fun bv iv wr => ∃ k : Nat, bv = .bool true ∧ iv = .int .i64 (k : Nat) ∧ k ≤ nm ∧ Old wy wr) (fun _ iv _ => nm - (intOf iv).toNat)
      case atStart => exact ⟨0, rfl, rfl, Nat.zero_le _, Old.refl _⟩
      case round =>
        obtain ⟨k, rfl, rfl, hk, hOr⟩ := hrel
        obtain ⟨wz, rfl⟩ : ∃ wz, wz = wr := ⟨_, rfl⟩
        have hbr := (hOr.block _ (lt_of_block HBY.out) id).trans HBY.out
        have hb4r := (hOr.block _ (lt_of_block HB4Y.out) id).trans HB4Y.out
        have cq := cell_of_heap hbr HVM.out
        by_cases hlt : k < nm
        · have hkl : (k : Int) < (nm : Int) := by omega
          have hkm : k < m.marks.length := by rw [HNM.out]; exact hlt
          obtain ⟨ga, offa, ca, hva, hca, hcella⟩ := at_int (ListR.keep intE_ok HMK.out (HOY.out.none hOr) (disj_none _)) k hkm
          obtain ⟨gb, offb, cb, hvb, hcb, hcellb⟩ := at_int ((HMY.out.keepTo intE_ok hOr id (disj_none _)).list intE_ok) k hkm
          generalize m.marks[k] = x at hcella hcellb
          simp only [Value.slice.injEq] at hva
          obtain ⟨rfl, _, rfl⟩ := hva
          simp only [Value.slice.injEq, Option.some.injEq, Addr.mk.injEq, and_true] at hvb
          have hcellb : wz.cell? ⟨gm, k, none⟩ = some (.int .i64 x) := by rw [hvb.1.1]; rw [← hvb.1.2, Nat.zero_add] at hcellb; exact hcellb
          have HSS := Lib.hid (show ∀ w', Old wz w' → w'.cell? ⟨w.heap.size, 5, none⟩ = some (.slice (some ⟨ga, offa, none⟩) nm cmk) ∧ w'.cell? ⟨g4, 5, none⟩ = some (.slice (some ⟨gm, 0, none⟩) nm c5) ∧ w'.cell? ⟨ga, offa + k, none⟩ = some (.int .i64 x) ∧ w'.cell? ⟨gm, k, none⟩ = some (.int .i64 x) ∧ Old wz w' from fun w' hO =>
            ⟨cell_of_heap ((hO.block _ (lt_of_block hbr) id).trans hbr) HVM.out, cell_of_heap ((hO.block _ (lt_of_block hb4r) id).trans hb4r) HC5.out, Old.cell hO hcella, Old.cell hO hcellb, hO⟩)
          have HLT := Lib.hid hlt
          have HOR := Lib.hid hOr
          have hkl2 : (0 : Int) ≤ (k : Int) := by omega
          clear hbr hb4r hcella hcellb hvb hcb hca hkm hk hlt hOr
          go_wp2_with fail
          clear cq
          go_region_held3 (fun w' => w'.cell? ⟨w.heap.size, 5, none⟩ = some (.slice (some ⟨ga, offa, none⟩) nm cmk) ∧ w'.cell? ⟨g4, 5, none⟩ = some (.slice (some ⟨gm, 0, none⟩) nm c5) ∧ w'.cell? ⟨ga, offa + k, none⟩ = some (.int .i64 x) ∧ w'.cell? ⟨gm, k, none⟩ = some (.int .i64 x) ∧ Old wz w')
            (((try dsimp only); first | exact HSS.out _ (Old.drew (Old.refl _)) | exact HSS.out _ (by assumption) | exact HSS.out _ (Old.drew (by assumption))))
            (fail)
          all_goals go_wp2_with fail
          all_goals go_roundw
          all_goals first
            | exact ⟨k + 1, rfl, by go_num, HLT.out, HOR.out.none (by first | assumption | exact Old.drew (Old.refl _))⟩
            | (have h := HLT.out; simp [intOf]; omega)
        · have hkl : ¬ (k : Int) < (nm : Int) := by omega
          have HLZ := Lib.hid (HLY.out.old hOr)
          have HBZ := Lib.hid hbr
          have HB4Z := Lib.hid hb4r
          have HOZ := Lib.hid (HOY.out.none hOr)
          clear hbr hb4r hOr hk hlt
          go_wp2_with fail
          clear cq hkl
          go_loopw [9, 11] (fun bv iv wr => ∃ k : Nat, bv = .bool true ∧ iv = .int .i64 (k : Nat) ∧ k ≤ ne ∧ Lents wb.heap.size ok wr (.slice (some ⟨gl, 0, none⟩) (ne + 1) cl) k m.entries rows [cells77] ∧ Kept (fun j => wb.heap.size ≤ j) wz wr) (fun _ iv _ => ne - (intOf iv).toNat)
          case atStart => exact ⟨0, rfl, rfl, Nat.zero_le _, HLZ.out, Kept.refl _ _⟩
          case round =>
            obtain ⟨k, rfl, rfl, hk, hLq, hKq⟩ := hrel
            obtain ⟨wq, rfl⟩ : ∃ wq, wq = wr := ⟨_, rfl⟩
            have hbq := (hKq.block _ (lt_of_block HBZ.out) (by have := HZG.out; omega)).trans HBZ.out
            have hb4q := (hKq.block _ (lt_of_block HB4Z.out) (by have := HZG.out; omega)).trans HB4Z.out
            have cq := cell_of_heap hbq HVE.out
            have hOq : Old w wq := HOZ.out.step hKq (fun j hj => by have := HOC.out.size; have hj' : wb.heap.size ≤ j := hj; omega)
            by_cases hlt : k < ne
            · have hkl : (k : Int) < (ne : Int) := by omega
              have hkl2 : (0 : Int) ≤ (k : Int) := by omega
              have hkm : k < m.entries.length := by rw [HNE.out]; exact hlt
              have hkr : k < rows.length := by rw [hLq.len]; exact hkm
              obtain ⟨ge, off, c, r, hv, hcap, hgl, hgok, hrg, hEr⟩ := at_entry (ListR.keep entryE_ok HEN.out hOq (disj_none _)) k hkm
              simp only [Value.slice.injEq] at hv
              obtain ⟨rfl, _, rfl⟩ := hv
              have hlay : (entryF.lay m.entries[k]).length ≤ 20000000 := by have := HN.out.2.2 _ (List.getElem_mem hkm); have := HX.out; omega
              have hro : ∀ w' k', Lents wb.heap.size ok w' (.slice (some ⟨gl, 0, none⟩) (ne + 1) cl) k' m.entries rows [cells77] → w'.rangeAt gl (k * 11) rows[k] := fun w' k' h => by
                have h1 := h.range rfl (i := k) (by rw [List.length_append]; omega)
                rwa [List.getElem_append_left hkr] at h1
              have hkk := fun W (h : Old wq W) => (Lents.old hLq h).kept hkm hkr HINC.out (entryE_ok.keep hEr h (disj_none _)) hlay
              obtain ⟨c1, c2, hLA⟩ := hLq.at_ k hkm hkr (Nat.le_refl _)
              have hrow := hLA.cells
              obtain ⟨A1, n1, c3, A2, n2, c4, hre⟩ := entryE_cells hEr
              clear hLA hlay hEr
              generalize blkOf rows[k] 6 = ba at hrow
              generalize blkOf rows[k] 10 = bs at hrow
              generalize rows[k] = co at hro hkk hrow
              generalize m.entries[k] = y at hrow hre
              subst hrow hre
              have hge : ge < wb.heap.size := HINC.out ge hgok
              have HSA := Lib.hid (show ∀ w' k', Lents wb.heap.size ok w' (.slice (some ⟨gl, 0, none⟩) (ne + 1) cl) k' m.entries rows [cells77] → Kept (fun j => wb.heap.size ≤ j) wq w' → w'.cell? ⟨w.heap.size, 7, none⟩ = some (.slice (some ⟨ge, off, none⟩) ne cme) ∧ w'.cell? ⟨g4, 7, none⟩ = some (.slice (some ⟨gl, 0, none⟩) ne cl) ∧ w'.cell? ⟨gl, k * 11, none⟩ = some (Value.int .i64 y.zxid) ∧ w'.cell? ⟨gl, k * 11 + 1, none⟩ = some (Value.int .i64 y.session) ∧ w'.cell? ⟨gl, k * 11 + 2, none⟩ = some (Value.int .i64 y.xid) ∧ w'.cell? ⟨gl, k * 11 + 3, none⟩ = some (Value.int .i64 y.txn.part.kind) ∧ w'.cell? ⟨gl, k * 11 + 4, none⟩ = some (Value.string y.txn.part.path) ∧ w'.cell? ⟨gl, k * 11 + 5, none⟩ = some (Value.string y.txn.part.data) ∧ w'.cell? ⟨gl, k * 11 + 6, none⟩ = some (Value.slice (some ⟨ba, 0, none⟩) y.txn.part.acl.length c1) ∧ w'.cell? ⟨gl, k * 11 + 7, none⟩ = some (Value.int .i64 y.txn.part.owner) ∧ w'.cell? ⟨gl, k * 11 + 8, none⟩ = some (Value.int .i64 y.txn.part.number) ∧ w'.cell? ⟨gl, k * 11 + 9, none⟩ = some (Value.int .i64 y.txn.part.err) ∧ w'.cell? ⟨gl, k * 11 + 10, none⟩ = some (Value.slice (some ⟨bs, 0, none⟩) y.txn.subs.length c2) ∧ w'.cell? ⟨ge, off + k * 11, none⟩ = some (Value.int .i64 y.zxid) ∧ w'.cell? ⟨ge, off + k * 11 + 1, none⟩ = some (Value.int .i64 y.session) ∧ w'.cell? ⟨ge, off + k * 11 + 2, none⟩ = some (Value.int .i64 y.xid) ∧ w'.cell? ⟨ge, off + k * 11 + 3, none⟩ = some (Value.int .i64 y.txn.part.kind) ∧ w'.cell? ⟨ge, off + k * 11 + 4, none⟩ = some (Value.string y.txn.part.path) ∧ w'.cell? ⟨ge, off + k * 11 + 5, none⟩ = some (Value.string y.txn.part.data) ∧ w'.cell? ⟨ge, off + k * 11 + 6, none⟩ = some (Value.slice A1 n1 c3) ∧ w'.cell? ⟨ge, off + k * 11 + 7, none⟩ = some (Value.int .i64 y.txn.part.owner) ∧ w'.cell? ⟨ge, off + k * 11 + 8, none⟩ = some (Value.int .i64 y.txn.part.number) ∧ w'.cell? ⟨ge, off + k * 11 + 9, none⟩ = some (Value.int .i64 y.txn.part.err) ∧ w'.cell? ⟨ge, off + k * 11 + 10, none⟩ = some (Value.slice A2 n2 c4) ∧ Kept (fun j => wb.heap.size ≤ j) wq w' from fun w' k' h hK => by
                have ho := hro w' k' h
                have he : w'.rangeAt ge (off + k * 11) _ := fun j v hv => (World.cell?_of_block (a := ⟨ge, off + k * 11 + j, none⟩) (hK.block ge hgl (fun hs => by have hs' : wb.heap.size ≤ ge := hs; omega))).trans (hrg j v hv)
                exact ⟨cell_of_heap ((hK.block _ (lt_of_block hbq) (by have := HZG.out; omega)).trans hbq) HVE.out, cell_of_heap ((hK.block _ (lt_of_block hb4q) (by have := HZG.out; omega)).trans hb4q) HC7.out, ho 0 _ rfl, ho 1 _ rfl, ho 2 _ rfl, ho 3 _ rfl, ho 4 _ rfl, ho 5 _ rfl, ho 6 _ rfl, ho 7 _ rfl, ho 8 _ rfl, ho 9 _ rfl, ho 10 _ rfl, he 0 _ rfl, he 1 _ rfl, he 2 _ rfl, he 3 _ rfl, he 4 _ rfl, he 5 _ rfl, he 6 _ rfl, he 7 _ rfl, he 8 _ rfl, he 9 _ rfl, he 10 _ rfl, hK⟩)
              have HKK := Lib.hid hkk
              have HLQ := Lib.hid hLq
              have HKQ := Lib.hid hKq
              have HLT := Lib.hid hlt
              clear hkk hLq hKq hlt hro hrg hbq hb4q hOq hge hgl hgok hcap hkm hkr hk
              go_wp2_with fail
              clear cq
              go_cut [12] (fun v wx => v = .bool true ∧ Lents wb.heap.size ok wx (.slice (some ⟨gl, 0, none⟩) (ne + 1) cl) (k + 1) m.entries rows [cells77] ∧ Kept (fun j => wb.heap.size ≤ j) wq wx)
              case first =>
                go_region_held3 (fun w' => w'.cell? ⟨w.heap.size, 7, none⟩ = some (.slice (some ⟨ge, off, none⟩) ne cme) ∧ w'.cell? ⟨g4, 7, none⟩ = some (.slice (some ⟨gl, 0, none⟩) ne cl) ∧ w'.cell? ⟨gl, k * 11, none⟩ = some (Value.int .i64 y.zxid) ∧ w'.cell? ⟨gl, k * 11 + 1, none⟩ = some (Value.int .i64 y.session) ∧ w'.cell? ⟨gl, k * 11 + 2, none⟩ = some (Value.int .i64 y.xid) ∧ w'.cell? ⟨gl, k * 11 + 3, none⟩ = some (Value.int .i64 y.txn.part.kind) ∧ w'.cell? ⟨gl, k * 11 + 4, none⟩ = some (Value.string y.txn.part.path) ∧ w'.cell? ⟨gl, k * 11 + 5, none⟩ = some (Value.string y.txn.part.data) ∧ w'.cell? ⟨gl, k * 11 + 6, none⟩ = some (Value.slice (some ⟨ba, 0, none⟩) y.txn.part.acl.length c1) ∧ w'.cell? ⟨gl, k * 11 + 7, none⟩ = some (Value.int .i64 y.txn.part.owner) ∧ w'.cell? ⟨gl, k * 11 + 8, none⟩ = some (Value.int .i64 y.txn.part.number) ∧ w'.cell? ⟨gl, k * 11 + 9, none⟩ = some (Value.int .i64 y.txn.part.err) ∧ w'.cell? ⟨gl, k * 11 + 10, none⟩ = some (Value.slice (some ⟨bs, 0, none⟩) y.txn.subs.length c2) ∧ w'.cell? ⟨ge, off + k * 11, none⟩ = some (Value.int .i64 y.zxid) ∧ w'.cell? ⟨ge, off + k * 11 + 1, none⟩ = some (Value.int .i64 y.session) ∧ w'.cell? ⟨ge, off + k * 11 + 2, none⟩ = some (Value.int .i64 y.xid) ∧ w'.cell? ⟨ge, off + k * 11 + 3, none⟩ = some (Value.int .i64 y.txn.part.kind) ∧ w'.cell? ⟨ge, off + k * 11 + 4, none⟩ = some (Value.string y.txn.part.path) ∧ w'.cell? ⟨ge, off + k * 11 + 5, none⟩ = some (Value.string y.txn.part.data) ∧ w'.cell? ⟨ge, off + k * 11 + 6, none⟩ = some (Value.slice A1 n1 c3) ∧ w'.cell? ⟨ge, off + k * 11 + 7, none⟩ = some (Value.int .i64 y.txn.part.owner) ∧ w'.cell? ⟨ge, off + k * 11 + 8, none⟩ = some (Value.int .i64 y.txn.part.number) ∧ w'.cell? ⟨ge, off + k * 11 + 9, none⟩ = some (Value.int .i64 y.txn.part.err) ∧ w'.cell? ⟨ge, off + k * 11 + 10, none⟩ = some (Value.slice A2 n2 c4) ∧ Kept (fun j => wb.heap.size ≤ j) wq w')
                  (((try dsimp only); first | exact HSA.out _ _ (by assumption) (by assumption) | exact HSA.out _ _ (HLQ.out.old (Old.drew (Old.refl _))) (o_keptS (Old.drew (Old.refl _)))))
                  (first
                    | (go_at_call 8; go_split_ands; (with_reducible refine (HKK.out _ (by first | exact Old.drew (Old.refl _) | exact Old.refl _)).mono ?_); rintro en w9 ⟨rfl, hL9, hK9⟩; have hQ9 : Kept (fun j => wb.heap.size ≤ j) wq w9 := (o_keptS (by first | exact Old.drew (Old.refl _) | exact Old.refl _)).trans hK9; clear hK9))
                all_goals go_wp2_with fail
                all_goals go_meet
                all_goals exact ⟨rfl, by assumption, by assumption⟩
              case rest =>
              obtain ⟨rfl, hL5, hK5⟩ := hcut
              have HL5 := Lib.hid hL5
              have HK5 := Lib.hid (HKQ.out.trans hK5)
              clear HSA HKK HLQ HKQ hL5 hK5
              go_wp2_with fail
              go_roundw
              case rel => exact ⟨k + 1, rfl, by go_num, HLT.out, HL5.out, HK5.out⟩
              case measure => have h := HLT.out; simp [intOf]; omega
            · have hkl : ¬ (k : Int) < (ne : Int) := by omega
              have hRG := range_row hbq
              have HRG := Lib.hid hRG
              have HPR := Lib.hid (refput_message m cm ok wq (messageE_ok.keep HE.out hOq (disj_none _)) (by have := HX.out; omega))
              have HOQ := Lib.hid hOq
              clear hRG hLq hKq hbq hb4q hOq hk hlt
              go_wp2_with (refine wpList_load_guarded rfl 31 (.tmp 1) rfl w.heap.size 0 rfl cm _ HRG.out Tryz.underlying31 rfl HSM.out ?_)
              refine HPR.out.mono ?_
              rintro en w6 ⟨he6, hO6⟩
              rw [HS.out] at he6
              subst he6
              have HO6 := Lib.hid (HOQ.out.none hO6)
              clear hO6 HPR HRG HOQ
              go_wp2_with fail
              refine (law_message s _ HZ.out).mono ?_
              rintro en w7 ⟨rfl, hO7⟩
              have HO7 := Lib.hid (HO6.out.none hO7)
              clear hO7
              go_wp2_with fail
              go_ret
              exact ⟨rfl, HO7.out⟩
end Go.Proofs.YtpmemcpfoapjmaaGreat.wireMessages
