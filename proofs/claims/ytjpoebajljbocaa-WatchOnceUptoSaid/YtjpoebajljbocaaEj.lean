/- awake. -/
import Derived.Test.YtjpoebajljbocaaEi
namespace Go.Proofs.Ytjpoebajljbocaa
open Go.ChangeShapes Go.WideShapes Go.ChangeAt Go.RowKit Go.Maps
set_option linter.unusedVariables false
set_option linter.unusedSimpArgs false
theorem tot_len {L : WL} {n : Nat} (h : totW L ≤ n) (hn : n ≤ 3000000000000) : totW L ≤ 3000000000000 := Nat.le_trans h hn
theorem moved_keep {w w1 w2 : World} {q1 : WQ} {L : WL} (hk : Kept (fun _ => False) w w1) (hb : ∀ k, WQs q1 k → w.heap.size ≤ k) (h : MovedW w1 q1 L w2) :
    ∃ q', WAt w2 q' L ∧ q'.t = q1.t ∧ (∀ k, WQs q' k → w.heap.size ≤ k) ∧ Kept (fun _ => False) w w2 := by
  obtain ⟨q', h1, h2, h3, h4⟩ := h
  exact ⟨q', h1, h2, fun k hq => (h3 k hq).elim (hb k) (fun h => Nat.le_trans hk.size h), hk.trans' h4 (fun k hk' hs => by have := hb k hs; omega)⟩
theorem to_two (w : World) (x y : To) : ToAt w.heap.size (w.alloc (.cells (toC [x, y]).toArray 72)) (.slice (some ⟨w.heap.size, 0, none⟩) 2 2) [x, y] :=
  ⟨rfl, .inr ⟨w.heap.size, 2, _, rfl, Nat.le_refl _, heap_alloc_new w _, by simp, by unfold maxLen; omega, rfl, rfl⟩⟩
theorem ev_one {w : World} (e : Ev) (h : e.path.size ≤ 140737488355328) : EvR (w.alloc (.cells #[.int .i64 e.kind, .string e.path, .int .i64 e.zx] 70)) (some ⟨w.heap.size, 0, none⟩) [e] := by
  have hb := heap_alloc_new w (EvO e.kind e.path e.zx)
  obtain ⟨z0, z1, z2⟩ := ev_cells hb
  unfold EvO at hb z0 z1 z2
  refine ⟨fun i hi => ?_, by simp, fun x hx => by simp at hx; subst hx; exact h⟩
  have : i = 0 := by simp at hi; exact hi
  subst this
  exact ⟨w.heap.size, 0, rfl, by simp, z0, z1, z2⟩
set_option maxRecDepth 100000 in
set_option maxHeartbeats 2000000 in
theorem wawake_any (w : World) : Calls Try.prog 27 #[] w fun e w' => e = .returned (.bool true) ∧ Kept (fun _ => False) w w' := by
  have HA := Lib.hid aw_a
  have HB := Lib.hid aw_b
  have HC := Lib.hid aw_c
  have HD := Lib.hid aw_d
  have HE := Lib.hid aw_e
  have HF := Lib.hid aw_f
  go_enter Try.func27, Try.ntmps27
  go_wp2_with fail
  refine (wnew_any _).mono ?_
  rintro e w1 ⟨q1, rfl, hq1, hb1, hk1⟩
  have HQ1 := Lib.hid hq1
  have HB1 := Lib.hid hb1
  have HK1 := Lib.hid hk1
  clear hq1 hb1 hk1
  go_wp2_with fail
  refine (add_any HQ1.out 1 1 pA (by unfold I64; omega) (by decide) (by decide)).mono ?_
  rintro e w2 ⟨rfl, hm2⟩
  rw [HA.out.1]
  rw [HA.out.2] at hm2
  obtain ⟨q2, hq2, ht2, hb2, hk2⟩ := moved_keep HK1.out HB1.out hm2
  rw [← ht2]
  have HQ2 := Lib.hid hq2
  have HB2 := Lib.hid hb2
  have HK2 := Lib.hid hk2
  clear hm2 hq2 ht2 hb2 hk2 HQ1 HB1 HK1
  go_wp2_with fail
  refine (add_any HQ2.out 1 3 pA (by unfold I64; omega) (by decide) (by decide)).mono ?_
  rintro e w3 ⟨rfl, hm3⟩
  rw [HB.out.1]
  rw [HB.out.2] at hm3
  obtain ⟨q3, hq3, ht3, hb3, hk3⟩ := moved_keep HK2.out HB2.out hm3
  rw [← ht3]
  have HQ3 := Lib.hid hq3
  have HB3 := Lib.hid hb3
  have HK3 := Lib.hid hk3
  clear hm3 hq3 ht3 hb3 hk3 HQ2 HB2 HK2
  go_wp2_with fail
  refine (add_any HQ3.out 2 1 pA (by unfold I64; omega) (by decide) (by decide)).mono ?_
  rintro e w4 ⟨rfl, hm4⟩
  rw [HC.out.1]
  rw [HC.out.2] at hm4
  obtain ⟨q4, hq4, ht4, hb4, hk4⟩ := moved_keep HK3.out HB3.out hm4
  rw [← ht4]
  have HQ4 := Lib.hid hq4
  have HB4 := Lib.hid hb4
  have HK4 := Lib.hid hk4
  clear hm4 hq4 ht4 hb4 hk4 HQ3 HB3 HK3
  go_wp2_with fail
  refine (add_any HQ4.out 2 2 pB (by unfold I64; omega) (by decide) (by decide)).mono ?_
  rintro e w5 ⟨rfl, hm5⟩
  rw [HD.out.1]
  rw [HD.out.2] at hm5
  obtain ⟨q5, hq5, ht5, hb5, hk5⟩ := moved_keep HK4.out HB4.out hm5
  rw [← ht5]
  have HQ5 := Lib.hid hq5
  have HB5 := Lib.hid hb5
  have HK5 := Lib.hid hk5
  clear hm5 hq5 ht5 hb5 hk5 HQ4 HB4 HK4
  have HK6 : Hid (Kept (fun _ => False) w5 (w5.alloc (EvO 3 pA 4))) := Lib.hid ((Kept.refl _ _).alloc _)
  have hbx := heap_alloc_new w5 (EvO 3 pA 4)
  obtain ⟨x0, x1, x2⟩ := ev_cells hbx
  have HBX := Lib.hid hbx
  have HEV := Lib.hid (ev_one (w := w5.alloc (EvO 3 pA 4)) awE (by decide))
  have HK7 : Hid (Kept (fun _ => False) w5 ((w5.alloc (EvO 3 pA 4)).alloc (EvO 3 pA 4))) := Lib.hid (HK6.out.alloc _)
  have HQ7 := Lib.hid (HQ5.out.kept0 HK7.out)
  have HLT := Lib.hid HQ5.out.lt
  have HFI := Lib.hid (fire_any HQ7.out _ 1 [awE] HEV.out (fun b off s e hb => by
    injection e with e
    injection e with e1 e2 e3
    have := HLT.out b hb
    rw [← e1] at this
    simp at this
    omega) (by decide))
  have hsz : (w5.alloc (EvO 3 pA 4)).heap.size = w5.heap.size + 1 := by simp
  rw [hsz] at HFI
  clear hbx hsz
  unfold EvO at x0 x1 x2 HFI HBX HK6 HK7 HQ7
  unfold awE at HFI
  unfold pA at *
  go_wp2_with fail
  refine HFI.out.mono ?_
  rintro e w8 ⟨v8, rfl, hv8, q8, hq8, ht8, hs8, hk8⟩
  have hv8' : ToAt w5.heap.size w8 v8 [(1, awE), (2, awE)] := by
    have h := hv8
    rw [show toldAll aw4 [({ kind := 3, path := ⟨#[47, 97]⟩, zx := 4 } : Ev)] = [(1, awE), (2, awE)] from HE.out.1] at h
    exact ⟨h.1, h.2.imp id (fun ⟨g, cap, cur, e1, e2, e3⟩ => ⟨g, cap, cur, e1, by simp at e2; omega, e3⟩)⟩
  have hq8' : WAt w8 q8 aw5 := by
    have h := hq8
    rw [show fireAll aw4 [({ kind := 3, path := ⟨#[47, 97]⟩, zx := 4 } : Ev)] = aw5 from HE.out.2] at h
    exact h
  have HK8 := Lib.hid ((HK5.out.trans HK7.out).trans' hk8 (fun k hk hs => by have := HB5.out k hs; omega))
  have HQ8 := Lib.hid hq8'
  have HV8 := Lib.hid hv8'
  have hb8 : w8.heap[w5.heap.size]? = some (.cells #[.int .i64 3, .string ⟨#[47, 97]⟩, .int .i64 4] 70 (0, 0)) := by
    rw [hk8.block _ (by simp; omega) (fun hs => by have := HLT.out _ hs; omega), Below.heap_alloc _ _ _ (by simp)]
    exact HBX.out
  obtain ⟨y0, y1, y2⟩ := ev_cells hb8
  obtain ⟨a8, c8, rfl⟩ := own_shape hv8'
  have HC1 := Lib.hid (count_any hq8' 1 (by unfold I64; omega))
  rw [HF.out.1] at HC1
  have hal := (Kept.refl (fun _ => False) w8).alloc (.cells (toC [(1, awE), (2, awE)]).toArray 72)
  have HTD := Lib.hid (told_any (ownKept hv8' hal (fun _ _ f => f)) (to_two w8 (1, awE) (2, awE)) (by decide))
  have HK9 := Lib.hid (HK8.out.trans hal)
  have HQ9 := Lib.hid (hq8'.kept0 hal)
  unfold toC awE pA at HTD HK9 HQ9
  simp only [List.flatMap_cons, List.flatMap_nil, List.append_nil, List.cons_append, List.nil_append] at HTD HK9 HQ9
  rw [← ht8]
  clear hv8 hv8' hq8 hq8' hs8 hk8 hb8 hal ht8
  go_wp2_with fail
  refine HC1.out.mono ?_
  rintro e w9 ⟨rfl, rfl⟩
  go_wp2_with fail
  refine HTD.out.mono ?_
  rintro e w9 ⟨bb, rfl, hbb, nn, rfl⟩
  obtain rfl : bb = true := hbb.2 (by first | trivial | rfl)
  have HC2 := Lib.hid (count_any (HQ9.out.kept0 ((Kept.refl (fun _ => False) _).drewN nn)) 2 (by unfold I64; omega))
  rw [HF.out.2] at HC2
  have HK10 := Lib.hid (HK9.out.drewN nn)
  generalize World.drewN _ nn = w10 at HC2 HK10 ⊢
  go_wp2_with fail
  refine HC2.out.mono ?_
  rintro e w9 ⟨rfl, rfl⟩
  go_wp2_with fail
  go_ret
  exact ⟨rfl, HK10.out⟩
end Go.Proofs.Ytjpoebajljbocaa
