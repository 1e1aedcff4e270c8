/- The law's under. -/
import Derived.Test.YtccoeccibokecaaNad
import Derived.Test.YtccoeccibokecaaNra
import Derived.Deep.RegionHeld3
import Derived.IntWalk
namespace Go.Proofs.Ytccoeccibokecaa
open Go.ChangeShapes Go.WideShapes Go.ChangeAt Go.RowKit Go.Maps
set_option linter.unusedVariables false
set_option linter.unusedSimpArgs false
theorem ent_row : RowTy Try.prog 24 40 11 136 := RowTy.of Try.underlying24 ent_info rfl (by decide)
theorem undL_succ (c : UInt8) (l : List OpN) {k : Nat} (h60 : k < 60) (hk : k < l.length) : (undL c l).take (k + 1) = (undL c l).take k ++ [undE c k l[k]] := by
  rw [List.take_succ_eq_append_getElem (by rw [undL_len]; omega)]
  simp [undL]
set_option maxRecDepth 100000 in
set_option maxHeartbeats 1000000 in
theorem under_law (w : World) (c : UInt8) (a : Option Addr) (cap : Nat) (l : List OpN) (h : OpsN w a l) :
    Calls Try.prog 18 #[.string (topB c), .slice a l.length cap] w fun e w' => ∃ v, e = .returned v ∧ EntsAt w.heap.size w' v (undL c l) ∧ Kept (fun _ => False) w w' := by
  have H := Lib.hid h
  have hlen := h.len
  clear h
  go_enter Try.func18, Try.ntmps18
  go_wp2
  have hk0 : Kept (fun _ => False) w (w.alloc (.cells namesC.toArray 9)) := (Kept.refl _ w).alloc _
  go_loopw [6, 7, 8, 9] (fun lv iv _ _ wr => UnRel w (w.heap.size + 1) w.heap.size c l lv iv wr) (fun _ iv _ _ _ => 60 - (intOf iv).toNat)
  case atStart => exact ⟨0, by omega, by omega, rfl, entsAt_nil _, hk0, heap_alloc_new w _⟩
  case round =>
    obtain ⟨k, hk, hkl, rfl, hv, hkw, hn⟩ := hrel.ex
    clear hrel
    have HV := Lib.hid hv
    have HKW := Lib.hid hkw
    have HN := Lib.hid hn
    clear hv hkw hn
    by_cases hlt : k < l.length
    · by_cases h60 : k < 60
      · obtain ⟨o, ho⟩ : ∃ o, l[k] = o := ⟨_, rfl⟩
        have hfit := H.out.fits o (ho ▸ List.getElem_mem hlt)
        obtain ⟨g, off, rfl, hg, hc0⟩ := H.out.at_ k hlt
        have hc : ∀ j v, (l[k].cells)[j]? = some v → wr.cell? ⟨g, off + k * 5 + j, none⟩ = some v := fun j v hj => by rw [World.cell?_of_block (w := w) (HKW.out.block g hg (fun f => f))]; exact hc0 j v hj
        clear hc0
        rw [ho] at hc
        have x0 := hc 0 _ rfl
        have x1 := hc 1 _ rfl
        have x2 := hc 2 _ rfl
        have x3 := hc 3 _ rfl
        simp only [Nat.add_zero] at x0
        have HP : Hid (∀ W, Calls Try.prog 10 #[.int .i64 o.b, .int .i64 6] W fun e w' => e = .returned (.int .i64 ((absN o.b % 6 : Nat) : Int)) ∧ W = w') := Lib.hid (fun W => tpick_nat o.b 6 W hfit.b.1 hfit.b.2 (by decide) (by decide) rfl)
        have HP4 : Hid (∀ W, Calls Try.prog 10 #[.int .i64 o.a, .int .i64 4] W fun e w' => e = .returned (.int .i64 ((absN o.a % 4 : Nat) : Int)) ∧ W = w') := Lib.hid (fun W => tpick_nat o.a 4 W hfit.a.1 hfit.a.2 (by decide) (by decide) rfl)
        have HP9 : Hid (∀ W, Calls Try.prog 10 #[.int .i64 o.c, .int .i64 9] W fun e w' => e = .returned (.int .i64 ((absN o.c % 9 : Nat) : Int)) ∧ W = w') := Lib.hid (fun W => tpick_nat o.c 9 W hfit.c.1 hfit.c.2 (by decide) (by decide) rfl)
        clear hc
        have y1 : wr.cell? ⟨w.heap.size, absN o.b % 6, none⟩ = some (.string (nmB (absN o.b % 6))) := by
          rw [cell_of_row wr w.heap.size _ _ _ (0, 0) HN.out, ← Array.getElem?_toList]; exact names_at _ (Nat.mod_lt _ (by decide))
        have y2 : (nmB (absN o.b % 6)).size ≤ 3 := by
          have h6 : absN o.b % 6 < 6 := Nat.mod_lt _ (by decide)
          have : absN o.b % 6 = 0 ∨ absN o.b % 6 = 1 ∨ absN o.b % 6 = 2 ∨ absN o.b % 6 = 3 ∨ absN o.b % 6 = 4 ∨ absN o.b % 6 = 5 := by omega
          rcases this with h | h | h | h | h | h <;> rw [h] <;> decide
        have y3 : (topB c ++ { data := #[47] }).size = 3 := rfl
        have HX2 := Lib.hid x2
        have HP9' : Hid (∀ W, Calls Try.prog 10 #[.int .i64 o.c, .int .i64 9] W fun e w' => e = .returned (.int .i64 ((absN o.c : Int) % 9)) ∧ w' = W) := Lib.hid (fun W => (HP9.out W).mono (fun e w' h => ⟨h.1, h.2.symm⟩))
        have z6 : absN o.b % 6 < 6 := Nat.mod_lt _ (by decide)
        have z4 : absN o.a % 4 < 4 := Nat.mod_lt _ (by decide)
        have z1 : IntKind.i64.wrap (10 + (k : Int)) = 10 + (k : Int) := IntWalk.i64_in _ (by omega)
        go_wp2_with (first
          | (go_at_call 10; with_reducible refine (HP.out _).mono ?_; rintro e w2 ⟨rfl, rfl⟩)
          | (go_at_call 10; with_reducible refine (HP4.out _).mono ?_; rintro e w2 ⟨rfl, rfl⟩))
        have HR := Lib.hid ent_row
        have HVo := HV.out
        have HSZ : Hid (w.heap.size + 1 ≤ wr.heap.size) := Lib.hid (lt_of_block HN.out)
        have HX3 := Lib.hid x3
        have HG9 := Lib.hid hg
        have i1 : (0 : Int) ≤ (k : Int) := by omega
        have i2 : (k : Int) < (l.length : Int) := by omega
        have hlen9 : ((undL c l).take k).length = k := by rw [List.length_take, undL_len]; omega
        have HL9 := Lib.hid hlen9
        clear hlen9
        go_region_held3 (fun w' => w'.cell? ⟨g, off + k * 5 + 3, none⟩ = some (.string o.s) ∧ w'.cell? ⟨g, off + k * 5 + 2, none⟩ = some (.int .i64 o.c))
          (go_keep)
          (first
            | (go_at_call 10; with_reducible refine (HP9'.out _).mono ?_; rintro e w2 ⟨rfl, rfl⟩)
            | (refine step_row1d (w := wr) HR.out (by rfl) _ _ (by rfl) (by rfl) HV.out (entL (⟨1 + (absN o.a : Int) % 4, topB c ++ ⟨#[47]⟩ ++ nmB (absN o.b % 6), o.s, [], 0, (absN o.c : Int) % 9⟩, 10 + (k : Int))) (by rfl) (by rfl) (entL_one _) (by rw [HL9.out]; omega) (by rw [HL9.out]; unfold maxLen; omega) (by have := HSZ.out; omega) ?_; intro v' w' hown' hg'; have hkk := kept_own1d HKW.out HV.out (Nat.le_succ _) hg'; have hc9 : ∀ i, w'.cell? ⟨g, i, none⟩ = wr.cell? ⟨g, i, none⟩ := fun i => by { have e1 : w'.cell? ⟨g, i, none⟩ = w.cell? ⟨g, i, none⟩ := World.cell?_of_block (hkk.block g HG9.out (fun f => f)); have e2 : wr.cell? ⟨g, i, none⟩ = w.cell? ⟨g, i, none⟩ := World.cell?_of_block (HKW.out.block g HG9.out (fun f => f)); exact e1.trans e2.symm }; have y3' := (hc9 _).trans HX3.out; have y2' := (hc9 _).trans HX2.out; clear hc9; have HOWN := Lib.hid hown'; have HKK := Lib.hid hkk; have HG' := Lib.hid hg'; clear hown' hkk hg'))
        clear y2' y3' x0 x1 x2 x3 y1
        go_wp2_with fail
        go_roundw
        case rel =>
          refine ⟨k + 1, by omega, by omega, by go_num, ?_, HKK.out, ?_⟩
          · rw [undL_succ c l h60 hlt, ho]
            have h9 := HOWN.out
            have e1 : (1 + (absN o.a : Int) % 4) = 1 + ((absN o.a % 4 : Nat) : Int) := by simp
            have e2 : ((absN o.c : Int) % 9) = ((absN o.c % 9 : Nat) : Int) := by simp
            rw [e1, e2, path_eq] at h9
            unfold EntsAt
            rw [List.length_append, entC, List.flatMap_append, List.flatMap_singleton]
            exact h9
          · have hb := HG'.out.block w.heap.size (by show _ < (wr.alloc _).heap.size; have := HSZ.out; simp; omega) (fun e => by have := (own_lo HV.out e.symm).1; omega)
            rw [hb]
            show (wr.alloc _).heap[w.heap.size]? = _
            rw [Below.heap_alloc _ _ _ (HSZ.out)]; exact HN.out
        case measure => simp [intOf]; omega
      · go_wp2_with fail
        go_ret
        refine ⟨_, rfl, ?_, HKW.out⟩
        have he := row_mono HV.out (Nat.le_succ _)
        rw [List.take_of_length_le (by rw [undL_len]; omega)] at he
        exact he
    · go_wp2_with fail
      go_ret
      refine ⟨_, rfl, ?_, HKW.out⟩
      have he := row_mono HV.out (Nat.le_succ _)
      rw [List.take_of_length_le (by rw [undL_len]; omega)] at he
      exact he
end Go.Proofs.Ytccoeccibokecaa
