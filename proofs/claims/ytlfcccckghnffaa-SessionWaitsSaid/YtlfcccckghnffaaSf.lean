/- SessionWaits, walked. -/
import Derived.Test.YtlfcccckghnffaaSo
namespace Go.Proofs.Ytlfcccckghnffaa
open Go.ChangeShapes Go.WideShapes Go.ChangeAt Go.RowKit Go.Maps
set_option linter.unusedVariables false
set_option linter.unusedSimpArgs false
/-- what the tracker has all the while -/
def LW (T now : Int) : SL := [⟨5, T, endsI now T⟩, ⟨6, 60, 60⟩]
theorem ends_near (now T : Int) : now + T ≤ endsI now T ∧ endsI now T ≤ now + T + 3 := by unfold endsI; omega
theorem ends_mono {now n2 T : Int} (h : now ≤ n2) : endsI now T ≤ endsI n2 T := by unfold endsI; omega
theorem lw_dead5 (T now : Int) : deadN (LW T now) 5 = endsI now T ∧ deadE (LW T now) 5 = 0 := ⟨rfl, rfl⟩
theorem lw_dead6 (T now : Int) : deadN (LW T now) 6 = 60 ∧ deadE (LW T now) 6 = 0 := ⟨rfl, rfl⟩
theorem lw_early (T now : Int) : ∀ x ∈ expL (LW T now) (now + T - 1), x ≠ 5 := by
  intro x hx
  rw [mem_exp] at hx
  obtain ⟨s, hs, hd, rfl⟩ := hx
  simp only [LW, List.mem_cons, List.not_mem_nil, or_false] at hs
  have := (ends_near now T).1
  rcases hs with rfl | rfl
  · simp only at hd; omega
  · decide
theorem lw_late (T now : Int) : ∃ r, expL (LW T now) (now + T + 3) = 5 :: r := by
  have := (ends_near now T).2
  unfold expL LW
  rw [List.filter_cons, if_pos (by simpa using this), List.map_cons]
  exact ⟨_, rfl⟩
theorem lw_touch {T now n2 : Int} (h0 : 0 ≤ n2) (h1 : n2 ≤ 1099511627776) (h : now ≤ n2) : touchE (LW T now) 5 n2 = 0 ∧ touchL (LW T now) 5 n2 = LW T n2 := by
  have hn : okNow n2 = true := by simp [okNow, h0, h1]
  have hg : getL (LW T now) 5 = some ⟨5, T, endsI now T⟩ := rfl
  have hm := ends_mono (T := T) h
  refine ⟨by unfold touchE; rw [hg]; simp [hn], ?_⟩
  unfold touchL; rw [hg]
  simp only [hn, if_true]
  split
  · rfl
  · rename_i hh
    have : endsI now T = endsI n2 T := by omega
    unfold LW; rw [this]
theorem lw_open1 {T now : Int} (h0 : 0 ≤ now) (h1 : now ≤ 1099511627776) (h2 : 4 ≤ T) (h3 : T ≤ 60) : openE [] 5 T now = 0 ∧ openL [] 5 T now = [⟨5, T, endsI now T⟩] := by
  have ho : okOpen 5 T now = true := by simp [okOpen, h0, h1, h2, h3]
  unfold openE openL
  simp [ho, getL_nil, putL]
theorem lw_open2 (T now : Int) : openE [⟨5, T, endsI now T⟩] 6 60 0 = 0 ∧ openL [⟨5, T, endsI now T⟩] 6 60 0 = LW T now := ⟨rfl, rfl⟩
theorem lw_close (T now : Int) : closeE (LW T now) 5 = 0 ∧ delL (LW T now) 5 = [⟨6, 60, 60⟩] := ⟨rfl, rfl⟩
structure WtRel (w : World) (t : Nat) (T : Int) (len : Nat) (nv lv iv : Value) (wr : World) : Prop where
  ex : ∃ (k c : Nat) (q : SQ) (now last : Int), iv = .int .i64 k ∧ nv = .int .i64 now ∧ lv = .int .i64 last ∧ k ≤ 201 ∧ k ≤ len + 1 ∧ 0 ≤ now ∧ now ≤ 1000 + 8 * (k : Int) ∧ 0 ≤ last ∧ last ≤ endsI now T ∧
    SAt wr q (LW T now) c ∧ c ≤ 2 + k ∧ q.t = t ∧ (∀ j, SQs q j → w.heap.size ≤ j) ∧ Kept (fun _ => False) w wr
structure ErRel (w : World) (iv : Value) (n : Nat) (wr : World) : Prop where
  ex : ∃ (k : Nat), iv = .int .i64 k ∧ k ≤ n ∧ wr = w
set_option maxRecDepth 100000 in
set_option maxHeartbeats 4000000 in
theorem waits_walk (w : World) (a0 a1 : Int) (sa : Option Addr) (scap : Nat) (os : List Int) (h0 : I64 a0) (h1 : I64 a1) (hos : IntsAt w sa os) :
    Calls Try.prog 4 #[.int .i64 a0, .int .i64 a1, .slice sa os.length scap] w fun e w' => e = .returned (.bool true) ∧ Kept (fun _ => False) w w' := by
  obtain ⟨p, hp⟩ : ∃ p, absN a0 % 57 = p := ⟨_, rfl⟩
  have hpb : p < 57 := by omega
  have HP := Lib.hid (fun V => pick_nat a0 57 V h0 (by decide) (by decide) hp)
  obtain ⟨n0, hn0⟩ : ∃ n0, absN a1 % 1000 = n0 := ⟨_, rfl⟩
  have hn0b : n0 < 1000 := by omega
  have HN0 := Lib.hid (fun V => pick_nat a1 1000 V h1 (by decide) (by decide) hn0)
  obtain ⟨T, hT⟩ : ∃ T : Int, 4 + (p : Int) = T := ⟨_, rfl⟩
  have hT4 : 4 ≤ T := by omega
  have hT60 : T ≤ 60 := by omega
  have HTT := Lib.hid hT
  have HOS := Lib.hid hos
  have hol := hos.room
  have HAW := Lib.hid (awake_any w)
  have HO1 := Lib.hid (lw_open1 (T := T) (now := (n0 : Int)) (by omega) (by omega) hT4 hT60)
  clear hp hn0 hT hos h0 h1
  go_enter Try.func4, Try.ntmps4
  go_wp2_with fail
  refine HAW.out.mono ?_
  rintro e w0 ⟨rfl, hk0⟩
  have HK0 := Lib.hid hk0
  clear hk0
  go_wp2_with fail
  refine (new_any _).mono ?_
  rintro e w1 ⟨q1, rfl, hq1, hb1, hk1⟩
  have HQ1 := Lib.hid hq1
  have HB1 : Hid (∀ j, SQs q1 j → w.heap.size ≤ j) := Lib.hid (fun j hj => by have := hb1 j hj; have := HK0.out.size; omega)
  have HK1 := Lib.hid (HK0.out.trans hk1)
  clear hq1 hb1 hk1 HK0
  go_wp2_with fail
  refine (HP.out _).mono ?_
  rintro e w2 ⟨rfl, rfl⟩
  go_wp2_with fail
  rw [HTT.out]
  refine (HN0.out _).mono ?_
  rintro e w2 ⟨rfl, rfl⟩
  go_wp2_with fail
  refine (open_any HQ1.out 5 T n0 (by unfold I64; omega) (by omega)).mono ?_
  rintro e w2 ⟨rfl, q2, hq2, ht2, hb2, hk2⟩
  rw [HO1.out.1, ← ht2]
  rw [HO1.out.2] at hq2
  have HQ2 := Lib.hid hq2
  have HK2 : Hid (Kept (fun _ => False) w w2) := Lib.hid (HK1.out.trans' hk2 (fun k hk hs => by have := HB1.out k hs; omega))
  have HB2 : Hid (∀ k, SQs q2 k → w.heap.size ≤ k) := Lib.hid (fun k hk => by
    rcases hb2 k hk with h | h
    · exact HB1.out k h
    · have := HK1.out.size; omega)
  clear hq2 ht2 hb2 hk2 HK1 HB1 HQ1
  go_wp2_with fail
  refine (open_any HQ2.out 6 60 0 (by unfold I64; omega) (by omega)).mono ?_
  rintro e w3 ⟨rfl, q3, hq3, ht3, hb3, hk3⟩
  rw [(lw_open2 T n0).1, ← ht3]
  rw [(lw_open2 T n0).2] at hq3
  have HQ3 := Lib.hid hq3
  have HK3 : Hid (Kept (fun _ => False) w w3) := Lib.hid (HK2.out.trans' hk3 (fun k hk hs => by have := HB2.out k hs; omega))
  have HB3 : Hid (∀ k, SQs q3 k → w.heap.size ≤ k) := Lib.hid (fun k hk => by
    rcases hb3 k hk with h | h
    · exact HB2.out k h
    · have := HK2.out.size; omega)
  clear hq3 ht3 hb3 hk3 HK2 HB2 HQ2
  go_wp2_with fail
  refine (dead_any HQ3.out 6 (by unfold I64; omega)).mono ?_
  rintro e w4 ⟨rfl, hk4⟩
  rw [(lw_dead6 T n0).1, (lw_dead6 T n0).2]
  have HQ4 := Lib.hid (HQ3.out.kept0 hk4)
  have HK4 := Lib.hid (HK3.out.trans hk4)
  clear hk4 HK3 HQ3
  go_wp2_with fail
  go_loopw [9, 12, 13] (fun nv lv iv wr => WtRel w q3.t T os.length nv lv iv wr) (fun _ _ iv _ => 202 - (Go.RowKit.intOf iv).toNat)
  case atStart => exact ⟨0, 2, q3, n0, 0, rfl, rfl, rfl, by omega, by omega, by omega, by omega, by omega, by have := (ends_near n0 T).1; omega, HQ4.out, by omega, rfl, HB3.out, HK4.out⟩
  case round =>
    obtain ⟨k, c, q, now, last, rfl, rfl, rfl, hk, hkl, hn1, hn2, hl1, hl2, hq, hc, ht, hb, hkp⟩ := hrel.ex
    clear hrel HQ4 HK4 HB3
    rw [← ht]
    have HQ := Lib.hid hq
    have HB := Lib.hid hb
    have HK := Lib.hid hkp
    have HT := Lib.hid ht
    clear hq hb hkp ht
    by_cases hgo : k ≤ os.length ∧ k ≤ 200
    · obtain ⟨g1, g2⟩ := hgo
      obtain ⟨z, hz⟩ : ∃ z, endsI now T = z := ⟨_, rfl⟩
      have hz1 := (ends_near now T).1
      have hz2 := (ends_near now T).2
      rw [hz] at hz1 hz2 hl2
      have HZ := Lib.hid hz
      clear hz
      have b1 : decide (z < now + T) = false := by simp; omega
      have b2 : decide (z > now + T + 3) = false := by simp; omega
      have b2' : decide (now + T + 3 < z) = false := by simp; omega
      have b3 : decide (z < last) = false := by simp; omega
      go_wp2_with fail
      refine (dead_any HQ.out 5 (by unfold I64; omega)).mono ?_
      rintro e w5 ⟨rfl, hk5⟩
      rw [(lw_dead5 T now).1, (lw_dead5 T now).2, HZ.out]
      have HQ5 := Lib.hid (HQ.out.kept0 hk5)
      have HK5 := Lib.hid (HK.out.trans hk5)
      clear hk5 HQ HK
      go_wp2_with fail
      refine (exp_any HQ5.out (now + T - 1) (by unfold I64; omega)).mono ?_
      rintro e w6 ⟨v6, rfl, hr6, hk6⟩
      obtain ⟨l6, hl6⟩ : ∃ l, expL (LW T now) (now + T - 1) = l := ⟨_, rfl⟩
      have he6 := lw_early T now
      rw [hl6] at hr6 he6
      have HE6 := Lib.hid he6
      have HQ6 := Lib.hid (HQ5.out.kept0 hk6)
      have HK6 := Lib.hid (HK5.out.trans hk6)
      have hl16 : l6.length ≤ 16 := by
        rw [← hl6]; unfold expL
        rw [List.length_map]
        exact Nat.le_trans (List.length_filter_le _ _) (by simp [LW])
      obtain ⟨a6, c6, rfl⟩ := zrow_shape hr6
      have HR6 := Lib.hid hr6
      clear hk6 hr6 he6 hl6 HQ5 HK5
      go_wp2_with fail
      refine (exp_any HQ6.out (now + T + 3) (by unfold I64; omega)).mono ?_
      rintro e w7 ⟨v7, rfl, hr7, hk7⟩
      obtain ⟨r7, hl7⟩ := lw_late T now
      rw [hl7] at hr7
      have HQ7 := Lib.hid (HQ6.out.kept0 hk7)
      have HK7 := Lib.hid (HK6.out.trans hk7)
      have HR6' := Lib.hid (zrow_kept HR6.out hk7 (fun _ _ f => f))
      obtain ⟨g7, c7, e7, _, _, hc7, _⟩ := zrow_at hr7 (i := 0) (by simp)
      subst e7
      simp only [Nat.zero_add, List.getElem_cons_zero, List.length_cons] at hc7 ⊢
      have hr7l : r7.length ≤ 16 := by
        have h9 : (expL (LW T now) (now + T + 3)).length ≤ 2 := by
          unfold expL
          rw [List.length_map]
          exact Nat.le_trans (List.length_filter_le _ _) (by simp [LW])
        rw [hl7] at h9; simp at h9; omega
      clear hk7 hr7 hl7 HQ6 HK6 HR6
      go_wp2_with fail
      go_loopw [18] (fun iv wr => ErRel w7 iv l6.length wr) (fun iv _ => 100 - (Go.RowKit.intOf iv).toNat)
      case atStart => exact ⟨0, rfl, by omega, rfl⟩
      case round =>
        obtain ⟨j, rfl, hj, rfl⟩ := hrel.ex
        clear hrel
        by_cases hlt : j < l6.length
        · obtain ⟨g6, c6', e6, _, _, hc6, _⟩ := zrow_at HR6'.out hlt
          injection e6 with e6a e6b e6c
          subst e6a; subst e6c
          have hne : l6[j] ≠ 5 := HE6.out _ (List.getElem_mem hlt)
          obtain ⟨x, hx⟩ : ∃ x, l6[j] = x := ⟨_, rfl⟩
          rw [hx] at hc6 hne
          rw [Nat.zero_add] at hc6
          have hb5 : (x == 5) = false := by simpa using hne
          clear hx e6b
          go_wp2_with fail
          go_roundw
          case rel => exact ⟨j + 1, by go_num, by omega, rfl⟩
          case measure => simp [Go.RowKit.intOf]; omega
        · by_cases hlast : k < os.length
          · obtain ⟨b, off, rfl, hblt, hcs⟩ : ∃ b off, sa = some ⟨b, off, none⟩ ∧ b < w.heap.size ∧ ∀ i (h : i < os.length), w.cell? ⟨b, off + i, none⟩ = some (.int .i64 os[i]) := by
              rcases HOS.out.at_ with h | h
              · omega
              · exact h
            have hcell := ((HOS.out.kept HK7.out).at_).resolve_left (by omega)
            obtain ⟨b', off', e', _, hcs'⟩ := hcell
            cases e'
            have hcc := hcs' k hlast
            have hf := HOS.out.fits os[k] (List.getElem_mem hlast)
            obtain ⟨y, hy⟩ : ∃ y, os[k] = y := ⟨_, rfl⟩
            rw [hy] at hcc hf
            obtain ⟨s, hs⟩ : ∃ s, absN y % 9 = s := ⟨_, rfl⟩
            have hs9 : s < 9 := by omega
            have HS := Lib.hid (fun V => pick_nat y 9 V hf (by decide) (by decide) hs)
            obtain ⟨ht1, ht2⟩ := lw_touch (T := T) (now := now) (n2 := now + s) (by omega) (by omega) (by omega)
            have HT1 := Lib.hid ht1
            have HT2 := Lib.hid ht2
            clear hcs hcs' hy hs ht1 ht2
            go_wp2_with fail
            refine (HS.out _).mono ?_
            rintro e w8 ⟨rfl, rfl⟩
            go_wp2_with fail
            refine (touch_any HQ7.out 5 (now + s) (by unfold I64; omega) (by omega)).mono ?_
            rintro e w8 ⟨rfl, q8, hq8, ht8, hb8, hk8⟩
            rw [HT1.out]
            rw [HT2.out] at hq8
            have HQ8 := Lib.hid hq8
            have HK8 : Hid (Kept (fun _ => False) w w8) := Lib.hid (HK7.out.trans' hk8 (fun k hk hs => by have := HB.out k hs; omega))
            have HB8 : Hid (∀ k, SQs q8 k → w.heap.size ≤ k) := Lib.hid (fun k hk => by
              rcases hb8 k hk with h | h
              · exact HB.out k h
              · have := HK7.out.size; omega)
            have HT8 := Lib.hid ht8
            clear hq8 ht8 hb8 hk8
            go_wp2_with fail
            go_roundw
            case rel => exact ⟨k + 1, c + 1, q8, now + s, z, by go_num, rfl, rfl, by omega, by omega, by omega, by omega, by omega, by rw [← HZ.out]; exact ends_mono (by omega), HQ8.out, by omega, HT8.out, HB8.out, HK8.out⟩
            case measure => simp [Go.RowKit.intOf]; omega
          · go_wp2_with fail
            go_roundw
            case rel => exact ⟨k + 1, c, q, now, z, by go_num, rfl, rfl, by omega, by omega, by omega, by omega, by omega, by rw [HZ.out]; omega, HQ7.out, by omega, rfl, HB.out, HK7.out⟩
            case measure => simp [Go.RowKit.intOf]; omega
    · have hcase : os.length < k ∨ (k ≤ os.length ∧ 200 < k) := by omega
      clear hgo
      rcases hcase with hx1 | ⟨hx1, hx2⟩
      all_goals
        go_wp2_with fail
        refine (dead_any HQ.out 6 (by unfold I64; omega)).mono ?_
        rintro e w5 ⟨rfl, hk5⟩
        rw [(lw_dead6 T now).1, (lw_dead6 T now).2]
        have HQ5 := Lib.hid (HQ.out.kept0 hk5)
        have HK5 := Lib.hid (HK.out.trans hk5)
        clear hk5
        go_wp2_with fail
        refine (close_any HQ5.out 5 (by unfold I64; omega)).mono ?_
        rintro e w6 ⟨rfl, q6, hq6, ht6, hb6, hk6⟩
        rw [(lw_close T now).1, ← ht6]
        rw [(lw_close T now).2] at hq6
        have HQ6 := Lib.hid hq6
        have HK6 : Hid (Kept (fun _ => False) w w6) := Lib.hid (HK5.out.trans' hk6 (fun k hk hs => by have := HB.out k hs; omega))
        clear hq6 ht6 hb6 hk6
        go_wp2_with fail
        refine (all_any HQ6.out).mono ?_
        rintro e w7 ⟨v7, rfl, hr7, hk7⟩
        obtain ⟨a7, c7, rfl⟩ := zrow_shape hr7
        have HK7 := Lib.hid (HK6.out.trans hk7)
        have hal := (Kept.refl (fun _ => False) w7).alloc (.cells #[.int .i64 6] 3)
        have HS := Lib.hid (same_any (zrow_kept hr7 hal (fun _ _ f => f)) (one_row w7 6) (by decide))
        have HA := Lib.hid (HK7.out.trans hal)
        clear hk7 hr7 hal
        go_wp2_with fail
        refine HS.out.mono ?_
        rintro e w8 ⟨rfl, n8, rfl⟩
        have HK8 := Lib.hid (HA.out.trans (kept_drewN _ n8))
        generalize World.drewN _ n8 = w8 at HK8 ⊢
        go_wp2_with fail
        go_ret
        exact ⟨rfl, HK8.out⟩
end Go.Proofs.Ytlfcccckghnffaa
