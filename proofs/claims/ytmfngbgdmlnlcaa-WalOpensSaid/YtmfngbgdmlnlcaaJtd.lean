/- A log on a new disk; awake of layer 4. -/
import Derived.Test.YtmfngbgdmlnlcaaJtc
namespace Go.Proofs.Ytmfngbgdmlnlcaa
open Go.ChangeShapes Go.WideShapes Go.ChangeAt Go.RowKit
set_option linter.unusedVariables false
set_option linter.unusedSimpArgs false
theorem wnew_any (w : World) (n : Nat) (h1 : 16 ≤ n) (h2 : n ≤ 32768) : Calls Try.prog 5 #[.int .i64 n] w fun e w' =>
    ∃ db sb mb nn, e = .returned (.tuple #[.pointer (some ⟨db, 0, none⟩), .int .i64 0]) ∧ DAt w' db sb mb nn (newD n) ∧ (∀ k, DB db sb mb k → w.heap.size ≤ k) ∧ Kept (fun _ => False) w w' :=
  (new_any w n).mono fun e w' h => by
    rcases h with ⟨_, _, he, hD, hk⟩ | ⟨hr, _⟩
    · exact ⟨_, _, _, _, he, by rw [Int.toNat_natCast] at hD; exact hD, by rintro k (rfl | rfl | rfl) <;> omega, hk⟩
    · omega
theorem newD_base (n : Nat) (h1 : 16 ≤ n) (h2 : n ≤ 32768) : Base (newD n) :=
  ⟨h1, h2, fun i _ => by simp [newD, zeros], fun i o ho => by simp [newD] at ho⟩
/-! ### how many acts -/
theorem syncD_acts {d : DSt} (hd : d.dead = false) : (syncD d).1.acts = d.acts + 1 := (syncD_ok hd).acts
theorem advD_acts {g : LSt} {d : DSt} (hd : d.dead = false) (hn : 2 ≤ d.n) (h : (advD g d).2 = 0) : (advD g d).1.acts = d.acts + 2 := by
  have hk : g.bump.m.c % 2 < d.n := by omega
  obtain ⟨w1, w2, w3, w4, w5, w6⟩ := writeD_in (s := markL g.bump.m) hk (markL_len _) hd
  unfold advD at h ⊢
  by_cases h0 : (writeD d ((g.bump.m.c % 2 : Nat) : Int) (markL g.bump.m)).2 = 0
  · rw [if_pos h0] at h ⊢
    have hdd : (writeD d ((g.bump.m.c % 2 : Nat) : Int) (markL g.bump.m)).1.dead = false := by
      cases he : (writeD d ((g.bump.m.c % 2 : Nat) : Int) (markL g.bump.m)).1.dead
      · rfl
      · rw [he] at w4; rw [w4] at h0; cases h0
    rw [syncD_acts hdd, w6]
  · rw [if_neg h0] at h
    exact absurd h h0
theorem setD_acts {g : LSt} {d : DSt} (hd : d.dead = false) (hn : 2 ≤ d.n) (h : (setD g d).2 = 0) : (setD g d).1.acts = d.acts + 3 := by
  have sy := syncD_ok hd
  unfold setD at h ⊢
  by_cases h0 : (syncD d).2 = 0
  · rw [if_pos h0] at h ⊢
    rcases sy.v with ⟨_, s2, _⟩ | ⟨s1, _⟩
    · rw [advD_acts s2 (by rw [sy.n]; exact hn) h, sy.acts]
    · rw [s1] at h0; cases h0
  · rw [if_neg h0] at h
    exact absurd h h0
theorem forD_acts {d : DSt} (hb : Base d) (hd : d.dead = false) (hleft : d.left = 0) : (forD d).acts = d.acts + 3 := by
  have hlo := hb.lo
  obtain ⟨x1, x2, x3, x4, x5, x6⟩ := writeD_in (d := d) (k := 0) (s := zeros) (by omega) (by simp [zeros]) hd
  have e0 : (writeD d 0 zeros) = writeD d ((0 : Nat) : Int) zeros := rfl
  have h5 := x5 hleft
  unfold forD
  rw [e0]
  have hadv : (advD log0 (writeD d ((0 : Nat) : Int) zeros).1).2 = 0 := by
    have hk1 : 1 < (writeD d ((0 : Nat) : Int) zeros).1.n := by rw [x3]; omega
    obtain ⟨y1, y2, y3, y4, y5, y6⟩ := writeD_in (d := (writeD d ((0 : Nat) : Int) zeros).1) (k := 1) (s := markL log0.bump.m) hk1 (markL_len _) h5.2
    have e : advD log0 (writeD d ((0 : Nat) : Int) zeros).1 = if (writeD (writeD d ((0 : Nat) : Int) zeros).1 ((1 : Nat) : Int) (markL log0.bump.m)).2 = 0 then syncD (writeD (writeD d ((0 : Nat) : Int) zeros).1 ((1 : Nat) : Int) (markL log0.bump.m)).1 else writeD (writeD d ((0 : Nat) : Int) zeros).1 ((1 : Nat) : Int) (markL log0.bump.m) := rfl
    rw [e, y4, (y5 h5.1).2]
    have sy := syncD_ok (y5 h5.1).2
    rcases sy.v with ⟨s1, _⟩ | ⟨s1, _, s3, _⟩
    · simpa using s1
    · exact absurd (y5 h5.1).1 s3
  rw [advD_acts h5.2 (by rw [x3]; omega) hadv, x6]
theorem wriD_one {g : LSt} {d : DSt} {s : List UInt8} (hs : s ≠ []) (hl : s.length ≤ 64) (hd : d.dead = false) (hk : startN d g.m.ar < d.n) : (wriD g d 0 s).1.acts = d.acts + 1 := by
  have h0 : ¬ s.length = 0 := fun e => hs (List.length_eq_zero_iff.1 e)
  obtain ⟨w1, w2, w3, w4, w5, w6⟩ := writeD_in (s := chunkL s) hk (chunkL_len s) hd
  unfold wriD
  rw [if_neg (by decide)]
  rw [putD, if_neg h0]
  split
  · obtain ⟨q, hq⟩ : ∃ q, s.length = q + 1 := ⟨s.length - 1, by omega⟩
    rw [hq, putD, if_pos (by rw [List.length_drop]; omega)]
    exact w6
  · exact w6
def ab : ByteArray := ⟨#[97, 98]⟩
theorem fresh (n : Nat) (h1 : 16 ≤ n) (h2 : n ≤ 32768) : Fine (forD (newD n)) log0.bump ∧ (forD (newD n)).left = 0 ∧ (forD (newD n)).n = n ∧ (forD (newD n)).acts = 3 := by
  obtain ⟨g1, g2, g3, g4⟩ := for_good (newD_base n h1 h2) rfl rfl
  exact ⟨⟨g1, by decide, by have : (newD n).acts = 0 := rfl; omega⟩, g2, g3, forD_acts (newD_base n h1 h2) rfl rfl⟩
theorem mark_six (m : MSt) (h : m.c = 2) : (markL m).take 6 = [87, 77, 0, 0, 0, 2] := by
  have e : markL m = ([87, 77] ++ highL m.c 4) ++ (highL m.ar 1 ++ (highL m.le 4 ++ highL m.nu 4 ++ highL m.a 8 ++ highL m.b 8 ++ List.replicate 29 0 ++ highL m.c 4)) := by simp [markL, List.append_assoc]
  rw [e, List.take_left' (by simp [highL_len]), h]
  rfl
set_option maxRecDepth 100000 in
set_option maxHeartbeats 4000000 in
theorem awake_any (w : World) : Calls Try.prog 4 #[] w fun e w' => e = .returned (.bool true) ∧ Kept (fun _ => False) w w' := by
  obtain ⟨hf1, hl1, hn1, ha1⟩ := fresh 18 (by decide) (by decide)
  obtain ⟨d1, hd1⟩ : ∃ d1, forD (newD 18) = d1 := ⟨_, rfl⟩
  rw [hd1] at hf1 hl1 hn1 ha1
  obtain ⟨g1, hg1⟩ : ∃ g1, log0.bump = g1 := ⟨_, rfl⟩
  have hgu : g1.used = 0 ∧ g1.recs = [] ∧ g1.m.ar = 0 ∧ g1.m.c = 1 ∧ g1.m.nu = 0 ∧ g1.doubt = false := by rw [← hg1]; exact ⟨rfl, rfl, rfl, rfl, rfl, rfl⟩
  rw [hg1] at hf1
  have hsp1 : spaceN d1 = 512 := by unfold spaceN secN; rw [hn1]
  have hro : roomZ g1.used d1 = 506 := by unfold roomZ; rw [hsp1, hgu.1]; rfl
  have o2 := append_out hf1.good ab (by rw [hro]; decide)
  obtain ⟨hv2, c2⟩ := out_calm o2 hl1 (by show g1.m.c ≤ _; omega)
  have ha2 : (wriD (g1.add ab) d1 g1.used (recL ab)).1.acts = 4 := by
    rw [hgu.1, wriD_one (by decide) (by decide) hf1.good.dead (by show startN d1 g1.m.ar < _; rw [hgu.2.2.1, hn1]; unfold startN secN; rw [hn1]; decide), ha1]
  obtain ⟨r2, hr2⟩ : ∃ r2, wriD (g1.add ab) d1 g1.used (recL ab) = r2 := ⟨_, rfl⟩
  rw [hr2] at hv2 c2 ha2
  obtain ⟨g2, hg2⟩ : ∃ g2, g1.add ab = g2 := ⟨_, rfl⟩
  rw [hg2] at c2
  have hgu2 : g2.used = 8 ∧ g2.recs = [ab] ∧ g2.m.ar = 0 ∧ g2.m.c = 1 ∧ g2.m.nu = 0 ∧ g2.doubt = false := by
    rw [← hg2]
    refine ⟨?_, ?_, hgu.2.2.1, hgu.2.2.2.1, hgu.2.2.2.2.1, hgu.2.2.2.2.2⟩
    · show g1.used + (6 + ab.size) = 8; rw [hgu.1]; rfl
    · show g1.recs ++ [ab] = _; rw [hgu.2.1]; rfl
  have hsp2 : spaceN r2.1 = 512 := by unfold spaceN secN; rw [c2.n, hn1]
  have hro2 : roomZ g2.used r2.1 = 498 := by unfold roomZ; rw [hsp2, hgu2.1]; rfl
  have o3 := sync_out c2.good (by omega)
  obtain ⟨hv3, c3⟩ := out_calm o3 c2.left (by show g2.m.c + 1 ≤ _; omega)
  have hL3 : setL g2 r2.1 = g2.all.bump := (o3.ok (by rw [hv3]; decide)).2.1
  rw [hL3] at c3
  have ha3 : (setD g2 r2.1).1.acts = 7 := by rw [setD_acts c2.good.dead (by rw [c2.n, hn1]; decide) hv3, ha2]
  obtain ⟨r3, hr3⟩ : ∃ r3, setD g2 r2.1 = r3 := ⟨_, rfl⟩
  rw [hr3] at hv3 c3 ha3
  obtain ⟨g3, hg3⟩ : ∃ g3, g2.all.bump = g3 := ⟨_, rfl⟩
  rw [hg3] at c3 hL3
  have hgu3 : g3.recs = [ab] ∧ g3.m.c = 2 ∧ g3.m.nu = 1 := by
    rw [← hg3]
    exact ⟨hgu2.2.1, by show g2.m.c + 1 = 2; omega, by show g2.recs.length = 1; rw [hgu2.2.1]; rfl⟩
  have hst := c3.good.half.stands
  have hrt : g3.recs.take g3.m.nu = [ab] := by rw [hgu3.1, hgu3.2.2]; rfl
  rw [hrt] at hst
  have hmk := c3.good.half.mrk
  rw [hgu3.2.1] at hmk
  have hrd : readD r3.1 0 = (markL g3.m, 0) := by
    have := readD_in (d := r3.1) (k := 0) (by rw [c3.n, c2.n, hn1]; decide) c3.good.dead
    have e : ((0 : Nat) : Int) = 0 := rfl
    rw [e] at this
    rw [this]
    exact congrArg (fun x => (x, (0 : Int))) hmk
  have HN := Lib.hid (wnew_any w 18 (by decide) (by decide))
  have HF1 := Lib.hid hf1
  have HD1 := Lib.hid hd1
  have HG1 := Lib.hid hg1
  have HG2 := Lib.hid hg2
  have HG3 := Lib.hid hg3
  have HR2 := Lib.hid hr2
  have HR3 := Lib.hid hr3
  have HV2 := Lib.hid hv2
  have HV3 := Lib.hid hv3
  have HL3 := Lib.hid hL3
  have HC2 := Lib.hid c2
  have HC3 := Lib.hid c3
  have HU1 := Lib.hid hgu
  have HU2 := Lib.hid hgu2
  have HU3 := Lib.hid hgu3
  have HRO := Lib.hid hro
  have HRO2 := Lib.hid hro2
  have HA := Lib.hid (And.intro ha1 (And.intro ha2 ha3))
  have HST := Lib.hid hst
  have HRD := Lib.hid hrd
  obtain ⟨S0, hS0⟩ : ∃ S0 : ByteArray, (⟨(markL g3.m).toArray⟩ : ByteArray) = S0 := ⟨_, rfl⟩
  have hs0z : S0.size = 64 := by rw [← hS0]; exact markL_len _
  have hcut : ∀ V, Sem.run Try.prog (Instr.slice 9 (.string S0) none (some (.int .i64 6)) none) V = .ok (.string ⟨#[87, 77, 0, 0, 0, 2]⟩) V := fun V => by
    have := cut_run V S0 (c := 6) (by rw [hs0z]; decide)
    have e : S0.extract 0 6 = ⟨#[87, 77, 0, 0, 0, 2]⟩ := by
      rw [← hS0, ByteArray.extract_mk, List.drop_zero, mark_six _ hgu3.2.1]
    rw [e] at this
    exact this
  have HCUT := Lib.hid hcut
  have HS0 := Lib.hid hS0
  clear hf1 hl1 hn1 ha1 hd1 hg1 hgu hsp1 hro o2 hv2 c2 ha2 hr2 hg2 hgu2 hsp2 hro2 o3 hv3 c3 hL3 ha3 hr3 hg3 hgu3 hst hrt hmk hrd hcut hS0
  go_enter Try.func4, Try.ntmps4
  go_wp2_with fail
  refine HN.out.mono ?_
  rintro e w1 ⟨db, sb, mb, nn, rfl, hD, hDB, hk1⟩
  have hsz1 := hk1.size
  have HFO := Lib.hid (format_go (Z := fun k => w.heap.size ≤ k) hD hDB (fun k hk => by omega) rfl rfl (by decide))
  have HK1 := Lib.hid (hk1.mono (T := fun k => w.heap.size ≤ k) (fun _ _ x => x.elim))
  clear hD hDB hk1 hsz1
  go_wp2_with fail
  refine HFO.out.mono ?_
  rintro e w2 ⟨lb, rfl, hw2, hlb, hk2⟩
  rw [HD1.out, HG1.out] at hw2
  have HW2 := Lib.hid hw2
  have HK2 := Lib.hid (HK1.out.trans hk2)
  clear hw2 hlb hk2 HFO HK1
  go_wp2_with fail
  refine (wappend_go HW2.out HU1.out.2.2.2.2.2 ab (by decide) (by rw [HRO.out]; decide) (by rw [HU1.out.2.2.1]; decide) (by rw [HU1.out.1]; decide) (by rw [HU1.out.2.1]; decide) (by rw [HA.out.1]; decide)).mono ?_
  rw [HR2.out, HG2.out, HV2.out]
  rintro e w3 ⟨rfl, hq3, hk3⟩
  have HW3 := Lib.hid (hq3.log (by decide))
  have HK3 := Lib.hid (HK2.out.trans hk3)
  clear hq3 hk3 HW2 HK2
  go_wp2_with fail
  refine (room_any HW3.out (by rw [HU2.out.1]; decide)).mono ?_
  rw [HRO2.out]
  rintro e w4 ⟨rfl, n4, rfl⟩
  have HW4 := Lib.hid (HW3.out.drewN n4)
  have HK4 := Lib.hid (HK3.out.drewN n4)
  clear HW3 HK3
  generalize w3.drewN n4 = w4 at HW4 HK4 ⊢
  go_wp2_with fail
  refine (wsync_go HW4.out HU2.out.2.2.2.2.2 (by rw [HU2.out.2.2.2.2.1, HU2.out.2.1]; decide) (by rw [HU2.out.2.2.2.1]; decide) (by rw [HG3.out]; exact (HC3.out.good.half.A.sm HC3.out.good.half.base).fits) (by rw [HA.out.2.1]; decide)).mono ?_
  rw [HR3.out, HL3.out, HV3.out]
  rintro e w5 ⟨rfl, hq5, hk5⟩
  have HW5 := Lib.hid (hq5.log (by decide))
  have HK5 := Lib.hid (HK4.out.trans hk5)
  clear hq5 hk5 HW4 HK4
  go_wp2_with fail
  refine (wl_read HW5.out 0 (s := S0) (v := 0) (by rw [HRD.out]; exact HS0.out) (by rw [HRD.out])).mono ?_
  rintro e w6 ⟨rfl, rfl⟩
  obtain ⟨sb5, mb5, nn5, hD5, hDB5⟩ := (HW5.out.whole 0).disk
  have HOP := Lib.hid (open_any hD5 hDB5 (wl_own (rv := .bool false) (sb := 0) (mb := 0) (nn := 0) HW5.out) HC3.out.good.dead)
  clear hD5 hDB5 HW5
  go_wp2_with fail
  refine HOP.out.mono ?_
  rintro e w7 ⟨p, v, rfl, h1, h2, hk7⟩
  obtain ⟨rfl, lb2, rfl, hlb2, hw7⟩ := h1 _ _ HST.out
  have HW7 := Lib.hid hw7
  have HK7 := Lib.hid (HK5.out.trans hk7)
  clear h1 h2 hk7 hlb2 hw7 HK5 HOP
  go_wp2_with fail
  refine (records_any HW7.out rfl (by show 1 * 16 ≤ _; decide)).mono ?_
  rintro e w8 ⟨v', rfl, hr8, hk8⟩
  have hT8 : TsAt w8 (fun k => v'.ownBlock = some k) v' [ab] := ts_row (l := [ab]) hr8
  obtain ⟨ao8, c8, rfl⟩ := slice_of_row hr8
  have HW8 := Lib.hid (HW7.out.kept0 hk8)
  have HK8 := Lib.hid (HK7.out.trans (hk8.mono (fun _ _ x => x.elim)))
  have HT8 := Lib.hid (hT8.kept ((Kept.refl (fun _ => False) w8).alloc (.cells #[.string ⟨#[97, 98]⟩] 9)) (fun _ _ x => x))
  have HT9 : Hid (TsAt (w8.alloc (.cells #[.string ⟨#[97, 98]⟩] 9)) (fun k => k = w8.heap.size) (.slice (some ⟨w8.heap.size, 0, none⟩) 1 1) [ab]) := Lib.hid (ts_one (by simp [ab]))
  have HK9 := Lib.hid (HK8.out.alloc (.cells #[.string ⟨#[97, 98]⟩] 9))
  have HW9 := Lib.hid (HW8.out.kept0 ((Kept.refl _ w8).alloc (.cells #[.string ⟨#[97, 98]⟩] 9)))
  clear hr8 hk8 hT8 HW7 HK7 HW8 HK8
  go_wp2_with fail
  refine (texts_any HT8.out HT9.out (by decide) (by decide)).mono ?_
  rintro e w9 ⟨rfl, n9, rfl⟩
  have HW10 := Lib.hid (HW9.out.drewN n9)
  have HK10 := Lib.hid (HK9.out.drewN n9)
  clear HT8 HT9 HW9 HK9
  generalize (w8.alloc (.cells #[.string ⟨#[97, 98]⟩] 9)).drewN n9 = w9 at HW10 HK10 ⊢
  have hdec : decide ([ab] = [ab]) = true := by decide
  rw [hdec]
  have hcut := HCUT.out
  have HAC : Hid (Calls Try.prog 11 #[.pointer (some ⟨db, 0, none⟩)] w9 fun e w' => e = .returned (.int .i64 7) ∧ w9 = w') := Lib.hid (by
    obtain ⟨sb9, mb9, nn9, hD9, _⟩ := (HW10.out.whole 0).disk
    have := acts_any hD9
    rw [HA.out.2.2] at this
    exact this)
  go_wp2_with fail
  refine HAC.out.mono ?_
  rintro e w10 ⟨rfl, rfl⟩
  go_wp2_with fail
  go_ret
  refine ⟨rfl, HK10.out.os, HK10.out.tape, HK10.out.output, HK10.out.size, fun k hk _ => HK10.out.block k hk (by omega)⟩
end Go.Proofs.Ytmfngbgdmlnlcaa
