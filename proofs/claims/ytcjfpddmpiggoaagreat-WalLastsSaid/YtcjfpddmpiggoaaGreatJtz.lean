/- Sync on a disk that is not armed; Open beside a log that stands; what lies aside of a log. -/
import Derived.Test.YtcjfpddmpiggoaaGreatJtc
import Derived.Test.YtcjfpddmpiggoaaGreatJta
import Derived.Deep.Slices
import Derived.Deep.Fields
import Derived.SizedLaws
import Derived.OpenShut
import Derived.ChangeOld
import Derived.Deep.Grids
import Derived.Laws.AppendOwnNone
namespace Go.Proofs.YtcjfpddmpiggoaaGreat
open Go.ChangeShapes Go.WideShapes Go.ChangeAt Go.RowKit
set_option linter.unusedVariables false
set_option linter.unusedSimpArgs false
theorem wnew_any (w : World) (n : Nat) (h1 : 16 ≤ n) (h2 : n ≤ 32768) : Calls Tryz.prog 5 #[.int .i64 n] w fun e w' =>
    ∃ db sb mb nn, e = .returned (.tuple #[.pointer (some ⟨db, 0, none⟩), .int .i64 0]) ∧ DAt w' db sb mb nn (newD n) ∧ (∀ k, DB db sb mb k → w.heap.size ≤ k) ∧ Kept (fun _ => False) w w' :=
  (new_any w n).mono fun e w' h => by
    rcases h with ⟨_, _, he, hD, hk⟩ | ⟨hr, _⟩
    · exact ⟨_, _, _, _, he, by rw [Int.toNat_natCast] at hD; exact hD, by rintro k (rfl | rfl | rfl) <;> omega, hk⟩
    · omega
theorem newD_base (n : Nat) (h1 : 16 ≤ n) (h2 : n ≤ 32768) : Base (newD n) :=
  ⟨h1, h2, fun i _ => by simp [newD, zeros], fun i o ho => by simp [newD] at ho⟩
/-! ### how many acts -/
theorem syncD_acts {d : DSt} (hd : d.dead = false) : (syncD d).1.acts = d.acts + 1 := (syncD_ok hd).acts
theorem advD_acts {g : LSt} {d : DSt} (hd : d.dead = false) (hn : 2 ≤ d.n) (h : (advD g d).2 = 0) : (advD g d).1.acts = d.acts + 2 := by
  have hk : g.bump.m.c % 2 < d.n := by omega
  obtain ⟨w1, w2, w3, w4, w5, w6⟩ := writeD_in (s := markL g.bump.m) hk (markL_len _) hd
  unfold advD at h ⊢
  by_cases h0 : (writeD d ((g.bump.m.c % 2 : Nat) : Int) (markL g.bump.m)).2 = 0
  · rw [if_pos h0] at h ⊢
    have hdd : (writeD d ((g.bump.m.c % 2 : Nat) : Int) (markL g.bump.m)).1.dead = false := by
      cases he : (writeD d ((g.bump.m.c % 2 : Nat) : Int) (markL g.bump.m)).1.dead
      · rfl
      · rw [he] at w4; rw [w4] at h0; cases h0
    rw [syncD_acts hdd, w6]
  · rw [if_neg h0] at h
    exact absurd h h0
theorem setD_acts {g : LSt} {d : DSt} (hd : d.dead = false) (hn : 2 ≤ d.n) (h : (setD g d).2 = 0) : (setD g d).1.acts = d.acts + 3 := by
  have sy := syncD_ok hd
  unfold setD at h ⊢
  by_cases h0 : (syncD d).2 = 0
  · rw [if_pos h0] at h ⊢
    rcases sy.v with ⟨_, s2, _⟩ | ⟨s1, _⟩
    · rw [advD_acts s2 (by rw [sy.n]; exact hn) h, sy.acts]
    · rw [s1] at h0; cases h0
  · rw [if_neg h0] at h
    exact absurd h h0
theorem forD_acts {d : DSt} (hb : Base d) (hd : d.dead = false) (hleft : d.left = 0) : (forD d).acts = d.acts + 3 := by
  have hlo := hb.lo
  obtain ⟨x1, x2, x3, x4, x5, x6⟩ := writeD_in (d := d) (k := 0) (s := zeros) (by omega) (by simp [zeros]) hd
  have e0 : (writeD d 0 zeros) = writeD d ((0 : Nat) : Int) zeros := rfl
  have h5 := x5 hleft
  unfold forD
  rw [e0]
  have hadv : (advD log0 (writeD d ((0 : Nat) : Int) zeros).1).2 = 0 := by
    have hk1 : 1 < (writeD d ((0 : Nat) : Int) zeros).1.n := by rw [x3]; omega
    obtain ⟨y1, y2, y3, y4, y5, y6⟩ := writeD_in (d := (writeD d ((0 : Nat) : Int) zeros).1) (k := 1) (s := markL log0.bump.m) hk1 (markL_len _) h5.2
    have e : advD log0 (writeD d ((0 : Nat) : Int) zeros).1 = if (writeD (writeD d ((0 : Nat) : Int) zeros).1 ((1 : Nat) : Int) (markL log0.bump.m)).2 = 0 then syncD (writeD (writeD d ((0 : Nat) : Int) zeros).1 ((1 : Nat) : Int) (markL log0.bump.m)).1 else writeD (writeD d ((0 : Nat) : Int) zeros).1 ((1 : Nat) : Int) (markL log0.bump.m) := rfl
    rw [e, y4, (y5 h5.1).2]
    have sy := syncD_ok (y5 h5.1).2
    rcases sy.v with ⟨s1, _⟩ | ⟨s1, _, s3, _⟩
    · simpa using s1
    · exact absurd (y5 h5.1).1 s3
  rw [advD_acts h5.2 (by rw [x3]; omega) hadv, x6]
theorem wriD_one {g : LSt} {d : DSt} {s : List UInt8} (hs : s ≠ []) (hl : s.length ≤ 64) (hd : d.dead = false) (hk : startN d g.m.ar < d.n) : (wriD g d 0 s).1.acts = d.acts + 1 := by
  have h0 : ¬ s.length = 0 := fun e => hs (List.length_eq_zero_iff.1 e)
  obtain ⟨w1, w2, w3, w4, w5, w6⟩ := writeD_in (s := chunkL s) hk (chunkL_len s) hd
  unfold wriD
  rw [if_neg (by decide)]
  rw [putD, if_neg h0]
  split
  · obtain ⟨q, hq⟩ : ∃ q, s.length = q + 1 := ⟨s.length - 1, by omega⟩
    rw [hq, putD, if_pos (by rw [List.length_drop]; omega)]
    exact w6
  · exact w6
def ab : ByteArray := ⟨#[97, 98]⟩
theorem fresh (n : Nat) (h1 : 16 ≤ n) (h2 : n ≤ 32768) : Fine (forD (newD n)) log0.bump ∧ (forD (newD n)).left = 0 ∧ (forD (newD n)).n = n ∧ (forD (newD n)).acts = 3 := by
  obtain ⟨g1, g2, g3, g4⟩ := for_good (newD_base n h1 h2) rfl rfl
  exact ⟨⟨g1, by decide, by have : (newD n).acts = 0 := rfl; omega⟩, g2, g3, forD_acts (newD_base n h1 h2) rfl rfl⟩
theorem mark_six (m : MSt) (h : m.c = 2) : (markL m).take 6 = [87, 77, 0, 0, 0, 2] := by
  have e : markL m = ([87, 77] ++ highL m.c 4) ++ (highL m.ar 1 ++ (highL m.le 4 ++ highL m.nu 4 ++ highL m.a 8 ++ highL m.b 8 ++ List.replicate 29 0 ++ highL m.c 4)) := by simp [markL, List.append_assoc]
  rw [e, List.take_left' (by simp [highL_len]), h]
  rfl
set_option maxRecDepth 100000 in
set_option maxHeartbeats 4000000 in
theorem awake_any (w : World) : Calls Tryz.prog 4 #[] w fun e w' => e = .returned (.bool true) ∧ Kept (fun _ => False) w w' := by
  obtain ⟨hf1, hl1, hn1, ha1⟩ := fresh 18 (by decide) (by decide)
  obtain ⟨d1, hd1⟩ : ∃ d1, forD (newD 18) = d1 := ⟨_, rfl⟩
  rw [hd1] at hf1 hl1 hn1 ha1
  obtain ⟨g1, hg1⟩ : ∃ g1, log0.bump = g1 := ⟨_, rfl⟩
  have hgu : g1.used = 0 ∧ g1.recs = [] ∧ g1.m.ar = 0 ∧ g1.m.c = 1 ∧ g1.m.nu = 0 ∧ g1.doubt = false := by rw [← hg1]; exact ⟨rfl, rfl, rfl, rfl, rfl, rfl⟩
  rw [hg1] at hf1
  have hsp1 : spaceN d1 = 512 := by unfold spaceN secN; rw [hn1]
  have hro : roomZ g1.used d1 = 506 := by unfold roomZ; rw [hsp1, hgu.1]; rfl
  have o2 := append_out hf1.good ab (by rw [hro]; decide)
  obtain ⟨hv2, c2⟩ := out_calm o2 hl1 (by show g1.m.c ≤ _; omega)
  have ha2 : (wriD (g1.add ab) d1 g1.used (recL ab)).1.acts = 4 := by
    rw [hgu.1, wriD_one (by decide) (by decide) hf1.good.dead (by show startN d1 g1.m.ar < _; rw [hgu.2.2.1, hn1]; unfold startN secN; rw [hn1]; decide), ha1]
  obtain ⟨r2, hr2⟩ : ∃ r2, wriD (g1.add ab) d1 g1.used (recL ab) = r2 := ⟨_, rfl⟩
  rw [hr2] at hv2 c2 ha2
  obtain ⟨g2, hg2⟩ : ∃ g2, g1.add ab = g2 := ⟨_, rfl⟩
  rw [hg2] at c2
  have hgu2 : g2.used = 8 ∧ g2.recs = [ab] ∧ g2.m.ar = 0 ∧ g2.m.c = 1 ∧ g2.m.nu = 0 ∧ g2.doubt = false := by
    rw [← hg2]
    refine ⟨?_, ?_, hgu.2.2.1, hgu.2.2.2.1, hgu.2.2.2.2.1, hgu.2.2.2.2.2⟩
    · show g1.used + (6 + ab.size) = 8; rw [hgu.1]; rfl
    · show g1.recs ++ [ab] = _; rw [hgu.2.1]; rfl
  have hsp2 : spaceN r2.1 = 512 := by unfold spaceN secN; rw [c2.n, hn1]
  have hro2 : roomZ g2.used r2.1 = 498 := by unfold roomZ; rw [hsp2, hgu2.1]; rfl
  have o3 := sync_out c2.good (by omega)
  obtain ⟨hv3, c3⟩ := out_calm o3 c2.left (by show g2.m.c + 1 ≤ _; omega)
  have hL3 : setL g2 r2.1 = g2.all.bump := (o3.ok (by rw [hv3]; decide)).2.1
  rw [hL3] at c3
  have ha3 : (setD g2 r2.1).1.acts = 7 := by rw [setD_acts c2.good.dead (by rw [c2.n, hn1]; decide) hv3, ha2]
  obtain ⟨r3, hr3⟩ : ∃ r3, setD g2 r2.1 = r3 := ⟨_, rfl⟩
  rw [hr3] at hv3 c3 ha3
  obtain ⟨g3, hg3⟩ : ∃ g3, g2.all.bump = g3 := ⟨_, rfl⟩
  rw [hg3] at c3 hL3
  have hgu3 : g3.recs = [ab] ∧ g3.m.c = 2 ∧ g3.m.nu = 1 := by
    rw [← hg3]
    exact ⟨hgu2.2.1, by show g2.m.c + 1 = 2; omega, by show g2.recs.length = 1; rw [hgu2.2.1]; rfl⟩
  have hst := c3.good.half.stands
  have hrt : g3.recs.take g3.m.nu = [ab] := by rw [hgu3.1, hgu3.2.2]; rfl
  rw [hrt] at hst
  have hmk := c3.good.half.mrk
  rw [hgu3.2.1] at hmk
  have hrd : readD r3.1 0 = (markL g3.m, 0) := by
    have := readD_in (d := r3.1) (k := 0) (by rw [c3.n, c2.n, hn1]; decide) c3.good.dead
    have e : ((0 : Nat) : Int) = 0 := rfl
    rw [e] at this
    rw [this]
    exact congrArg (fun x => (x, (0 : Int))) hmk
  have HN := Lib.hid (wnew_any w 18 (by decide) (by decide))
  have HF1 := Lib.hid hf1
  have HD1 := Lib.hid hd1
  have HG1 := Lib.hid hg1
  have HG2 := Lib.hid hg2
  have HG3 := Lib.hid hg3
  have HR2 := Lib.hid hr2
  have HR3 := Lib.hid hr3
  have HV2 := Lib.hid hv2
  have HV3 := Lib.hid hv3
  have HL3 := Lib.hid hL3
  have HC2 := Lib.hid c2
  have HC3 := Lib.hid c3
  have HU1 := Lib.hid hgu
  have HU2 := Lib.hid hgu2
  have HU3 := Lib.hid hgu3
  have HRO := Lib.hid hro
  have HRO2 := Lib.hid hro2
  have HA := Lib.hid (And.intro ha1 (And.intro ha2 ha3))
  have HST := Lib.hid hst
  have HRD := Lib.hid hrd
  obtain ⟨S0, hS0⟩ : ∃ S0 : ByteArray, (⟨(markL g3.m).toArray⟩ : ByteArray) = S0 := ⟨_, rfl⟩
  have hs0z : S0.size = 64 := by rw [← hS0]; exact markL_len _
  have hcut : ∀ V, Sem.run Tryz.prog (Instr.slice 9 (.string S0) none (some (.int .i64 6)) none) V = .ok (.string ⟨#[87, 77, 0, 0, 0, 2]⟩) V := fun V => by
    have := cut_run V S0 (c := 6) (by rw [hs0z]; decide)
    have e : S0.extract 0 6 = ⟨#[87, 77, 0, 0, 0, 2]⟩ := by
      rw [← hS0, ByteArray.extract_mk, List.drop_zero, mark_six _ hgu3.2.1]
    rw [e] at this
    exact this
  have HCUT := Lib.hid hcut
  have HS0 := Lib.hid hS0
  clear hf1 hl1 hn1 ha1 hd1 hg1 hgu hsp1 hro o2 hv2 c2 ha2 hr2 hg2 hgu2 hsp2 hro2 o3 hv3 c3 hL3 ha3 hr3 hg3 hgu3 hst hrt hmk hrd hcut hS0
  go_enter Tryz.func4, Tryz.ntmps4
  go_wp2_with fail
  refine HN.out.mono ?_
  rintro e w1 ⟨db, sb, mb, nn, rfl, hD, hDB, hk1⟩
  have hsz1 := hk1.size
  have HFO := Lib.hid (format_go (Z := fun k => w.heap.size ≤ k) hD hDB (fun k hk => by omega) rfl rfl (by decide))
  have HK1 := Lib.hid (hk1.mono (T := fun k => w.heap.size ≤ k) (fun _ _ x => x.elim))
  clear hD hDB hk1 hsz1
  go_wp2_with fail
  refine HFO.out.mono ?_
  rintro e w2 ⟨lb, rfl, hw2, hlb, hk2⟩
  rw [HD1.out, HG1.out] at hw2
  have HW2 := Lib.hid hw2
  have HK2 := Lib.hid (HK1.out.trans hk2)
  clear hw2 hlb hk2 HFO HK1
  go_wp2_with fail
  refine (wappend_go HW2.out HU1.out.2.2.2.2.2 ab (by decide) (by rw [HRO.out]; decide) (by rw [HU1.out.2.2.1]; decide) (by rw [HU1.out.1]; decide) (by rw [HU1.out.2.1]; decide) (by rw [HA.out.1]; decide)).mono ?_
  rw [HR2.out, HG2.out, HV2.out]
  rintro e w3 ⟨rfl, hq3, hk3⟩
  have HW3 := Lib.hid (hq3.log (by decide))
  have HK3 := Lib.hid (HK2.out.trans hk3)
  clear hq3 hk3 HW2 HK2
  go_wp2_with fail
  refine (room_any HW3.out (by rw [HU2.out.1]; decide)).mono ?_
  rw [HRO2.out]
  rintro e w4 ⟨rfl, n4, rfl⟩
  have HW4 := Lib.hid (HW3.out.drewN n4)
  have HK4 := Lib.hid (HK3.out.drewN n4)
  clear HW3 HK3
  generalize w3.drewN n4 = w4 at HW4 HK4 ⊢
  go_wp2_with fail
  refine (wsync_go HW4.out HU2.out.2.2.2.2.2 (by rw [HU2.out.2.2.2.2.1, HU2.out.2.1]; decide) (by rw [HU2.out.2.2.2.1]; decide) (by rw [HG3.out]; exact (HC3.out.good.half.A.sm HC3.out.good.half.base).fits) (by rw [HA.out.2.1]; decide)).mono ?_
  rw [HR3.out, HL3.out, HV3.out]
  rintro e w5 ⟨rfl, hq5, hk5⟩
  have HW5 := Lib.hid (hq5.log (by decide))
  have HK5 := Lib.hid (HK4.out.trans hk5)
  clear hq5 hk5 HW4 HK4
  go_wp2_with fail
  refine (wl_read HW5.out 0 (s := S0) (v := 0) (by rw [HRD.out]; exact HS0.out) (by rw [HRD.out])).mono ?_
  rintro e w6 ⟨rfl, rfl⟩
  obtain ⟨sb5, mb5, nn5, hD5, hDB5⟩ := (HW5.out.whole 0).disk
  have HOP := Lib.hid (open_any hD5 hDB5 (wl_own (rv := .bool false) (sb := 0) (mb := 0) (nn := 0) HW5.out) HC3.out.good.dead)
  clear hD5 hDB5 HW5
  go_wp2_with fail
  refine HOP.out.mono ?_
  rintro e w7 ⟨p, v, rfl, h1, h2, hk7⟩
  obtain ⟨rfl, lb2, rfl, hlb2, hw7⟩ := h1 _ _ HST.out
  have HW7 := Lib.hid hw7
  have HK7 := Lib.hid (HK5.out.trans hk7)
  clear h1 h2 hk7 hlb2 hw7 HK5 HOP
  go_wp2_with fail
  refine (records_any HW7.out rfl (by show 1 * 16 ≤ _; decide)).mono ?_
  rintro e w8 ⟨v', rfl, hr8, hk8⟩
  have hT8 : TsAt w8 (fun k => v'.ownBlock = some k) v' [ab] := ts_row (l := [ab]) hr8
  obtain ⟨ao8, c8, rfl⟩ := slice_of_row hr8
  have HW8 := Lib.hid (HW7.out.kept0 hk8)
  have HK8 := Lib.hid (HK7.out.trans (hk8.mono (fun _ _ x => x.elim)))
  have HT8 := Lib.hid (hT8.kept ((Kept.refl (fun _ => False) w8).alloc (.cells #[.string ⟨#[97, 98]⟩] 9)) (fun _ _ x => x))
  have HT9 : Hid (TsAt (w8.alloc (.cells #[.string ⟨#[97, 98]⟩] 9)) (fun k => k = w8.heap.size) (.slice (some ⟨w8.heap.size, 0, none⟩) 1 1) [ab]) := Lib.hid (ts_one (by simp [ab]))
  have HK9 := Lib.hid (HK8.out.alloc (.cells #[.string ⟨#[97, 98]⟩] 9))
  have HW9 := Lib.hid (HW8.out.kept0 ((Kept.refl _ w8).alloc (.cells #[.string ⟨#[97, 98]⟩] 9)))
  clear hr8 hk8 hT8 HW7 HK7 HW8 HK8
  go_wp2_with fail
  refine (texts_any HT8.out HT9.out (by decide) (by decide)).mono ?_
  rintro e w9 ⟨rfl, n9, rfl⟩
  have HW10 := Lib.hid (HW9.out.drewN n9)
  have HK10 := Lib.hid (HK9.out.drewN n9)
  clear HT8 HT9 HW9 HK9
  generalize (w8.alloc (.cells #[.string ⟨#[97, 98]⟩] 9)).drewN n9 = w9 at HW10 HK10 ⊢
  have hdec : decide ([ab] = [ab]) = true := by decide
  rw [hdec]
  have hcut := HCUT.out
  have HAC : Hid (Calls Tryz.prog 22 #[.pointer (some ⟨db, 0, none⟩)] w9 fun e w' => e = .returned (.int .i64 7) ∧ w9 = w') := Lib.hid (by
    obtain ⟨sb9, mb9, nn9, hD9, _⟩ := (HW10.out.whole 0).disk
    have := acts_any hD9
    rw [HA.out.2.2] at this
    exact this)
  go_wp2_with fail
  refine HAC.out.mono ?_
  rintro e w10 ⟨rfl, rfl⟩
  go_wp2_with fail
  go_ret
  refine ⟨rfl, HK10.out.os, HK10.out.tape, HK10.out.output, HK10.out.size, fun k hk _ => HK10.out.block k hk (by omega)⟩
end Go.Proofs.YtcjfpddmpiggoaaGreat

namespace Go.Proofs.YtcjfpddmpiggoaaGreat
open Go.ChangeShapes Go.WideShapes Go.ChangeAt Go.RowKit
set_option linter.unusedVariables false
set_option linter.unusedSimpArgs false

theorem nums_of {H : Type} {enc : TypeId × Value → H} {W : World} {base fuel : Nat} {held : Bool} {a : Option Addr} {len cap : Nat} {x : DataW H × List MemPlace}
    (h : DataW.trod enc Tryz.prog W base (fun _ => true) held fuel 32 [.slice a len cap] = some x) : ∃ zs aa cap1, Value.slice a len cap = .slice aa (List.length zs) cap1 ∧ NumAt W (fun k => k < W.heap.size) (.slice aa (List.length zs) cap1) zs ∧ zs.length ≤ cap1 ∧ cap1 ≤ maxLen := by
  rcases open_ints Tryz.underlying32 Tryz.underlying3 (by kernel_rfl) h with ⟨hc, _⟩ | ⟨a', len', cap', zs, hc, hb, hl, hm, hz, hx, hi, hwf⟩
  · simp only [List.cons.injEq, Value.slice.injEq, and_true] at hc
    obtain ⟨rfl, rfl, rfl⟩ := hc
    exact ⟨[], Option.none, 0, rfl, ⟨⟨_, _, rfl, fun i h => absurd h (by simp)⟩, fun x hx => absurd hx (by simp)⟩, Nat.le_refl _, Nat.zero_le _⟩
  · simp only [List.cons.injEq, Value.slice.injEq, and_true] at hc
    obtain ⟨rfl, rfl, rfl⟩ := hc
    simp only [if_true] at hz
    have e : (zs.take len).length = len := by rw [List.length_take]; omega
    refine ⟨zs.take len, some a', cap, by rw [e], ⟨⟨_, _, rfl, fun i hi0 => ?_⟩, fun x hx => ?_⟩, by omega, hm⟩
    · have hil : i < len := by omega
      have hcell := hi i (by omega)
      obtain ⟨b, off, spot⟩ := a'
      have hspot : spot = Option.none := by simpa [Addr.add] using World.cell?_spot (hi 0 (by omega))
      subst hspot
      have hadd : (⟨b, off, Option.none⟩ : Addr).add i = ⟨b, off + i, Option.none⟩ := by unfold Addr.add; split <;> simp_all
      rw [hadd] at hcell
      refine ⟨b, off, rfl, World.block_lt_of_cell? W _ hcell, ?_⟩
      rw [hcell, List.getElem_take]
      simp [List.getD, List.getElem?_eq_getElem (show i < zs.length by omega)]
    · have := hwf x (List.mem_of_mem_take hx)
      simp [Lit.wf, IntKind.min, IntKind.max, IntKind.bits, IntKind.signed] at this
      omega

section
variable {H : Type} {enc : TypeId × Value → H} {w : World} {base : Nat} {held : Bool}

/-- a struct of one-cell fields, field by field -/
theorem struct_read {spare : Nat → Bool} {P : Program} {t : TypeId} {fs : Array Field} {fuel : Nat} {cs : List Value} {x : DataW H × List MemPlace} (hu : P.underlying t = some (.struct fs)) (hone : Go.Deep.oneCellFields P fs = true) (hC : P.cellsOf t = fs.size)
    (h : DataW.trod enc P w base spare held fuel t cs = some x) :
    ∃ n ds, cs.length = fs.size ∧ x.1 = .agg ds ∧ ∀ (j : Nat) (f : Field), fs[j]? = some f → ∃ v y, cs[j]? = some v ∧ DataW.trod enc P w base spare held n f.type [v] = some y ∧ ds[j]? = some y.1 := by
  obtain ⟨xs, n, _, hxe, hlen, hxl, hf⟩ := DataW.trod_struct hu h
  rw [hC] at hlen
  refine ⟨n, xs.map (·.1), hlen, by rw [hxe], fun j f hj => ?_⟩
  obtain ⟨ho, hk⟩ := Go.Deep.hone_of hone j f hj
  have hjl : j < fs.size := (Array.getElem?_eq_some_iff.1 hj).1
  have h1 := hf j f hj
  rw [ho, hk, List.drop_eq_getElem_cons (by omega)] at h1
  exact ⟨cs[j], xs[j], List.getElem?_eq_getElem (by omega), h1.trans (List.getElem?_eq_getElem (by omega)), by rw [List.getElem?_map, List.getElem?_eq_getElem (by omega)]; rfl⟩

theorem weights_all {P : Program} {e : TypeId} {n : Nat} : ∀ {l : List (DataW H)} {i : Nat} {d : DataW H}, l[i]? = some d → n ∈ d.weights P e → n ∈ DataW.weightsAll P e l
  | [], _, _, hd, _ => by simp at hd
  | d0 :: l, 0, d, hd, hn => by
    simp only [List.getElem?_cons_zero, Option.some.injEq] at hd
    subst hd
    simp only [DataW.weightsAll, List.mem_append]
    exact .inl hn
  | d0 :: l, i + 1, d, hd, hn => by
    simp only [List.getElem?_cons_succ] at hd
    simp only [DataW.weightsAll, List.mem_append]
    exact .inr (weights_all hd hn)

theorem list_of {α : Type} {Q : Nat → α → Prop} : ∀ (n : Nat), (∀ i, i < n → ∃ x, Q i x) → ∃ l : List α, l.length = n ∧ ∀ i (h : i < l.length), Q i l[i]
  | 0, _ => ⟨[], rfl, fun i h => by simp at h⟩
  | n + 1, h => by
    obtain ⟨l, hl, hq⟩ := list_of n (fun i hi => h i (by omega))
    obtain ⟨x, hx⟩ := h n (by omega)
    refine ⟨l ++ [x], by simp [hl], fun i hi => ?_⟩
    by_cases hin : i < l.length
    · rw [List.getElem_append_left hin]; exact hq i hin
    · have : i = n := by simp at hi; omega
      subst this
      rw [List.getElem_append_right (by omega)]
      simpa [hl] using hx

end

/-- a step of a script -/
structure OpW where
  k : Int
  n : Int
  f : Int
  l : List Int
  how : List Int
def OpW.cells (o : OpW) (lv hv : Value) : List Value := [.int .i64 o.k, .int .i64 o.n, .int .i64 o.f, lv, hv]
structure OpW.Fits (o : OpW) : Prop where
  k : -9223372036854775808 ≤ o.k ∧ o.k ≤ 9223372036854775807
  n : -9223372036854775808 ≤ o.n ∧ o.n ≤ 9223372036854775807
  f : -9223372036854775808 ≤ o.f ∧ o.f ≤ 9223372036854775807
  l : o.l.length * 8 ≤ 140737488351232
  how : o.how.length * 8 ≤ 140737488351232
structure OpsW (B : Nat) (w : World) (a : Option Addr) (l : List OpW) : Prop where
  fits : ∀ o ∈ l, o.Fits
  at_ : ∀ (i : Nat) (h : i < l.length), ∃ g off lv hv, a = some ⟨g, off, none⟩ ∧ g < B ∧ (∀ j v, (l[i].cells lv hv)[j]? = some v → w.cell? ⟨g, off + i * 5 + j, none⟩ = some v) ∧ NumAt w (fun k => k < B) lv l[i].l ∧ NumAt w (fun k => k < B) hv l[i].how
  len : l.length ≤ 140737488351232
theorem OpsW.kept {X : Nat → Prop} {B : Nat} {w w' : World} {a : Option Addr} {l : List OpW} (h : OpsW B w a l) (hk : Kept X w w') (hx : ∀ k, k < B → ¬ X k) : OpsW B w' a l := by
  refine ⟨h.fits, fun i hi => ?_, h.len⟩
  obtain ⟨g, off, lv, hv, ha, hg, hc, h1, h2⟩ := h.at_ i hi
  exact ⟨g, off, lv, hv, ha, hg, fun j v hj => by
    have := hc j v hj
    rw [World.cell?_of_block (w := w) (hk.block g (World.block_lt_of_cell? w _ this) (hx g hg))]; exact this, h1.kept hk hx, h2.kept hk hx⟩

section
variable {H : Type} {enc : TypeId × Value → H} {w : World} {base : Nat} {held : Bool}
theorem opw_of {n : Nat} {cs : List Value} {x : DataW H × List MemPlace} (h : DataW.trod enc Tryz.prog w base (fun _ => true) held n 34 cs = some x) (hz : ∀ n ∈ x.1.weights Tryz.prog 34, n ≤ reachBytes) :
    ∃ (o : OpW) (lv hv : Value), o.Fits ∧ cs = o.cells lv hv ∧ NumAt w (fun k => k < w.heap.size) lv o.l ∧ NumAt w (fun k => k < w.heap.size) hv o.how := by
  obtain ⟨m, dd, hlen, hxd, hf⟩ := struct_read Tryz.underlying34 (by kernel_rfl) (by kernel_rfl) h
  have hl : cs.length = 5 := hlen
  match cs, hl with
  | [c0, c1, c2, c3, c4], _ =>
    obtain ⟨v0, y0, e0, h0, u0⟩ := hf 0 _ rfl
    obtain ⟨v1, y1, e1, h1, u1⟩ := hf 1 _ rfl
    obtain ⟨v2, y2, e2, h2, u2⟩ := hf 2 _ rfl
    obtain ⟨v3, y3, e3, h3, u3⟩ := hf 3 _ rfl
    obtain ⟨v4, y4, e4, h4, u4⟩ := hf 4 _ rfl
    simp at e0 e1 e2 e3 e4
    subst e0 e1 e2 e3 e4
    obtain ⟨k, ek, _, wk⟩ := DataW.trod_int Tryz.underlying3 h0
    obtain ⟨n1, en, _, wn⟩ := DataW.trod_int Tryz.underlying3 h1
    obtain ⟨f, ef, _, wf⟩ := DataW.trod_int Tryz.underlying3 h2
    simp only [List.cons.injEq, and_true] at ek en ef
    subst ek en ef
    obtain ⟨a3, l3, c3', rfl, hl3⟩ : ∃ a l c, c3 = Value.slice a l c ∧ l * 8 ≤ reachBytes := by
      rcases Go.Deep.open_slice Tryz.underlying32 h3 with ⟨hc, _⟩ | ⟨a', len', cap', m, n, D, Pl, hc, _, _, _, _, hx5, _⟩
      · simp only [List.cons.injEq, and_true] at hc
        exact ⟨_, _, _, hc, by decide⟩
      · simp only [List.cons.injEq, and_true] at hc
        refine ⟨_, _, _, hc, ?_⟩
        have hb8 : Tryz.prog.bytesOf 3 = 8 := by kernel_rfl
        have hw := hz (((List.range len').map D).length * 8 + ((List.range (m - len')).map fun j => D (len' + j)).length * 8) (by
          rw [hxd]
          simp only [DataW.weights, Tryz.underlying34]
          refine DataW.weights_mem_each (j := 3) rfl u3 _ ?_
          rw [hx5]
          simp only [DataW.weights, Tryz.underlying32, hb8, Nat.add_mul]
          exact List.mem_cons_self)
        rw [List.length_map, List.length_range] at hw
        omega
    obtain ⟨zs3, aa3, cap3, e32, hh3, _, _⟩ := nums_of h3
    rw [e32]
    obtain ⟨a4, l4, c4', rfl, hl4⟩ : ∃ a l c, c4 = Value.slice a l c ∧ l * 8 ≤ reachBytes := by
      rcases Go.Deep.open_slice Tryz.underlying32 h4 with ⟨hc, _⟩ | ⟨a', len', cap', m, n, D, Pl, hc, _, _, _, _, hx5, _⟩
      · simp only [List.cons.injEq, and_true] at hc
        exact ⟨_, _, _, hc, by decide⟩
      · simp only [List.cons.injEq, and_true] at hc
        refine ⟨_, _, _, hc, ?_⟩
        have hb8 : Tryz.prog.bytesOf 3 = 8 := by kernel_rfl
        have hw := hz (((List.range len').map D).length * 8 + ((List.range (m - len')).map fun j => D (len' + j)).length * 8) (by
          rw [hxd]
          simp only [DataW.weights, Tryz.underlying34]
          refine DataW.weights_mem_each (j := 4) rfl u4 _ ?_
          rw [hx5]
          simp only [DataW.weights, Tryz.underlying32, hb8, Nat.add_mul]
          exact List.mem_cons_self)
        rw [List.length_map, List.length_range] at hw
        omega
    obtain ⟨zs4, aa4, cap4, e42, hh4, _, _⟩ := nums_of h4
    rw [e42]
    have w0 := wk
    have w1 := wn
    have w2 := wf
    simp [Lit.wf, IntKind.min, IntKind.max, IntKind.bits, IntKind.signed] at w0 w1 w2
    refine ⟨⟨k, n1, f, zs3, zs4⟩, _, _, ⟨⟨?_, ?_⟩, ⟨?_, ?_⟩, ⟨?_, ?_⟩, ?_, ?_⟩, rfl, hh3, hh4⟩
    · show -9223372036854775808 ≤ k; omega
    · show k ≤ 9223372036854775807; omega
    · show -9223372036854775808 ≤ n1; omega
    · show n1 ≤ 9223372036854775807; omega
    · show -9223372036854775808 ≤ f; omega
    · show f ≤ 9223372036854775807; omega
    · have e9 : l3 = zs3.length := by injection e32
      show zs3.length * 8 ≤ 140737488351232
      rw [← e9]; exact hl3
    · have e9 : l4 = zs4.length := by injection e42
      show zs4.length * 8 ≤ 140737488351232
      rw [← e9]; exact hl4
theorem opsw_of {fuel : Nat} {a : Option Addr} {len cap : Nat} {x : DataW H × List MemPlace}
    (h : DataW.trod enc Tryz.prog w base (fun _ => true) held fuel 22 [.slice a len cap] = some x) (hz : ∀ n ∈ x.1.weights Tryz.prog 22, n ≤ reachBytes) : ∃ l : List OpW, l.length = len ∧ OpsW w.heap.size w a l := by
  rcases Go.Deep.open_slice Tryz.underlying22 h with ⟨hc, _⟩ | ⟨a', len', cap', m, n, D, Pl, hc, hb, hl, hm, hmm, hx, hi⟩
  · simp at hc
    obtain ⟨rfl, rfl, rfl⟩ := hc
    exact ⟨[], rfl, by simp, fun i h => by simp at h, by simp⟩
  · simp at hc
    obtain ⟨rfl, rfl, rfl⟩ := hc
    have e6 : Tryz.prog.cellsOf 34 = 5 := by kernel_rfl
    simp only [if_true] at hmm
    have key : ∀ i, i < len → ∃ o : OpW, o.Fits ∧ ∃ lv hv, (∀ j v, (o.cells lv hv)[j]? = some v → w.cell? ((a'.add (i * 5)).add j) = some v) ∧ NumAt w (fun k => k < w.heap.size) lv o.l ∧ NumAt w (fun k => k < w.heap.size) hv o.how := by
      intro i hil
      obtain ⟨cs', hcells, ht⟩ := hi i (by omega)
      obtain ⟨o, lv, hv, hfit, rfl, hhl, hh⟩ := opw_of ht (fun n hn => hz n (by
        rw [hx]
        simp only [DataW.weights, Tryz.underlying22]
        exact List.mem_cons_of_mem _ (List.mem_append_left _ (weights_all (l := (List.range len).map D) (i := i) (d := D i) (by simp [hil]) hn))))
      obtain ⟨_, _, hat⟩ := World.cells?_some hcells
      rw [e6] at hat
      refine ⟨o, hfit, lv, hv, fun j v hj => ?_, hhl, hh⟩
      have hj6 : j < 5 := (List.getElem?_eq_some_iff.1 hj).1
      rw [hat j (by omega)]; exact hj
    obtain ⟨l, hil, hq⟩ := list_of len key
    have hlb : len ≤ reachBytes := by
      have hb1 : Tryz.prog.bytesOf 34 = 72 := by kernel_rfl
      have hw := hz (((List.range len).map D).length * 72 + ((List.range (m - len)).map fun j => D (len + j)).length * 72) (by
        rw [hx]
        simp only [DataW.weights, Tryz.underlying22, hb1, Nat.add_mul]
        exact List.mem_cons_self)
      rw [List.length_map, List.length_range] at hw
      omega
    refine ⟨l, hil, ?_, fun i hi2 => ?_, by rw [hil]; exact hlb⟩
    · intro y hy
      obtain ⟨i, hi2, rfl⟩ := List.getElem_of_mem hy
      exact (hq i hi2).1
    · obtain ⟨b, off, spot⟩ := a'
      obtain ⟨lv, hv, hs, hhl, hh⟩ := (hq i hi2).2
      have hspot : spot = none := by
        obtain ⟨lv0, hv0, hs0, _⟩ := (hq 0 (by omega)).2
        have h0 := World.cell?_spot (hs0 0 _ rfl)
        simpa [Addr.add] using h0
      subst hspot
      have hadd : ∀ o j, (⟨b, o, none⟩ : Addr).add j = ⟨b, o + j, none⟩ := fun o j => by unfold Addr.add; split <;> simp_all
      simp only [hadd] at hs
      exact ⟨b, off, lv, hv, rfl, World.block_lt_of_cell? w _ (hs 0 _ rfl), hs, hhl, hh⟩
end
end Go.Proofs.YtcjfpddmpiggoaaGreat

namespace Go.Proofs.YtcjfpddmpiggoaaGreat
open Go.ChangeShapes Go.WideShapes Go.ChangeAt Go.RowKit
set_option linter.unusedVariables false
set_option linter.unusedSimpArgs false
theorem three_of {w : World} {g : Nat} {a0 a1 a2 : Value} {T : TypeId} (h : w.heap[g]? = some (.cells #[a0, a1, a2] T (0, 0))) :
    w.cell? ⟨g, 0, none⟩ = some a0 ∧ w.cell? ⟨g, 1, none⟩ = some a1 ∧ w.cell? ⟨g, 2, none⟩ = some a2 ∧ (∀ i, w.frozen? ⟨g, i, none⟩ = false) := by
  refine ⟨?_, ?_, ?_, fun i => by unfold World.frozen?; rw [h]; rfl⟩ <;> rw [cell_of_row w g _ _ _ (0, 0) h] <;> rfl
theorem state_info : (Tryz.prog.info? 39).map (·.size) = some 3 := by kernel_rfl
theorem TsAt.mono {w : World} {ok ok' : Nat → Prop} {v : Value} {l : List ByteArray} (h : TsAt w ok v l) (hm : ∀ k, ok k → ok' k) : TsAt w ok' v l := by
  obtain ⟨a, cap, hv, hc⟩ := h.ex
  refine ⟨⟨a, cap, hv, fun i hi => ?_⟩⟩
  obtain ⟨g, off, h1, h2, h3⟩ := hc i hi
  exact ⟨g, off, h1, hm g h2, h3⟩
def toldL (g : LSt) (all : Bool) : List ByteArray := if all then g.recs else g.recs.take g.m.nu
section
variable {Z : Nat → Prop} {w w' : World} {lb db : Nat} {g : LSt} {d : DSt}
def ToldPost (w : World) (g : LSt) (all : Bool) (e : Ending) (w' : World) : Prop :=
  ∃ a c, e = .returned (.agg #[.slice a (toldL g all).length c, .int .i64 g.m.a, .int .i64 g.m.b]) ∧ TsAt w' (fun k => w.heap.size ≤ k) (.slice a (toldL g all).length c) (toldL g all) ∧ Kept (fun _ => False) w w' ∧ (toldL g all).length ≤ c
theorem slice_cap {w : World} {base : Nat} {e : TypeId} {size n : Nat} {v : Value} {xs : List Value} (h : w.ownsRow base e size v n xs) : ∃ ao cap, v = .slice ao n cap ∧ n ≤ cap := by
  rcases h.2 with ⟨hv, h0⟩ | ⟨g, cap, cur, hv, hb, hh, h1, _⟩
  · exact ⟨none, 0, by rw [hv, h0], by omega⟩
  · exact ⟨_, _, hv, h1⟩
set_option maxRecDepth 100000 in
set_option maxHeartbeats 2000000 in
theorem told_true (hw : Wl Z w lb db g d) (hg : Good d g) : Calls Tryz.prog 10 #[.pointer (some ⟨lb, 0, none⟩), .bool true] w (ToldPost w g true) := by
  have hsp := hg.half.base.space
  have husp := hg.usp
  have hus := hg.used
  have hll := sizeN_len g.recs
  have hlen : g.recs.length ≤ 1048512 := by omega
  have hnu := hg.nu
  have HNU := Lib.hid hnu
  have hdb := hg.doubt
  have HLN : Hid ((toldL g true).length = g.recs.length) := Lib.hid (by unfold toldL; first | rfl | (simp; omega))
  have hmx : max (g.m.nu : Int) 0 = (g.m.nu : Int) := by omega
  have hmn : min (g.m.nu : Int) (g.recs.length : Int) = (g.m.nu : Int) := by omega
  obtain ⟨B1, hB1⟩ : ∃ B1, w.heap.size = B1 := ⟨_, rfl⟩
  have hb1 : (w.alloc (.cells #[.slice none 0 0, .int .i64 0, .int .i64 0] 39)).heap[B1]? = some (.cells #[.slice none 0 0, .int .i64 0, .int .i64 0] 39 (0, 0)) := by rw [← hB1]; exact heap_alloc_new w _
  have hkw : Kept (fun _ => False) w (w.alloc (.cells #[.slice none 0 0, .int .i64 0, .int .i64 0] 39)) := (Kept.refl _ w).alloc _
  have hlt1 := lt_of_block hb1
  have hw1 := hw.kept0 hkw
  have HBE : Hid (w.heap.size = B1) := Lib.hid hB1
  obtain ⟨W1, hW1⟩ : ∃ W1, w.alloc (.cells #[.slice none 0 0, .int .i64 0, .int .i64 0] 39) = W1 := ⟨_, rfl⟩
  rw [hW1] at hb1 hkw hlt1 hw1
  have HB1 := Lib.hid hb1
  have HKW := Lib.hid hkw
  have HLT := Lib.hid hlt1
  have HW1 := Lib.hid hw1
  have HWE := Lib.hid hW1
  clear hw hg hsp husp hus hll hB1 hb1 hkw hlt1 hw1 hW1 hnu
  go_enter Tryz.func10, Tryz.ntmps10
  go_wp2_with fail
  rw [HWE.out]
  refine (records_any HW1.out hdb (by omega)).mono ?_
  rintro e w2 ⟨v', rfl, hr, hk2⟩
  have HR := Lib.hid hr
  have HK2 := Lib.hid hk2
  obtain ⟨ao, cap, rfl⟩ := slice_of_row hr
  clear hr hk2
  rw [HBE.out]
  go_wp2_with fail
  refine (marks_any (HW1.out.kept0 HK2.out)).mono ?_
  rintro e w3 ⟨rfl, n3, rfl⟩
  have HK3 := Lib.hid (HK2.out.drewN n3)
  have HR3 := Lib.hid (rowKept HR.out ((Kept.refl (fun _ => False) w2).drewN n3) (fun _ _ f => f))
  have HW3 := Lib.hid ((HW1.out.kept0 HK2.out).drewN n3)
  clear HK2 HR
  generalize w2.drewN n3 = w3 at HK3 HR3 HW3 ⊢
  have HSL : Hid (W1.heap.size ≤ w3.heap.size) := Lib.hid HK3.out.size
  rcases HR3.out.2 with ⟨hv, h0⟩ | ⟨gg, cap', cur, hv, hbb, hh, h1, h2, h3, h4⟩
  · injection hv with hv1 hv2 hv3
    subst hv1 hv3
    have hnu0 : g.m.nu = 0 := by have := HNU.out; omega
    have hrz : g.recs = [] := List.length_eq_zero_iff.1 h0
    have HTE : Hid (TsAt w3 (fun k => B1 < k ∧ w.heap.size ≤ k) (.slice none 0 0) (toldL g true)) := Lib.hid (by
      have e : toldL g true = [] := by unfold toldL; rw [hrz]; simp
      rw [e]; exact ⟨⟨none, 0, rfl, fun i hi => by simp at hi⟩⟩)
    obtain ⟨i0, si, sz, ss, sbb⟩ := string_inf
    have HSI := Lib.hid si
    have HLN0 : Hid (g.recs.length = 0) := Lib.hid (by omega)
    have hnz : (g.m.nu : Int) = 0 := by omega
    have hlz : (g.recs.length : Int) = 0 := by omega
    clear hv2 hnu0 hrz h0 si sz ss sbb HR3
    have HT6 := HTE
    have HK6 := HK3
    generalize w3 = w6 at HT6 HK6 HW3 HK3 HSL HTE ⊢
    have hb6 := (HK6.out.block B1 HLT.out id).trans HB1.out
    have HB6 : Hid (w6.heap[B1]? = some (.cells [.slice none 0 0, .int .i64 0, .int .i64 0].toArray 39 (0, 0))) := Lib.hid hb6
    obtain ⟨c0, c1, c2, ff⟩ := three_of hb6
    have f0 := ff 0
    have f1 := ff 1
    have f2 := ff 2
    clear ff hb6
    go_wp2_with (at_builtin; refine wpList_append_own_none rfl _ _ 37 rfl 0 9 i0 1 Tryz.underlying37 HSI.out (.slice none 0 0) 0 [] rfl (World.ownsRow_nil w6 _ _ 1) rfl ?_)
    have h9 := heap_set (i := 2) (.int .i64 g.m.b) (heap_set (i := 1) (.int .i64 g.m.a) (heap_set (i := 0) (.slice none 0 0) HB6.out))
    have hk9 : Kept (fun k => k = B1) w6 (((w6.setCell ⟨B1, 0, none⟩ (.slice none 0 0)).setCell ⟨B1, 1, none⟩ (.int .i64 g.m.a)).setCell ⟨B1, 2, none⟩ (.int .i64 g.m.b)) := ((kept_set w6 B1 0 _).trans (kept_set _ B1 1 _)).trans (kept_set _ B1 2 _)
    have H9 := Lib.hid h9
    have HK9 := Lib.hid hk9
    clear h9 hk9 c0 c1 c2 f0 f1 f2
    generalize (((w6.setCell ⟨B1, 0, none⟩ (.slice none 0 0)).setCell ⟨B1, 1, none⟩ (.int .i64 g.m.a)).setCell ⟨B1, 2, none⟩ (.int .i64 g.m.b)) = w9 at H9 HK9 ⊢
    have hload := run_loadVar_row (P := Tryz.prog) _ B1 39 39 _ (0, 0) _ H9.out Tryz.underlying39 rfl state_info
    have hfin : Kept (fun _ => False) w w9 := by
      have h0 : Kept (fun k => k = B1) w w9 := (HKW.out.mono (fun _ _ f => f.elim)).trans ((HK6.out.mono (fun _ _ f => f.elim)).trans HK9.out)
      exact ⟨h0.os, h0.tape, h0.output, h0.size, fun k hk _ => h0.block k hk (by have := HBE.out; show ¬ (k = B1); omega)⟩
    exact ret_box 4 39 B1 _ Tryz.results10 rfl hload rfl ⟨none, 0, by rw [HLN.out, HLN0.out]; rfl, ((show TsAt w6 _ (.slice none (toldL g true).length 0) _ by rw [HLN.out, HLN0.out]; exact HT6.out).kept HK9.out (fun k hk e => by have h8 : B1 < k ∧ w.heap.size ≤ k := hk; have e : k = B1 := e; omega)).mono (fun k hk => (show B1 < k ∧ w.heap.size ≤ k from hk).2), hfin, by rw [HLN.out, HLN0.out]; exact Nat.le_refl _⟩
  · injection hv with hv1 hv2 hv3
    subst hv1 hv3
    have hxs := HR3.out.cells (g := gg) rfl
    have HCEL : Hid (∀ j u, ((toldL g true).map Value.string)[j]? = some u → w3.cell? ((⟨gg, 0, none⟩ : Addr).add j) = some u) := Lib.hid (fun j u hj => hxs j u (by
      rw [List.getElem?_map] at hj ⊢
      have e : (toldL g true)[j]? = some (toldL g true)[j]! → True := fun _ => trivial
      cases he : (toldL g true)[j]? with
      | none => rw [he] at hj; cases hj
      | some x =>
        rw [he] at hj
        rw [show g.recs[j]? = some x by
          unfold toldL at he
          exact he]
        exact hj))
    obtain ⟨i0, si, sz, ss, sbb⟩ := string_inf
    have HSI := Lib.hid (And.intro si (And.intro sz (And.intro ss sbb)))
    have HL2 : Hid (((toldL g true).map Value.string).length = g.recs.length * 1) := Lib.hid (by rw [List.length_map, HLN.out, Nat.mul_one])
    have HNL : Hid (g.recs.length ≤ 1048512) := Lib.hid (by have := HNU.out; omega)
    have hcp : g.recs.length ≤ cap := h1
    have hncp : g.recs.length ≤ cap := by have := HNU.out; omega
    clear hxs si sz ss sbb HR3 h1 h2 h3 h4 hh hbb
    go_wp2_with (at_builtin; refine wpList_append_own _ rfl _ _ 37 rfl w3.heap.size 9 i0 (.string ByteArray.empty) 1 16 Tryz.underlying37 HSI.out.1 HSI.out.2.1 HSI.out.2.2.1 HSI.out.2.2.2 rfl (by decide) (.slice none 0 0) 0 [] rfl (World.ownsRow_nil w3 _ _ 1) ⟨gg, 0, none⟩ g.recs.length cap ((toldL g true).map Value.string) rfl HL2.out HCEL.out (by intro u hu; obtain ⟨x, _, rfl⟩ := List.mem_map.1 hu; rfl) (by unfold maxLen; have := HNL.out; omega) (by have := HNL.out; omega) (Nat.le_refl _) (fun v6 w6 hown6 hg6 hnil6 => ?_); rw [Nat.zero_add, List.nil_append, ← HLN.out] at hown6; have HT6 : Hid (TsAt w6 (fun k => B1 < k ∧ w.heap.size ≤ k) v6 (toldL g true)) := Lib.hid ((ts_row hown6).mono (fun k hk => by have := (hown6.lt k hk).1; have := HSL.out; have := HLT.out; have := HBE.out; omega)); have HK6 := Lib.hid (HK3.out.trans ((Kept.of_grownBy hg6).mono (fun j _ e => by simp [Value.ownBlock] at e))); obtain ⟨ao6, c6, rfl, hc6⟩ := slice_cap hown6; have HC6 := Lib.hid hc6; clear hc6; clear hown6 hg6 hnil6; have hb6 := (HK6.out.block B1 HLT.out id).trans HB1.out; have HB6 : Hid (w6.heap[B1]? = some (.cells [.slice none 0 0, .int .i64 0, .int .i64 0].toArray 39 (0, 0))) := Lib.hid hb6; obtain ⟨c0, c1, c2, ff⟩ := three_of hb6; have f0 := ff 0; have f1 := ff 1; have f2 := ff 2; clear ff hb6)
    have h9 := heap_set (i := 2) (.int .i64 g.m.b) (heap_set (i := 1) (.int .i64 g.m.a) (heap_set (i := 0) (.slice ao6 (toldL g true).length c6) HB6.out))
    have hk9 : Kept (fun k => k = B1) w6 (((w6.setCell ⟨B1, 0, none⟩ (.slice ao6 (toldL g true).length c6)).setCell ⟨B1, 1, none⟩ (.int .i64 g.m.a)).setCell ⟨B1, 2, none⟩ (.int .i64 g.m.b)) := ((kept_set w6 B1 0 _).trans (kept_set _ B1 1 _)).trans (kept_set _ B1 2 _)
    have H9 := Lib.hid h9
    have HK9 := Lib.hid hk9
    clear h9 hk9 c0 c1 c2 f0 f1 f2
    generalize (((w6.setCell ⟨B1, 0, none⟩ (.slice ao6 (toldL g true).length c6)).setCell ⟨B1, 1, none⟩ (.int .i64 g.m.a)).setCell ⟨B1, 2, none⟩ (.int .i64 g.m.b)) = w9 at H9 HK9 ⊢
    have hload := run_loadVar_row (P := Tryz.prog) _ B1 39 39 _ (0, 0) _ H9.out Tryz.underlying39 rfl state_info
    have hfin : Kept (fun _ => False) w w9 := by
      have h0 : Kept (fun k => k = B1) w w9 := (HKW.out.mono (fun _ _ f => f.elim)).trans ((HK6.out.mono (fun _ _ f => f.elim)).trans HK9.out)
      exact ⟨h0.os, h0.tape, h0.output, h0.size, fun k hk _ => h0.block k hk (by have := HBE.out; show ¬ (k = B1); omega)⟩
    exact ret_box 4 39 B1 _ Tryz.results10 rfl hload rfl ⟨ao6, c6, rfl, (HT6.out.kept HK9.out (fun k hk e => by have h8 : B1 < k ∧ w.heap.size ≤ k := hk; have e : k = B1 := e; omega)).mono (fun k hk => (show B1 < k ∧ w.heap.size ≤ k from hk).2), hfin, HC6.out⟩
set_option maxRecDepth 100000 in
set_option maxHeartbeats 2000000 in
theorem told_false (hw : Wl Z w lb db g d) (hg : Good d g) : Calls Tryz.prog 10 #[.pointer (some ⟨lb, 0, none⟩), .bool false] w (ToldPost w g false) := by
  have hsp := hg.half.base.space
  have husp := hg.usp
  have hus := hg.used
  have hll := sizeN_len g.recs
  have hlen : g.recs.length ≤ 1048512 := by omega
  have hnu := hg.nu
  have HNU := Lib.hid hnu
  have hdb := hg.doubt
  have HLN : Hid ((toldL g false).length = g.m.nu) := Lib.hid (by unfold toldL; first | rfl | (simp; omega))
  have hmx : max (g.m.nu : Int) 0 = (g.m.nu : Int) := by omega
  have hmn : min (g.m.nu : Int) (g.recs.length : Int) = (g.m.nu : Int) := by omega
  obtain ⟨B1, hB1⟩ : ∃ B1, w.heap.size = B1 := ⟨_, rfl⟩
  have hb1 : (w.alloc (.cells #[.slice none 0 0, .int .i64 0, .int .i64 0] 39)).heap[B1]? = some (.cells #[.slice none 0 0, .int .i64 0, .int .i64 0] 39 (0, 0)) := by rw [← hB1]; exact heap_alloc_new w _
  have hkw : Kept (fun _ => False) w (w.alloc (.cells #[.slice none 0 0, .int .i64 0, .int .i64 0] 39)) := (Kept.refl _ w).alloc _
  have hlt1 := lt_of_block hb1
  have hw1 := hw.kept0 hkw
  have HBE : Hid (w.heap.size = B1) := Lib.hid hB1
  obtain ⟨W1, hW1⟩ : ∃ W1, w.alloc (.cells #[.slice none 0 0, .int .i64 0, .int .i64 0] 39) = W1 := ⟨_, rfl⟩
  rw [hW1] at hb1 hkw hlt1 hw1
  have HB1 := Lib.hid hb1
  have HKW := Lib.hid hkw
  have HLT := Lib.hid hlt1
  have HW1 := Lib.hid hw1
  have HWE := Lib.hid hW1
  clear hw hg hsp husp hus hll hB1 hb1 hkw hlt1 hw1 hW1 hnu
  go_enter Tryz.func10, Tryz.ntmps10
  go_wp2_with fail
  rw [HWE.out]
  refine (records_any HW1.out hdb (by omega)).mono ?_
  rintro e w2 ⟨v', rfl, hr, hk2⟩
  have HR := Lib.hid hr
  have HK2 := Lib.hid hk2
  obtain ⟨ao, cap, rfl⟩ := slice_of_row hr
  clear hr hk2
  rw [HBE.out]
  go_wp2_with fail
  refine (marks_any (HW1.out.kept0 HK2.out)).mono ?_
  rintro e w3 ⟨rfl, n3, rfl⟩
  have HK3 := Lib.hid (HK2.out.drewN n3)
  have HR3 := Lib.hid (rowKept HR.out ((Kept.refl (fun _ => False) w2).drewN n3) (fun _ _ f => f))
  have HW3 := Lib.hid ((HW1.out.kept0 HK2.out).drewN n3)
  clear HK2 HR
  generalize w2.drewN n3 = w3 at HK3 HR3 HW3 ⊢
  go_wp2_with fail
  refine (synced_any HW3.out).mono ?_
  rintro e w4 ⟨rfl, rfl⟩
  have HSL : Hid (W1.heap.size ≤ w3.heap.size) := Lib.hid HK3.out.size
  rcases HR3.out.2 with ⟨hv, h0⟩ | ⟨gg, cap', cur, hv, hbb, hh, h1, h2, h3, h4⟩
  · injection hv with hv1 hv2 hv3
    subst hv1 hv3
    have hnu0 : g.m.nu = 0 := by have := HNU.out; omega
    have hrz : g.recs = [] := List.length_eq_zero_iff.1 h0
    have HTE : Hid (TsAt w3 (fun k => B1 < k ∧ w.heap.size ≤ k) (.slice none 0 0) (toldL g false)) := Lib.hid (by
      have e : toldL g false = [] := by unfold toldL; rw [hrz]; simp
      rw [e]; exact ⟨⟨none, 0, rfl, fun i hi => by simp at hi⟩⟩)
    obtain ⟨i0, si, sz, ss, sbb⟩ := string_inf
    have HSI := Lib.hid si
    have HLN0 : Hid (g.m.nu = 0) := Lib.hid (by omega)
    have hnz : (g.m.nu : Int) = 0 := by omega
    have hlz : (g.recs.length : Int) = 0 := by omega
    clear hv2 hnu0 hrz h0 si sz ss sbb HR3
    have HT6 := HTE
    have HK6 := HK3
    generalize w3 = w6 at HT6 HK6 HW3 HK3 HSL HTE ⊢
    have hb6 := (HK6.out.block B1 HLT.out id).trans HB1.out
    have HB6 : Hid (w6.heap[B1]? = some (.cells [.slice none 0 0, .int .i64 0, .int .i64 0].toArray 39 (0, 0))) := Lib.hid hb6
    obtain ⟨c0, c1, c2, ff⟩ := three_of hb6
    have f0 := ff 0
    have f1 := ff 1
    have f2 := ff 2
    clear ff hb6
    go_wp2_with (at_builtin; refine wpList_append_own_none rfl _ _ 37 rfl 0 9 i0 1 Tryz.underlying37 HSI.out (.slice none 0 0) 0 [] rfl (World.ownsRow_nil w6 _ _ 1) rfl ?_)
    have h9 := heap_set (i := 2) (.int .i64 g.m.b) (heap_set (i := 1) (.int .i64 g.m.a) (heap_set (i := 0) (.slice none 0 0) HB6.out))
    have hk9 : Kept (fun k => k = B1) w6 (((w6.setCell ⟨B1, 0, none⟩ (.slice none 0 0)).setCell ⟨B1, 1, none⟩ (.int .i64 g.m.a)).setCell ⟨B1, 2, none⟩ (.int .i64 g.m.b)) := ((kept_set w6 B1 0 _).trans (kept_set _ B1 1 _)).trans (kept_set _ B1 2 _)
    have H9 := Lib.hid h9
    have HK9 := Lib.hid hk9
    clear h9 hk9 c0 c1 c2 f0 f1 f2
    generalize (((w6.setCell ⟨B1, 0, none⟩ (.slice none 0 0)).setCell ⟨B1, 1, none⟩ (.int .i64 g.m.a)).setCell ⟨B1, 2, none⟩ (.int .i64 g.m.b)) = w9 at H9 HK9 ⊢
    have hload := run_loadVar_row (P := Tryz.prog) _ B1 39 39 _ (0, 0) _ H9.out Tryz.underlying39 rfl state_info
    have hfin : Kept (fun _ => False) w w9 := by
      have h0 : Kept (fun k => k = B1) w w9 := (HKW.out.mono (fun _ _ f => f.elim)).trans ((HK6.out.mono (fun _ _ f => f.elim)).trans HK9.out)
      exact ⟨h0.os, h0.tape, h0.output, h0.size, fun k hk _ => h0.block k hk (by have := HBE.out; show ¬ (k = B1); omega)⟩
    exact ret_box 4 39 B1 _ Tryz.results10 rfl hload rfl ⟨none, 0, by rw [HLN.out, HLN0.out]; rfl, ((show TsAt w6 _ (.slice none (toldL g false).length 0) _ by rw [HLN.out, HLN0.out]; exact HT6.out).kept HK9.out (fun k hk e => by have h8 : B1 < k ∧ w.heap.size ≤ k := hk; have e : k = B1 := e; omega)).mono (fun k hk => (show B1 < k ∧ w.heap.size ≤ k from hk).2), hfin, by rw [HLN.out, HLN0.out]; exact Nat.le_refl _⟩
  · injection hv with hv1 hv2 hv3
    subst hv1 hv3
    have hxs := HR3.out.cells (g := gg) rfl
    have HCEL : Hid (∀ j u, ((toldL g false).map Value.string)[j]? = some u → w3.cell? ((⟨gg, 0, none⟩ : Addr).add j) = some u) := Lib.hid (fun j u hj => hxs j u (by
      rw [List.getElem?_map] at hj ⊢
      have e : (toldL g false)[j]? = some (toldL g false)[j]! → True := fun _ => trivial
      cases he : (toldL g false)[j]? with
      | none => rw [he] at hj; cases hj
      | some x =>
        rw [he] at hj
        rw [show g.recs[j]? = some x by
          unfold toldL at he
          rw [if_neg (by decide), List.getElem?_take] at he; split at he; exact he; cases he]
        exact hj))
    obtain ⟨i0, si, sz, ss, sbb⟩ := string_inf
    have HSI := Lib.hid (And.intro si (And.intro sz (And.intro ss sbb)))
    have HL2 : Hid (((toldL g false).map Value.string).length = g.m.nu * 1) := Lib.hid (by rw [List.length_map, HLN.out, Nat.mul_one])
    have HNL : Hid (g.m.nu ≤ 1048512) := Lib.hid (by have := HNU.out; omega)
    have hcp : g.recs.length ≤ cap := h1
    have hncp : g.m.nu ≤ cap := by have := HNU.out; omega
    clear hxs si sz ss sbb HR3 h1 h2 h3 h4 hh hbb
    go_wp2_with (at_builtin; refine wpList_append_own _ rfl _ _ 37 rfl w3.heap.size 9 i0 (.string ByteArray.empty) 1 16 Tryz.underlying37 HSI.out.1 HSI.out.2.1 HSI.out.2.2.1 HSI.out.2.2.2 rfl (by decide) (.slice none 0 0) 0 [] rfl (World.ownsRow_nil w3 _ _ 1) ⟨gg, 0, none⟩ g.m.nu cap ((toldL g false).map Value.string) rfl HL2.out HCEL.out (by intro u hu; obtain ⟨x, _, rfl⟩ := List.mem_map.1 hu; rfl) (by unfold maxLen; have := HNL.out; omega) (by have := HNL.out; omega) (Nat.le_refl _) (fun v6 w6 hown6 hg6 hnil6 => ?_); rw [Nat.zero_add, List.nil_append, ← HLN.out] at hown6; have HT6 : Hid (TsAt w6 (fun k => B1 < k ∧ w.heap.size ≤ k) v6 (toldL g false)) := Lib.hid ((ts_row hown6).mono (fun k hk => by have := (hown6.lt k hk).1; have := HSL.out; have := HLT.out; have := HBE.out; omega)); have HK6 := Lib.hid (HK3.out.trans ((Kept.of_grownBy hg6).mono (fun j _ e => by simp [Value.ownBlock] at e))); obtain ⟨ao6, c6, rfl, hc6⟩ := slice_cap hown6; have HC6 := Lib.hid hc6; clear hc6; clear hown6 hg6 hnil6; have hb6 := (HK6.out.block B1 HLT.out id).trans HB1.out; have HB6 : Hid (w6.heap[B1]? = some (.cells [.slice none 0 0, .int .i64 0, .int .i64 0].toArray 39 (0, 0))) := Lib.hid hb6; obtain ⟨c0, c1, c2, ff⟩ := three_of hb6; have f0 := ff 0; have f1 := ff 1; have f2 := ff 2; clear ff hb6)
    have h9 := heap_set (i := 2) (.int .i64 g.m.b) (heap_set (i := 1) (.int .i64 g.m.a) (heap_set (i := 0) (.slice ao6 (toldL g false).length c6) HB6.out))
    have hk9 : Kept (fun k => k = B1) w6 (((w6.setCell ⟨B1, 0, none⟩ (.slice ao6 (toldL g false).length c6)).setCell ⟨B1, 1, none⟩ (.int .i64 g.m.a)).setCell ⟨B1, 2, none⟩ (.int .i64 g.m.b)) := ((kept_set w6 B1 0 _).trans (kept_set _ B1 1 _)).trans (kept_set _ B1 2 _)
    have H9 := Lib.hid h9
    have HK9 := Lib.hid hk9
    clear h9 hk9 c0 c1 c2 f0 f1 f2
    generalize (((w6.setCell ⟨B1, 0, none⟩ (.slice ao6 (toldL g false).length c6)).setCell ⟨B1, 1, none⟩ (.int .i64 g.m.a)).setCell ⟨B1, 2, none⟩ (.int .i64 g.m.b)) = w9 at H9 HK9 ⊢
    have hload := run_loadVar_row (P := Tryz.prog) _ B1 39 39 _ (0, 0) _ H9.out Tryz.underlying39 rfl state_info
    have hfin : Kept (fun _ => False) w w9 := by
      have h0 : Kept (fun k => k = B1) w w9 := (HKW.out.mono (fun _ _ f => f.elim)).trans ((HK6.out.mono (fun _ _ f => f.elim)).trans HK9.out)
      exact ⟨h0.os, h0.tape, h0.output, h0.size, fun k hk _ => h0.block k hk (by have := HBE.out; show ¬ (k = B1); omega)⟩
    exact ret_box 4 39 B1 _ Tryz.results10 rfl hload rfl ⟨ao6, c6, rfl, (HT6.out.kept HK9.out (fun k hk e => by have h8 : B1 < k ∧ w.heap.size ≤ k := hk; have e : k = B1 := e; omega)).mono (fun k hk => (show B1 < k ∧ w.heap.size ≤ k from hk).2), hfin, HC6.out⟩
end
end Go.Proofs.YtcjfpddmpiggoaaGreat

namespace Go.Proofs.YtcjfpddmpiggoaaGreat
open Go.ChangeShapes Go.WideShapes Go.ChangeAt Go.RowKit
set_option linter.unusedVariables false
set_option linter.unusedSimpArgs false
section
variable {Z : Nat → Prop} {w w' : World} {lb db : Nat} {g : LSt} {d : DSt}
def sameB (g : LSt) (l : List ByteArray) (xa xb : Int) : Bool := decide (l = g.recs) && (decide (xa = g.m.a) && (decide (xb = g.m.b) && decide (g.m.nu = g.recs.length)))
def SamePost (w : World) (g : LSt) (l : List ByteArray) (xa xb : Int) (e : Ending) (w' : World) : Prop :=
  e = .returned (.bool (sameB g l xa xb)) ∧ Kept (fun _ => False) w w'
set_option maxRecDepth 100000 in
set_option maxHeartbeats 2000000 in
theorem same_any (hw : Wl Z w lb db g d) (hg : Good d g) {ok : Nat → Prop} {a : Option Addr} {c : Nat} {l : List ByteArray} (hx : TsAt w ok (.slice a l.length c) l) (hok : ∀ k, ok k → k < w.heap.size) (hl : l.length ≤ 140737488355328) (xa xb : Int) :
    Calls Tryz.prog 13 #[.pointer (some ⟨lb, 0, none⟩), .agg #[.slice a l.length c, .int .i64 xa, .int .i64 xb]] w (SamePost w g l xa xb) := by
  have hsp := hg.half.base.space
  have husp := hg.usp
  have hus := hg.used
  have hll := sizeN_len g.recs
  have hlen : g.recs.length ≤ 1048512 := by omega
  obtain ⟨B1, hB1⟩ : ∃ B1, w.heap.size = B1 := ⟨_, rfl⟩
  have hb1 : (w.alloc (.cells #[.slice a l.length c, .int .i64 xa, .int .i64 xb] 39)).heap[B1]? = some (.cells #[.slice a l.length c, .int .i64 xa, .int .i64 xb] 39 (0, 0)) := by rw [← hB1]; exact heap_alloc_new w _
  have hkw : Kept (fun _ => False) w (w.alloc (.cells #[.slice a l.length c, .int .i64 xa, .int .i64 xb] 39)) := (Kept.refl _ w).alloc _
  have hlt1 := lt_of_block hb1
  have hw1 := hw.kept0 hkw
  have hx1 := hx.kept hkw (fun _ _ x => x)
  have HBE : Hid (w.heap.size = B1) := Lib.hid hB1
  obtain ⟨W1, hW1⟩ : ∃ W1, w.alloc (.cells #[.slice a l.length c, .int .i64 xa, .int .i64 xb] 39) = W1 := ⟨_, rfl⟩
  rw [hW1] at hb1 hkw hlt1 hw1 hx1
  have HB1 := Lib.hid hb1
  have HKW := Lib.hid hkw
  have HLT := Lib.hid hlt1
  have HW1 := Lib.hid hw1
  have HX1 := Lib.hid hx1
  have HWE := Lib.hid hW1
  have HTO := Lib.hid (told_true hw1 hg)
  have HG := Lib.hid hg
  clear hw hg hsp husp hus hll hB1 hb1 hkw hlt1 hw1 hW1 hx hx1
  go_enter Tryz.func13, Tryz.ntmps13
  go_wp2_with fail
  rw [HWE.out]
  refine HTO.out.mono ?_
  rintro e w2 ⟨a2, c2, rfl, ht, hk, _⟩
  have hto : toldL g true = g.recs := rfl
  rw [hto] at ht ⊢
  have hk3 : Kept (fun _ => False) W1 (w2.alloc (.cells #[.slice a2 g.recs.length c2, .int .i64 g.m.a, .int .i64 g.m.b] 39)) := hk.alloc _
  have HT := Lib.hid (ht.kept ((Kept.refl (fun _ => False) w2).alloc (.cells #[.slice a2 g.recs.length c2, .int .i64 g.m.a, .int .i64 g.m.b] 39)) (fun _ _ x => x))
  have HK3 := Lib.hid hk3
  have HX3 := Lib.hid (HX1.out.kept hk3 (fun _ _ x => x))
  have HW3 := Lib.hid (HW1.out.kept0 hk3)
  have hb2 : (w2.alloc (.cells #[.slice a2 g.recs.length c2, .int .i64 g.m.a, .int .i64 g.m.b] 39)).heap[w2.heap.size]? = some (.cells #[.slice a2 g.recs.length c2, .int .i64 g.m.a, .int .i64 g.m.b] 39 (0, 0)) := heap_alloc_new w2 _
  have hb1 := (hk3.block B1 HLT.out id).trans HB1.out
  rw [HBE.out]
  obtain ⟨c0, c1, c2', _⟩ := three_of hb1
  obtain ⟨e0, e1, e2, _⟩ := three_of hb2
  have HB1' := Lib.hid hb1
  have HB2' := Lib.hid hb2
  clear ht hk hk3 hb1 hb2
  go_wp2_with fail
  refine (texts_any HX3.out HT.out hl (by omega)).mono ?_
  rintro e w4 ⟨rfl, n4, rfl⟩
  have HK4 : Hid (Kept (fun _ => False) w ((w2.alloc (.cells #[.slice a2 g.recs.length c2, .int .i64 g.m.a, .int .i64 g.m.b] 39)).drewN n4)) := Lib.hid ((HKW.out.trans HK3.out).drewN n4)
  have HW4 := Lib.hid (HW3.out.drewN n4)
  have hb1 : ((w2.alloc (.cells #[.slice a2 g.recs.length c2, .int .i64 g.m.a, .int .i64 g.m.b] 39)).drewN n4).heap[B1]? = some (.cells #[.slice a l.length c, .int .i64 xa, .int .i64 xb] 39 (0, 0)) := HB1'.out
  have hb2 : ((w2.alloc (.cells #[.slice a2 g.recs.length c2, .int .i64 g.m.a, .int .i64 g.m.b] 39)).drewN n4).heap[w2.heap.size]? = some (.cells #[.slice a2 g.recs.length c2, .int .i64 g.m.a, .int .i64 g.m.b] 39 (0, 0)) := HB2'.out
  clear c0 c1 c2' e0 e1 e2 HX3 HT HW3 HK3 HB1' HB2'
  generalize (w2.alloc (.cells #[.slice a2 g.recs.length c2, .int .i64 g.m.a, .int .i64 g.m.b] 39)).drewN n4 = w4 at HK4 HW4 hb1 hb2 ⊢
  generalize w2.heap.size = B2 at hb2 ⊢
  obtain ⟨c0, c1, c2', _⟩ := three_of hb1
  obtain ⟨e0, e1, e2, _⟩ := three_of hb2
  clear hb1 hb2
  unfold SamePost
  by_cases h1 : l = g.recs
  · have hd1 : decide (l = g.recs) = true := decide_eq_true h1
    rw [hd1]
    by_cases h2 : xa = g.m.a
    · have hd2 : (xa == (g.m.a : Int)) = true := by simp [h2]
      by_cases h3 : xb = g.m.b
      · have hd3 : (xb == (g.m.b : Int)) = true := by simp [h3]
        go_wp2_with fail
        refine (synced_any HW4.out).mono ?_
        rintro e w5 ⟨rfl, rfl⟩
        go_wp2_with fail
        refine (len_any HW4.out).mono ?_
        rintro e w5 ⟨rfl, rfl⟩
        cases hh : ((g.m.nu : Int) == (g.recs.length : Int))
        · have HH : Hid (¬ g.m.nu = g.recs.length) := Lib.hid (by have h9 := hh; simp at h9; omega)
          go_wp2_with fail
          go_ret
          exact ⟨ret_bool (by unfold sameB; simp [HH.out, h1, h2, h3]), HK4.out⟩
        · have HH : Hid (g.m.nu = g.recs.length) := Lib.hid (by have h9 := hh; simp at h9; omega)
          go_wp2_with fail
          go_ret
          exact ⟨ret_bool (by unfold sameB; simp [HH.out, h1, h2, h3]), HK4.out⟩
      · have H3 := Lib.hid h3
        have hd3 : (xb == (g.m.b : Int)) = false := by simp [h3]
        go_wp2_with fail
        go_ret
        exact ⟨ret_bool (by unfold sameB; simp [H3.out]), HK4.out⟩
    · have H2 := Lib.hid h2
      have hd2 : (xa == (g.m.a : Int)) = false := by simp [h2]
      go_wp2_with fail
      go_ret
      exact ⟨ret_bool (by unfold sameB; simp [H2.out]), HK4.out⟩
  · have H1 := Lib.hid h1
    have hd1 : decide (l = g.recs) = false := decide_eq_false h1
    rw [hd1]
    go_wp2_with fail
    go_ret
    exact ⟨ret_bool (by unfold sameB; simp [H1.out]), HK4.out⟩
end
end Go.Proofs.YtcjfpddmpiggoaaGreat

namespace Go.Proofs.YtcjfpddmpiggoaaGreat
open Go.ChangeShapes Go.WideShapes Go.ChangeAt Go.RowKit
set_option linter.unusedVariables false
set_option linter.unusedSimpArgs false
section
variable {Z : Nat → Prop} {w w' : World} {lb db : Nat} {g : LSt} {d : DSt}
structure Synced (d d' : DSt) (g g' : LSt) : Prop where
  good : Good d' g'
  all : g'.m.nu = g'.recs.length
  left : d'.left = 0
  c : g'.m.c ≤ g.m.c + 1
  acts : d'.acts ≤ d.acts + 1100000
def SyPost (Z : Nat → Prop) (w : World) (lb db : Nat) (g : LSt) (d : DSt) (e : Ending) (w' : World) : Prop :=
  ∃ g' d', e = .returned (.int .i64 0) ∧ Wl Z w' lb db g' d' ∧ Synced d d' g g' ∧ Kept Z w w'
theorem wsync_quiet (hw : Wl Z w lb db g d) (hf : Fine d g) (hl : d.left = 0) : Calls Tryz.prog 18 #[.pointer (some ⟨lb, 0, none⟩)] w (SyPost Z w lb db g d) := by
  have hc := hf.c
  have hsp := hf.sp
  by_cases h : g.m.nu = g.recs.length
  · refine (wsync_all hw hf.good.doubt h).mono ?_
    rintro e w' ⟨rfl, hw', hk⟩
    exact ⟨g, d, rfl, hw', ⟨hf.good, h, hl, by omega, by omega⟩, hk⟩
  · obtain ⟨h0, hcalm⟩ := out_calm (sync_out hf.good (by omega)) hl (Nat.le_refl _)
    have hL : setL g d = g.all.bump := ((sync_out hf.good (by omega)).ok (by rw [h0]; decide)).2.1
    refine (wsync_go hw hf.good.doubt h (by omega) (fits_all hf rfl hf.good.half.A.ar (by omega) (by omega) rfl rfl) (by have := hf.acts; omega)).mono ?_
    rintro e w' ⟨rfl, hq, hk⟩
    refine ⟨setL g d, (setD g d).1, by rw [h0], hq.log (by rw [h0]; decide), ⟨hcalm.good, ?_, hcalm.left, hcalm.c, hcalm.acts⟩, hk⟩
    rw [hL]; rfl
theorem openL_all {d : DSt} {g : LSt} (hg : Good d g) (hall : g.m.nu = g.recs.length) : openL g.m (g.recs.map fun r => r.data.toList) = g ∧ Stands d g.m (g.recs.map fun r => r.data.toList) := by
  have hh := hg.half
  rw [hall, List.take_length] at hh
  have h1 := hh.A.le
  have h2 := hg.used
  have h3 := hg.doubt
  refine ⟨?_, hh.stands⟩
  unfold openL
  rw [bytesOf_id]
  cases g with
  | mk m recs used doubt =>
    simp only at h1 h2 h3
    rw [h1, ← h2, h3]
def OpBeside (Z : Nat → Prop) (w : World) (lb db : Nat) (g : LSt) (d : DSt) (e : Ending) (w' : World) : Prop :=
  ∃ lb', e = .returned (.tuple #[.pointer (some ⟨lb', 0, none⟩), .int .i64 0]) ∧ Wl Z w' lb' db g d ∧ Wl Z w' lb db g d ∧ Kept Z w w'
theorem wopen_beside (hw : Wl Z w lb db g d) (hg : Good d g) (hall : g.m.nu = g.recs.length) : Calls Tryz.prog 15 #[.pointer (some ⟨db, 0, none⟩)] w (OpBeside Z w lb db g d) := by
  obtain ⟨sb, mb, nn, rv, hP⟩ := hw.open_
  have hD := hP.d
  have hL := hP.l
  have a1 := hP.b1
  have a2 := hP.b2
  have a3 := hP.b3
  have a4 := hP.ap
  have a5 := hP.nw
  obtain ⟨he, hs⟩ := openL_all hg hall
  have hlt := lt_of_block hL.at_
  refine (open_any (Z := fun k => DB db sb mb k ∨ w.heap.size ≤ k) hD (fun k hk => .inl hk) (fun k hk => .inr hk) hg.dead).mono ?_
  rintro e w' ⟨p, v, rfl, h1, _, hk⟩
  obtain ⟨rfl, lb', rfl, hlb, hwl⟩ := h1 _ _ hs
  rw [he] at hwl
  have hZ : ∀ k, (DB db sb mb k ∨ w.heap.size ≤ k) → Z k := fun k hk => hk.elim (a2 k) (a5 k)
  refine ⟨lb', rfl, hwl.mono hZ, ?_, hk.mono (fun k _ h => hZ k h)⟩
  obtain ⟨sb2, mb2, nn2, rv2, hD2, _, ⟨_, b2, _⟩, _, b5⟩ := hwl.ex
  have hn1 : ¬ (DB db sb mb lb ∨ w.heap.size ≤ lb) := fun h => h.elim a4 (fun h => by omega)
  have hrow : ∀ k, rv.ownBlock = some k → ¬ (DB db sb mb k ∨ w.heap.size ≤ k) := fun k hk h => h.elim (fun h => hP.ow k h hk) (fun h => by have := (hL.row.lt k hk).2; omega)
  exact ⟨sb2, mb2, nn2, rv, hD2, hL.kept hk hn1 hrow, ⟨a1, fun k hk => hZ k (b2 k hk), a3⟩, fun h => hn1 (b2 lb h), fun k hk => hZ k (b5 k hk)⟩
theorem Wl.aside (h : Wl Z w lb db g d) (hk : Kept (fun _ => False) w w') : Wl (fun k => Z k ∧ (k < w.heap.size ∨ w'.heap.size ≤ k)) w' lb db g d := by
  obtain ⟨sb, mb, nn, rv, hD, hL, ⟨h1, h2, h3⟩, h4, h5⟩ := h.ex
  refine ⟨sb, mb, nn, rv, hD.kept hk (fun _ _ f => f), hL.kept hk id (fun _ _ f => f), ⟨⟨h1, .inl (lt_of_block hL.at_)⟩, fun k hk => ⟨h2 k hk, .inl (hD.inn k hk)⟩, fun k hk => ⟨h3 k hk, .inl (hL.row.lt k hk).2⟩⟩, h4, fun k hk' => ⟨h5 k (Nat.le_trans hk.size hk'), .inr hk'⟩⟩
theorem TsAt.lt {ok : Nat → Prop} {v : Value} {l : List ByteArray} (h : TsAt w ok v l) : TsAt w (fun k => ok k ∧ k < w.heap.size) v l := by
  obtain ⟨a, cap, hv, hc⟩ := h.ex
  refine ⟨⟨a, cap, hv, fun i hi => ?_⟩⟩
  obtain ⟨g, off, h1, h2, h3⟩ := hc i hi
  exact ⟨g, off, h1, ⟨h2, World.block_lt_of_cell? w _ h3⟩, h3⟩
end
end Go.Proofs.YtcjfpddmpiggoaaGreat
