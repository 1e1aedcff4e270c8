/- DiskArmed holds: an armed disk does as many acts as were said, and is dead until it crashes (D4). No condition. -/
import Derived.Test.YtkabdhpimokigaaRows
import Derived.Test.YtkabdhpimokigaaDo
import Derived.WalkKit
import Derived.ProofKit
import Derived.OpenShut
import Derived.ShutString
import Derived.ChangeOld
import Derived.Below
import Derived.Deep.Grids
namespace Go.Proofs.Ytkabdhpimokigaa.diskArmed
open Go.ChangeShapes Go.WideShapes Go.ChangeAt Go.RowKit
open Go.ChangeMaps (open_string shut_string)
set_option linter.unusedVariables false
set_option linter.unusedSimpArgs false

/-- a disk that dies at its n-th act, behind j of them -/
structure Ar (d : DSt) (n j : Nat) (p : Bool) : Prop where
  sz : d.n = 16
  acts : d.acts = j
  on : j < n → d.dead = false ∧ d.left = n - j
  off : j = n → d.dead = true
  pend : decide (0 < (pendL d.n d.O).length) = p

theorem pend_none (n : Nat) : pendL n (fun _ => none) = [] := by
  unfold pendL
  exact List.filter_eq_nil_iff.2 (fun a _ => by simp)
theorem pend_pos {n k : Nat} {O : Nat → Option (List UInt8)} (h : k < n) (ho : (O k).isSome = true) : 0 < (pendL n O).length :=
  List.length_pos_of_mem ((pend_mem n O k).2 ⟨h, ho⟩)

theorem act_step {d : DSt} {n j : Nat} (h1 : d.acts = j) (h2 : d.dead = false) (h3 : d.left = n - j) (hj : j < n) :
    (actD d).2 = (if j + 1 = n then 2 else 0) ∧ (actD d).1.n = d.n ∧ (actD d).1.acts = j + 1 ∧ (j + 1 < n → (actD d).1.dead = false ∧ (actD d).1.left = n - (j + 1)) ∧ (j + 1 = n → (actD d).1.dead = true) ∧ (actD d).1.O = d.O := by
  unfold actD
  rw [if_neg (by omega)]
  by_cases e : j + 1 = n
  · rw [if_pos (by omega)]
    refine ⟨by rw [if_pos e], rfl, by simp [h1], fun h => by omega, fun _ => rfl, rfl⟩
  · rw [if_neg (by omega)]
    refine ⟨by rw [if_neg e], rfl, by simp [h1], fun _ => ⟨h2, by simp only [h3]; omega⟩, fun h => absurd h e, rfl⟩

theorem ar_sync {d : DSt} {n j : Nat} {p : Bool} (h : Ar d n j p) (hj : j < n) :
    (syncD d).2 = (if j + 1 = n then 2 else 0) ∧ Ar (syncD d).1 n (j + 1) (if j + 1 = n then p else false) := by
  obtain ⟨h2, h3⟩ := h.on hj
  obtain ⟨a1, a2, a3, a4, a5, a6⟩ := act_step h.acts h2 h3 hj
  unfold syncD
  rw [if_neg (by simp [h2])]
  by_cases e : j + 1 = n
  · rw [if_pos e] at a1
    rw [if_neg (by rw [a1]; decide), if_pos e, if_pos e]
    exact ⟨a1, a2.trans h.sz, a3, a4, a5, by rw [a2, a6]; exact h.pend⟩
  · rw [if_neg e] at a1
    rw [if_pos a1, if_neg e, if_neg e]
    exact ⟨rfl, a2.trans h.sz, a3, a4, a5, by simp only [pend_none]; rfl⟩

theorem ar_write {d : DSt} {n j : Nat} {p : Bool} (h : Ar d n j p) (hj : j < n) {k : Int} (h0 : 0 ≤ k) (h1 : k < 16) {s : List UInt8} (hs : s.length = 64) :
    (writeD d k s).2 = (if j + 1 = n then 2 else 0) ∧ Ar (writeD d k s).1 n (j + 1) true := by
  obtain ⟨h2, h3⟩ := h.on hj
  have hh : hasD d k = true := (hasD_iff d k).2 ⟨h0, by rw [h.sz]; omega⟩
  unfold writeD
  rw [if_neg (by simp [h2]), if_neg (by simp [hh, hs])]
  obtain ⟨a1, a2, a3, a4, a5, a6⟩ := act_step (d := { d with S := upd d.S k.toNat s, O := if (d.O k.toNat).isSome then d.O else upd d.O k.toNat (some (d.S k.toNat)) }) h.acts h2 h3 hj
  refine ⟨a1, a2.trans h.sz, a3, a4, a5, ?_⟩
  rw [a2, a6]
  refine decide_eq_true (pend_pos (k := k.toNat) (by simp only [h.sz]; omega) ?_)
  by_cases e : (d.O k.toNat).isSome = true
  · simp [e]
  · simp [e, upd_same]

theorem ar_start {n : Nat} (h : 1 ≤ n) : (armD (newD 16) (n : Int)).2 = 0 ∧ Ar (armD (newD 16) (n : Int)).1 n 0 false := by
  have e : armD (newD 16) (n : Int) = ({ newD 16 with left := n }, 0) := by
    unfold armD
    rw [if_neg (by decide), if_neg (by omega)]
    simp
  rw [e]
  refine ⟨rfl, rfl, rfl, fun _ => ⟨rfl, rfl⟩, fun h0 => by omega, ?_⟩
  show decide (0 < (pendL 16 (fun _ => none)).length) = false
  rw [pend_none]; rfl

theorem dead_write {d : DSt} (h : d.dead = true) (k : Int) (s : List UInt8) : writeD d k s = (d, 2) := by unfold writeD; simp [h]
theorem dead_sync {d : DSt} (h : d.dead = true) : syncD d = (d, 2) := by unfold syncD; simp [h]
theorem dead_read {d : DSt} (h : d.dead = true) (k : Int) : readD d k = ([], 2) := by unfold readD; simp [h]
theorem dead_arm {d : DSt} (h : d.dead = true) (k : Int) : armD d k = (d, 2) := by unfold armD; simp [h]
theorem crash_write {d : DSt} (hn : d.n = 16) (how : List Int) {s : List UInt8} (hs : s.length = 64) : (writeD (crashD d how) 0 s).2 = 0 ∧ (writeD (crashD d how) 0 s).1.acts = d.acts + 1 := by
  have hd : (crashD d how).dead = false := rfl
  have hh : hasD (crashD d how) 0 = true := (hasD_iff _ 0).2 ⟨by decide, by show (0 : Int) < (d.n : Int); omega⟩
  unfold writeD
  rw [if_neg (by simp [hd]), if_neg (by simp [hh, hs])]
  exact ⟨rfl, rfl⟩

/-- a row of bools in blocks below B -/
structure BsAt (B : Nat) (w : World) (a : Option Addr) (bs : List Bool) : Prop where
  at_ : ∀ (i : Nat) (h : i < bs.length), ∃ g off, a = some ⟨g, off, none⟩ ∧ g < B ∧ w.cell? ⟨g, off + i, none⟩ = some (.bool bs[i])
  len : bs.length ≤ 9223372036854775807
theorem BsAt.below {B : Nat} {w w' : World} {a : Option Addr} {bs : List Bool} (h : BsAt B w a bs) (hb : Below B w w') : BsAt B w' a bs :=
  ⟨fun i hi => by
    obtain ⟨g, off, ha, hg, hc⟩ := h.at_ i hi
    exact ⟨g, off, ha, hg, by rw [World.cell?_of_block (w := w) (hb.block g hg)]; exact hc⟩, h.len⟩

section
variable {B : Nat} {w : World} {b : Nat} {d : DSt} {n j : Nat} {p : Bool}
def ArPost (B : Nat) (w : World) (b n j : Nat) (x : Int) (p : Bool) (e : Ending) (w' : World) : Prop :=
  e = .returned (.int .i64 x) ∧ ∃ d', Dk B w' b d' ∧ Ar d' n j p ∧ Below B w w'
theorem ar_sync_last (h : Dk B w b d) (A : Ar d n j p) (hj : j + 1 = n) (hs : n ≤ 100) : Calls Try.prog 17 #[.pointer (some ⟨b, 0, none⟩)] w (ArPost B w b n (j + 1) 2 p) := by
  obtain ⟨a1, a2⟩ := ar_sync A (by omega)
  rw [if_pos hj] at a1 a2
  refine (dk_sync h (by rw [A.acts]; omega)).mono ?_
  rintro e w' ⟨he, h', hb⟩
  exact ⟨he.trans (ret_int a1), _, h', a2, hb⟩
theorem ar_sync_more (h : Dk B w b d) (A : Ar d n j p) (hj : j + 1 < n) (hs : n ≤ 100) : Calls Try.prog 17 #[.pointer (some ⟨b, 0, none⟩)] w (ArPost B w b n (j + 1) 0 false) := by
  obtain ⟨a1, a2⟩ := ar_sync A (by omega)
  rw [if_neg (by omega)] at a1 a2
  refine (dk_sync h (by rw [A.acts]; omega)).mono ?_
  rintro e w' ⟨he, h', hb⟩
  exact ⟨he.trans (ret_int a1), _, h', a2, hb⟩
theorem ar_write_last (h : Dk B w b d) (A : Ar d n j p) (hj : j + 1 = n) (hs : n ≤ 100) (k : Int) (h0 : 0 ≤ k) (h1 : k < 16) (s : ByteArray) (hl : s.data.toList.length = 64) :
    Calls Try.prog 16 #[.pointer (some ⟨b, 0, none⟩), .int .i64 k, .string s] w (ArPost B w b n (j + 1) 2 true) := by
  obtain ⟨a1, a2⟩ := ar_write A (by omega) h0 h1 hl
  rw [if_pos hj] at a1
  refine (dk_write h k s (by rw [A.acts]; omega)).mono ?_
  rintro e w' ⟨he, h', hb⟩
  exact ⟨he.trans (ret_int a1), _, h', a2, hb⟩
theorem ar_write_more (h : Dk B w b d) (A : Ar d n j p) (hj : j + 1 < n) (hs : n ≤ 100) (k : Int) (h0 : 0 ≤ k) (h1 : k < 16) (s : ByteArray) (hl : s.data.toList.length = 64) :
    Calls Try.prog 16 #[.pointer (some ⟨b, 0, none⟩), .int .i64 k, .string s] w (ArPost B w b n (j + 1) 0 true) := by
  obtain ⟨a1, a2⟩ := ar_write A (by omega) h0 h1 hl
  rw [if_neg (by omega)] at a1
  refine (dk_write h k s (by rw [A.acts]; omega)).mono ?_
  rintro e w' ⟨he, h', hb⟩
  exact ⟨he.trans (ret_int a1), _, h', a2, hb⟩
theorem ar_dead (h : Dk B w b d) {x : Bool} (hx : d.dead = x) : Calls Try.prog 19 #[.pointer (some ⟨b, 0, none⟩)] w fun e w' => e = .returned (.bool x) ∧ w = w' := by rw [← hx]; exact dk_dead h
theorem ar_acts (h : Dk B w b d) {j : Nat} (hx : d.acts = j) : Calls Try.prog 22 #[.pointer (some ⟨b, 0, none⟩)] w fun e w' => e = .returned (.int .i64 j) ∧ w = w' := by rw [← hx]; exact dk_acts h
theorem ar_pending (h : Dk B w b d) {p : Bool} (hp : decide (0 < (pendL d.n d.O).length) = p) : Calls Try.prog 20 #[.pointer (some ⟨b, 0, none⟩)] w fun e w' =>
    ∃ (a : Option Addr) (l cap : Nat), e = .returned (.slice a l cap) ∧ decide ((0 : Int) < (l : Int)) = p ∧ Dk B w' b d ∧ Below B w w' :=
  (dk_pending h).mono fun e w' ⟨a, cap, he, h', hb⟩ => ⟨a, _, cap, he, by rw [← hp]; exact decide_eq_decide.2 (by omega), h', hb⟩
end

/-- at the loop's head -/
structure Rel (B : Nat) (w0 : World) (b n : Nat) (a : Option Addr) (bs : List Bool) (pv iv : Value) (w : World) : Prop where
  ex : ∃ (j : Nat) (p : Bool) (d : DSt), pv = .bool p ∧ iv = .int .i64 ((j : Int) + 1) ∧ j ≤ n ∧ Dk B w b d ∧ Ar d n j p ∧ BsAt B w a bs ∧ Below B w0 w

set_option maxHeartbeats 4000000 in
set_option maxRecDepth 100000 in
theorem walk (c : Int) (a : Option Addr) (cap : Nat) (bs : List Bool) (w : World) (c1 : -9223372036854775808 ≤ c) (c2 : c ≤ 9223372036854775807) (hbs0 : BsAt w.heap.size w a bs) :
    Calls Try.prog 5 #[.int .i64 c, .slice a bs.length cap] w fun e w' => e = .returned (.bool true) ∧ Below w.heap.size w w' := by
  have HBS0 := Lib.hid hbs0
  have hlen := hbs0.len
  clear hbs0
  go_enter Try.func5, Try.ntmps5
  go_wp2_with fail
  refine (awake_any _).mono ?_
  rintro e w1 ⟨rfl, hk1⟩
  have hb1 := Lib.hid (hk1.bel (Nat.le_refl _))
  go_wp2_with fail
  refine (dk_new _ 16 (by decide) (by decide)).mono ?_
  rintro e w2 ⟨b, rfl, h2, hk2⟩
  have hle := hk1.size
  replace h2 : Dk w.heap.size w2 b (newD 16) := by
    obtain ⟨sb, mb, nn, hD, e1, e2, e3⟩ := h2.ex
    exact ⟨sb, mb, nn, hD, by omega, by omega, by omega⟩
  have HB2 := Lib.hid (hb1.out.trans (hk2.bel hle))
  have H2 := Lib.hid h2
  clear h2 hk1 hk2 hb1 hle
  obtain ⟨n, hn, hn1, hn20⟩ : ∃ n : Nat, (1 : Int) + (fateN c : Int) % 20 = (n : Int) ∧ 1 ≤ n ∧ n ≤ 20 := ⟨1 + fateN c % 20, by omega, by omega, by omega⟩
  obtain ⟨q, hq⟩ : ∃ q : Int, (fateN c : Int) % 20 = q := ⟨_, rfl⟩
  have hq2 : 0 ≤ q ∧ q < 20 := by omega
  rw [hq] at hn
  go_wp2_with fail
  refine (pick_any c 20 _ c1 c2 (by decide) (by decide)).mono ?_
  rw [hq]
  rintro e w3 ⟨rfl, rfl⟩
  clear hq
  go_wp2_with fail
  obtain ⟨s1, s2⟩ := ar_start hn1
  have HS2 := Lib.hid s2
  refine (dk_arm H2.out (n : Int) (by omega)).mono ?_
  rintro e w3 ⟨he, h3, hb3⟩
  replace he := he.trans (ret_int s1)
  subst he
  have H3 := Lib.hid h3
  have HB3 := Lib.hid (HB2.out.trans hb3)
  clear h3 hb3 H2 HB2 s1 s2
  go_wp2_with fail
  go_loopw [8, 9] (fun pv iv wr => Rel w.heap.size w b n a bs pv iv wr) (fun _ iv _ => n + 1 - (Go.RowKit.intOf iv).toNat)
  case atStart => exact ⟨0, false, _, rfl, rfl, Nat.zero_le _, H3.out, HS2.out, HBS0.out.below HB3.out, HB3.out⟩
  case round =>
    obtain ⟨j, p, d, rfl, rfl, hjn, hd, hA, hbs, hb⟩ := hrel.ex
    clear hrel H3 HS2 HBS0 HB3
    have HD := Lib.hid hd
    have HA := Lib.hid hA
    have HBS := Lib.hid hbs
    have HB := Lib.hid hb
    clear hd hA hbs hb
    by_cases hlt : j < n
    · by_cases hin : j < bs.length
      · obtain ⟨g, off, rfl, hg, hcell⟩ := HBS.out.at_ j hin
        cases hx : bs[j]
        · rw [hx] at hcell
          by_cases hlast : j + 1 = n
          · have hE : ((j : Int) + 1 == (n : Int)) = true := by simp; omega
            have hJ : j + 1 = n := hlast
            clear hlast
            go_wp2_with fail
            refine (filled_any _ _ (by omega) (by omega)).mono ?_
            rintro e w4 ⟨rfl, hk4⟩
            have H4 := Lib.hid (HD.out.kept hk4)
            have HB4 := Lib.hid (HB.out.trans (hk4.bel HB.out.size))
            have HK4 := Lib.hid (hk4.bel HB.out.size)
            clear hk4
            go_wp2_with fail
            refine (ar_write_last H4.out HA.out hJ (by omega) _ (by omega) (by omega) _ (filledL_len _)).mono ?_
            rintro e w5 ⟨rfl, d5, h5, hA5, hb5⟩
            have H5 := Lib.hid h5
            have HA5 := Lib.hid hA5
            have HK5 := Lib.hid (HK4.out.trans hb5)
            clear h5 hA5 hb5
            go_wp2_with fail
            refine (ar_dead H5.out (HA5.out.off hJ)).mono ?_
            rintro e w6 ⟨rfl, rfl⟩
            have HE : Hid ((((j + 1 : Nat) : Int)) = (j : Int) + 1) := Lib.hid (by omega)
            go_wp2_with fail
            refine (ar_acts H5.out HA5.out.acts).mono ?_
            rw [HE.out]
            rintro e w6 ⟨rfl, rfl⟩
            go_wp2_with fail
            refine (ar_pending H5.out HA5.out.pend).mono ?_
            rintro e w7 ⟨a7, l7, cap7, rfl, hl7, h7, hb7⟩
            have H7 := Lib.hid h7
            have HK7 := Lib.hid (HK5.out.trans hb7)
            clear h7 hb7
            have hl8 : (0 : Int) < (l7 : Int) := of_decide_eq_true hl7
            have hl9 : 0 < l7 := by omega
            clear hl7
            go_wp2_with fail
            go_roundw
            case rel => exact ⟨j + 1, true, d5, rfl, by go_num, by omega, H7.out, HA5.out, HBS.out.below HK7.out, HB.out.trans HK7.out⟩
            case measure => simp [Go.RowKit.intOf]; omega
          · have hE : ((j : Int) + 1 == (n : Int)) = false := by simp; omega
            have hJ : j + 1 < n := by omega
            clear hlast
            go_wp2_with fail
            refine (filled_any _ _ (by omega) (by omega)).mono ?_
            rintro e w4 ⟨rfl, hk4⟩
            have H4 := Lib.hid (HD.out.kept hk4)
            have HB4 := Lib.hid (HB.out.trans (hk4.bel HB.out.size))
            have HK4 := Lib.hid (hk4.bel HB.out.size)
            clear hk4
            go_wp2_with fail
            refine (ar_write_more H4.out HA.out hJ (by omega) _ (by omega) (by omega) _ (filledL_len _)).mono ?_
            rintro e w5 ⟨rfl, d5, h5, hA5, hb5⟩
            have H5 := Lib.hid h5
            have HA5 := Lib.hid hA5
            have HK5 := Lib.hid (HK4.out.trans hb5)
            clear h5 hA5 hb5
            go_wp2_with fail
            refine (ar_dead H5.out (HA5.out.on hJ).1).mono ?_
            rintro e w6 ⟨rfl, rfl⟩
            have HE : Hid ((((j + 1 : Nat) : Int)) = (j : Int) + 1) := Lib.hid (by omega)
            go_wp2_with fail
            refine (ar_acts H5.out HA5.out.acts).mono ?_
            rw [HE.out]
            rintro e w6 ⟨rfl, rfl⟩
            go_wp2_with fail
            refine (ar_pending H5.out HA5.out.pend).mono ?_
            rintro e w7 ⟨a7, l7, cap7, rfl, hl7, h7, hb7⟩
            have H7 := Lib.hid h7
            have HK7 := Lib.hid (HK5.out.trans hb7)
            clear h7 hb7
            have hl8 : (0 : Int) < (l7 : Int) := of_decide_eq_true hl7
            have hl9 : 0 < l7 := by omega
            clear hl7
            go_wp2_with fail
            go_roundw
            case rel => exact ⟨j + 1, true, d5, rfl, by go_num, by omega, H7.out, HA5.out, HBS.out.below HK7.out, HB.out.trans HK7.out⟩
            case measure => simp [Go.RowKit.intOf]; omega
        · rw [hx] at hcell
          by_cases hlast : j + 1 = n
          · cases p
            · have hE : ((j : Int) + 1 == (n : Int)) = true := by simp; omega
              have hJ : j + 1 = n := hlast
              clear hlast
              go_wp2_with fail
              refine (ar_sync_last HD.out HA.out hJ (by omega)).mono ?_
              rintro e w5 ⟨rfl, d5, h5, hA5, hb5⟩
              have H5 := Lib.hid h5
              have HA5 := Lib.hid hA5
              have HK5 := Lib.hid hb5
              clear h5 hA5 hb5
              go_wp2_with fail
              refine (ar_dead H5.out (HA5.out.off hJ)).mono ?_
              rintro e w6 ⟨rfl, rfl⟩
              have HE : Hid ((((j + 1 : Nat) : Int)) = (j : Int) + 1) := Lib.hid (by omega)
              go_wp2_with fail
              refine (ar_acts H5.out HA5.out.acts).mono ?_
              rw [HE.out]
              rintro e w6 ⟨rfl, rfl⟩
              go_wp2_with fail
              refine (ar_pending H5.out HA5.out.pend).mono ?_
              rintro e w7 ⟨a7, l7, cap7, rfl, hl7, h7, hb7⟩
              have H7 := Lib.hid h7
              have HK7 := Lib.hid (HK5.out.trans hb7)
              clear h7 hb7
              obtain rfl : l7 = 0 := by have := of_decide_eq_false hl7; omega
              clear hl7
              go_wp2_with fail
              go_roundw
              case rel => exact ⟨j + 1, false, d5, rfl, by go_num, by omega, H7.out, HA5.out, HBS.out.below HK7.out, HB.out.trans HK7.out⟩
              case measure => simp [Go.RowKit.intOf]; omega
            · have hE : ((j : Int) + 1 == (n : Int)) = true := by simp; omega
              have hJ : j + 1 = n := hlast
              clear hlast
              go_wp2_with fail
              refine (ar_sync_last HD.out HA.out hJ (by omega)).mono ?_
              rintro e w5 ⟨rfl, d5, h5, hA5, hb5⟩
              have H5 := Lib.hid h5
              have HA5 := Lib.hid hA5
              have HK5 := Lib.hid hb5
              clear h5 hA5 hb5
              go_wp2_with fail
              refine (ar_dead H5.out (HA5.out.off hJ)).mono ?_
              rintro e w6 ⟨rfl, rfl⟩
              have HE : Hid ((((j + 1 : Nat) : Int)) = (j : Int) + 1) := Lib.hid (by omega)
              go_wp2_with fail
              refine (ar_acts H5.out HA5.out.acts).mono ?_
              rw [HE.out]
              rintro e w6 ⟨rfl, rfl⟩
              go_wp2_with fail
              refine (ar_pending H5.out HA5.out.pend).mono ?_
              rintro e w7 ⟨a7, l7, cap7, rfl, hl7, h7, hb7⟩
              have H7 := Lib.hid h7
              have HK7 := Lib.hid (HK5.out.trans hb7)
              clear h7 hb7
              have hl8 : (0 : Int) < (l7 : Int) := of_decide_eq_true hl7
              have hl9 : 0 < l7 := by omega
              clear hl7
              go_wp2_with fail
              go_roundw
              case rel => exact ⟨j + 1, true, d5, rfl, by go_num, by omega, H7.out, HA5.out, HBS.out.below HK7.out, HB.out.trans HK7.out⟩
              case measure => simp [Go.RowKit.intOf]; omega
          · cases p
            · have hE : ((j : Int) + 1 == (n : Int)) = false := by simp; omega
              have hJ : j + 1 < n := by omega
              clear hlast
              go_wp2_with fail
              refine (ar_sync_more HD.out HA.out hJ (by omega)).mono ?_
              rintro e w5 ⟨rfl, d5, h5, hA5, hb5⟩
              have H5 := Lib.hid h5
              have HA5 := Lib.hid hA5
              have HK5 := Lib.hid hb5
              clear h5 hA5 hb5
              go_wp2_with fail
              refine (ar_dead H5.out (HA5.out.on hJ).1).mono ?_
              rintro e w6 ⟨rfl, rfl⟩
              have HE : Hid ((((j + 1 : Nat) : Int)) = (j : Int) + 1) := Lib.hid (by omega)
              go_wp2_with fail
              refine (ar_acts H5.out HA5.out.acts).mono ?_
              rw [HE.out]
              rintro e w6 ⟨rfl, rfl⟩
              go_wp2_with fail
              refine (ar_pending H5.out HA5.out.pend).mono ?_
              rintro e w7 ⟨a7, l7, cap7, rfl, hl7, h7, hb7⟩
              have H7 := Lib.hid h7
              have HK7 := Lib.hid (HK5.out.trans hb7)
              clear h7 hb7
              obtain rfl : l7 = 0 := by have := of_decide_eq_false hl7; omega
              clear hl7
              go_wp2_with fail
              go_roundw
              case rel => exact ⟨j + 1, false, d5, rfl, by go_num, by omega, H7.out, HA5.out, HBS.out.below HK7.out, HB.out.trans HK7.out⟩
              case measure => simp [Go.RowKit.intOf]; omega
            · have hE : ((j : Int) + 1 == (n : Int)) = false := by simp; omega
              have hJ : j + 1 < n := by omega
              clear hlast
              go_wp2_with fail
              refine (ar_sync_more HD.out HA.out hJ (by omega)).mono ?_
              rintro e w5 ⟨rfl, d5, h5, hA5, hb5⟩
              have H5 := Lib.hid h5
              have HA5 := Lib.hid hA5
              have HK5 := Lib.hid hb5
              clear h5 hA5 hb5
              go_wp2_with fail
              refine (ar_dead H5.out (HA5.out.on hJ).1).mono ?_
              rintro e w6 ⟨rfl, rfl⟩
              have HE : Hid ((((j + 1 : Nat) : Int)) = (j : Int) + 1) := Lib.hid (by omega)
              go_wp2_with fail
              refine (ar_acts H5.out HA5.out.acts).mono ?_
              rw [HE.out]
              rintro e w6 ⟨rfl, rfl⟩
              go_wp2_with fail
              refine (ar_pending H5.out HA5.out.pend).mono ?_
              rintro e w7 ⟨a7, l7, cap7, rfl, hl7, h7, hb7⟩
              have H7 := Lib.hid h7
              have HK7 := Lib.hid (HK5.out.trans hb7)
              clear h7 hb7
              obtain rfl : l7 = 0 := by have := of_decide_eq_false hl7; omega
              clear hl7
              go_wp2_with fail
              go_roundw
              case rel => exact ⟨j + 1, false, d5, rfl, by go_num, by omega, H7.out, HA5.out, HBS.out.below HK7.out, HB.out.trans HK7.out⟩
              case measure => simp [Go.RowKit.intOf]; omega
      · have hin2 : bs.length ≤ j := by omega
        by_cases hlast : j + 1 = n
        · have hE : ((j : Int) + 1 == (n : Int)) = true := by simp; omega
          have hJ : j + 1 = n := hlast
          clear hlast
          go_wp2_with fail
          refine (filled_any _ _ (by omega) (by omega)).mono ?_
          rintro e w4 ⟨rfl, hk4⟩
          have H4 := Lib.hid (HD.out.kept hk4)
          have HB4 := Lib.hid (HB.out.trans (hk4.bel HB.out.size))
          have HK4 := Lib.hid (hk4.bel HB.out.size)
          clear hk4
          go_wp2_with fail
          refine (ar_write_last H4.out HA.out hJ (by omega) _ (by omega) (by omega) _ (filledL_len _)).mono ?_
          rintro e w5 ⟨rfl, d5, h5, hA5, hb5⟩
          have H5 := Lib.hid h5
          have HA5 := Lib.hid hA5
          have HK5 := Lib.hid (HK4.out.trans hb5)
          clear h5 hA5 hb5
          go_wp2_with fail
          refine (ar_dead H5.out (HA5.out.off hJ)).mono ?_
          rintro e w6 ⟨rfl, rfl⟩
          have HE : Hid ((((j + 1 : Nat) : Int)) = (j : Int) + 1) := Lib.hid (by omega)
          go_wp2_with fail
          refine (ar_acts H5.out HA5.out.acts).mono ?_
          rw [HE.out]
          rintro e w6 ⟨rfl, rfl⟩
          go_wp2_with fail
          refine (ar_pending H5.out HA5.out.pend).mono ?_
          rintro e w7 ⟨a7, l7, cap7, rfl, hl7, h7, hb7⟩
          have H7 := Lib.hid h7
          have HK7 := Lib.hid (HK5.out.trans hb7)
          clear h7 hb7
          have hl8 : (0 : Int) < (l7 : Int) := of_decide_eq_true hl7
          have hl9 : 0 < l7 := by omega
          clear hl7
          go_wp2_with fail
          go_roundw
          case rel => exact ⟨j + 1, true, d5, rfl, by go_num, by omega, H7.out, HA5.out, HBS.out.below HK7.out, HB.out.trans HK7.out⟩
          case measure => simp [Go.RowKit.intOf]; omega
        · have hE : ((j : Int) + 1 == (n : Int)) = false := by simp; omega
          have hJ : j + 1 < n := by omega
          clear hlast
          go_wp2_with fail
          refine (filled_any _ _ (by omega) (by omega)).mono ?_
          rintro e w4 ⟨rfl, hk4⟩
          have H4 := Lib.hid (HD.out.kept hk4)
          have HB4 := Lib.hid (HB.out.trans (hk4.bel HB.out.size))
          have HK4 := Lib.hid (hk4.bel HB.out.size)
          clear hk4
          go_wp2_with fail
          refine (ar_write_more H4.out HA.out hJ (by omega) _ (by omega) (by omega) _ (filledL_len _)).mono ?_
          rintro e w5 ⟨rfl, d5, h5, hA5, hb5⟩
          have H5 := Lib.hid h5
          have HA5 := Lib.hid hA5
          have HK5 := Lib.hid (HK4.out.trans hb5)
          clear h5 hA5 hb5
          go_wp2_with fail
          refine (ar_dead H5.out (HA5.out.on hJ).1).mono ?_
          rintro e w6 ⟨rfl, rfl⟩
          have HE : Hid ((((j + 1 : Nat) : Int)) = (j : Int) + 1) := Lib.hid (by omega)
          go_wp2_with fail
          refine (ar_acts H5.out HA5.out.acts).mono ?_
          rw [HE.out]
          rintro e w6 ⟨rfl, rfl⟩
          go_wp2_with fail
          refine (ar_pending H5.out HA5.out.pend).mono ?_
          rintro e w7 ⟨a7, l7, cap7, rfl, hl7, h7, hb7⟩
          have H7 := Lib.hid h7
          have HK7 := Lib.hid (HK5.out.trans hb7)
          clear h7 hb7
          have hl8 : (0 : Int) < (l7 : Int) := of_decide_eq_true hl7
          have hl9 : 0 < l7 := by omega
          clear hl7
          go_wp2_with fail
          go_roundw
          case rel => exact ⟨j + 1, true, d5, rfl, by go_num, by omega, H7.out, HA5.out, HBS.out.below HK7.out, HB.out.trans HK7.out⟩
          case measure => simp [Go.RowKit.intOf]; omega
    · obtain rfl : j = n := by omega
      have hdead := HA.out.off rfl
      have hacts := HA.out.acts
      have hsz := HA.out.sz
      obtain ⟨c1', c2'⟩ := crash_write hsz [] (filledL_len 1)
      have HC1 := Lib.hid c1'
      have HC2 := Lib.hid c2'
      have hD0 := Lib.hid hdead
      have hA0 := Lib.hid hacts
      clear hdead hacts hsz c1' c2'
      go_wp2_with fail
      refine (filled_any 1 _ (by decide) (by decide)).mono ?_
      rintro e w4 ⟨rfl, hk4⟩
      have H4 := Lib.hid (HD.out.kept hk4)
      have HB4 := Lib.hid (HB.out.trans (hk4.bel HB.out.size))
      clear hk4
      go_wp2_with fail
      refine (dk_write H4.out 0 _ (by rw [hA0.out]; omega)).mono ?_
      rw [dead_write hD0.out]
      rintro e w5 ⟨rfl, h5, hb5⟩
      have H5 := Lib.hid h5
      have HB5 := Lib.hid (HB4.out.trans hb5)
      clear h5 hb5
      go_wp2_with fail
      refine (dk_sync H5.out (by rw [hA0.out]; omega)).mono ?_
      rw [dead_sync hD0.out]
      rintro e w6 ⟨rfl, h6, hb6⟩
      have H6 := Lib.hid h6
      have HB6 := Lib.hid (HB5.out.trans hb6)
      clear h6 hb6
      go_wp2_with fail
      refine (dk_read H6.out 0).mono ?_
      rw [dead_read hD0.out]
      rintro e w7 ⟨rfl, rfl⟩
      go_wp2_with fail
      refine (dk_arm H6.out 3 (by decide)).mono ?_
      rw [dead_arm hD0.out]
      rintro e w7 ⟨rfl, h7, hb7⟩
      have H7 := Lib.hid h7
      have HB7 := Lib.hid (HB6.out.trans hb7)
      clear h7 hb7
      go_wp2_with fail
      refine (ar_acts H7.out hA0.out).mono ?_
      rintro e w8 ⟨rfl, rfl⟩
      go_wp2_with fail
      refine (dk_crash H7.out (HowAt.nil _ _ _ _)).mono ?_
      rintro e w8 ⟨rfl, h8, hb8⟩
      have H8 := Lib.hid h8
      have HB8 := Lib.hid (HB7.out.trans hb8)
      clear h8 hb8
      go_wp2_with fail
      refine (filled_any 1 _ (by decide) (by decide)).mono ?_
      rintro e w9 ⟨rfl, hk9⟩
      have H9 := Lib.hid (H8.out.kept hk9)
      have HB9 := Lib.hid (HB8.out.trans (hk9.bel HB8.out.size))
      clear hk9
      go_wp2_with fail
      refine (dk_write H9.out 0 _ (by show d.acts < _; rw [hA0.out]; omega)).mono ?_
      rintro e w10 ⟨he, h10, hb10⟩
      replace he := he.trans (ret_int HC1.out)
      subst he
      have H10 := Lib.hid h10
      have HB10 := Lib.hid (HB9.out.trans hb10)
      clear h10 hb10
      have HE : Hid ((((j + 1 : Nat) : Int)) = (j : Int) + 1) := Lib.hid (by omega)
      go_wp2_with fail
      refine (ar_acts H10.out (j := j + 1) (HC2.out.trans (by rw [hA0.out]))).mono ?_
      rw [HE.out]
      rintro e w11 ⟨rfl, rfl⟩
      go_wp2_with fail
      go_ret
      exact ⟨rfl, HB10.out⟩

theorem bools_of {H : Type} {enc : TypeId × Value → H} {W : World} {base fuel : Nat} {held : Bool} {a : Option Addr} {len cap : Nat} {x : DataW H × List MemPlace}
    (h : DataW.trod enc Try.prog W base (fun _ => true) held fuel 49 [.slice a len cap] = some x) : ∃ bs aa cap1, Value.slice a len cap = .slice aa (List.length bs) cap1 ∧ BsAt W.heap.size W aa bs := by
  rcases Go.Deep.open_bools Try.underlying49 Try.underlying4 (by kernel_rfl) h with ⟨hc, _⟩ | ⟨a', len', cap', f, hc, hb, hl, hm, hx, hi⟩
  · simp only [List.cons.injEq, Value.slice.injEq, and_true] at hc
    obtain ⟨rfl, rfl, rfl⟩ := hc
    exact ⟨[], none, 0, rfl, fun i hi => absurd hi (by simp), by simp⟩
  · simp only [List.cons.injEq, Value.slice.injEq, and_true] at hc
    obtain ⟨rfl, rfl, rfl⟩ := hc
    refine ⟨(List.range len).map f, some a', cap, by simp, fun i hi0 => ?_, by unfold maxLen at hm; simp; omega⟩
    have hil : i < len := by simpa using hi0
    have hcell := hi i (by omega)
    obtain ⟨b, off, spot⟩ := a'
    have hspot : spot = none := by simpa [Addr.add] using World.cell?_spot (hi 0 (by omega))
    subst hspot
    have hadd : (⟨b, off, none⟩ : Addr).add i = ⟨b, off + i, none⟩ := by unfold Addr.add; split <;> simp_all
    rw [hadd] at hcell
    exact ⟨b, off, rfl, World.block_lt_of_cell? W _ hcell, by rw [hcell]; simp⟩

theorem own : ownKnob Try.prog.godebug = none := by kernel_rfl
theorem laidOut : laidOutB Try.prog = true := by kernel_rfl

theorem lifted (os : Os) (started : os.Started) (H : Type) (enc : TypeId × Value → H) :
    ReturnsInHanded {} Try.checked os 5 .any (Rows.diskArmedSpec.pre6 enc Try.prog Try.f5 Rows.diskArmedRow.domain false) (Rows.diskArmedSpec.post enc Try.prog Try.f5 false true false false) := by
  refine returnsInHanded_of_change (C := Try.checked) own started (by kernel_rfl) Try.func5
    (ChangeSpec.witness6 (enc := enc) (C := Try.checked) false ⟨#[], #[.int .i64 0, .slice none 0 0], []⟩ 8 (by kernel_rfl) (by kernel_rfl) (by kernel_rfl) (by kernel_rfl)) ?_
  intro W base args ds gs before hval0 hW hcnd hsz
  have hval : ∀ (j : Nat) t v, Try.f5.params[j]? = some t → args[j]? = some v → Value.okWide Try.prog W .any base t v := hval0
  have hW' := hW
  obtain ⟨p, q, hA0, hV, rfl, hfz, hnd⟩ := hW
  have hA : DataW.TrodAll enc Try.prog W 0 (fun _ => true) true Try.f5.params.toList args.toList ds p := hA0
  rw [Try.params5] at hA hval
  obtain ⟨v0, vs0, d0, ds0, p0, q0, hargs, rfl, rfl, h0, r0⟩ := trodAll_cons hA
  obtain ⟨v1, vs1, d1, ds1, p1, q1, rfl, rfl, rfl, h1, r1⟩ := trodAll_cons r0
  obtain ⟨rfl, rfl, rfl⟩ := trodAll_nil r1
  obtain rfl : args = #[v0, v1] := by cases args; simp_all
  obtain ⟨rfl, rfl⟩ := trodVars_none hV
  have k0 := h0
  have lt0 : ∀ x ∈ p0, x.block < W.heap.size := by obtain ⟨m, hm⟩ := k0; exact DataW.trod_lt m _ _ _ hm
  obtain ⟨a0, e0, f0, g0, w0⟩ := open_int Try.underlying3 (hval 0 3 v0 rfl rfl) h0
  subst e0
  have k1 := h1
  have lt1 : ∀ x ∈ p1, x.block < W.heap.size := by obtain ⟨m, hm⟩ := k1; exact DataW.trod_lt m _ _ _ hm
  obtain ⟨bs, aa, cap1, rfl, w1⟩ : ∃ bs aa cap1, v1 = .slice aa (List.length bs) cap1 ∧ BsAt W.heap.size W aa bs := by
    obtain ⟨fuel, hf⟩ := h1
    obtain ⟨a9, len9, cap9, rfl⟩ := okWide_slice Try.underlying49 (hval 1 49 v1 rfl rfl)
    exact bools_of hf
  have b0 : -9223372036854775808 ≤ a0 ∧ a0 ≤ 9223372036854775807 := by have w := w0; simp [Lit.wf, IntKind.min, IntKind.max, IntKind.bits, IntKind.signed] at w; omega
  clear hA0 hval0
  refine (walk a0 aa cap1 bs W b0.1 b0.2 w1).mono fun e W' ⟨he, bel⟩ => ?_
  subst he
  exact ⟨_, rfl, _, _, _, [], _, [], hW', trodAll_mk1 (shut_bool Try.underlying4 _), (trodAll_cons_mk (Below.trod laidOut (by kernel_rfl) (of_decide_eq_true (by kernel_rfl)) k0 bel lt0) (trodAll_cons_mk (Below.trod laidOut (by kernel_rfl) (of_decide_eq_true (by kernel_rfl)) k1 bel lt1) trodAll_mk0)), rfl, bel.frame _, fun h => by cases h⟩

theorem over : Rows.diskArmedRow.holds Try.pinned (OpenSpec.ofChange Rows.diskArmedSpec) :=
  OpenClaim.holds_of_wide 5 Try.f5 rfl rfl rfl rfl rfl rfl rfl ⟨rfl, rfl, rfl, rfl, rfl⟩ rfl rfl rfl rfl rfl (by kernel_rfl) Try.func5 (by kernel_rfl)
    (of_decide_eq_true (by kernel_rfl)) (by unfold Func.isWrapper; first | (rw [if_pos (by decide +kernel)]; kernel_rfl) | (rw [if_neg (by decide +kernel)]; exact ⟨rfl, rfl⟩))
    (fun os started H enc _ => lifted os started H enc)

/-- the given statement -/
theorem proved : Rows.DiskArmedSaid := over
#print axioms proved
end Go.Proofs.Ytkabdhpimokigaa.diskArmed
