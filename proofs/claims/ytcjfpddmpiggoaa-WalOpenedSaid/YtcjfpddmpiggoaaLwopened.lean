/- WalOpened holds: opening a log changes nothing, as often as one likes, and no act is done (A2, A8). No condition. -/
import Derived.Test.YtcjfpddmpiggoaaRows
import Derived.Test.YtcjfpddmpiggoaaJtd
import Derived.Test.YtcjfpddmpiggoaaJth
import Derived.Test.YtcjfpddmpiggoaaJte
import Derived.WalkKit
import Derived.ProofKit
import Derived.OpenShut
import Derived.ShutString
import Derived.ChangeOld
import Derived.Below
import Derived.Deep.Grids
import Derived.SizedLaws
namespace Go.Proofs.Ytcjfpddmpiggoaa.walOpened
open Go.ChangeShapes Go.WideShapes Go.ChangeAt Go.RowKit
open Go.ChangeMaps (open_string shut_string)
set_option linter.unusedVariables false
set_option linter.unusedSimpArgs false

theorem wacts {Z : Nat → Prop} {w : World} {lb db : Nat} {g : LSt} {d : DSt} (h : Wl Z w lb db g d) : Calls Try.prog 13 #[.pointer (some ⟨db, 0, none⟩)] w fun e w' => e = .returned (.int .i64 d.acts) ∧ w = w' := by
  obtain ⟨sb, mb, nn, hD, _⟩ := (h.whole 0).disk
  exact acts_any hD
theorem does_any {Z : Nat → Prop} {w : World} {lb db : Nat} {g : LSt} {d : DSt} (hw : Wl Z w lb db g d) (hf : Fine d g) (K n f : Int) (hK1 : 1 ≤ K) (hK2 : K ≤ 5) (hn1 : -9223372036854775808 ≤ n) (hn2 : n ≤ 9223372036854775807) (hf1 : -9223372036854775808 ≤ f) (hf2 : f ≤ 9223372036854775807) {ok : Nat → Prop} {a4 : Option Addr} {c4 : Nat} {l : List Int} (hL : NumAt w ok (.slice a4 l.length c4) l) (hok : ∀ k, ok k → k < w.heap.size ∧ ¬ Z k) (hll : l.length * 8 ≤ 140737488351232) (a5 : Option Addr) (n5 c5 : Nat) :
    Calls Try.prog 16 #[.pointer (some ⟨lb, 0, none⟩), .agg #[.int .i64 K, .int .i64 n, .int .i64 f, .slice a4 l.length c4, .slice a5 n5 c5]] w (DoPost Z w lb db (doG K n f l g d)) := by
  rcases (show K = 1 ∨ K = 2 ∨ K = 3 ∨ K = 4 ∨ K = 5 by omega) with rfl | rfl | rfl | rfl | rfl
  · exact does_1 hw hf n f hn1 hn2 hf1 hf2 hL hok hll a5 n5 c5
  · exact does_2 hw hf n f hn1 hn2 hf1 hf2 hL hok hll a5 n5 c5
  · exact does_3 hw hf n f hn1 hn2 hf1 hf2 hL hok hll a5 n5 c5
  · exact does_4 hw hf n f hn1 hn2 hf1 hf2 hL hok hll a5 n5 c5
  · exact does_5 hw hf n f hn1 hn2 hf1 hf2 hL hok hll a5 n5 c5
/-- behind k calls of a log on a disk that is not armed -/
structure Quiet (d : DSt) (g : LSt) (k : Nat) : Prop where
  good : Good d g
  left : d.left = 0
  c : g.m.c ≤ k + 1
  acts : d.acts ≤ 10 + k * 1100000
theorem Quiet.fine {d : DSt} {g : LSt} {k : Nat} (h : Quiet d g k) (hk : k ≤ 1000) : Fine d g := ⟨h.good, by have := h.c; omega, by have := h.acts; omega⟩
theorem Quiet.next {d : DSt} {g : LSt} {k : Nat} (h : Quiet d g k) (hk : k ≤ 999) (K n f : Int) (hn : n ≤ 9223372036854775807) (hff : f ≤ 9223372036854775807) (l : List Int) : (doG K n f l g d).1 ≠ 2 ∧ Quiet (doG K n f l g d).2.2 (doG K n f l g d).2.1 (k + 1) := by
  obtain ⟨h1, h2⟩ := do_calm (h.fine (by omega)) h.left K n f hn hff l
  exact ⟨h1, h2.good, h2.left, by have := h2.c; have := h.c; omega, by have := h2.acts; have := h.acts; omega⟩
structure LpRel (w : World) (lb db lim : Nat) (iv : Value) (wr : World) : Prop where
  ex : ∃ (k : Nat) (g : LSt) (d : DSt), k ≤ lim ∧ iv = .int .i64 k ∧ Wl (fun k => w.heap.size ≤ k) wr lb db g d ∧ Quiet d g k ∧ Kept (fun k => w.heap.size ≤ k) w wr
structure OpRel (w w2 w4 : World) (lb db B4 pt : Nat) (g2 : LSt) (d2 : DSt) (a3 : Option Addr) (c3 : Nat) (iv : Value) (wr : World) : Prop where
  ex : ∃ j : Nat, j ≤ pt + 1 ∧ iv = .int .i64 j ∧ Wl (fun k => w.heap.size ≤ k ∧ (k < w2.heap.size ∨ w4.heap.size ≤ k)) wr lb db g2 d2 ∧ TsAt wr (fun k => w2.heap.size ≤ k ∧ k < w4.heap.size) (.slice a3 g2.recs.length c3) g2.recs ∧ wr.heap[B4]? = some (.cells #[.slice a3 g2.recs.length c3, .int .i64 g2.m.a, .int .i64 g2.m.b] 52 (0, 0)) ∧ Kept (fun k => w.heap.size ≤ k) w wr ∧ w4.heap.size ≤ wr.heap.size
set_option maxRecDepth 100000 in
set_option maxHeartbeats 4000000 in
theorem walk (a0 : Int) (sa : Option Addr) (scap : Nat) (os : List OpW) (tt : Int) (w : World) (h1 : -9223372036854775808 ≤ a0) (h2 : a0 ≤ 9223372036854775807) (hos : OpsW w.heap.size w sa os) (ht1 : -9223372036854775808 ≤ tt) (ht2 : tt ≤ 9223372036854775807) :
    Calls Try.prog 4 #[.int .i64 a0, .slice sa os.length scap, .int .i64 tt] w fun e w' => e = .returned (.bool true) ∧ Below w.heap.size w w' := by
  obtain ⟨p0, hp0⟩ : ∃ p, absN a0 % 100 = p := ⟨_, rfl⟩
  have hp0b : p0 < 100 := by omega
  have HP0 := Lib.hid (fun V => wpick_nat a0 100 V h1 h2 (by decide) (by decide) hp0)
  obtain ⟨pt, hpt⟩ : ∃ p, absN tt % 5 = p := ⟨_, rfl⟩
  have hptb : pt < 5 := by omega
  have HPT := Lib.hid (fun V => wpick_nat tt 5 V ht1 ht2 (by decide) (by decide) hpt)
  obtain ⟨n0, hn0⟩ : ∃ n0, 16 + p0 = n0 := ⟨_, rfl⟩
  have HN0 : Hid ((16 : Int) + (p0 : Int) = (n0 : Int)) := Lib.hid (by omega)
  have hn0b : 16 ≤ n0 ∧ n0 ≤ 32768 := by omega
  obtain ⟨hfr, hfl, hfn, hfa⟩ := fresh n0 hn0b.1 hn0b.2
  have HQ : Hid (Quiet (forD (newD n0)) log0.bump 0) := Lib.hid ⟨hfr.good, hfl, by decide, by omega⟩
  have HOS := Lib.hid hos
  have hol : os.length ≤ 140737488351232 := hos.len
  have HAW := Lib.hid (awake_any w)
  clear hp0 hn0 hfr hfl hfn hfa hos hpt
  go_enter Try.func4, Try.ntmps4
  go_wp2_with fail
  refine HAW.out.mono ?_
  rintro e w0 ⟨rfl, hk0⟩
  have HK0 := Lib.hid (hk0.mono (T := fun k => w.heap.size ≤ k) (fun _ _ x => x.elim))
  clear hk0
  go_wp2_with fail
  refine (HP0.out _).mono ?_
  rintro e w1 ⟨rfl, rfl⟩
  go_wp2_with fail
  rw [HN0.out]
  refine (wnew_any _ n0 hn0b.1 hn0b.2).mono ?_
  rintro e w1 ⟨db, sb, mb, nn, rfl, hD, hDB, hk1⟩
  have hsz0 := HK0.out.size
  have hsz1 := hk1.size
  have HFO := Lib.hid (format_go (Z := fun k => w.heap.size ≤ k) hD (fun k hk => by have := hDB k hk; omega) (fun k hk => by omega) rfl rfl (by show 0 < 1000000; decide))
  have HK1 := Lib.hid (HK0.out.trans (hk1.mono (fun _ _ x => x.elim)))
  clear hD hDB hk1 hsz1 hsz0 HK0
  go_wp2_with fail
  refine HFO.out.mono ?_
  rintro e w2 ⟨lb, rfl, hw2, hlb, hk2⟩
  have HW2 := Lib.hid hw2
  have HK2 := Lib.hid (HK1.out.trans hk2)
  clear hw2 hlb hk2 HFO HK1
  go_wp2_with fail
  go_loopw [12] (fun iv wr => LpRel w lb db 60 iv wr) (fun iv _ => 60 - (Go.RowKit.intOf iv).toNat)
  case atStart => exact ⟨0, _, _, Nat.zero_le _, rfl, HW2.out, HQ.out, HK2.out⟩
  case round =>
    obtain ⟨k, g, d, hk, rfl, hw, hq, hkp⟩ := hrel.ex
    clear hrel HW2 HK2 HQ
    have HW := Lib.hid hw
    have HQ := Lib.hid hq
    have HK := Lib.hid hkp
    clear hw hq hkp
    by_cases hlt : k < os.length
    · by_cases hl4 : k < 60
      · have hos2 := HOS.out.kept HK.out (fun k hk hn => by omega)
        obtain ⟨gb, off, lv, hv, rfl, hgb, hcells, hLL, hHH⟩ := hos2.at_ k hlt
        have hfit := HOS.out.fits os[k] (List.getElem_mem hlt)
        obtain ⟨o, ho⟩ : ∃ o, os[k] = o := ⟨_, rfl⟩
        rw [ho] at hcells hLL hHH hfit
        obtain ⟨a4, c4, rfl, hl4c⟩ := hLL.ex
        obtain ⟨a5, c5, rfl, hl5c⟩ := hHH.ex
        have q0 : wr.cell? ⟨gb, off + k * 5, none⟩ = some (.int .i64 o.k) := hcells 0 _ rfl
        have q1 : wr.cell? ⟨gb, off + k * 5 + 1, none⟩ = some (.int .i64 o.n) := hcells 1 _ rfl
        have q2 : wr.cell? ⟨gb, off + k * 5 + 2, none⟩ = some (.int .i64 o.f) := hcells 2 _ rfl
        have q3 : wr.cell? ⟨gb, off + k * 5 + 3, none⟩ = some (.slice a4 o.l.length c4) := hcells 3 _ rfl
        have q4 : wr.cell? ⟨gb, off + k * 5 + 4, none⟩ = some (.slice a5 o.how.length c5) := hcells 4 _ rfl
        have HFI := Lib.hid hfit
        have HLL := Lib.hid hLL
        have HNX := Lib.hid (fun K => HQ.out.next (by omega) K o.n o.f hfit.n.2 hfit.f.2 o.l)
        obtain ⟨p, hp⟩ : ∃ p, absN o.k % 5 = p := ⟨_, rfl⟩
        have hp5 : p < 5 := by omega
        have HP := Lib.hid (fun V => wpick_nat o.k 5 V hfit.k.1 hfit.k.2 (by decide) (by decide) hp)
        have hk1 : Kept (fun _ => False) wr (wr.alloc (.cells #[.int .i64 (1 + (p : Int)), .int .i64 o.n, .int .i64 o.f, .slice a4 o.l.length c4, .slice a5 o.how.length c5] 42)) := (Kept.refl _ wr).alloc _
        have HW3 := Lib.hid (HW.out.kept0 hk1)
        have HL3 := Lib.hid (HLL.out.kept hk1 (fun _ _ x => x))
        have HK3 := Lib.hid (HK.out.trans (hk1.mono (fun _ _ x => x.elim)))
        have HB3 : Hid (∀ j, j < w.heap.size → j < (wr.alloc (.cells #[.int .i64 (1 + (p : Int)), .int .i64 o.n, .int .i64 o.f, .slice a4 o.l.length c4, .slice a5 o.how.length c5] 42)).heap.size ∧ ¬ w.heap.size ≤ j) := Lib.hid (fun j hj => ⟨Nat.lt_of_lt_of_le hj HK3.out.size, by omega⟩)
        clear hos2 hcells hLL hHH hfit ho hp hk1 hl4c hl5c
        go_wp2_with fail
        refine (HP.out _).mono ?_
        rintro e w4 ⟨rfl, rfl⟩
        go_wp2_with fail
        refine (does_any HW3.out (HQ.out.fine (by omega)) (1 + (p : Int)) o.n o.f (by omega) (by omega) HFI.out.n.1 HFI.out.n.2 HFI.out.f.1 HFI.out.f.2 HL3.out HB3.out HFI.out.l a5 o.how.length c5).mono ?_
        rintro e w5 ⟨rfl, hq5, hk5⟩
        obtain ⟨hv5, hn5⟩ := HNX.out (1 + (p : Int))
        have HW5 := Lib.hid (hq5.log hv5)
        have HN5 := Lib.hid hn5
        have HK5 := Lib.hid (HK3.out.trans hk5)
        clear hq5 hk5 hv5 hn5 q0 q1 q2 q3 q4
        go_wp2_with fail
        go_roundw
        case rel => exact ⟨k + 1, _, _, by omega, by go_num, HW5.out, HN5.out, HK5.out⟩
        case measure => simp [Go.RowKit.intOf]; omega
      · have HFI := Lib.hid (HQ.out.fine (by omega))
        have hleft := HQ.out.left
        go_wp2_with fail
        refine (wsync_quiet HW.out HFI.out hleft).mono ?_
        rintro e w2 ⟨g2, d2, rfl, hw2, hsy, hk2⟩
        have HW2 := Lib.hid hw2
        have HS2 := Lib.hid hsy
        have HK2 := Lib.hid (HK.out.trans hk2)
        clear hw2 hsy hk2 HW HK HQ HFI hleft
        go_wp2_with fail
        refine (wacts HW2.out).mono ?_
        rintro e w3 ⟨rfl, rfl⟩
        go_wp2_with fail
        refine (told_true HW2.out HS2.out.good).mono ?_
        rintro e w3 ⟨a3, c3, rfl, ht3, hk3⟩
        have hto : toldL g2 true = g2.recs := rfl
        rw [hto] at ht3 ⊢
        have hk4 : Kept (fun _ => False) w2 (w3.alloc (.cells #[.slice a3 g2.recs.length c3, .int .i64 g2.m.a, .int .i64 g2.m.b] 52)) := hk3.alloc _
        have hb4 : (w3.alloc (.cells #[.slice a3 g2.recs.length c3, .int .i64 g2.m.a, .int .i64 g2.m.b] 52)).heap[w3.heap.size]? = some (.cells #[.slice a3 g2.recs.length c3, .int .i64 g2.m.a, .int .i64 g2.m.b] 52 (0, 0)) := heap_alloc_new w3 _
        have HT4 := Lib.hid ((ht3.kept ((Kept.refl (fun _ => False) w3).alloc (.cells #[.slice a3 g2.recs.length c3, .int .i64 g2.m.a, .int .i64 g2.m.b] 52)) (fun _ _ x => x)).lt)
        have HW4 := Lib.hid (HW2.out.aside hk4)
        have HK4 := Lib.hid (HK2.out.trans (hk4.mono (T := fun k => w.heap.size ≤ k) (fun _ _ x => x.elim)))
        have HB4 := Lib.hid hb4
        have HSZ : Hid (w2.heap.size ≤ w3.heap.size ∧ w3.heap.size < (w3.alloc (.cells #[.slice a3 g2.recs.length c3, .int .i64 g2.m.a, .int .i64 g2.m.b] 52)).heap.size) := Lib.hid ⟨hk3.size, lt_of_block hb4⟩
        clear ht3 hk3 hk4 hb4 HW2 HK2
        go_wp2_with fail
        generalize w3.alloc (.cells #[.slice a3 g2.recs.length c3, .int .i64 g2.m.a, .int .i64 g2.m.b] 52) = w4 at HW4 HK4 HB4 HT4 HSZ ⊢
        generalize w3.heap.size = B4 at HB4 HSZ ⊢
        go_loopw [16] (fun iv wr => OpRel w w2 w4 lb db B4 pt g2 d2 a3 c3 iv wr) (fun iv _ => pt + 1 - (Go.RowKit.intOf iv).toNat)
        case atStart => exact ⟨0, Nat.zero_le _, rfl, HW4.out, HT4.out, HB4.out, HK4.out, Nat.le_refl _⟩
        case round =>
          obtain ⟨j, hj, rfl, hw5, ht5, hb5, hk5, hsw⟩ := hrel.ex
          clear hrel HW4 HT4 HB4 HK4
          have HW5 := Lib.hid hw5
          have HT5 := Lib.hid ht5
          have HB5 := Lib.hid hb5
          have HK5 := Lib.hid hk5
          have HSW := Lib.hid hsw
          clear hw5 ht5 hb5 hk5 hsw
          go_wp2_with fail
          refine (HPT.out _).mono ?_
          rintro e w6 ⟨rfl, rfl⟩
          by_cases hjt : j ≤ pt
          · go_wp2_with fail
            refine (wopen_beside HW5.out HS2.out.good HS2.out.all).mono ?_
            rintro e w6 ⟨lb', rfl, hwa, hwb, hk6⟩
            have HWA := Lib.hid hwa
            have HWB := Lib.hid hwb
            have HT6 := Lib.hid (HT5.out.kept hk6 (fun k h1 h2 => by omega))
            have hb6 := (hk6.block B4 (lt_of_block HB5.out) (fun h2 => by have := HSZ.out; omega)).trans HB5.out
            have HB6 := Lib.hid hb6
            have HK6 := Lib.hid (HK5.out.trans (hk6.mono (fun k _ h => h.1)))
            obtain ⟨c0, c1, c2, _⟩ := three_of hb6
            have HS6 := Lib.hid (Nat.le_trans HSW.out hk6.size)
            clear hwa hwb hk6 hb6 HW5 HT5 HB5 HK5
            go_wp2_with fail
            have hsp := HS2.out.good.half.base.space
            have husp := HS2.out.good.usp
            have hus := HS2.out.good.used
            have hll := sizeN_len g2.recs
            refine (same_any HWA.out HS2.out.good HT6.out (fun k h => by have h9 := HSZ.out; have hz := HS6.out; have h8 : k < w4.heap.size := h.2; omega) (by omega) _ _).mono ?_
            have hsb : sameB g2 g2.recs (g2.m.a : Int) (g2.m.b : Int) = true := by unfold sameB; simp [HS2.out.all]
            unfold SamePost
            rw [hsb]
            rintro e w7 ⟨rfl, hk7⟩
            have HWA7 := Lib.hid (HWA.out.kept0 hk7)
            have HWB7 := Lib.hid (HWB.out.kept0 hk7)
            have HT7 := Lib.hid (HT6.out.kept hk7 (fun _ _ x => x))
            have HB7 := Lib.hid ((hk7.block B4 (lt_of_block HB6.out) id).trans HB6.out)
            have HS7 := Lib.hid (Nat.le_trans HS6.out hk7.size)
            have HK7 := Lib.hid (HK6.out.trans (hk7.mono (fun _ _ x => x.elim)))
            have hum : g2.used ≤ 4611686018427387904 := by omega
            clear hk7 hsb HWA HWB HT6 HB6 HK6 c0 c1 c2 hsp husp hus hll
            go_wp2_with fail
            refine (room_any HWA7.out hum).mono ?_
            rintro e w8 ⟨rfl, n8, rfl⟩
            have HWB8 := Lib.hid (HWB7.out.drewN n8)
            have HT8 := Lib.hid (HT7.out.kept ((Kept.refl (fun _ => False) w7).drewN n8) (fun _ _ x => x))
            have HB8 := Lib.hid (show (w7.drewN n8).heap[B4]? = _ from HB7.out)
            have HS8 : Hid (w4.heap.size ≤ (w7.drewN n8).heap.size) := Lib.hid HS7.out
            have HK8 := Lib.hid (HK7.out.drewN n8)
            clear HWA7 HWB7 HT7 HB7 HK7 HS7
            generalize w7.drewN n8 = w8 at HWB8 HT8 HB8 HK8 HS8 ⊢
            go_wp2_with fail
            refine (room_any HWB8.out hum).mono ?_
            rintro e w9 ⟨rfl, n9, rfl⟩
            have HWB9 := Lib.hid (HWB8.out.drewN n9)
            have HT9 := Lib.hid (HT8.out.kept ((Kept.refl (fun _ => False) w8).drewN n9) (fun _ _ x => x))
            have HB9 := Lib.hid (show (w8.drewN n9).heap[B4]? = _ from HB8.out)
            have HS9 : Hid (w4.heap.size ≤ (w8.drewN n9).heap.size) := Lib.hid HS8.out
            have HK9 := Lib.hid (HK8.out.drewN n9)
            clear HWB8 HT8 HB8 HK8 HS8
            generalize w8.drewN n9 = w9 at HWB9 HT9 HB9 HK9 HS9 ⊢
            go_wp2_with fail
            go_roundw
            case rel => exact ⟨j + 1, by omega, by go_num, HWB9.out, HT9.out, HB9.out, HK9.out, HS9.out⟩
            case measure => simp [Go.RowKit.intOf]; omega
          · go_wp2_with fail
            refine (wacts HW5.out).mono ?_
            rintro e w6 ⟨rfl, rfl⟩
            go_wp2_with fail
            go_ret
            exact ⟨by simp, HK5.out.below (fun _ h => h) (Nat.le_refl _)⟩
    · have HFI := Lib.hid (HQ.out.fine (by omega))
      have hleft := HQ.out.left
      go_wp2_with fail
      refine (wsync_quiet HW.out HFI.out hleft).mono ?_
      rintro e w2 ⟨g2, d2, rfl, hw2, hsy, hk2⟩
      have HW2 := Lib.hid hw2
      have HS2 := Lib.hid hsy
      have HK2 := Lib.hid (HK.out.trans hk2)
      clear hw2 hsy hk2 HW HK HQ HFI hleft
      go_wp2_with fail
      refine (wacts HW2.out).mono ?_
      rintro e w3 ⟨rfl, rfl⟩
      go_wp2_with fail
      refine (told_true HW2.out HS2.out.good).mono ?_
      rintro e w3 ⟨a3, c3, rfl, ht3, hk3⟩
      have hto : toldL g2 true = g2.recs := rfl
      rw [hto] at ht3 ⊢
      have hk4 : Kept (fun _ => False) w2 (w3.alloc (.cells #[.slice a3 g2.recs.length c3, .int .i64 g2.m.a, .int .i64 g2.m.b] 52)) := hk3.alloc _
      have hb4 : (w3.alloc (.cells #[.slice a3 g2.recs.length c3, .int .i64 g2.m.a, .int .i64 g2.m.b] 52)).heap[w3.heap.size]? = some (.cells #[.slice a3 g2.recs.length c3, .int .i64 g2.m.a, .int .i64 g2.m.b] 52 (0, 0)) := heap_alloc_new w3 _
      have HT4 := Lib.hid ((ht3.kept ((Kept.refl (fun _ => False) w3).alloc (.cells #[.slice a3 g2.recs.length c3, .int .i64 g2.m.a, .int .i64 g2.m.b] 52)) (fun _ _ x => x)).lt)
      have HW4 := Lib.hid (HW2.out.aside hk4)
      have HK4 := Lib.hid (HK2.out.trans (hk4.mono (T := fun k => w.heap.size ≤ k) (fun _ _ x => x.elim)))
      have HB4 := Lib.hid hb4
      have HSZ : Hid (w2.heap.size ≤ w3.heap.size ∧ w3.heap.size < (w3.alloc (.cells #[.slice a3 g2.recs.length c3, .int .i64 g2.m.a, .int .i64 g2.m.b] 52)).heap.size) := Lib.hid ⟨hk3.size, lt_of_block hb4⟩
      clear ht3 hk3 hk4 hb4 HW2 HK2
      go_wp2_with fail
      generalize w3.alloc (.cells #[.slice a3 g2.recs.length c3, .int .i64 g2.m.a, .int .i64 g2.m.b] 52) = w4 at HW4 HK4 HB4 HT4 HSZ ⊢
      generalize w3.heap.size = B4 at HB4 HSZ ⊢
      go_loopw [16] (fun iv wr => OpRel w w2 w4 lb db B4 pt g2 d2 a3 c3 iv wr) (fun iv _ => pt + 1 - (Go.RowKit.intOf iv).toNat)
      case atStart => exact ⟨0, Nat.zero_le _, rfl, HW4.out, HT4.out, HB4.out, HK4.out, Nat.le_refl _⟩
      case round =>
        obtain ⟨j, hj, rfl, hw5, ht5, hb5, hk5, hsw⟩ := hrel.ex
        clear hrel HW4 HT4 HB4 HK4
        have HW5 := Lib.hid hw5
        have HT5 := Lib.hid ht5
        have HB5 := Lib.hid hb5
        have HK5 := Lib.hid hk5
        have HSW := Lib.hid hsw
        clear hw5 ht5 hb5 hk5 hsw
        go_wp2_with fail
        refine (HPT.out _).mono ?_
        rintro e w6 ⟨rfl, rfl⟩
        by_cases hjt : j ≤ pt
        · go_wp2_with fail
          refine (wopen_beside HW5.out HS2.out.good HS2.out.all).mono ?_
          rintro e w6 ⟨lb', rfl, hwa, hwb, hk6⟩
          have HWA := Lib.hid hwa
          have HWB := Lib.hid hwb
          have HT6 := Lib.hid (HT5.out.kept hk6 (fun k h1 h2 => by omega))
          have hb6 := (hk6.block B4 (lt_of_block HB5.out) (fun h2 => by have := HSZ.out; omega)).trans HB5.out
          have HB6 := Lib.hid hb6
          have HK6 := Lib.hid (HK5.out.trans (hk6.mono (fun k _ h => h.1)))
          obtain ⟨c0, c1, c2, _⟩ := three_of hb6
          have HS6 := Lib.hid (Nat.le_trans HSW.out hk6.size)
          clear hwa hwb hk6 hb6 HW5 HT5 HB5 HK5
          go_wp2_with fail
          have hsp := HS2.out.good.half.base.space
          have husp := HS2.out.good.usp
          have hus := HS2.out.good.used
          have hll := sizeN_len g2.recs
          refine (same_any HWA.out HS2.out.good HT6.out (fun k h => by have h9 := HSZ.out; have hz := HS6.out; have h8 : k < w4.heap.size := h.2; omega) (by omega) _ _).mono ?_
          have hsb : sameB g2 g2.recs (g2.m.a : Int) (g2.m.b : Int) = true := by unfold sameB; simp [HS2.out.all]
          unfold SamePost
          rw [hsb]
          rintro e w7 ⟨rfl, hk7⟩
          have HWA7 := Lib.hid (HWA.out.kept0 hk7)
          have HWB7 := Lib.hid (HWB.out.kept0 hk7)
          have HT7 := Lib.hid (HT6.out.kept hk7 (fun _ _ x => x))
          have HB7 := Lib.hid ((hk7.block B4 (lt_of_block HB6.out) id).trans HB6.out)
          have HS7 := Lib.hid (Nat.le_trans HS6.out hk7.size)
          have HK7 := Lib.hid (HK6.out.trans (hk7.mono (fun _ _ x => x.elim)))
          have hum : g2.used ≤ 4611686018427387904 := by omega
          clear hk7 hsb HWA HWB HT6 HB6 HK6 c0 c1 c2 hsp husp hus hll
          go_wp2_with fail
          refine (room_any HWA7.out hum).mono ?_
          rintro e w8 ⟨rfl, n8, rfl⟩
          have HWB8 := Lib.hid (HWB7.out.drewN n8)
          have HT8 := Lib.hid (HT7.out.kept ((Kept.refl (fun _ => False) w7).drewN n8) (fun _ _ x => x))
          have HB8 := Lib.hid (show (w7.drewN n8).heap[B4]? = _ from HB7.out)
          have HS8 : Hid (w4.heap.size ≤ (w7.drewN n8).heap.size) := Lib.hid HS7.out
          have HK8 := Lib.hid (HK7.out.drewN n8)
          clear HWA7 HWB7 HT7 HB7 HK7 HS7
          generalize w7.drewN n8 = w8 at HWB8 HT8 HB8 HK8 HS8 ⊢
          go_wp2_with fail
          refine (room_any HWB8.out hum).mono ?_
          rintro e w9 ⟨rfl, n9, rfl⟩
          have HWB9 := Lib.hid (HWB8.out.drewN n9)
          have HT9 := Lib.hid (HT8.out.kept ((Kept.refl (fun _ => False) w8).drewN n9) (fun _ _ x => x))
          have HB9 := Lib.hid (show (w8.drewN n9).heap[B4]? = _ from HB8.out)
          have HS9 : Hid (w4.heap.size ≤ (w8.drewN n9).heap.size) := Lib.hid HS8.out
          have HK9 := Lib.hid (HK8.out.drewN n9)
          clear HWB8 HT8 HB8 HK8 HS8
          generalize w8.drewN n9 = w9 at HWB9 HT9 HB9 HK9 HS9 ⊢
          go_wp2_with fail
          go_roundw
          case rel => exact ⟨j + 1, by omega, by go_num, HWB9.out, HT9.out, HB9.out, HK9.out, HS9.out⟩
          case measure => simp [Go.RowKit.intOf]; omega
        · go_wp2_with fail
          refine (wacts HW5.out).mono ?_
          rintro e w6 ⟨rfl, rfl⟩
          go_wp2_with fail
          go_ret
          exact ⟨by simp, HK5.out.below (fun _ h => h) (Nat.le_refl _)⟩

theorem own : ownKnob Try.prog.godebug = none := by kernel_rfl
theorem laidOut : laidOutB Try.prog = true := by kernel_rfl

set_option maxRecDepth 100000 in
theorem lifted (os : Os) (started : os.Started) (H : Type) (enc : TypeId × Value → H) :
    ReturnsInHanded {} Try.checked os 4 .any (Rows.walOpenedSpec.pre6 enc Try.prog Try.f4 Rows.walOpenedRow.domain false) (Rows.walOpenedSpec.post enc Try.prog Try.f4 false true false false) := by
  refine returnsInHanded_of_change_sized (C := Try.checked) own started (by kernel_rfl) Try.func4
    (ChangeSpec.witness6 (enc := enc) (C := Try.checked) false ⟨#[], #[.int .i64 0, .slice none 0 0, .int .i64 0], []⟩ 8 (by kernel_rfl) (by kernel_rfl) (by kernel_rfl) (by kernel_rfl)) ?_
  intro W base args ds gs before hval0 hW hcnd hsz0 _
  have hsz : (DataW.weightsEach Try.prog (Try.f4.params.toList ++ Rows.walOpenedSpec.plain.varTypes Try.prog) (ds ++ gs)).all (· ≤ reachBytes) = true := hsz0
  clear hsz0
  have hval : ∀ (j : Nat) t v, Try.f4.params[j]? = some t → args[j]? = some v → Value.okWide Try.prog W .any base t v := hval0
  have hW' := hW
  obtain ⟨p, q, hA0, hV, rfl, hfz, hnd⟩ := hW
  have hA : DataW.TrodAll enc Try.prog W 0 (fun _ => true) true Try.f4.params.toList args.toList ds p := hA0
  rw [Try.params4] at hA hval hsz
  obtain ⟨v0, vs0, d0, ds0, p0, q0, hargs, rfl, rfl, h0, r0⟩ := trodAll_cons hA
  obtain ⟨v1, vs1, d1, ds1, p1, q1, rfl, rfl, rfl, h1, r1⟩ := trodAll_cons r0
  obtain ⟨v2, vs2, d2, ds2, p2, q2, rfl, rfl, rfl, h2, r2⟩ := trodAll_cons r1
  obtain ⟨rfl, rfl, rfl⟩ := trodAll_nil r2
  obtain rfl : args = #[v0, v1, v2] := by cases args; simp_all
  obtain ⟨rfl, rfl⟩ := trodVars_none hV
  have k0 := h0
  have lt0 : ∀ x ∈ p0, x.block < W.heap.size := by obtain ⟨m, hm⟩ := k0; exact DataW.trod_lt m _ _ _ hm
  obtain ⟨a0, e0, f0, g0, w0⟩ := open_int Try.underlying3 (hval 0 3 v0 rfl rfl) h0
  subst e0
  have b0 : -9223372036854775808 ≤ a0 ∧ a0 ≤ 9223372036854775807 := by have w := w0; simp [Lit.wf, IntKind.min, IntKind.max, IntKind.bits, IntKind.signed] at w; omega
  have k1 := h1
  have lt1 : ∀ x ∈ p1, x.block < W.heap.size := by obtain ⟨m, hm⟩ := k1; exact DataW.trod_lt m _ _ _ hm
  obtain ⟨a1, len1, cap1, rfl⟩ := okWide_slice Try.underlying45 (hval 1 45 v1 rfl rfl)
  obtain ⟨os1, hosl1, hos1⟩ : ∃ l : List OpW, l.length = len1 ∧ OpsW W.heap.size W a1 l := by
    obtain ⟨fuel, hf⟩ := h1
    exact opsw_of hf (fun n hn => by
      have := List.all_eq_true.1 hsz n (DataW.weights_mem_each (j := 1) rfl rfl n hn)
      simpa using this)
  subst hosl1
  have k2 := h2
  have lt2 : ∀ x ∈ p2, x.block < W.heap.size := by obtain ⟨m, hm⟩ := k2; exact DataW.trod_lt m _ _ _ hm
  obtain ⟨a2, e2, f2, g2, w2⟩ := open_int Try.underlying3 (hval 2 3 v2 rfl rfl) h2
  subst e2
  have b2 : -9223372036854775808 ≤ a2 ∧ a2 ≤ 9223372036854775807 := by have w := w2; simp [Lit.wf, IntKind.min, IntKind.max, IntKind.bits, IntKind.signed] at w; omega
  clear hA0 hval0
  refine (walk a0 a1 cap1 os1 a2 W b0.1 b0.2 hos1 b2.1 b2.2).mono fun e W' ⟨he, bel⟩ => ?_
  subst he
  exact ⟨_, rfl, _, _, _, [], _, [], hW', trodAll_mk1 (shut_bool Try.underlying4 _), (trodAll_cons_mk (Below.trod laidOut (by kernel_rfl) (of_decide_eq_true (by kernel_rfl)) k0 bel lt0) (trodAll_cons_mk (Below.trod laidOut (by kernel_rfl) (of_decide_eq_true (by kernel_rfl)) k1 bel lt1) (trodAll_cons_mk (Below.trod laidOut (by kernel_rfl) (of_decide_eq_true (by kernel_rfl)) k2 bel lt2) trodAll_mk0))), rfl, bel.frame _, fun h => by cases h⟩

theorem over : Rows.walOpenedRow.holds Try.pinned (OpenSpec.ofChange Rows.walOpenedSpec) :=
  OpenClaim.holds_of_wide 4 Try.f4 rfl rfl rfl rfl rfl rfl rfl ⟨rfl, rfl, rfl, rfl, rfl⟩ rfl rfl rfl rfl rfl (by kernel_rfl) Try.func4 (by kernel_rfl)
    (of_decide_eq_true (by kernel_rfl)) (by unfold Func.isWrapper; first | (rw [if_pos (by decide +kernel)]; kernel_rfl) | (rw [if_neg (by decide +kernel)]; exact ⟨rfl, rfl⟩))
    (fun os started H enc _ => lifted os started H enc)

/-- the given statement -/
theorem proved : Rows.WalOpenedSaid := over
#print axioms proved
end Go.Proofs.Ytcjfpddmpiggoaa.walOpened
