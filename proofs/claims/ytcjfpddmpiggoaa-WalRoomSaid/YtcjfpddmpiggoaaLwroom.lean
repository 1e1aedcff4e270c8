/- WalRoom holds: a record of as many bytes as a log tells room for is taken, one of a byte more is refused, and what is refused changes nothing (A3, A8). No condition. -/
import Derived.Test.YtcjfpddmpiggoaaRows
import Derived.Test.YtcjfpddmpiggoaaJtd
import Derived.Test.YtcjfpddmpiggoaaJte
import Derived.WalkKit
import Derived.ProofKit
import Derived.OpenShut
import Derived.ShutString
import Derived.ChangeOld
import Derived.Below
import Derived.Deep.Grids
import Derived.SizedLaws
namespace Go.Proofs.Ytcjfpddmpiggoaa.walRoom
open Go.ChangeShapes Go.WideShapes Go.ChangeAt Go.RowKit
open Go.ChangeMaps (open_string shut_string)
set_option linter.unusedVariables false
set_option linter.unusedSimpArgs false

theorem wacts {Z : Nat → Prop} {w : World} {lb db : Nat} {g : LSt} {d : DSt} (h : Wl Z w lb db g d) : Calls Try.prog 13 #[.pointer (some ⟨db, 0, none⟩)] w fun e w' => e = .returned (.int .i64 d.acts) ∧ w = w' := by
  obtain ⟨sb, mb, nn, hD, _⟩ := (h.whole 0).disk
  exact acts_any hD
theorem does_any {Z : Nat → Prop} {w : World} {lb db : Nat} {g : LSt} {d : DSt} (hw : Wl Z w lb db g d) (hf : Fine d g) (K n f : Int) (hK1 : 1 ≤ K) (hK2 : K ≤ 5) (hn1 : -9223372036854775808 ≤ n) (hn2 : n ≤ 9223372036854775807) (hf1 : -9223372036854775808 ≤ f) (hf2 : f ≤ 9223372036854775807) {ok : Nat → Prop} {a4 : Option Addr} {c4 : Nat} {l : List Int} (hL : NumAt w ok (.slice a4 l.length c4) l) (hok : ∀ k, ok k → k < w.heap.size ∧ ¬ Z k) (hll : l.length * 8 ≤ 140737488351232) (a5 : Option Addr) (n5 c5 : Nat) :
    Calls Try.prog 16 #[.pointer (some ⟨lb, 0, none⟩), .agg #[.int .i64 K, .int .i64 n, .int .i64 f, .slice a4 l.length c4, .slice a5 n5 c5]] w (DoPost Z w lb db (doG K n f l g d)) := by
  rcases (show K = 1 ∨ K = 2 ∨ K = 3 ∨ K = 4 ∨ K = 5 by omega) with rfl | rfl | rfl | rfl | rfl
  · exact does_1 hw hf n f hn1 hn2 hf1 hf2 hL hok hll a5 n5 c5
  · exact does_2 hw hf n f hn1 hn2 hf1 hf2 hL hok hll a5 n5 c5
  · exact does_3 hw hf n f hn1 hn2 hf1 hf2 hL hok hll a5 n5 c5
  · exact does_4 hw hf n f hn1 hn2 hf1 hf2 hL hok hll a5 n5 c5
  · exact does_5 hw hf n f hn1 hn2 hf1 hf2 hL hok hll a5 n5 c5
/-- behind k calls of a log on a disk that is not armed -/
structure Quiet (d : DSt) (g : LSt) (k : Nat) : Prop where
  good : Good d g
  left : d.left = 0
  c : g.m.c ≤ k + 1
  acts : d.acts ≤ 10 + k * 1100000
theorem Quiet.fine {d : DSt} {g : LSt} {k : Nat} (h : Quiet d g k) (hk : k ≤ 1000) : Fine d g := ⟨h.good, by have := h.c; omega, by have := h.acts; omega⟩
theorem Quiet.next {d : DSt} {g : LSt} {k : Nat} (h : Quiet d g k) (hk : k ≤ 999) (K n f : Int) (hn : n ≤ 9223372036854775807) (hff : f ≤ 9223372036854775807) (l : List Int) : (doG K n f l g d).1 ≠ 2 ∧ Quiet (doG K n f l g d).2.2 (doG K n f l g d).2.1 (k + 1) := by
  obtain ⟨h1, h2⟩ := do_calm (h.fine (by omega)) h.left K n f hn hff l
  exact ⟨h1, h2.good, h2.left, by have := h2.c; have := h.c; omega, by have := h2.acts; have := h.acts; omega⟩
structure LpRel (w : World) (lb db lim : Nat) (iv : Value) (wr : World) : Prop where
  ex : ∃ (k : Nat) (g : LSt) (d : DSt), k ≤ lim ∧ iv = .int .i64 k ∧ Wl (fun k => w.heap.size ≤ k) wr lb db g d ∧ Quiet d g k ∧ Kept (fun k => w.heap.size ≤ k) w wr
theorem bl_back (w : World) (m : Nat) : Sem.run Try.prog (convert 31 9 (.slice (some ⟨w.heap.size, 0, none⟩) m m)) (w.alloc (.cells (secL (List.replicate m 0)).toArray 5)) = .ok (.string (bl m)) (w.alloc (.cells (secL (List.replicate m 0)).toArray 5)) := by
  have h := heap_alloc_new w (.cells (secL (List.replicate m 0)).toArray 5)
  have hc := run_convert_bytes_back (P := Try.prog) (w.alloc (.cells (secL (List.replicate m 0)).toArray 5)) 31 9 5 ⟨w.heap.size, 0, none⟩ m (List.replicate m 0) Try.underlying31 Try.underlying5 Try.underlying9 (fun j hj => by
    rw [Addr.add_mid, cell_of_row _ w.heap.size (0 + j) _ _ (0, 0) h, List.getElem?_toArray]
    rw [List.length_replicate] at hj
    simp [secL, bcell, List.getElem?_replicate, hj])
  rw [List.length_replicate] at hc
  exact hc
set_option maxRecDepth 100000 in
set_option maxHeartbeats 4000000 in
theorem walk (a0 : Int) (sa : Option Addr) (scap : Nat) (os : List OpW) (w : World) (h1 : -9223372036854775808 ≤ a0) (h2 : a0 ≤ 9223372036854775807) (hos : OpsW w.heap.size w sa os) :
    Calls Try.prog 5 #[.int .i64 a0, .slice sa os.length scap] w fun e w' => e = .returned (.bool true) ∧ Below w.heap.size w w' := by
  obtain ⟨p0, hp0⟩ : ∃ p, absN a0 % 300 = p := ⟨_, rfl⟩
  have hp0b : p0 < 300 := by omega
  have HP0 := Lib.hid (fun V => wpick_nat a0 300 V h1 h2 (by decide) (by decide) hp0)
  obtain ⟨n0, hn0⟩ : ∃ n0, 16 + p0 = n0 := ⟨_, rfl⟩
  have HN0 : Hid ((16 : Int) + (p0 : Int) = (n0 : Int)) := Lib.hid (by omega)
  have hn0b : 16 ≤ n0 ∧ n0 ≤ 32768 := by omega
  obtain ⟨hfr, hfl, hfn, hfa⟩ := fresh n0 hn0b.1 hn0b.2
  have HQ : Hid (Quiet (forD (newD n0)) log0.bump 0) := Lib.hid ⟨hfr.good, hfl, by decide, by omega⟩
  have HOS := Lib.hid hos
  have hol : os.length ≤ 140737488351232 := hos.len
  have HAW := Lib.hid (awake_any w)
  clear hp0 hn0 hfr hfl hfn hfa hos
  go_enter Try.func5, Try.ntmps5
  go_wp2_with fail
  refine HAW.out.mono ?_
  rintro e w0 ⟨rfl, hk0⟩
  have HK0 := Lib.hid (hk0.mono (T := fun k => w.heap.size ≤ k) (fun _ _ x => x.elim))
  clear hk0
  go_wp2_with fail
  refine (HP0.out _).mono ?_
  rintro e w1 ⟨rfl, rfl⟩
  go_wp2_with fail
  rw [HN0.out]
  refine (wnew_any _ n0 hn0b.1 hn0b.2).mono ?_
  rintro e w1 ⟨db, sb, mb, nn, rfl, hD, hDB, hk1⟩
  have hsz0 := HK0.out.size
  have hsz1 := hk1.size
  have HFO := Lib.hid (format_go (Z := fun k => w.heap.size ≤ k) hD (fun k hk => by have := hDB k hk; omega) (fun k hk => by omega) rfl rfl (by show 0 < 1000000; decide))
  have HK1 := Lib.hid (HK0.out.trans (hk1.mono (fun _ _ x => x.elim)))
  clear hD hDB hk1 hsz1 hsz0 HK0
  go_wp2_with fail
  refine HFO.out.mono ?_
  rintro e w2 ⟨lb, rfl, hw2, hlb, hk2⟩
  have HW2 := Lib.hid hw2
  have HK2 := Lib.hid (HK1.out.trans hk2)
  clear hw2 hlb hk2 HFO HK1
  go_wp2_with fail
  go_loopw [10] (fun iv wr => LpRel w lb db 40 iv wr) (fun iv _ => 40 - (Go.RowKit.intOf iv).toNat)
  case atStart => exact ⟨0, _, _, Nat.zero_le _, rfl, HW2.out, HQ.out, HK2.out⟩
  case round =>
    obtain ⟨k, g, d, hk, rfl, hw, hq, hkp⟩ := hrel.ex
    clear hrel HW2 HK2 HQ
    have HW := Lib.hid hw
    have HQ := Lib.hid hq
    have HK := Lib.hid hkp
    clear hw hq hkp
    by_cases hlt : k < os.length
    · by_cases hl4 : k < 40
      · have hos2 := HOS.out.kept HK.out (fun k hk hn => by omega)
        obtain ⟨gb, off, lv, hv, rfl, hgb, hcells, hLL, hHH⟩ := hos2.at_ k hlt
        have hfit := HOS.out.fits os[k] (List.getElem_mem hlt)
        obtain ⟨o, ho⟩ : ∃ o, os[k] = o := ⟨_, rfl⟩
        rw [ho] at hcells hLL hHH hfit
        obtain ⟨a4, c4, rfl, hl4c⟩ := hLL.ex
        obtain ⟨a5, c5, rfl, hl5c⟩ := hHH.ex
        have q0 : wr.cell? ⟨gb, off + k * 5, none⟩ = some (.int .i64 o.k) := hcells 0 _ rfl
        have q1 : wr.cell? ⟨gb, off + k * 5 + 1, none⟩ = some (.int .i64 o.n) := hcells 1 _ rfl
        have q2 : wr.cell? ⟨gb, off + k * 5 + 2, none⟩ = some (.int .i64 o.f) := hcells 2 _ rfl
        have q3 : wr.cell? ⟨gb, off + k * 5 + 3, none⟩ = some (.slice a4 o.l.length c4) := hcells 3 _ rfl
        have q4 : wr.cell? ⟨gb, off + k * 5 + 4, none⟩ = some (.slice a5 o.how.length c5) := hcells 4 _ rfl
        have HFI := Lib.hid hfit
        have HLL := Lib.hid hLL
        have HNX := Lib.hid (fun K => HQ.out.next (by omega) K o.n o.f hfit.n.2 hfit.f.2 o.l)
        obtain ⟨p, hp⟩ : ∃ p, absN o.k % 5 = p := ⟨_, rfl⟩
        have hp5 : p < 5 := by omega
        have HP := Lib.hid (fun V => wpick_nat o.k 5 V hfit.k.1 hfit.k.2 (by decide) (by decide) hp)
        have hk1 : Kept (fun _ => False) wr (wr.alloc (.cells #[.int .i64 (1 + (p : Int)), .int .i64 o.n, .int .i64 o.f, .slice a4 o.l.length c4, .slice a5 o.how.length c5] 42)) := (Kept.refl _ wr).alloc _
        have HW3 := Lib.hid (HW.out.kept0 hk1)
        have HL3 := Lib.hid (HLL.out.kept hk1 (fun _ _ x => x))
        have HK3 := Lib.hid (HK.out.trans (hk1.mono (fun _ _ x => x.elim)))
        have HB3 : Hid (∀ j, j < w.heap.size → j < (wr.alloc (.cells #[.int .i64 (1 + (p : Int)), .int .i64 o.n, .int .i64 o.f, .slice a4 o.l.length c4, .slice a5 o.how.length c5] 42)).heap.size ∧ ¬ w.heap.size ≤ j) := Lib.hid (fun j hj => ⟨Nat.lt_of_lt_of_le hj HK3.out.size, by omega⟩)
        clear hos2 hcells hLL hHH hfit ho hp hk1 hl4c hl5c
        go_wp2_with fail
        refine (HP.out _).mono ?_
        rintro e w4 ⟨rfl, rfl⟩
        go_wp2_with fail
        refine (does_any HW3.out (HQ.out.fine (by omega)) (1 + (p : Int)) o.n o.f (by omega) (by omega) HFI.out.n.1 HFI.out.n.2 HFI.out.f.1 HFI.out.f.2 HL3.out HB3.out HFI.out.l a5 o.how.length c5).mono ?_
        rintro e w5 ⟨rfl, hq5, hk5⟩
        obtain ⟨hv5, hn5⟩ := HNX.out (1 + (p : Int))
        have HW5 := Lib.hid (hq5.log hv5)
        have HN5 := Lib.hid hn5
        have HK5 := Lib.hid (HK3.out.trans hk5)
        clear hq5 hk5 hv5 hn5 q0 q1 q2 q3 q4
        go_wp2_with fail
        go_roundw
        case rel => exact ⟨k + 1, _, _, by omega, by go_num, HW5.out, HN5.out, HK5.out⟩
        case measure => simp [Go.RowKit.intOf]; omega
      · have hf := HQ.out.good
        have hrzb : -1 ≤ roomZ g.used d ∧ roomZ g.used d ≤ 4000 := by unfold roomZ; omega
        obtain ⟨rz, hrz⟩ : ∃ rz, roomZ g.used d = rz := ⟨_, rfl⟩
        obtain ⟨m, hmx⟩ : ∃ m : Nat, max (rz + 1) 0 = (m : Int) := ⟨(rz + 1).toNat, by omega⟩
        have hm4 : m ≤ 4096 := by omega
        have HMX := Lib.hid hmx
        have HRZ := Lib.hid hrz
        have HB := Lib.hid (show g.used ≤ 1048576 ∧ g.recs.length ≤ 1048576 ∧ True ∧ g.used ≤ 4611686018427387904 ∧ g.m.ar ≤ 1 ∧ d.acts ≤ 4600000000000000000 ∧ g.doubt = false by
          have h1 := (HQ.out.fine (by omega)).sp
          exact ⟨by omega, by omega, trivial, by omega, hf.half.A.ar, (HQ.out.fine (by omega)).acts, hf.doubt⟩)
        rw [hrz] at hrzb
        clear hmx hrz hf
        obtain ⟨hr1, hr2⟩ := hrzb
        go_wp2_with fail
        refine (room_any HW.out HB.out.2.2.2.1).mono ?_
        rw [HRZ.out]
        rintro e w2 ⟨rfl, n2, rfl⟩
        have HW2 := Lib.hid (HW.out.drewN n2)
        have HK2 := Lib.hid (HK.out.drewN n2)
        clear HW HK
        generalize wr.drewN n2 = w2 at HW2 HK2 ⊢
        go_wp2_with fail
        refine (len_any HW2.out).mono ?_
        rintro e w3 ⟨rfl, rfl⟩
        go_wp2_with fail
        refine (wacts HW2.out).mono ?_
        rintro e w3 ⟨rfl, rfl⟩
        have hmk := make_bytes w2 m hm4
        have hmx := HMX.out
        have hcv : Sem.run Try.prog (convert 31 9 (.slice (some ⟨w2.heap.size, 0, none⟩) m m)) (w2.alloc (.cells (secL (List.replicate m 0)).toArray 5)) = .ok (.string (bl m)) (w2.alloc (.cells (secL (List.replicate m 0)).toArray 5)) := bl_back w2 m
        go_wp2_with fail
        have HW3 := Lib.hid (HW2.out.kept0 ((Kept.refl _ w2).alloc (.cells (secL (List.replicate m 0)).toArray 5)))
        have HK3 := Lib.hid (HK2.out.alloc (.cells (secL (List.replicate m 0)).toArray 5))
        clear hmk hcv HW2 HK2
        have hblm : (bl m).size = m := bl_size m
        have HBL := Lib.hid hblm
        clear hblm
        generalize w2.alloc (.cells (secL (List.replicate m 0)).toArray 5) = w3 at HW3 HK3 ⊢
        by_cases hm : 4000 < m
        · have hrz0 : 0 ≤ rz := by omega
          refine (wappend_long HW3.out HB.out.2.2.2.2.2.2 (bl m) (by rw [HBL.out]; exact hm)).mono ?_
          rintro e w5 ⟨rfl, hw5, hk5⟩
          have HW5 := Lib.hid hw5
          have HK5 := Lib.hid (HK3.out.trans hk5)
          clear hw5 hk5 HW3 HK3
          go_wp2_with fail
          refine (wacts HW5.out).mono ?_
          rintro e w6 ⟨rfl, rfl⟩
          go_wp2_with fail
          refine (len_any HW5.out).mono ?_
          rintro e w6 ⟨rfl, rfl⟩
          go_wp2_with fail
          refine (room_any HW5.out HB.out.2.2.2.1).mono ?_
          rw [HRZ.out]
          rintro e w6 ⟨rfl, n6, rfl⟩
          have HW7 := Lib.hid (HW5.out.drewN n6)
          have HK7 := Lib.hid (HK5.out.drewN n6)
          clear HW5 HK5
          generalize w5.drewN n6 = w7 at HW7 HK7 ⊢
          obtain ⟨c, hcz⟩ := Int.eq_ofNat_of_zero_le hrz0
          have hcm : c ≤ m := by omega
          obtain ⟨s, hs⟩ : ∃ s, (bl m).extract 0 c = s := ⟨_, rfl⟩
          have hss : s.size = c := by rw [← hs, ByteArray.size_extract, HBL.out]; omega
          have hcut : ∀ V, Sem.run Try.prog (Instr.slice 9 (.string (bl m)) none (some (.int .i64 rz)) none) V = .ok (.string s) V := fun V => by
            have := cut_run V (bl m) (c := c) (by rw [HBL.out]; exact hcm)
            rw [hs] at this
            rw [hcz]; exact this
          have HSS := Lib.hid hss
          have HCZ := Lib.hid hcz
          have HAO := Lib.hid (append_out HQ.out.good s (by rw [HRZ.out, hss]; omega))
          clear hs hss hcz
          go_wp2_with fail
          refine (wappend_go HW7.out HB.out.2.2.2.2.2.2 s (by rw [HSS.out]; have := HCZ.out; omega) (by rw [HRZ.out, HSS.out, HCZ.out]; exact Int.le_refl _) HB.out.2.2.2.2.1 HB.out.1 HB.out.2.1 (by have := HB.out.2.2.2.2.2.1; omega)).mono ?_
          obtain ⟨hv0, hcalm⟩ := out_calm HAO.out HQ.out.left (Nat.le_succ _)
          rw [hv0]
          rintro e w8 ⟨rfl, hq8, hk8⟩
          have HW8 := Lib.hid (hq8.log (by decide))
          have HK8 := Lib.hid (HK7.out.trans hk8)
          clear hq8 hk8 HW7 HK7 hv0 hcalm hcut
          go_wp2_with fail
          have hlen := len_any HW8.out
          have hll : (g.add s).recs.length = g.recs.length + 1 := by simp [LSt.add]
          rw [hll] at hlen
          have HLE := Lib.hid hlen
          clear hlen hll
          refine HLE.out.mono ?_
          rintro e w9 ⟨rfl, rfl⟩
          have hlb9 := HB.out.2.1
          have hge : (((g.recs.length + 1 : Nat) : Int) == (g.recs.length : Int) + 1) = true := by simp
          have hge2 : ((g.recs.length + 1 : Nat) : Int) = (g.recs.length : Int) + 1 := by simp
          go_wp2_with fail
          go_ret
          exact ⟨by simp, HK8.out.below (fun _ h => h) (Nat.le_refl _)⟩
        · refine (wappend_full HW3.out HB.out.2.2.2.2.2.2 (bl m) (by rw [HBL.out]; omega) (by rw [HBL.out, HRZ.out]; omega) HB.out.1).mono ?_
          rintro e w5 ⟨rfl, hw5, hk5⟩
          have HW5 := Lib.hid hw5
          have HK5 := Lib.hid (HK3.out.trans hk5)
          clear hw5 hk5 HW3 HK3
          by_cases hrz0 : 0 ≤ rz
          · skip
            go_wp2_with fail
            refine (wacts HW5.out).mono ?_
            rintro e w6 ⟨rfl, rfl⟩
            go_wp2_with fail
            refine (len_any HW5.out).mono ?_
            rintro e w6 ⟨rfl, rfl⟩
            go_wp2_with fail
            refine (room_any HW5.out HB.out.2.2.2.1).mono ?_
            rw [HRZ.out]
            rintro e w6 ⟨rfl, n6, rfl⟩
            have HW7 := Lib.hid (HW5.out.drewN n6)
            have HK7 := Lib.hid (HK5.out.drewN n6)
            clear HW5 HK5
            generalize w5.drewN n6 = w7 at HW7 HK7 ⊢
            obtain ⟨c, hcz⟩ := Int.eq_ofNat_of_zero_le hrz0
            have hcm : c ≤ m := by omega
            obtain ⟨s, hs⟩ : ∃ s, (bl m).extract 0 c = s := ⟨_, rfl⟩
            have hss : s.size = c := by rw [← hs, ByteArray.size_extract, HBL.out]; omega
            have hcut : ∀ V, Sem.run Try.prog (Instr.slice 9 (.string (bl m)) none (some (.int .i64 rz)) none) V = .ok (.string s) V := fun V => by
              have := cut_run V (bl m) (c := c) (by rw [HBL.out]; exact hcm)
              rw [hs] at this
              rw [hcz]; exact this
            have HSS := Lib.hid hss
            have HCZ := Lib.hid hcz
            have HAO := Lib.hid (append_out HQ.out.good s (by rw [HRZ.out, hss]; omega))
            clear hs hss hcz
            go_wp2_with fail
            refine (wappend_go HW7.out HB.out.2.2.2.2.2.2 s (by rw [HSS.out]; have := HCZ.out; omega) (by rw [HRZ.out, HSS.out, HCZ.out]; exact Int.le_refl _) HB.out.2.2.2.2.1 HB.out.1 HB.out.2.1 (by have := HB.out.2.2.2.2.2.1; omega)).mono ?_
            obtain ⟨hv0, hcalm⟩ := out_calm HAO.out HQ.out.left (Nat.le_succ _)
            rw [hv0]
            rintro e w8 ⟨rfl, hq8, hk8⟩
            have HW8 := Lib.hid (hq8.log (by decide))
            have HK8 := Lib.hid (HK7.out.trans hk8)
            clear hq8 hk8 HW7 HK7 hv0 hcalm hcut
            go_wp2_with fail
            have hlen := len_any HW8.out
            have hll : (g.add s).recs.length = g.recs.length + 1 := by simp [LSt.add]
            rw [hll] at hlen
            have HLE := Lib.hid hlen
            clear hlen hll
            refine HLE.out.mono ?_
            rintro e w9 ⟨rfl, rfl⟩
            have hlb9 := HB.out.2.1
            have hge : (((g.recs.length + 1 : Nat) : Int) == (g.recs.length : Int) + 1) = true := by simp
            have hge2 : ((g.recs.length + 1 : Nat) : Int) = (g.recs.length : Int) + 1 := by simp
            go_wp2_with fail
            go_ret
            exact ⟨by simp, HK8.out.below (fun _ h => h) (Nat.le_refl _)⟩
          · have hrzn : rz < 0 := by omega
            go_wp2_with fail
            refine (wacts HW5.out).mono ?_
            rintro e w6 ⟨rfl, rfl⟩
            go_wp2_with fail
            refine (len_any HW5.out).mono ?_
            rintro e w6 ⟨rfl, rfl⟩
            go_wp2_with fail
            refine (room_any HW5.out HB.out.2.2.2.1).mono ?_
            rw [HRZ.out]
            rintro e w6 ⟨rfl, n6, rfl⟩
            have HW7 := Lib.hid (HW5.out.drewN n6)
            have HK7 := Lib.hid (HK5.out.drewN n6)
            clear HW5 HK5
            generalize w5.drewN n6 = w7 at HW7 HK7 ⊢
            go_wp2_with fail
            go_ret
            exact ⟨rfl, HK7.out.below (fun _ h => h) (Nat.le_refl _)⟩
    · have hf := HQ.out.good
      have hrzb : -1 ≤ roomZ g.used d ∧ roomZ g.used d ≤ 4000 := by unfold roomZ; omega
      obtain ⟨rz, hrz⟩ : ∃ rz, roomZ g.used d = rz := ⟨_, rfl⟩
      obtain ⟨m, hmx⟩ : ∃ m : Nat, max (rz + 1) 0 = (m : Int) := ⟨(rz + 1).toNat, by omega⟩
      have hm4 : m ≤ 4096 := by omega
      have HMX := Lib.hid hmx
      have HRZ := Lib.hid hrz
      have HB := Lib.hid (show g.used ≤ 1048576 ∧ g.recs.length ≤ 1048576 ∧ True ∧ g.used ≤ 4611686018427387904 ∧ g.m.ar ≤ 1 ∧ d.acts ≤ 4600000000000000000 ∧ g.doubt = false by
        have h1 := (HQ.out.fine (by omega)).sp
        exact ⟨by omega, by omega, trivial, by omega, hf.half.A.ar, (HQ.out.fine (by omega)).acts, hf.doubt⟩)
      rw [hrz] at hrzb
      clear hmx hrz hf
      obtain ⟨hr1, hr2⟩ := hrzb
      go_wp2_with fail
      refine (room_any HW.out HB.out.2.2.2.1).mono ?_
      rw [HRZ.out]
      rintro e w2 ⟨rfl, n2, rfl⟩
      have HW2 := Lib.hid (HW.out.drewN n2)
      have HK2 := Lib.hid (HK.out.drewN n2)
      clear HW HK
      generalize wr.drewN n2 = w2 at HW2 HK2 ⊢
      go_wp2_with fail
      refine (len_any HW2.out).mono ?_
      rintro e w3 ⟨rfl, rfl⟩
      go_wp2_with fail
      refine (wacts HW2.out).mono ?_
      rintro e w3 ⟨rfl, rfl⟩
      have hmk := make_bytes w2 m hm4
      have hmx := HMX.out
      have hcv : Sem.run Try.prog (convert 31 9 (.slice (some ⟨w2.heap.size, 0, none⟩) m m)) (w2.alloc (.cells (secL (List.replicate m 0)).toArray 5)) = .ok (.string (bl m)) (w2.alloc (.cells (secL (List.replicate m 0)).toArray 5)) := bl_back w2 m
      go_wp2_with fail
      have HW3 := Lib.hid (HW2.out.kept0 ((Kept.refl _ w2).alloc (.cells (secL (List.replicate m 0)).toArray 5)))
      have HK3 := Lib.hid (HK2.out.alloc (.cells (secL (List.replicate m 0)).toArray 5))
      clear hmk hcv HW2 HK2
      have hblm : (bl m).size = m := bl_size m
      have HBL := Lib.hid hblm
      clear hblm
      generalize w2.alloc (.cells (secL (List.replicate m 0)).toArray 5) = w3 at HW3 HK3 ⊢
      by_cases hm : 4000 < m
      · have hrz0 : 0 ≤ rz := by omega
        refine (wappend_long HW3.out HB.out.2.2.2.2.2.2 (bl m) (by rw [HBL.out]; exact hm)).mono ?_
        rintro e w5 ⟨rfl, hw5, hk5⟩
        have HW5 := Lib.hid hw5
        have HK5 := Lib.hid (HK3.out.trans hk5)
        clear hw5 hk5 HW3 HK3
        go_wp2_with fail
        refine (wacts HW5.out).mono ?_
        rintro e w6 ⟨rfl, rfl⟩
        go_wp2_with fail
        refine (len_any HW5.out).mono ?_
        rintro e w6 ⟨rfl, rfl⟩
        go_wp2_with fail
        refine (room_any HW5.out HB.out.2.2.2.1).mono ?_
        rw [HRZ.out]
        rintro e w6 ⟨rfl, n6, rfl⟩
        have HW7 := Lib.hid (HW5.out.drewN n6)
        have HK7 := Lib.hid (HK5.out.drewN n6)
        clear HW5 HK5
        generalize w5.drewN n6 = w7 at HW7 HK7 ⊢
        obtain ⟨c, hcz⟩ := Int.eq_ofNat_of_zero_le hrz0
        have hcm : c ≤ m := by omega
        obtain ⟨s, hs⟩ : ∃ s, (bl m).extract 0 c = s := ⟨_, rfl⟩
        have hss : s.size = c := by rw [← hs, ByteArray.size_extract, HBL.out]; omega
        have hcut : ∀ V, Sem.run Try.prog (Instr.slice 9 (.string (bl m)) none (some (.int .i64 rz)) none) V = .ok (.string s) V := fun V => by
          have := cut_run V (bl m) (c := c) (by rw [HBL.out]; exact hcm)
          rw [hs] at this
          rw [hcz]; exact this
        have HSS := Lib.hid hss
        have HCZ := Lib.hid hcz
        have HAO := Lib.hid (append_out HQ.out.good s (by rw [HRZ.out, hss]; omega))
        clear hs hss hcz
        go_wp2_with fail
        refine (wappend_go HW7.out HB.out.2.2.2.2.2.2 s (by rw [HSS.out]; have := HCZ.out; omega) (by rw [HRZ.out, HSS.out, HCZ.out]; exact Int.le_refl _) HB.out.2.2.2.2.1 HB.out.1 HB.out.2.1 (by have := HB.out.2.2.2.2.2.1; omega)).mono ?_
        obtain ⟨hv0, hcalm⟩ := out_calm HAO.out HQ.out.left (Nat.le_succ _)
        rw [hv0]
        rintro e w8 ⟨rfl, hq8, hk8⟩
        have HW8 := Lib.hid (hq8.log (by decide))
        have HK8 := Lib.hid (HK7.out.trans hk8)
        clear hq8 hk8 HW7 HK7 hv0 hcalm hcut
        go_wp2_with fail
        have hlen := len_any HW8.out
        have hll : (g.add s).recs.length = g.recs.length + 1 := by simp [LSt.add]
        rw [hll] at hlen
        have HLE := Lib.hid hlen
        clear hlen hll
        refine HLE.out.mono ?_
        rintro e w9 ⟨rfl, rfl⟩
        have hlb9 := HB.out.2.1
        have hge : (((g.recs.length + 1 : Nat) : Int) == (g.recs.length : Int) + 1) = true := by simp
        have hge2 : ((g.recs.length + 1 : Nat) : Int) = (g.recs.length : Int) + 1 := by simp
        go_wp2_with fail
        go_ret
        exact ⟨by simp, HK8.out.below (fun _ h => h) (Nat.le_refl _)⟩
      · refine (wappend_full HW3.out HB.out.2.2.2.2.2.2 (bl m) (by rw [HBL.out]; omega) (by rw [HBL.out, HRZ.out]; omega) HB.out.1).mono ?_
        rintro e w5 ⟨rfl, hw5, hk5⟩
        have HW5 := Lib.hid hw5
        have HK5 := Lib.hid (HK3.out.trans hk5)
        clear hw5 hk5 HW3 HK3
        by_cases hrz0 : 0 ≤ rz
        · skip
          go_wp2_with fail
          refine (wacts HW5.out).mono ?_
          rintro e w6 ⟨rfl, rfl⟩
          go_wp2_with fail
          refine (len_any HW5.out).mono ?_
          rintro e w6 ⟨rfl, rfl⟩
          go_wp2_with fail
          refine (room_any HW5.out HB.out.2.2.2.1).mono ?_
          rw [HRZ.out]
          rintro e w6 ⟨rfl, n6, rfl⟩
          have HW7 := Lib.hid (HW5.out.drewN n6)
          have HK7 := Lib.hid (HK5.out.drewN n6)
          clear HW5 HK5
          generalize w5.drewN n6 = w7 at HW7 HK7 ⊢
          obtain ⟨c, hcz⟩ := Int.eq_ofNat_of_zero_le hrz0
          have hcm : c ≤ m := by omega
          obtain ⟨s, hs⟩ : ∃ s, (bl m).extract 0 c = s := ⟨_, rfl⟩
          have hss : s.size = c := by rw [← hs, ByteArray.size_extract, HBL.out]; omega
          have hcut : ∀ V, Sem.run Try.prog (Instr.slice 9 (.string (bl m)) none (some (.int .i64 rz)) none) V = .ok (.string s) V := fun V => by
            have := cut_run V (bl m) (c := c) (by rw [HBL.out]; exact hcm)
            rw [hs] at this
            rw [hcz]; exact this
          have HSS := Lib.hid hss
          have HCZ := Lib.hid hcz
          have HAO := Lib.hid (append_out HQ.out.good s (by rw [HRZ.out, hss]; omega))
          clear hs hss hcz
          go_wp2_with fail
          refine (wappend_go HW7.out HB.out.2.2.2.2.2.2 s (by rw [HSS.out]; have := HCZ.out; omega) (by rw [HRZ.out, HSS.out, HCZ.out]; exact Int.le_refl _) HB.out.2.2.2.2.1 HB.out.1 HB.out.2.1 (by have := HB.out.2.2.2.2.2.1; omega)).mono ?_
          obtain ⟨hv0, hcalm⟩ := out_calm HAO.out HQ.out.left (Nat.le_succ _)
          rw [hv0]
          rintro e w8 ⟨rfl, hq8, hk8⟩
          have HW8 := Lib.hid (hq8.log (by decide))
          have HK8 := Lib.hid (HK7.out.trans hk8)
          clear hq8 hk8 HW7 HK7 hv0 hcalm hcut
          go_wp2_with fail
          have hlen := len_any HW8.out
          have hll : (g.add s).recs.length = g.recs.length + 1 := by simp [LSt.add]
          rw [hll] at hlen
          have HLE := Lib.hid hlen
          clear hlen hll
          refine HLE.out.mono ?_
          rintro e w9 ⟨rfl, rfl⟩
          have hlb9 := HB.out.2.1
          have hge : (((g.recs.length + 1 : Nat) : Int) == (g.recs.length : Int) + 1) = true := by simp
          have hge2 : ((g.recs.length + 1 : Nat) : Int) = (g.recs.length : Int) + 1 := by simp
          go_wp2_with fail
          go_ret
          exact ⟨by simp, HK8.out.below (fun _ h => h) (Nat.le_refl _)⟩
        · have hrzn : rz < 0 := by omega
          go_wp2_with fail
          refine (wacts HW5.out).mono ?_
          rintro e w6 ⟨rfl, rfl⟩
          go_wp2_with fail
          refine (len_any HW5.out).mono ?_
          rintro e w6 ⟨rfl, rfl⟩
          go_wp2_with fail
          refine (room_any HW5.out HB.out.2.2.2.1).mono ?_
          rw [HRZ.out]
          rintro e w6 ⟨rfl, n6, rfl⟩
          have HW7 := Lib.hid (HW5.out.drewN n6)
          have HK7 := Lib.hid (HK5.out.drewN n6)
          clear HW5 HK5
          generalize w5.drewN n6 = w7 at HW7 HK7 ⊢
          go_wp2_with fail
          go_ret
          exact ⟨rfl, HK7.out.below (fun _ h => h) (Nat.le_refl _)⟩

theorem own : ownKnob Try.prog.godebug = none := by kernel_rfl
theorem laidOut : laidOutB Try.prog = true := by kernel_rfl

set_option maxRecDepth 100000 in
theorem lifted (os : Os) (started : os.Started) (H : Type) (enc : TypeId × Value → H) :
    ReturnsInHanded {} Try.checked os 5 .any (Rows.walRoomSpec.pre6 enc Try.prog Try.f5 Rows.walRoomRow.domain false) (Rows.walRoomSpec.post enc Try.prog Try.f5 false true false false) := by
  refine returnsInHanded_of_change_sized (C := Try.checked) own started (by kernel_rfl) Try.func5
    (ChangeSpec.witness6 (enc := enc) (C := Try.checked) false ⟨#[], #[.int .i64 0, .slice none 0 0], []⟩ 8 (by kernel_rfl) (by kernel_rfl) (by kernel_rfl) (by kernel_rfl)) ?_
  intro W base args ds gs before hval0 hW hcnd hsz0 _
  have hsz : (DataW.weightsEach Try.prog (Try.f5.params.toList ++ Rows.walRoomSpec.plain.varTypes Try.prog) (ds ++ gs)).all (· ≤ reachBytes) = true := hsz0
  clear hsz0
  have hval : ∀ (j : Nat) t v, Try.f5.params[j]? = some t → args[j]? = some v → Value.okWide Try.prog W .any base t v := hval0
  have hW' := hW
  obtain ⟨p, q, hA0, hV, rfl, hfz, hnd⟩ := hW
  have hA : DataW.TrodAll enc Try.prog W 0 (fun _ => true) true Try.f5.params.toList args.toList ds p := hA0
  rw [Try.params5] at hA hval hsz
  obtain ⟨v0, vs0, d0, ds0, p0, q0, hargs, rfl, rfl, h0, r0⟩ := trodAll_cons hA
  obtain ⟨v1, vs1, d1, ds1, p1, q1, rfl, rfl, rfl, h1, r1⟩ := trodAll_cons r0
  obtain ⟨rfl, rfl, rfl⟩ := trodAll_nil r1
  obtain rfl : args = #[v0, v1] := by cases args; simp_all
  obtain ⟨rfl, rfl⟩ := trodVars_none hV
  have k0 := h0
  have lt0 : ∀ x ∈ p0, x.block < W.heap.size := by obtain ⟨m, hm⟩ := k0; exact DataW.trod_lt m _ _ _ hm
  obtain ⟨a0, e0, f0, g0, w0⟩ := open_int Try.underlying3 (hval 0 3 v0 rfl rfl) h0
  subst e0
  have b0 : -9223372036854775808 ≤ a0 ∧ a0 ≤ 9223372036854775807 := by have w := w0; simp [Lit.wf, IntKind.min, IntKind.max, IntKind.bits, IntKind.signed] at w; omega
  have k1 := h1
  have lt1 : ∀ x ∈ p1, x.block < W.heap.size := by obtain ⟨m, hm⟩ := k1; exact DataW.trod_lt m _ _ _ hm
  obtain ⟨a1, len1, cap1, rfl⟩ := okWide_slice Try.underlying45 (hval 1 45 v1 rfl rfl)
  obtain ⟨os1, hosl1, hos1⟩ : ∃ l : List OpW, l.length = len1 ∧ OpsW W.heap.size W a1 l := by
    obtain ⟨fuel, hf⟩ := h1
    exact opsw_of hf (fun n hn => by
      have := List.all_eq_true.1 hsz n (DataW.weights_mem_each (j := 1) rfl rfl n hn)
      simpa using this)
  subst hosl1
  clear hA0 hval0
  refine (walk a0 a1 cap1 os1 W b0.1 b0.2 hos1).mono fun e W' ⟨he, bel⟩ => ?_
  subst he
  exact ⟨_, rfl, _, _, _, [], _, [], hW', trodAll_mk1 (shut_bool Try.underlying4 _), (trodAll_cons_mk (Below.trod laidOut (by kernel_rfl) (of_decide_eq_true (by kernel_rfl)) k0 bel lt0) (trodAll_cons_mk (Below.trod laidOut (by kernel_rfl) (of_decide_eq_true (by kernel_rfl)) k1 bel lt1) trodAll_mk0)), rfl, bel.frame _, fun h => by cases h⟩

theorem over : Rows.walRoomRow.holds Try.pinned (OpenSpec.ofChange Rows.walRoomSpec) :=
  OpenClaim.holds_of_wide 5 Try.f5 rfl rfl rfl rfl rfl rfl rfl ⟨rfl, rfl, rfl, rfl, rfl⟩ rfl rfl rfl rfl rfl (by kernel_rfl) Try.func5 (by kernel_rfl)
    (of_decide_eq_true (by kernel_rfl)) (by unfold Func.isWrapper; first | (rw [if_pos (by decide +kernel)]; kernel_rfl) | (rw [if_neg (by decide +kernel)]; exact ⟨rfl, rfl⟩))
    (fun os started H enc _ => lifted os started H enc)

/-- the given statement -/
theorem proved : Rows.WalRoomSaid := over
#print axioms proved
end Go.Proofs.Ytcjfpddmpiggoaa.walRoom
