/- WalLasts holds: THE THEOREM OF THE STAGE: what was synced is there behind any crash, as a whole, and what was under way is there as a whole or not at all (A3 to A9). No condition. -/
import Derived.Test.YtcjfpddmpiggoaaGreatRows
import Derived.Test.YtcjfpddmpiggoaaGreatJtz
import Derived.Test.YtcjfpddmpiggoaaGreatJcz
import Derived.WalkKit
import Derived.ProofKit
import Derived.OpenShut
import Derived.ShutString
import Derived.ChangeOld
import Derived.Below
import Derived.Deep.Grids
import Derived.SizedLaws
namespace Go.Proofs.YtcjfpddmpiggoaaGreat.walLasts
open Go.ChangeShapes Go.WideShapes Go.ChangeAt Go.RowKit
open Go.ChangeMaps (open_string shut_string)
set_option linter.unusedVariables false
set_option linter.unusedSimpArgs false

theorem wacts {Z : Nat → Prop} {w : World} {lb db : Nat} {g : LSt} {d : DSt} (h : Wl Z w lb db g d) : Calls Tryz.prog 22 #[.pointer (some ⟨db, 0, none⟩)] w fun e w' => e = .returned (.int .i64 d.acts) ∧ w = w' := by
  obtain ⟨sb, mb, nn, hD, _⟩ := (h.whole 0).disk
  exact acts_any hD
theorem does_any {Z : Nat → Prop} {w : World} {lb db : Nat} {g : LSt} {d : DSt} (hw : Wl Z w lb db g d) (hf : Fine d g) (K n f : Int) (hK1 : 1 ≤ K) (hK2 : K ≤ 5) (hn1 : -9223372036854775808 ≤ n) (hn2 : n ≤ 9223372036854775807) (hf1 : -9223372036854775808 ≤ f) (hf2 : f ≤ 9223372036854775807) {ok : Nat → Prop} {a4 : Option Addr} {c4 : Nat} {l : List Int} (hL : NumAt w ok (.slice a4 l.length c4) l) (hok : ∀ k, ok k → k < w.heap.size ∧ ¬ Z k) (hll : l.length * 8 ≤ 140737488351232) (a5 : Option Addr) (n5 c5 : Nat) :
    Calls Tryz.prog 12 #[.pointer (some ⟨lb, 0, none⟩), .agg #[.int .i64 K, .int .i64 n, .int .i64 f, .slice a4 l.length c4, .slice a5 n5 c5]] w (DoPost Z w lb db (doG K n f l g d)) := by
  rcases (show K = 1 ∨ K = 2 ∨ K = 3 ∨ K = 4 ∨ K = 5 by omega) with rfl | rfl | rfl | rfl | rfl
  · exact does_1 hw hf n f hn1 hn2 hf1 hf2 hL hok hll a5 n5 c5
  · exact does_2 hw hf n f hn1 hn2 hf1 hf2 hL hok hll a5 n5 c5
  · exact does_3 hw hf n f hn1 hn2 hf1 hf2 hL hok hll a5 n5 c5
  · exact does_4 hw hf n f hn1 hn2 hf1 hf2 hL hok hll a5 n5 c5
  · exact does_5 hw hf n f hn1 hn2 hf1 hf2 hL hok hll a5 n5 c5
theorem wrap_id (M : Int) (h1 : -9223372036854775808 ≤ M) (h2 : M ≤ 9223372036854775807) : IntKind.i64.wrap M = M := by
  rw [IntKind.wrap_i64]; omega
theorem sizeN_six (l : List ByteArray) : 6 * l.length ≤ sizeN l := by
  induction l with
  | nil => simp
  | cons s l ih => simp only [sizeN, List.map_cons, List.sum_cons, List.length_cons] at ih ⊢; omega
theorem beh_len {d : DSt} {g : LSt} (hg : Good d g) (k n f : Int) (l : List Int) : (behG k n f l g).1.length ≤ 1048512 := by
  have hsp := hg.half.base.space
  have husp := hg.usp
  have hus := hg.used
  have hll := sizeN_len g.recs
  have hm := manyL_len l
  unfold behG
  split
  · show g.recs.length ≤ _; omega
  · split
    · split
      · show (g.recs.take g.m.nu).length ≤ _; rw [List.length_take]; omega
      · split
        · show (g.recs.take g.m.nu).length ≤ _; rw [List.length_take]; omega
        · show (g.recs.take n.toNat).length ≤ _; rw [List.length_take]; omega
    · split
      · show (manyL l).length ≤ _; omega
      · split
        · show (g.recs.take g.m.nu).length ≤ _; rw [List.length_take]; omega
        · show (g.recs.take g.m.nu).length ≤ _; rw [List.length_take]; omega
structure LpRel (w : World) (db lim : Nat) (lv iv : Value) (wr : World) : Prop where
  ex : ∃ (k : Nat) (g : LSt) (d : DSt) (lb : Nat), k ≤ lim ∧ lv = .pointer (some ⟨lb, 0, none⟩) ∧ iv = .int .i64 k ∧ Wl (fun k => w.heap.size ≤ k) wr lb db g d ∧ Live d g k ∧ Kept (fun k => w.heap.size ≤ k) w wr
set_option maxRecDepth 100000 in
set_option maxHeartbeats 8000000 in
theorem walk (a0 : Int) (sa : Option Addr) (scap : Nat) (os : List OpW) (w : World) (h1 : -9223372036854775808 ≤ a0) (h2 : a0 ≤ 9223372036854775807) (hos : OpsW w.heap.size w sa os) :
    Calls Tryz.prog 3 #[.int .i64 a0, .slice sa os.length scap] w fun e w' => e = .returned (.bool true) ∧ Below w.heap.size w w' := by
  obtain ⟨p0, hp0⟩ : ∃ p, absN a0 % 100 = p := ⟨_, rfl⟩
  have hp0b : p0 < 100 := by omega
  have HP0 := Lib.hid (fun V => wpick_nat a0 100 V h1 h2 (by decide) (by decide) hp0)
  obtain ⟨n0, hn0⟩ : ∃ n0, 16 + p0 = n0 := ⟨_, rfl⟩
  have HN0 : Hid ((16 : Int) + (p0 : Int) = (n0 : Int)) := Lib.hid (by omega)
  have hn0b : 16 ≤ n0 ∧ n0 ≤ 32768 := by omega
  obtain ⟨hfr, hfl, hfn, hfa⟩ := fresh n0 hn0b.1 hn0b.2
  have HQ : Hid (Live (forD (newD n0)) log0.bump 0) := Lib.hid ⟨hfr.good, by decide, by omega⟩
  have HOS := Lib.hid hos
  have hol : os.length ≤ 140737488351232 := hos.len
  have HAW := Lib.hid (awake_any w)
  clear hp0 hn0 hfr hfl hfn hfa hos
  go_enter Tryz.func3, Tryz.ntmps3
  go_wp2_with fail
  refine HAW.out.mono ?_
  rintro e w0 ⟨rfl, hk0⟩
  have HK0 := Lib.hid (hk0.mono (T := fun k => w.heap.size ≤ k) (fun _ _ x => x.elim))
  clear hk0
  go_wp2_with fail
  refine (HP0.out _).mono ?_
  rintro e w1 ⟨rfl, rfl⟩
  go_wp2_with fail
  rw [HN0.out]
  refine (wnew_any _ n0 hn0b.1 hn0b.2).mono ?_
  rintro e w1 ⟨db, sb, mb, nn, rfl, hD, hDB, hk1⟩
  have hsz0 := HK0.out.size
  have hsz1 := hk1.size
  have HFO := Lib.hid (format_go (Z := fun k => w.heap.size ≤ k) hD (fun k hk => by have := hDB k hk; omega) (fun k hk => by omega) rfl rfl (by show 0 < 1000000; decide))
  have HK1 := Lib.hid (HK0.out.trans (hk1.mono (fun _ _ x => x.elim)))
  clear hD hDB hk1 hsz1 hsz0 HK0
  go_wp2_with fail
  refine HFO.out.mono ?_
  rintro e w2 ⟨lb, rfl, hw2, hlb, hk2⟩
  have HW2 := Lib.hid hw2
  have HK2 := Lib.hid (HK1.out.trans hk2)
  clear hw2 hlb hk2 HFO HK1
  go_wp2_with fail
  go_loopw [8, 10] (fun lv iv wr => LpRel w db 120 lv iv wr) (fun _ iv _ => 120 - (Go.RowKit.intOf iv).toNat)
  case atStart => exact ⟨0, _, _, _, Nat.zero_le _, rfl, rfl, HW2.out, HQ.out, HK2.out⟩
  case round =>
    obtain ⟨k, g, d, lb, hk, rfl, rfl, hw, hq, hkp⟩ := hrel.ex
    clear hrel HW2 HK2 HQ
    have HW := Lib.hid hw
    have HQ := Lib.hid hq
    have HK := Lib.hid hkp
    clear hw hq hkp
    by_cases hlt : k < os.length
    · by_cases hl4 : k < 120
      · have hos2 := HOS.out.kept HK.out (fun k hk hn => by omega)
        obtain ⟨gb, off, lv, hv, rfl, hgb, hcells, hLL, hHH⟩ := hos2.at_ k hlt
        have hfit := HOS.out.fits os[k] (List.getElem_mem hlt)
        obtain ⟨o, ho⟩ : ∃ o, os[k] = o := ⟨_, rfl⟩
        rw [ho] at hcells hLL hHH hfit
        obtain ⟨a4, c4, rfl, hl4c⟩ := hLL.ex
        obtain ⟨a5, c5, rfl, hl5c⟩ := hHH.ex
        have q0 : wr.cell? ⟨gb, off + k * 5, none⟩ = some (.int .i64 o.k) := hcells 0 _ rfl
        have q1 : wr.cell? ⟨gb, off + k * 5 + 1, none⟩ = some (.int .i64 o.n) := hcells 1 _ rfl
        have q2 : wr.cell? ⟨gb, off + k * 5 + 2, none⟩ = some (.int .i64 o.f) := hcells 2 _ rfl
        have q3 : wr.cell? ⟨gb, off + k * 5 + 3, none⟩ = some (.slice a4 o.l.length c4) := hcells 3 _ rfl
        have q4 : wr.cell? ⟨gb, off + k * 5 + 4, none⟩ = some (.slice a5 o.how.length c5) := hcells 4 _ rfl
        have HFI := Lib.hid hfit
        have HLL := Lib.hid hLL
        have HHH := Lib.hid hHH
        obtain ⟨p, hp⟩ : ∃ p, absN o.k % 6 = p := ⟨_, rfl⟩
        have hp5 : p < 6 := by omega
        have HP := Lib.hid (fun V => wpick_nat o.k 6 V hfit.k.1 hfit.k.2 (by decide) (by decide) hp)
        obtain ⟨K, hK⟩ : ∃ K : Int, 1 + (p : Int) = K := ⟨_, rfl⟩
        have HKE := Lib.hid hK
        have hKb : 1 ≤ K ∧ K ≤ 6 := by omega
        clear hos2 hcells hLL hHH hfit ho hl4c hl5c hp hK
        go_wp2_with fail
        refine (HP.out _).mono ?_
        rintro e w4 ⟨rfl, rfl⟩
        have hKE := HKE.out
        by_cases hK6 : K = 6
        · subst hK6
          obtain ⟨pn, hpn⟩ : ∃ p, absN o.n % 9 = p := ⟨_, rfl⟩
          have hpnb : pn < 9 := by omega
          have HPN := Lib.hid (fun V => wpick_nat o.n 9 V HFI.out.n.1 HFI.out.n.2 (by decide) (by decide) hpn)
          have hk1 : Kept (fun _ => False) wr (wr.alloc (.cells #[.int .i64 6, .int .i64 o.n, .int .i64 o.f, .slice a4 o.l.length c4, .slice a5 o.how.length c5] 34)) := (Kept.refl _ wr).alloc _
          have HW3 := Lib.hid (HW.out.kept0 hk1)
          have HK3 := Lib.hid (HK.out.trans (hk1.mono (fun _ _ x => x.elim)))
          clear hk1 hpn
          go_wp2_with fail
          refine (HPN.out _).mono ?_
          rintro e w5 ⟨rfl, rfl⟩
          go_wp2_with fail
          refine (warm HW3.out HQ.out.good pn (by omega)).mono ?_
          rintro e w5 ⟨rfl, hw5, hk5⟩
          have HW5 := Lib.hid hw5
          have HK5 := Lib.hid (HK3.out.trans hk5)
          clear hw5 hk5 q0 q1 q2 q3 q4
          go_wp2_with fail
          go_roundw
          case rel => exact ⟨k + 1, _, _, _, by omega, rfl, by go_num, HW5.out, HQ.out.up (HQ.out.good.armed pn) (Nat.le_succ _) (Nat.le_add_right _ _), HK5.out⟩
          case measure => simp [Go.RowKit.intOf]; omega
        · by_cases hK3 : K = 3
          · subst hK3
            have hk1 : Kept (fun _ => False) wr (wr.alloc (.cells #[.int .i64 3, .int .i64 o.n, .int .i64 o.f, .slice a4 o.l.length c4, .slice a5 o.how.length c5] 34)) := (Kept.refl _ wr).alloc _
            have h6 := sizeN_six g.recs
            have h7 := HQ.out.good.half.base.space
            have h8 := HQ.out.good.usp
            have h9 := HQ.out.good.used
            obtain ⟨x, hx⟩ : ∃ x, absN o.n % (g.recs.length + 1) = x := ⟨_, rfl⟩
            have hxb : x < g.recs.length + 1 := by rw [← hx]; exact Nat.mod_lt _ (Nat.succ_pos _)
            have HXB := Lib.hid hxb
            have HPX : Hid (∀ V, Calls Tryz.prog 6 #[.int .i64 o.n, .int .i64 ((g.recs.length : Int) + 1)] V fun e w' => e = .returned (.int .i64 x) ∧ V = w') := Lib.hid (fun V => by
              have := wpick_nat o.n (g.recs.length + 1) V HFI.out.n.1 HFI.out.n.2 (Nat.succ_pos _) (by omega) hx
              rw [show ((g.recs.length + 1 : Nat) : Int) = (g.recs.length : Int) + 1 by omega] at this
              exact this)
            have HLN3 := Lib.hid (len_any (HW.out.kept0 hk1.drew))
            have hbo : (wr.alloc (.cells #[.int .i64 3, .int .i64 o.n, .int .i64 o.f, .slice a4 o.l.length c4, .slice a5 o.how.length c5] 34)).heap[wr.heap.size]? = some (.cells [.int .i64 3, .int .i64 o.n, .int .i64 o.f, .slice a4 o.l.length c4, .slice a5 o.how.length c5].toArray 34 (0, 0)) := heap_alloc_new wr _
            have HBO0 := Lib.hid hbo
            have HWW := HW
            have HKW := Lib.hid HK.out
            have HNB : Hid (-9223372036854775808 ≤ (x : Int) ∧ (x : Int) ≤ 9223372036854775807) := Lib.hid (by omega)
            have HK1 := Lib.hid hk1
            obtain ⟨M, hM⟩ : ∃ M : Int, (g.recs.length : Int) + 1 = M := ⟨_, rfl⟩
            have hwrap : IntKind.i64.wrap M = M := wrap_id M (by omega) (by omega)
            rw [hM] at HPX
            obtain ⟨x0, x1, x2, x3, x4⟩ := five_all hbo
            have x1d : (wr.alloc (.cells #[.int .i64 3, .int .i64 o.n, .int .i64 o.f, .slice a4 o.l.length c4, .slice a5 o.how.length c5] 34)).drew.cell? ⟨wr.heap.size, 1, none⟩ = some (.int .i64 o.n) := x1
            have f1 : (wr.alloc (.cells #[.int .i64 3, .int .i64 o.n, .int .i64 o.f, .slice a4 o.l.length c4, .slice a5 o.how.length c5] 34)).frozen? ⟨wr.heap.size, 1, none⟩ = false := by unfold World.frozen?; rw [hbo]; rfl
            have f1d : (wr.alloc (.cells #[.int .i64 3, .int .i64 o.n, .int .i64 o.f, .slice a4 o.l.length c4, .slice a5 o.how.length c5] 34)).drew.frozen? ⟨wr.heap.size, 1, none⟩ = false := f1
            clear hk1 h6 h7 h8 h9 hx hxb hbo
            go_wp2_with fail
            generalize (wr.alloc (.cells #[.int .i64 3, .int .i64 o.n, .int .i64 o.f, .slice a4 o.l.length c4, .slice a5 o.how.length c5] 34)) = wb at HLN3 HBO0 HK1 x0 x1 x2 x3 x4 x1d f1 f1d ⊢
            obtain ⟨BO, hBO⟩ : ∃ B, wr.heap.size = B := ⟨_, rfl⟩
            rw [hBO] at HBO0 x0 x1 x2 x3 x4 x1d f1 f1d ⊢
            have HBZ : Hid (wr.heap.size ≤ BO) := Lib.hid (by omega)
            clear hBO q0 q1 q2 q3 q4
            go_region_law ((first | (go_simp; go_at_call 8; refine HLN3.out.mono ?_; rintro e w5 ⟨rfl, rfl⟩) | (go_simp; go_at_call 6; refine (HPX.out _).mono ?_; rintro e w5 ⟨rfl, rfl⟩)))
            all_goals (
              have hbo9 : (wb.setCell ⟨BO, 1, none⟩ (.int .i64 (x : Int))).heap[BO]? = some (.cells #[.int .i64 3, .int .i64 (x : Int), .int .i64 o.f, .slice a4 o.l.length c4, .slice a5 o.how.length c5] 34 (0, 0)) := heap_set (i := 1) (.int .i64 (x : Int)) HBO0.out
              have hk9 : Kept (fun _ => False) wr ((wb.setCell ⟨BO, 1, none⟩ (.int .i64 (x : Int))).drew) := (HK1.out.setCell (a := ⟨BO, 1, none⟩) (.inr HBZ.out) _).drew
              have HWB := Lib.hid (HWW.out.kept0 hk9)
              have HKB := Lib.hid hk9
              have HBO : Hid (((wb.setCell ⟨BO, 1, none⟩ (.int .i64 (x : Int))).drew).heap[BO]? = some (.cells #[.int .i64 3, .int .i64 (x : Int), .int .i64 o.f, .slice a4 o.l.length c4, .slice a5 o.how.length c5] 34 (0, 0))) := Lib.hid hbo9
              have HL1 := Lib.hid (HLL.out.kept hk9 (fun _ _ x => x))
              have HH1 := Lib.hid (HHH.out.kept hk9 (fun _ _ x => x))
              clear hbo9 hk9 x0 x1 x2 x3 x4 x1d f1 f1d HPX HLN3 hwrap hM HBO0 HK1
              generalize (wb.setCell ⟨BO, 1, none⟩ (.int .i64 (x : Int))).drew = wc at HWB HKB HBO HL1 HH1 ⊢
              obtain ⟨y0, y1, y2, y3, y4⟩ := five_all HBO.out
              go_wp2_with fail
              clear y0 y1 y2 y3 y4
              have hg := HQ.out.good
              have HG := Lib.hid hg
              have HFN := Lib.hid (HQ.out.fine (by omega))
              refine (told_false HWB.out hg).mono ?_
              rintro e w2 ⟨a2, c2, rfl, ht2, hk2, _⟩
              have hk3 : Kept (fun _ => False) wc (w2.alloc (.cells #[.slice a2 (toldL g false).length c2, .int .i64 g.m.a, .int .i64 g.m.b] 39)) := hk2.alloc _
              have hbo3 := (hk3.block BO (lt_of_block HBO.out) id).trans HBO.out
              have hb3 : (w2.alloc (.cells #[.slice a2 (toldL g false).length c2, .int .i64 g.m.a, .int .i64 g.m.b] 39)).heap[w2.heap.size]? = some (.cells #[.slice a2 (toldL g false).length c2, .int .i64 g.m.a, .int .i64 g.m.b] 39 (0, 0)) := heap_alloc_new w2 _
              have HT3 := Lib.hid (ht2.kept ((Kept.refl (fun _ => False) w2).alloc (.cells #[.slice a2 (toldL g false).length c2, .int .i64 g.m.a, .int .i64 g.m.b] 39)) (fun _ _ x => x))
              have HP3 := Lib.hid hb3
              have HO3 := Lib.hid hbo3
              have HW3 := Lib.hid (HWB.out.kept0 hk3)
              have HK3 := Lib.hid (HKB.out.trans hk3)
              have HL3 := Lib.hid (HL1.out.kept hk3 (fun _ _ x => x))
              have HH3 := Lib.hid (HH1.out.kept hk3 (fun _ _ x => x))
              have HZ3 : Hid (wc.heap.size ≤ w2.heap.size) := Lib.hid hk2.size
              obtain ⟨x0, x1, x2, x3, x4⟩ := five_all hbo3
              clear ht2 hk2 hk3 hbo3 hb3 hg
              go_wp2_with fail
              generalize w2.alloc (.cells #[.slice a2 (toldL g false).length c2, .int .i64 g.m.a, .int .i64 g.m.b] 39) = w3 at HT3 HP3 HO3 HW3 HK3 HL3 HH3 x0 x1 x2 x3 x4 ⊢
              generalize w2.heap.size = B12 at HP3 HZ3 ⊢
              clear x0 x1 x2 x3 x4
              have HOK3 : Hid (∀ j, j < w.heap.size → j < w3.heap.size) := Lib.hid (fun j hj => by have := HKW.out.size; have := HK3.out.size; omega)
              have HBH := Lib.hid (lbehind_any HW3.out HG.out 3 (x : Int) o.f (by omega) HNB.out.1 HNB.out.2 HFI.out.f.1 HFI.out.f.2 HL3.out HOK3.out HFI.out.l a5 o.how.length c5)
              have HLA := Lib.hid (do_last HFN.out 3 (x : Int) o.f (by omega) HNB.out.2 HFI.out.f.2 o.l)
              have HBL := Lib.hid (beh_len HG.out 3 (x : Int) o.f o.l)
              obtain ⟨b, hb⟩ : ∃ b, behG 3 (x : Int) o.f o.l g = b := ⟨_, rfl⟩
              rw [hb] at HBH HLA HBL
              obtain ⟨bl, ba, bb, bt⟩ := b
              clear hb
              refine HBH.out.mono ?_
              rintro e w4 ⟨a7, c7, rfl, ht4, hk4⟩
              have hk5 : Kept (fun _ => False) w3 (w4.alloc (.cells #[.slice a7 bl.length c7, .int .i64 ba, .int .i64 bb] 39)) := hk4.alloc _
              have hbo5 := (hk5.block BO (lt_of_block HO3.out) id).trans HO3.out
              have hb5 : (w4.alloc (.cells #[.slice a7 bl.length c7, .int .i64 ba, .int .i64 bb] 39)).heap[w4.heap.size]? = some (.cells #[.slice a7 bl.length c7, .int .i64 ba, .int .i64 bb] 39 (0, 0)) := heap_alloc_new w4 _
              have HTT5 := Lib.hid ((ht4.kept ((Kept.refl (fun _ => False) w4).alloc (.cells #[.slice a7 bl.length c7, .int .i64 ba, .int .i64 bb] 39)) (fun _ _ x => x)).lt)
              have HT5 := Lib.hid ((HT3.out.kept hk5 (fun _ _ x => x)).lt)
              have HP5 := Lib.hid ((hk5.block B12 (lt_of_block HP3.out) id).trans HP3.out)
              have HR5 := Lib.hid hb5
              have HO5 := Lib.hid hbo5
              have hkk5 := HK3.out.trans hk5
              have HW5 := Lib.hid (HW.out.aside hkk5)
              have HK5 := Lib.hid hkk5
              have HL5 := Lib.hid (HL3.out.kept hk5 (fun _ _ x => x))
              have HH5 := Lib.hid (HH3.out.kept hk5 (fun _ _ x => x))
              have HZ5 : Hid (w3.heap.size ≤ w4.heap.size) := Lib.hid hk4.size
              obtain ⟨x0, x1, x2, x3, x4⟩ := five_all hbo5
              clear ht4 hk4 hk5 hbo5 hb5 hkk5
              go_wp2_with fail
              generalize w4.alloc (.cells #[.slice a7 bl.length c7, .int .i64 ba, .int .i64 bb] 39) = w5 at HT5 HTT5 HP5 HR5 HO5 HW5 HK5 HL5 HH5 x0 x1 x2 x3 x4 ⊢
              generalize w4.heap.size = B13 at HR5 HZ5 ⊢
              clear x0 x1 x2 x3 x4
              have HSW : Hid (w.heap.size ≤ wr.heap.size ∧ wr.heap.size ≤ BO ∧ BO < w5.heap.size ∧ wc.heap.size ≤ B12 ∧ B12 < w5.heap.size ∧ w3.heap.size ≤ B13 ∧ B13 < w5.heap.size ∧ wr.heap.size ≤ wc.heap.size ∧ wc.heap.size ≤ w3.heap.size) := Lib.hid ⟨HKW.out.size, HBZ.out, lt_of_block HO5.out, HZ3.out, lt_of_block HP5.out, HZ5.out, lt_of_block HR5.out, HKB.out.size, by have := HZ3.out; have := lt_of_block HP3.out; omega⟩
              have HOK5 : Hid (∀ j, j < w.heap.size → j < w5.heap.size ∧ ¬ (w.heap.size ≤ j ∧ (j < wr.heap.size ∨ w5.heap.size ≤ j))) := Lib.hid (fun j hj => by have := HSW.out; omega)
              have HDO := Lib.hid (does_any HW5.out HFN.out 3 (x : Int) o.f (by omega) (by omega) HNB.out.1 HNB.out.2 HFI.out.f.1 HFI.out.f.2 HL5.out HOK5.out HFI.out.l a5 o.how.length c5)
              obtain ⟨r, hr⟩ : ∃ r, doG 3 (x : Int) o.f o.l g d = r := ⟨_, rfl⟩
              rw [hr] at HDO HLA
              obtain ⟨v, L, d'⟩ := r
              clear hr
              refine HDO.out.mono ?_
              rintro e w6 ⟨rfl, hq6, hk6⟩
              have HO6 := Lib.hid ((hk6.block BO (lt_of_block HO5.out) (fun h => by have := HSW.out; omega)).trans HO5.out)
              have HP6 := Lib.hid ((hk6.block B12 (lt_of_block HP5.out) (fun h => by have := HSW.out; omega)).trans HP5.out)
              have HR6 := Lib.hid ((hk6.block B13 (lt_of_block HR5.out) (fun h => by have := HSW.out; omega)).trans HR5.out)
              have HT6 := Lib.hid (HT5.out.kept hk6 (fun k h1 h2 => by have := HSW.out; omega))
              have HTT6 := Lib.hid (HTT5.out.kept hk6 (fun k h1 h2 => by have := HSW.out; omega))
              have HH6 := Lib.hid (HH5.out.kept hk6 (fun k h1 h2 => by have := HSW.out; omega))
              have HQ6 := Lib.hid hq6
              have HK6 := Lib.hid ((HKW.out.trans (HK5.out.mono (fun _ _ x => x.elim))).trans (hk6.mono (T := fun k => w.heap.size ≤ k) (fun k _ h => h.1)))
              have HS6 := Lib.hid hk6.size
              clear hq6 hk6 HT5 HTT5 HP5 HR5 HO5 HW5 HK5 HL5 HH5 HT3 HP3 HO3 HW3 HK3 HL3 HH3 HDO HBH HWB HKB HBO HL1 HH1
              obtain ⟨x0, x1, x2, x3, x4⟩ := five_all HO6.out
              obtain ⟨y0, y1, y2, _⟩ := three_of HP6.out
              obtain ⟨z0, z1, z2, _⟩ := three_of HR6.out
              by_cases hv : v = 2
              · subst hv
                obtain ⟨m, recs, hH, hmc, hor⟩ := HLA.out.die rfl o.how
                have HHF := Lib.hid hH
                have HMC : Hid ((LSt.mk m recs m.le false).m.c ≤ g.m.c + 1) := Lib.hid hmc
                have HOR : Hid (sameB ⟨m, recs, m.le, false⟩ (toldL g false) (g.m.a : Int) (g.m.b : Int) = true ∨ (bt = true ∧ sameB ⟨m, recs, m.le, false⟩ bl ba bb = true)) := Lib.hid (by
                  rcases hor with ⟨e1, e2, e3⟩ | ⟨e0, e1, e2, e3⟩
                  · exact .inl (same_half hH e1 (by omega) (by omega))
                  · exact .inr ⟨e0, same_half hH e1 e2 e3⟩)
                have HG8 := Lib.hid (hH.good rfl)
                clear hH hmc hor
                go_wp2_with fail
                refine (wcrash HQ6.out.gone HH6.out (fun k h1 h2 => by have := HSW.out; omega)).mono ?_
                rintro e w7 ⟨rfl, hd7, hk7⟩
                have HD7 := Lib.hid hd7
                have HO7 := Lib.hid ((hk7.block BO (lt_of_block HO6.out) (fun h => by have := HSW.out; omega)).trans HO6.out)
                have HP7 := Lib.hid ((hk7.block B12 (lt_of_block HP6.out) (fun h => by have := HSW.out; omega)).trans HP6.out)
                have HR7 := Lib.hid ((hk7.block B13 (lt_of_block HR6.out) (fun h => by have := HSW.out; omega)).trans HR6.out)
                have HT7 := Lib.hid (HT6.out.kept hk7 (fun k h1 h2 => by have := HSW.out; omega))
                have HTT7 := Lib.hid (HTT6.out.kept hk7 (fun k h1 h2 => by have := HSW.out; omega))
                have HK7 := Lib.hid (HK6.out.trans (hk7.mono (T := fun k => w.heap.size ≤ k) (fun k _ h => h.1)))
                have HS7 := Lib.hid (Nat.le_trans HS6.out hk7.size)
                clear HO6 HP6 HR6 HT6 HTT6 HK6 HS6 x0 x1 x2 x3 x4 y0 y1 y2 z0 z1 z2
                obtain ⟨x0, x1, x2, x3, x4⟩ := five_all HO7.out
                obtain ⟨y0, y1, y2, _⟩ := three_of HP7.out
                obtain ⟨z0, z1, z2, _⟩ := three_of HR7.out
                clear hd7 hk7
                go_wp2_with fail
                refine (wreopen HD7.out HHF.out rfl).mono ?_
                rintro e w8 ⟨lb8, rfl, hw8, hk8⟩
                have HW8 := Lib.hid hw8
                have HO8 := Lib.hid ((hk8.block BO (lt_of_block HO7.out) (fun h => by have := HSW.out; omega)).trans HO7.out)
                have HP8 := Lib.hid ((hk8.block B12 (lt_of_block HP7.out) (fun h => by have := HSW.out; omega)).trans HP7.out)
                have HR8 := Lib.hid ((hk8.block B13 (lt_of_block HR7.out) (fun h => by have := HSW.out; omega)).trans HR7.out)
                have HT8 := Lib.hid (HT7.out.kept hk8 (fun k h1 h2 => by have := HSW.out; omega))
                have HTT8 := Lib.hid (HTT7.out.kept hk8 (fun k h1 h2 => by have := HSW.out; omega))
                have HK8 := Lib.hid (HK7.out.trans (hk8.mono (T := fun k => w.heap.size ≤ k) (fun k _ h => h.1)))
                have HS8 := Lib.hid (Nat.le_trans HS7.out hk8.size)
                clear HO7 HP7 HR7 HT7 HTT7 HK7 HS7 x0 x1 x2 x3 x4 y0 y1 y2 z0 z1 z2
                obtain ⟨x0, x1, x2, x3, x4⟩ := five_all HO8.out
                obtain ⟨y0, y1, y2, _⟩ := three_of HP8.out
                obtain ⟨z0, z1, z2, _⟩ := three_of HR8.out
                clear hw8 hk8
                have HLN : Hid ((toldL g false).length ≤ 1048512) := Lib.hid (by
                  have h1 := HG.out.half.base.space
                  have h2 := HG.out.usp
                  have h3 := HG.out.used
                  have h4 := sizeN_len g.recs
                  show (g.recs.take g.m.nu).length ≤ _
                  rw [List.length_take]; omega)
                go_wp2_with fail
                refine (same_any HW8.out HG8.out HT8.out (fun k h => by have h9 : k < w5.heap.size := h.2; have := HS8.out; omega) (by have := HLN.out; omega) _ _).mono ?_
                unfold SamePost
                obtain ⟨s1, hs1⟩ : ∃ s, sameB ⟨m, recs, m.le, false⟩ (toldL g false) (g.m.a : Int) (g.m.b : Int) = s := ⟨_, rfl⟩
                have HOR1 := HOR.out
                rw [hs1] at HOR1
                rw [hs1]
                have HORH := Lib.hid HOR1
                clear HOR1 hs1 HOR
                rintro e w9 ⟨rfl, hk9⟩
                have HW9 := Lib.hid (HW8.out.kept0 hk9)
                have HO9 := Lib.hid ((hk9.block BO (lt_of_block HO8.out) id).trans HO8.out)
                have HP9 := Lib.hid ((hk9.block B12 (lt_of_block HP8.out) id).trans HP8.out)
                have HR9 := Lib.hid ((hk9.block B13 (lt_of_block HR8.out) id).trans HR8.out)
                have HT9 := Lib.hid (HT8.out.kept hk9 (fun _ _ x => x))
                have HTT9 := Lib.hid (HTT8.out.kept hk9 (fun _ _ x => x))
                have HK9 := Lib.hid (HK8.out.trans (hk9.mono (T := fun k => w.heap.size ≤ k) (fun k _ h => h.elim)))
                have HS9 := Lib.hid (Nat.le_trans HS8.out hk9.size)
                clear HO8 HP8 HR8 HT8 HTT8 HK8 HS8 x0 x1 x2 x3 x4 y0 y1 y2 z0 z1 z2
                obtain ⟨x0, x1, x2, x3, x4⟩ := five_all HO9.out
                obtain ⟨y0, y1, y2, _⟩ := three_of HP9.out
                obtain ⟨z0, z1, z2, _⟩ := three_of HR9.out
                clear hk9
                cases bt
                · cases s1
                  · exact absurd HORH.out (by simp)
                  · go_wp2_with fail
                    go_roundw
                    case rel => exact ⟨k + 1, _, _, _, by omega, rfl, by go_num, HW9.out.mono (fun k h => h.1), HQ.out.up HG8.out HMC.out HLA.out.acts, HK9.out⟩
                    case measure => simp [Go.RowKit.intOf]; omega
                · go_wp2_with fail
                  refine (same_any HW9.out HG8.out HTT9.out (fun k h => by have h9 : k < w5.heap.size := h.2; have := HS9.out; omega) (by have h9 : bl.length ≤ 1048512 := HBL.out; omega) _ _).mono ?_
                  unfold SamePost
                  obtain ⟨s2, hs2⟩ : ∃ s, sameB ⟨m, recs, m.le, false⟩ bl ba bb = s := ⟨_, rfl⟩
                  have HOR1 := HORH.out
                  rw [hs2] at HOR1
                  rw [hs2]
                  have HORI := Lib.hid HOR1
                  clear HOR1 hs2 HORH
                  rintro e w10 ⟨rfl, hk10⟩
                  have HW10 := Lib.hid (HW9.out.kept0 hk10)
                  have HK10 := Lib.hid (HK9.out.trans (hk10.mono (T := fun k => w.heap.size ≤ k) (fun k _ h => h.elim)))
                  clear hk10
                  cases s1
                  · cases s2
                    · exact absurd HORI.out (by simp)
                    · go_wp2_with fail
                      go_roundw
                      case rel => exact ⟨k + 1, _, _, _, by omega, rfl, by go_num, HW10.out.mono (fun k h => h.1), HQ.out.up HG8.out HMC.out HLA.out.acts, HK10.out⟩
                      case measure => simp [Go.RowKit.intOf]; omega
                  · cases s2
                    · go_wp2_with fail
                      go_roundw
                      case rel => exact ⟨k + 1, _, _, _, by omega, rfl, by go_num, HW10.out.mono (fun k h => h.1), HQ.out.up HG8.out HMC.out HLA.out.acts, HK10.out⟩
                      case measure => simp [Go.RowKit.intOf]; omega
                    · go_wp2_with fail
                      go_roundw
                      case rel => exact ⟨k + 1, _, _, _, by omega, rfl, by go_num, HW10.out.mono (fun k h => h.1), HQ.out.up HG8.out HMC.out HLA.out.acts, HK10.out⟩
                      case measure => simp [Go.RowKit.intOf]; omega
              · have hv2 : (v != 2) = true := by simp; omega
                have HGL := Lib.hid (HLA.out.ok hv)
                have HWL := Lib.hid (HQ6.out.log hv)
                by_cases hv0 : v = 0
                · subst hv0
                  cases bt
                  · go_wp2_with fail
                    go_roundw
                    case rel => exact ⟨k + 1, _, _, _, by omega, rfl, by go_num, HWL.out.mono (fun k h => h.1), HQ.out.up HGL.out.1 HGL.out.2 HLA.out.acts, HK6.out⟩
                    case measure => simp [Go.RowKit.intOf]; omega
                  · go_wp2_with fail
                    refine (same_any HWL.out HGL.out.1 HTT6.out (fun k h => by have h9 : k < w5.heap.size := h.2; have := HS6.out; omega) (by have h9 : bl.length ≤ 1048512 := HBL.out; omega) _ _).mono ?_
                    unfold SamePost
                    obtain ⟨s, hs⟩ : ∃ s, sameB L bl ba bb = s := ⟨_, rfl⟩
                    rw [hs]
                    rintro e w7 ⟨rfl, hk7⟩
                    have HWL7 := Lib.hid (HWL.out.kept0 hk7)
                    have HO7 := Lib.hid ((hk7.block BO (lt_of_block HO6.out) id).trans HO6.out)
                    have HP7 := Lib.hid ((hk7.block B12 (lt_of_block HP6.out) id).trans HP6.out)
                    have HR7 := Lib.hid ((hk7.block B13 (lt_of_block HR6.out) id).trans HR6.out)
                    have HT7 := Lib.hid (HT6.out.kept hk7 (fun _ _ x => x))
                    have HTT7 := Lib.hid (HTT6.out.kept hk7 (fun _ _ x => x))
                    have HK7 := Lib.hid (HK6.out.trans (hk7.mono (T := fun k => w.heap.size ≤ k) (fun k _ h => h.elim)))
                    have HS7 := Lib.hid (Nat.le_trans HS6.out hk7.size)
                    clear HO6 HP6 HR6 HT6 HTT6 HK6 HS6 x0 x1 x2 x3 x4 y0 y1 y2 z0 z1 z2
                    obtain ⟨x0, x1, x2, x3, x4⟩ := five_all HO7.out
                    obtain ⟨y0, y1, y2, _⟩ := three_of HP7.out
                    obtain ⟨z0, z1, z2, _⟩ := three_of HR7.out
                    cases s
                    · exact absurd (HLA.out.same rfl rfl (by decide)) (by show ¬ sameB L bl ba bb = true; rw [hs]; decide)
                    · clear hs
                      go_wp2_with fail
                      go_roundw
                      case rel => exact ⟨k + 1, _, _, _, by omega, rfl, by go_num, HWL7.out.mono (fun k h => h.1), HQ.out.up HGL.out.1 HGL.out.2 HLA.out.acts, HK7.out⟩
                      case measure => simp [Go.RowKit.intOf]; omega
                · have hv0f : (v == 0) = false := by simp; omega
                  go_wp2_with fail
                  go_roundw
                  case rel => exact ⟨k + 1, _, _, _, by omega, rfl, by go_num, HWL.out.mono (fun k h => h.1), HQ.out.up HGL.out.1 HGL.out.2 HLA.out.acts, HK6.out⟩
                  case measure => simp [Go.RowKit.intOf]; omega)
          · have hk3f : (K == 3) = false := by simp; omega
            have hk6f : (K == 6) = false := by simp; omega
            have hk1 : Kept (fun _ => False) wr (wr.alloc (.cells #[.int .i64 K, .int .i64 o.n, .int .i64 o.f, .slice a4 o.l.length c4, .slice a5 o.how.length c5] 34)) := (Kept.refl _ wr).alloc _
            have HWB := Lib.hid (HW.out.kept0 hk1)
            have HKB := Lib.hid hk1
            have HKW := Lib.hid HK.out
            have HBO : Hid ((wr.alloc (.cells #[.int .i64 K, .int .i64 o.n, .int .i64 o.f, .slice a4 o.l.length c4, .slice a5 o.how.length c5] 34)).heap[wr.heap.size]? = some (.cells #[.int .i64 K, .int .i64 o.n, .int .i64 o.f, .slice a4 o.l.length c4, .slice a5 o.how.length c5] 34 (0, 0))) := Lib.hid (heap_alloc_new wr _)
            have HL1 := Lib.hid (HLL.out.kept hk1 (fun _ _ x => x))
            have HH1 := Lib.hid (HHH.out.kept hk1 (fun _ _ x => x))
            have HNB := Lib.hid HFI.out.n
            clear hk1
            go_wp2_with fail
            clear q0 q1 q2 q3 q4 hk3f hk6f
            generalize (wr.alloc (.cells #[.int .i64 K, .int .i64 o.n, .int .i64 o.f, .slice a4 o.l.length c4, .slice a5 o.how.length c5] 34)) = wb at HWB HKB HBO HL1 HH1 HKW ⊢
            obtain ⟨BO, hBO⟩ : ∃ B, wr.heap.size = B := ⟨_, rfl⟩
            rw [hBO] at HBO ⊢
            have HBZ : Hid (wr.heap.size ≤ BO) := Lib.hid (by omega)
            clear hBO
            have hg := HQ.out.good
            have HG := Lib.hid hg
            have HFN := Lib.hid (HQ.out.fine (by omega))
            refine (told_false HWB.out hg).mono ?_
            rintro e w2 ⟨a2, c2, rfl, ht2, hk2, _⟩
            have hk3 : Kept (fun _ => False) wb (w2.alloc (.cells #[.slice a2 (toldL g false).length c2, .int .i64 g.m.a, .int .i64 g.m.b] 39)) := hk2.alloc _
            have hbo3 := (hk3.block BO (lt_of_block HBO.out) id).trans HBO.out
            have hb3 : (w2.alloc (.cells #[.slice a2 (toldL g false).length c2, .int .i64 g.m.a, .int .i64 g.m.b] 39)).heap[w2.heap.size]? = some (.cells #[.slice a2 (toldL g false).length c2, .int .i64 g.m.a, .int .i64 g.m.b] 39 (0, 0)) := heap_alloc_new w2 _
            have HT3 := Lib.hid (ht2.kept ((Kept.refl (fun _ => False) w2).alloc (.cells #[.slice a2 (toldL g false).length c2, .int .i64 g.m.a, .int .i64 g.m.b] 39)) (fun _ _ x => x))
            have HP3 := Lib.hid hb3
            have HO3 := Lib.hid hbo3
            have HW3 := Lib.hid (HWB.out.kept0 hk3)
            have HK3 := Lib.hid (HKB.out.trans hk3)
            have HL3 := Lib.hid (HL1.out.kept hk3 (fun _ _ x => x))
            have HH3 := Lib.hid (HH1.out.kept hk3 (fun _ _ x => x))
            have HZ3 : Hid (wb.heap.size ≤ w2.heap.size) := Lib.hid hk2.size
            obtain ⟨x0, x1, x2, x3, x4⟩ := five_all hbo3
            clear ht2 hk2 hk3 hbo3 hb3 hg
            go_wp2_with fail
            generalize w2.alloc (.cells #[.slice a2 (toldL g false).length c2, .int .i64 g.m.a, .int .i64 g.m.b] 39) = w3 at HT3 HP3 HO3 HW3 HK3 HL3 HH3 x0 x1 x2 x3 x4 ⊢
            generalize w2.heap.size = B12 at HP3 HZ3 ⊢
            clear x0 x1 x2 x3 x4
            have HOK3 : Hid (∀ j, j < w.heap.size → j < w3.heap.size) := Lib.hid (fun j hj => by have := HKW.out.size; have := HK3.out.size; omega)
            have HBH := Lib.hid (lbehind_any HW3.out HG.out K o.n o.f (by omega) HNB.out.1 HNB.out.2 HFI.out.f.1 HFI.out.f.2 HL3.out HOK3.out HFI.out.l a5 o.how.length c5)
            have HLA := Lib.hid (do_last HFN.out K o.n o.f (by omega) HNB.out.2 HFI.out.f.2 o.l)
            have HBL := Lib.hid (beh_len HG.out K o.n o.f o.l)
            obtain ⟨b, hb⟩ : ∃ b, behG K o.n o.f o.l g = b := ⟨_, rfl⟩
            rw [hb] at HBH HLA HBL
            obtain ⟨bl, ba, bb, bt⟩ := b
            clear hb
            refine HBH.out.mono ?_
            rintro e w4 ⟨a7, c7, rfl, ht4, hk4⟩
            have hk5 : Kept (fun _ => False) w3 (w4.alloc (.cells #[.slice a7 bl.length c7, .int .i64 ba, .int .i64 bb] 39)) := hk4.alloc _
            have hbo5 := (hk5.block BO (lt_of_block HO3.out) id).trans HO3.out
            have hb5 : (w4.alloc (.cells #[.slice a7 bl.length c7, .int .i64 ba, .int .i64 bb] 39)).heap[w4.heap.size]? = some (.cells #[.slice a7 bl.length c7, .int .i64 ba, .int .i64 bb] 39 (0, 0)) := heap_alloc_new w4 _
            have HTT5 := Lib.hid ((ht4.kept ((Kept.refl (fun _ => False) w4).alloc (.cells #[.slice a7 bl.length c7, .int .i64 ba, .int .i64 bb] 39)) (fun _ _ x => x)).lt)
            have HT5 := Lib.hid ((HT3.out.kept hk5 (fun _ _ x => x)).lt)
            have HP5 := Lib.hid ((hk5.block B12 (lt_of_block HP3.out) id).trans HP3.out)
            have HR5 := Lib.hid hb5
            have HO5 := Lib.hid hbo5
            have hkk5 := HK3.out.trans hk5
            have HW5 := Lib.hid (HW.out.aside hkk5)
            have HK5 := Lib.hid hkk5
            have HL5 := Lib.hid (HL3.out.kept hk5 (fun _ _ x => x))
            have HH5 := Lib.hid (HH3.out.kept hk5 (fun _ _ x => x))
            have HZ5 : Hid (w3.heap.size ≤ w4.heap.size) := Lib.hid hk4.size
            obtain ⟨x0, x1, x2, x3, x4⟩ := five_all hbo5
            clear ht4 hk4 hk5 hbo5 hb5 hkk5
            go_wp2_with fail
            generalize w4.alloc (.cells #[.slice a7 bl.length c7, .int .i64 ba, .int .i64 bb] 39) = w5 at HT5 HTT5 HP5 HR5 HO5 HW5 HK5 HL5 HH5 x0 x1 x2 x3 x4 ⊢
            generalize w4.heap.size = B13 at HR5 HZ5 ⊢
            clear x0 x1 x2 x3 x4
            have HSW : Hid (w.heap.size ≤ wr.heap.size ∧ wr.heap.size ≤ BO ∧ BO < w5.heap.size ∧ wb.heap.size ≤ B12 ∧ B12 < w5.heap.size ∧ w3.heap.size ≤ B13 ∧ B13 < w5.heap.size ∧ wr.heap.size ≤ wb.heap.size ∧ wb.heap.size ≤ w3.heap.size) := Lib.hid ⟨HKW.out.size, HBZ.out, lt_of_block HO5.out, HZ3.out, lt_of_block HP5.out, HZ5.out, lt_of_block HR5.out, HKB.out.size, by have := HZ3.out; have := lt_of_block HP3.out; omega⟩
            have HOK5 : Hid (∀ j, j < w.heap.size → j < w5.heap.size ∧ ¬ (w.heap.size ≤ j ∧ (j < wr.heap.size ∨ w5.heap.size ≤ j))) := Lib.hid (fun j hj => by have := HSW.out; omega)
            have HDO := Lib.hid (does_any HW5.out HFN.out K o.n o.f (by omega) (by omega) HNB.out.1 HNB.out.2 HFI.out.f.1 HFI.out.f.2 HL5.out HOK5.out HFI.out.l a5 o.how.length c5)
            obtain ⟨r, hr⟩ : ∃ r, doG K o.n o.f o.l g d = r := ⟨_, rfl⟩
            rw [hr] at HDO HLA
            obtain ⟨v, L, d'⟩ := r
            clear hr
            refine HDO.out.mono ?_
            rintro e w6 ⟨rfl, hq6, hk6⟩
            have HO6 := Lib.hid ((hk6.block BO (lt_of_block HO5.out) (fun h => by have := HSW.out; omega)).trans HO5.out)
            have HP6 := Lib.hid ((hk6.block B12 (lt_of_block HP5.out) (fun h => by have := HSW.out; omega)).trans HP5.out)
            have HR6 := Lib.hid ((hk6.block B13 (lt_of_block HR5.out) (fun h => by have := HSW.out; omega)).trans HR5.out)
            have HT6 := Lib.hid (HT5.out.kept hk6 (fun k h1 h2 => by have := HSW.out; omega))
            have HTT6 := Lib.hid (HTT5.out.kept hk6 (fun k h1 h2 => by have := HSW.out; omega))
            have HH6 := Lib.hid (HH5.out.kept hk6 (fun k h1 h2 => by have := HSW.out; omega))
            have HQ6 := Lib.hid hq6
            have HK6 := Lib.hid ((HKW.out.trans (HK5.out.mono (fun _ _ x => x.elim))).trans (hk6.mono (T := fun k => w.heap.size ≤ k) (fun k _ h => h.1)))
            have HS6 := Lib.hid hk6.size
            clear hq6 hk6 HT5 HTT5 HP5 HR5 HO5 HW5 HK5 HL5 HH5 HT3 HP3 HO3 HW3 HK3 HL3 HH3 HDO HBH HWB HKB HBO HL1 HH1
            obtain ⟨x0, x1, x2, x3, x4⟩ := five_all HO6.out
            obtain ⟨y0, y1, y2, _⟩ := three_of HP6.out
            obtain ⟨z0, z1, z2, _⟩ := three_of HR6.out
            by_cases hv : v = 2
            · subst hv
              obtain ⟨m, recs, hH, hmc, hor⟩ := HLA.out.die rfl o.how
              have HHF := Lib.hid hH
              have HMC : Hid ((LSt.mk m recs m.le false).m.c ≤ g.m.c + 1) := Lib.hid hmc
              have HOR : Hid (sameB ⟨m, recs, m.le, false⟩ (toldL g false) (g.m.a : Int) (g.m.b : Int) = true ∨ (bt = true ∧ sameB ⟨m, recs, m.le, false⟩ bl ba bb = true)) := Lib.hid (by
                rcases hor with ⟨e1, e2, e3⟩ | ⟨e0, e1, e2, e3⟩
                · exact .inl (same_half hH e1 (by omega) (by omega))
                · exact .inr ⟨e0, same_half hH e1 e2 e3⟩)
              have HG8 := Lib.hid (hH.good rfl)
              clear hH hmc hor
              go_wp2_with fail
              refine (wcrash HQ6.out.gone HH6.out (fun k h1 h2 => by have := HSW.out; omega)).mono ?_
              rintro e w7 ⟨rfl, hd7, hk7⟩
              have HD7 := Lib.hid hd7
              have HO7 := Lib.hid ((hk7.block BO (lt_of_block HO6.out) (fun h => by have := HSW.out; omega)).trans HO6.out)
              have HP7 := Lib.hid ((hk7.block B12 (lt_of_block HP6.out) (fun h => by have := HSW.out; omega)).trans HP6.out)
              have HR7 := Lib.hid ((hk7.block B13 (lt_of_block HR6.out) (fun h => by have := HSW.out; omega)).trans HR6.out)
              have HT7 := Lib.hid (HT6.out.kept hk7 (fun k h1 h2 => by have := HSW.out; omega))
              have HTT7 := Lib.hid (HTT6.out.kept hk7 (fun k h1 h2 => by have := HSW.out; omega))
              have HK7 := Lib.hid (HK6.out.trans (hk7.mono (T := fun k => w.heap.size ≤ k) (fun k _ h => h.1)))
              have HS7 := Lib.hid (Nat.le_trans HS6.out hk7.size)
              clear HO6 HP6 HR6 HT6 HTT6 HK6 HS6 x0 x1 x2 x3 x4 y0 y1 y2 z0 z1 z2
              obtain ⟨x0, x1, x2, x3, x4⟩ := five_all HO7.out
              obtain ⟨y0, y1, y2, _⟩ := three_of HP7.out
              obtain ⟨z0, z1, z2, _⟩ := three_of HR7.out
              clear hd7 hk7
              go_wp2_with fail
              refine (wreopen HD7.out HHF.out rfl).mono ?_
              rintro e w8 ⟨lb8, rfl, hw8, hk8⟩
              have HW8 := Lib.hid hw8
              have HO8 := Lib.hid ((hk8.block BO (lt_of_block HO7.out) (fun h => by have := HSW.out; omega)).trans HO7.out)
              have HP8 := Lib.hid ((hk8.block B12 (lt_of_block HP7.out) (fun h => by have := HSW.out; omega)).trans HP7.out)
              have HR8 := Lib.hid ((hk8.block B13 (lt_of_block HR7.out) (fun h => by have := HSW.out; omega)).trans HR7.out)
              have HT8 := Lib.hid (HT7.out.kept hk8 (fun k h1 h2 => by have := HSW.out; omega))
              have HTT8 := Lib.hid (HTT7.out.kept hk8 (fun k h1 h2 => by have := HSW.out; omega))
              have HK8 := Lib.hid (HK7.out.trans (hk8.mono (T := fun k => w.heap.size ≤ k) (fun k _ h => h.1)))
              have HS8 := Lib.hid (Nat.le_trans HS7.out hk8.size)
              clear HO7 HP7 HR7 HT7 HTT7 HK7 HS7 x0 x1 x2 x3 x4 y0 y1 y2 z0 z1 z2
              obtain ⟨x0, x1, x2, x3, x4⟩ := five_all HO8.out
              obtain ⟨y0, y1, y2, _⟩ := three_of HP8.out
              obtain ⟨z0, z1, z2, _⟩ := three_of HR8.out
              clear hw8 hk8
              have HLN : Hid ((toldL g false).length ≤ 1048512) := Lib.hid (by
                have h1 := HG.out.half.base.space
                have h2 := HG.out.usp
                have h3 := HG.out.used
                have h4 := sizeN_len g.recs
                show (g.recs.take g.m.nu).length ≤ _
                rw [List.length_take]; omega)
              go_wp2_with fail
              refine (same_any HW8.out HG8.out HT8.out (fun k h => by have h9 : k < w5.heap.size := h.2; have := HS8.out; omega) (by have := HLN.out; omega) _ _).mono ?_
              unfold SamePost
              obtain ⟨s1, hs1⟩ : ∃ s, sameB ⟨m, recs, m.le, false⟩ (toldL g false) (g.m.a : Int) (g.m.b : Int) = s := ⟨_, rfl⟩
              have HOR1 := HOR.out
              rw [hs1] at HOR1
              rw [hs1]
              have HORH := Lib.hid HOR1
              clear HOR1 hs1 HOR
              rintro e w9 ⟨rfl, hk9⟩
              have HW9 := Lib.hid (HW8.out.kept0 hk9)
              have HO9 := Lib.hid ((hk9.block BO (lt_of_block HO8.out) id).trans HO8.out)
              have HP9 := Lib.hid ((hk9.block B12 (lt_of_block HP8.out) id).trans HP8.out)
              have HR9 := Lib.hid ((hk9.block B13 (lt_of_block HR8.out) id).trans HR8.out)
              have HT9 := Lib.hid (HT8.out.kept hk9 (fun _ _ x => x))
              have HTT9 := Lib.hid (HTT8.out.kept hk9 (fun _ _ x => x))
              have HK9 := Lib.hid (HK8.out.trans (hk9.mono (T := fun k => w.heap.size ≤ k) (fun k _ h => h.elim)))
              have HS9 := Lib.hid (Nat.le_trans HS8.out hk9.size)
              clear HO8 HP8 HR8 HT8 HTT8 HK8 HS8 x0 x1 x2 x3 x4 y0 y1 y2 z0 z1 z2
              obtain ⟨x0, x1, x2, x3, x4⟩ := five_all HO9.out
              obtain ⟨y0, y1, y2, _⟩ := three_of HP9.out
              obtain ⟨z0, z1, z2, _⟩ := three_of HR9.out
              clear hk9
              cases bt
              · cases s1
                · exact absurd HORH.out (by simp)
                · go_wp2_with fail
                  go_roundw
                  case rel => exact ⟨k + 1, _, _, _, by omega, rfl, by go_num, HW9.out.mono (fun k h => h.1), HQ.out.up HG8.out HMC.out HLA.out.acts, HK9.out⟩
                  case measure => simp [Go.RowKit.intOf]; omega
              · go_wp2_with fail
                refine (same_any HW9.out HG8.out HTT9.out (fun k h => by have h9 : k < w5.heap.size := h.2; have := HS9.out; omega) (by have h9 : bl.length ≤ 1048512 := HBL.out; omega) _ _).mono ?_
                unfold SamePost
                obtain ⟨s2, hs2⟩ : ∃ s, sameB ⟨m, recs, m.le, false⟩ bl ba bb = s := ⟨_, rfl⟩
                have HOR1 := HORH.out
                rw [hs2] at HOR1
                rw [hs2]
                have HORI := Lib.hid HOR1
                clear HOR1 hs2 HORH
                rintro e w10 ⟨rfl, hk10⟩
                have HW10 := Lib.hid (HW9.out.kept0 hk10)
                have HK10 := Lib.hid (HK9.out.trans (hk10.mono (T := fun k => w.heap.size ≤ k) (fun k _ h => h.elim)))
                clear hk10
                cases s1
                · cases s2
                  · exact absurd HORI.out (by simp)
                  · go_wp2_with fail
                    go_roundw
                    case rel => exact ⟨k + 1, _, _, _, by omega, rfl, by go_num, HW10.out.mono (fun k h => h.1), HQ.out.up HG8.out HMC.out HLA.out.acts, HK10.out⟩
                    case measure => simp [Go.RowKit.intOf]; omega
                · cases s2
                  · go_wp2_with fail
                    go_roundw
                    case rel => exact ⟨k + 1, _, _, _, by omega, rfl, by go_num, HW10.out.mono (fun k h => h.1), HQ.out.up HG8.out HMC.out HLA.out.acts, HK10.out⟩
                    case measure => simp [Go.RowKit.intOf]; omega
                  · go_wp2_with fail
                    go_roundw
                    case rel => exact ⟨k + 1, _, _, _, by omega, rfl, by go_num, HW10.out.mono (fun k h => h.1), HQ.out.up HG8.out HMC.out HLA.out.acts, HK10.out⟩
                    case measure => simp [Go.RowKit.intOf]; omega
            · have hv2 : (v != 2) = true := by simp; omega
              have HGL := Lib.hid (HLA.out.ok hv)
              have HWL := Lib.hid (HQ6.out.log hv)
              by_cases hv0 : v = 0
              · subst hv0
                cases bt
                · go_wp2_with fail
                  go_roundw
                  case rel => exact ⟨k + 1, _, _, _, by omega, rfl, by go_num, HWL.out.mono (fun k h => h.1), HQ.out.up HGL.out.1 HGL.out.2 HLA.out.acts, HK6.out⟩
                  case measure => simp [Go.RowKit.intOf]; omega
                · go_wp2_with fail
                  refine (same_any HWL.out HGL.out.1 HTT6.out (fun k h => by have h9 : k < w5.heap.size := h.2; have := HS6.out; omega) (by have h9 : bl.length ≤ 1048512 := HBL.out; omega) _ _).mono ?_
                  unfold SamePost
                  obtain ⟨s, hs⟩ : ∃ s, sameB L bl ba bb = s := ⟨_, rfl⟩
                  rw [hs]
                  rintro e w7 ⟨rfl, hk7⟩
                  have HWL7 := Lib.hid (HWL.out.kept0 hk7)
                  have HO7 := Lib.hid ((hk7.block BO (lt_of_block HO6.out) id).trans HO6.out)
                  have HP7 := Lib.hid ((hk7.block B12 (lt_of_block HP6.out) id).trans HP6.out)
                  have HR7 := Lib.hid ((hk7.block B13 (lt_of_block HR6.out) id).trans HR6.out)
                  have HT7 := Lib.hid (HT6.out.kept hk7 (fun _ _ x => x))
                  have HTT7 := Lib.hid (HTT6.out.kept hk7 (fun _ _ x => x))
                  have HK7 := Lib.hid (HK6.out.trans (hk7.mono (T := fun k => w.heap.size ≤ k) (fun k _ h => h.elim)))
                  have HS7 := Lib.hid (Nat.le_trans HS6.out hk7.size)
                  clear HO6 HP6 HR6 HT6 HTT6 HK6 HS6 x0 x1 x2 x3 x4 y0 y1 y2 z0 z1 z2
                  obtain ⟨x0, x1, x2, x3, x4⟩ := five_all HO7.out
                  obtain ⟨y0, y1, y2, _⟩ := three_of HP7.out
                  obtain ⟨z0, z1, z2, _⟩ := three_of HR7.out
                  cases s
                  · by_cases hK5 : K = 5
                    · subst hK5
                      clear hs
                      go_wp2_with fail
                      go_roundw
                      case rel => exact ⟨k + 1, _, _, _, by omega, rfl, by go_num, HWL7.out.mono (fun k h => h.1), HQ.out.up HGL.out.1 HGL.out.2 HLA.out.acts, HK7.out⟩
                      case measure => simp [Go.RowKit.intOf]; omega
                    · exact absurd (HLA.out.same rfl rfl hK5) (by show ¬ sameB L bl ba bb = true; rw [hs]; decide)
                  · clear hs
                    go_wp2_with fail
                    go_roundw
                    case rel => exact ⟨k + 1, _, _, _, by omega, rfl, by go_num, HWL7.out.mono (fun k h => h.1), HQ.out.up HGL.out.1 HGL.out.2 HLA.out.acts, HK7.out⟩
                    case measure => simp [Go.RowKit.intOf]; omega
              · have hv0f : (v == 0) = false := by simp; omega
                go_wp2_with fail
                go_roundw
                case rel => exact ⟨k + 1, _, _, _, by omega, rfl, by go_num, HWL.out.mono (fun k h => h.1), HQ.out.up HGL.out.1 HGL.out.2 HLA.out.acts, HK6.out⟩
                case measure => simp [Go.RowKit.intOf]; omega
      · have hg := HQ.out.good
        go_wp2_with fail
        refine (told_false HW.out hg).mono ?_
        rintro e w3 ⟨a3, c3, rfl, ht3, hk3, _⟩
        have hk4 : Kept (fun _ => False) wr (w3.alloc (.cells #[.slice a3 (toldL g false).length c3, .int .i64 g.m.a, .int .i64 g.m.b] 39)) := hk3.alloc _
        have hb4 : (w3.alloc (.cells #[.slice a3 (toldL g false).length c3, .int .i64 g.m.a, .int .i64 g.m.b] 39)).heap[w3.heap.size]? = some (.cells #[.slice a3 (toldL g false).length c3, .int .i64 g.m.a, .int .i64 g.m.b] 39 (0, 0)) := heap_alloc_new w3 _
        have HT4 := Lib.hid ((ht3.kept ((Kept.refl (fun _ => False) w3).alloc (.cells #[.slice a3 (toldL g false).length c3, .int .i64 g.m.a, .int .i64 g.m.b] 39)) (fun _ _ x => x)).lt)
        have HW4 := Lib.hid (HW.out.aside hk4)
        have HK4 := Lib.hid (HK.out.trans (hk4.mono (T := fun k => w.heap.size ≤ k) (fun _ _ x => x.elim)))
        have HB4 := Lib.hid hb4
        have HSZ : Hid (wr.heap.size ≤ w3.heap.size ∧ w3.heap.size < (w3.alloc (.cells #[.slice a3 (toldL g false).length c3, .int .i64 g.m.a, .int .i64 g.m.b] 39)).heap.size) := Lib.hid ⟨hk3.size, lt_of_block hb4⟩
        have HG := Lib.hid hg
        clear ht3 hk3 hk4 hb4 hg
        go_wp2_with fail
        generalize w3.alloc (.cells #[.slice a3 (toldL g false).length c3, .int .i64 g.m.a, .int .i64 g.m.b] 39) = w4 at HW4 HK4 HB4 HT4 HSZ ⊢
        generalize w3.heap.size = B4 at HB4 HSZ ⊢
        refine (warm HW4.out HG.out 0 (by decide)).mono ?_
        rintro e w5 ⟨rfl, hw5, hk5⟩
        have HT5 := Lib.hid (HT4.out.kept hk5 (fun k h1 h2 => by omega))
        have HB5 := Lib.hid ((hk5.block B4 (lt_of_block HB4.out) (fun h2 => by have := HSZ.out; omega)).trans HB4.out)
        have HW5 := Lib.hid hw5
        have HK5 := Lib.hid (HK4.out.trans (hk5.mono (fun k _ h => h.1)))
        have HS5 := Lib.hid hk5.size
        clear hw5 hk5
        go_wp2_with fail
        refine (wcrash HW5.out.gone (numnil w5 (fun _ => False)) (fun k h => h.elim)).mono ?_
        rintro e w6 ⟨rfl, hd6, hk6⟩
        have HT6 := Lib.hid (HT5.out.kept hk6 (fun k h1 h2 => by omega))
        have HB6 := Lib.hid ((hk6.block B4 (lt_of_block HB5.out) (fun h2 => by have := HSZ.out; omega)).trans HB5.out)
        have HD6 := Lib.hid hd6
        have HK6 := Lib.hid (HK5.out.trans (hk6.mono (fun k _ h => h.1)))
        have HS6 := Lib.hid (Nat.le_trans HS5.out hk6.size)
        clear hd6 hk6
        have HH6 := Lib.hid (((HG.out.armed 0).half).crash [])
        go_wp2_with fail
        refine (wreopen HD6.out HH6.out rfl).mono ?_
        rintro e w7 ⟨lb7, rfl, hw7, hk7⟩
        have HT7 := Lib.hid (HT6.out.kept hk7 (fun k h1 h2 => by omega))
        have hb7 := (hk7.block B4 (lt_of_block HB6.out) (fun h2 => by have := HSZ.out; omega)).trans HB6.out
        have HW7 := Lib.hid hw7
        have HK7 := Lib.hid (HK6.out.trans (hk7.mono (fun k _ h => h.1)))
        have HS7 := Lib.hid (Nat.le_trans HS6.out hk7.size)
        have HG7 := Lib.hid (HH6.out.good rfl)
        obtain ⟨c0, c1, c2, _⟩ := three_of hb7
        have hsb := same_half HH6.out rfl rfl rfl
        have HSB := Lib.hid hsb
        have hsp := HG.out.half.base.space
        have husp := HG.out.usp
        have hus := HG.out.used
        have hll := sizeN_len g.recs
        have HLN : Hid ((toldL g false).length ≤ 1048512) := Lib.hid (by show (g.recs.take g.m.nu).length ≤ _; rw [List.length_take]; omega)
        clear hw7 hk7 hb7 hsb hsp husp hus hll
        go_wp2_with fail
        refine (same_any HW7.out HG7.out HT7.out (fun k h => by have h8 : k < w4.heap.size := h.2; have := HS7.out; omega) (by have := HLN.out; omega) _ _).mono ?_
        unfold SamePost
        rw [show sameB _ (toldL g false) (g.m.a : Int) (g.m.b : Int) = true from HSB.out]
        rintro e w8 ⟨rfl, hk8⟩
        have HK8 := Lib.hid (HK7.out.trans (hk8.mono (fun _ _ x => x.elim)))
        clear hk8 c0 c1 c2
        go_wp2_with fail
        go_ret
        exact ⟨rfl, HK8.out.below (fun _ h => h) (Nat.le_refl _)⟩
    · have hg := HQ.out.good
      go_wp2_with fail
      refine (told_false HW.out hg).mono ?_
      rintro e w3 ⟨a3, c3, rfl, ht3, hk3, _⟩
      have hk4 : Kept (fun _ => False) wr (w3.alloc (.cells #[.slice a3 (toldL g false).length c3, .int .i64 g.m.a, .int .i64 g.m.b] 39)) := hk3.alloc _
      have hb4 : (w3.alloc (.cells #[.slice a3 (toldL g false).length c3, .int .i64 g.m.a, .int .i64 g.m.b] 39)).heap[w3.heap.size]? = some (.cells #[.slice a3 (toldL g false).length c3, .int .i64 g.m.a, .int .i64 g.m.b] 39 (0, 0)) := heap_alloc_new w3 _
      have HT4 := Lib.hid ((ht3.kept ((Kept.refl (fun _ => False) w3).alloc (.cells #[.slice a3 (toldL g false).length c3, .int .i64 g.m.a, .int .i64 g.m.b] 39)) (fun _ _ x => x)).lt)
      have HW4 := Lib.hid (HW.out.aside hk4)
      have HK4 := Lib.hid (HK.out.trans (hk4.mono (T := fun k => w.heap.size ≤ k) (fun _ _ x => x.elim)))
      have HB4 := Lib.hid hb4
      have HSZ : Hid (wr.heap.size ≤ w3.heap.size ∧ w3.heap.size < (w3.alloc (.cells #[.slice a3 (toldL g false).length c3, .int .i64 g.m.a, .int .i64 g.m.b] 39)).heap.size) := Lib.hid ⟨hk3.size, lt_of_block hb4⟩
      have HG := Lib.hid hg
      clear ht3 hk3 hk4 hb4 hg
      go_wp2_with fail
      generalize w3.alloc (.cells #[.slice a3 (toldL g false).length c3, .int .i64 g.m.a, .int .i64 g.m.b] 39) = w4 at HW4 HK4 HB4 HT4 HSZ ⊢
      generalize w3.heap.size = B4 at HB4 HSZ ⊢
      refine (warm HW4.out HG.out 0 (by decide)).mono ?_
      rintro e w5 ⟨rfl, hw5, hk5⟩
      have HT5 := Lib.hid (HT4.out.kept hk5 (fun k h1 h2 => by omega))
      have HB5 := Lib.hid ((hk5.block B4 (lt_of_block HB4.out) (fun h2 => by have := HSZ.out; omega)).trans HB4.out)
      have HW5 := Lib.hid hw5
      have HK5 := Lib.hid (HK4.out.trans (hk5.mono (fun k _ h => h.1)))
      have HS5 := Lib.hid hk5.size
      clear hw5 hk5
      go_wp2_with fail
      refine (wcrash HW5.out.gone (numnil w5 (fun _ => False)) (fun k h => h.elim)).mono ?_
      rintro e w6 ⟨rfl, hd6, hk6⟩
      have HT6 := Lib.hid (HT5.out.kept hk6 (fun k h1 h2 => by omega))
      have HB6 := Lib.hid ((hk6.block B4 (lt_of_block HB5.out) (fun h2 => by have := HSZ.out; omega)).trans HB5.out)
      have HD6 := Lib.hid hd6
      have HK6 := Lib.hid (HK5.out.trans (hk6.mono (fun k _ h => h.1)))
      have HS6 := Lib.hid (Nat.le_trans HS5.out hk6.size)
      clear hd6 hk6
      have HH6 := Lib.hid (((HG.out.armed 0).half).crash [])
      go_wp2_with fail
      refine (wreopen HD6.out HH6.out rfl).mono ?_
      rintro e w7 ⟨lb7, rfl, hw7, hk7⟩
      have HT7 := Lib.hid (HT6.out.kept hk7 (fun k h1 h2 => by omega))
      have hb7 := (hk7.block B4 (lt_of_block HB6.out) (fun h2 => by have := HSZ.out; omega)).trans HB6.out
      have HW7 := Lib.hid hw7
      have HK7 := Lib.hid (HK6.out.trans (hk7.mono (fun k _ h => h.1)))
      have HS7 := Lib.hid (Nat.le_trans HS6.out hk7.size)
      have HG7 := Lib.hid (HH6.out.good rfl)
      obtain ⟨c0, c1, c2, _⟩ := three_of hb7
      have hsb := same_half HH6.out rfl rfl rfl
      have HSB := Lib.hid hsb
      have hsp := HG.out.half.base.space
      have husp := HG.out.usp
      have hus := HG.out.used
      have hll := sizeN_len g.recs
      have HLN : Hid ((toldL g false).length ≤ 1048512) := Lib.hid (by show (g.recs.take g.m.nu).length ≤ _; rw [List.length_take]; omega)
      clear hw7 hk7 hb7 hsb hsp husp hus hll
      go_wp2_with fail
      refine (same_any HW7.out HG7.out HT7.out (fun k h => by have h8 : k < w4.heap.size := h.2; have := HS7.out; omega) (by have := HLN.out; omega) _ _).mono ?_
      unfold SamePost
      rw [show sameB _ (toldL g false) (g.m.a : Int) (g.m.b : Int) = true from HSB.out]
      rintro e w8 ⟨rfl, hk8⟩
      have HK8 := Lib.hid (HK7.out.trans (hk8.mono (fun _ _ x => x.elim)))
      clear hk8 c0 c1 c2
      go_wp2_with fail
      go_ret
      exact ⟨rfl, HK8.out.below (fun _ h => h) (Nat.le_refl _)⟩

theorem own : ownKnob Tryz.prog.godebug = none := by kernel_rfl
theorem laidOut : laidOutB Tryz.prog = true := by kernel_rfl

set_option maxRecDepth 100000 in
theorem lifted (os : Os) (started : os.Started) (H : Type) (enc : TypeId × Value → H) :
    ReturnsInHanded {} Tryz.checked os 3 .any (Rows.walLastsSpec.pre6 enc Tryz.prog Tryz.f3 Rows.walLastsRow.domain false) (Rows.walLastsSpec.post enc Tryz.prog Tryz.f3 false true false false) := by
  refine returnsInHanded_of_change_sized (C := Tryz.checked) own started (by kernel_rfl) Tryz.func3
    (ChangeSpec.witness6 (enc := enc) (C := Tryz.checked) false ⟨#[], #[.int .i64 0, .slice none 0 0], []⟩ 8 (by kernel_rfl) (by kernel_rfl) (by kernel_rfl) (by kernel_rfl)) ?_
  intro W base args ds gs before hval0 hW hcnd hsz0 _
  have hsz : (DataW.weightsEach Tryz.prog (Tryz.f3.params.toList ++ Rows.walLastsSpec.plain.varTypes Tryz.prog) (ds ++ gs)).all (· ≤ reachBytes) = true := hsz0
  clear hsz0
  have hval : ∀ (j : Nat) t v, Tryz.f3.params[j]? = some t → args[j]? = some v → Value.okWide Tryz.prog W .any base t v := hval0
  have hW' := hW
  obtain ⟨p, q, hA0, hV, rfl, hfz, hnd⟩ := hW
  have hA : DataW.TrodAll enc Tryz.prog W 0 (fun _ => true) true Tryz.f3.params.toList args.toList ds p := hA0
  rw [Tryz.params3] at hA hval hsz
  obtain ⟨v0, vs0, d0, ds0, p0, q0, hargs, rfl, rfl, h0, r0⟩ := trodAll_cons hA
  obtain ⟨v1, vs1, d1, ds1, p1, q1, rfl, rfl, rfl, h1, r1⟩ := trodAll_cons r0
  obtain ⟨rfl, rfl, rfl⟩ := trodAll_nil r1
  obtain rfl : args = #[v0, v1] := by cases args; simp_all
  obtain ⟨rfl, rfl⟩ := trodVars_none hV
  have k0 := h0
  have lt0 : ∀ x ∈ p0, x.block < W.heap.size := by obtain ⟨m, hm⟩ := k0; exact DataW.trod_lt m _ _ _ hm
  obtain ⟨a0, e0, f0, g0, w0⟩ := open_int Tryz.underlying3 (hval 0 3 v0 rfl rfl) h0
  subst e0
  have b0 : -9223372036854775808 ≤ a0 ∧ a0 ≤ 9223372036854775807 := by have w := w0; simp [Lit.wf, IntKind.min, IntKind.max, IntKind.bits, IntKind.signed] at w; omega
  have k1 := h1
  have lt1 : ∀ x ∈ p1, x.block < W.heap.size := by obtain ⟨m, hm⟩ := k1; exact DataW.trod_lt m _ _ _ hm
  obtain ⟨a1, len1, cap1, rfl⟩ := okWide_slice Tryz.underlying22 (hval 1 22 v1 rfl rfl)
  obtain ⟨os1, hosl1, hos1⟩ : ∃ l : List OpW, l.length = len1 ∧ OpsW W.heap.size W a1 l := by
    obtain ⟨fuel, hf⟩ := h1
    exact opsw_of hf (fun n hn => by
      have := List.all_eq_true.1 hsz n (DataW.weights_mem_each (j := 1) rfl rfl n hn)
      simpa using this)
  subst hosl1
  clear hA0 hval0
  refine (walk a0 a1 cap1 os1 W b0.1 b0.2 hos1).mono fun e W' ⟨he, bel⟩ => ?_
  subst he
  exact ⟨_, rfl, _, _, _, [], _, [], hW', trodAll_mk1 (shut_bool Tryz.underlying4 _), (trodAll_cons_mk (Below.trod laidOut (by kernel_rfl) (of_decide_eq_true (by kernel_rfl)) k0 bel lt0) (trodAll_cons_mk (Below.trod laidOut (by kernel_rfl) (of_decide_eq_true (by kernel_rfl)) k1 bel lt1) trodAll_mk0)), rfl, bel.frame _, fun h => by cases h⟩

theorem over : Rows.walLastsRow.holds Tryz.pinned (OpenSpec.ofChange Rows.walLastsSpec) :=
  OpenClaim.holds_of_wide 3 Tryz.f3 rfl rfl rfl rfl rfl rfl rfl ⟨rfl, rfl, rfl, rfl, rfl⟩ rfl rfl rfl rfl rfl (by kernel_rfl) Tryz.func3 (by kernel_rfl)
    (of_decide_eq_true (by kernel_rfl)) (by unfold Func.isWrapper; first | (rw [if_pos (by decide +kernel)]; kernel_rfl) | (rw [if_neg (by decide +kernel)]; exact ⟨rfl, rfl⟩))
    (fun os started H enc _ => lifted os started H enc)

/-- the given statement -/
theorem proved : Rows.WalLastsSaid := over
#print axioms proved
end Go.Proofs.YtcjfpddmpiggoaaGreat.walLasts
