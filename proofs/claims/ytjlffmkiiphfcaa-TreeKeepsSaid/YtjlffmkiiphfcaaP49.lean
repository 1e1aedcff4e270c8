/- Numbers that came in. TreeSessions: the walk. The contracts of maps.Keys, slices.Sorted and slices.Sort at strings, laid over this program by the kit (no walk). -/
import Derived.Test.YtjlffmkiiphfcaaP29
import Derived.SizedLaws
import Derived.Test.YtjlffmkiiphfcaaP47
import Derived.Test.YtjlffmkiiphfcaaP48
import Derived.Test.YtjlffmkiiphfcaaP25
import Derived.Test.YtjlffmkiiphfcaaP27
import Derived.Test.YtjlffmkiiphfcaaP05
import Derived.Shelf.SlGeneric
import Derived.Shelf.SlIter.Nil
import Derived.Shelf.SortM.Plain
import Derived.Shelf.SortM.SortNone
import Derived.Test.YtjlffmkiiphfcaaProg
namespace Go.Proofs.Ytjlffmkiiphfcaa
open Go.ChangeShapes Go.WideShapes Go.ChangeAt Go.RowKit Go.Maps
set_option linter.unusedVariables false
set_option linter.unusedSimpArgs false
structure IntsD (w : World) (a : Option Addr) (l : List Int) : Prop where
  fits : ∀ x ∈ l, -9223372036854775808 ≤ x ∧ x ≤ 9223372036854775807
  room : l.length ≤ 9223372036854775807
  at_ : l.length = 0 ∨ ∃ b off, a = some ⟨b, off, none⟩ ∧ b < w.heap.size ∧ ∀ i (h : i < l.length), w.cell? ⟨b, off + i, none⟩ = some (.int .i64 l[i])
theorem IntsD.kept {w w' : World} {a : Option Addr} {l : List Int} (h : IntsD w a l) (hk : Kept (fun _ => False) w w') : IntsD w' a l := by
  refine ⟨h.fits, h.room, ?_⟩
  rcases h.at_ with h0 | ⟨b, off, ha, hlt, hc⟩
  · exact .inl h0
  · exact .inr ⟨b, off, ha, Nat.lt_of_lt_of_le hlt hk.size, fun i hi => by rw [World.cell?_of_block (w := w) (hk.block b hlt (fun f => f))]; exact hc i hi⟩
section
variable {H : Type} {enc : TypeId × Value → H} {w : World} {base : Nat} {spare : Nat → Bool} {held : Bool}
theorem ints_of {fuel : Nat} {a : Option Addr} {len cap : Nat} {x : DataW H × List MemPlace}
    (h : DataW.trod enc Try.prog w base (fun _ => true) held fuel 51 [.slice a len cap] = some x) : ∃ l : List Int, l.length = len ∧ IntsD w a l := by
  rcases open_ints Try.underlying51 Try.underlying3 (by kernel_rfl) h with ⟨hc, _⟩ | ⟨a', len', cap', zs, hc, hb, hl, hm, hz, hx, hi, hwf⟩
  · simp only [List.cons.injEq, Value.slice.injEq, and_true] at hc
    obtain ⟨rfl, rfl, rfl⟩ := hc
    exact ⟨[], rfl, ⟨(fun x hx => by cases hx), Nat.zero_le _, .inl rfl⟩⟩
  · simp only [List.cons.injEq, Value.slice.injEq, and_true] at hc
    obtain ⟨rfl, rfl, rfl⟩ := hc
    simp only [if_true] at hz
    have e : (zs.take len).length = len := by rw [List.length_take]; omega
    refine ⟨zs.take len, e, fun x hx => ?_, by unfold maxLen at hm; omega, ?_⟩
    · have h9 := hwf x (List.mem_of_mem_take hx)
      simp [Lit.wf, IntKind.min, IntKind.max, IntKind.bits, IntKind.signed] at h9
      omega
    rcases Nat.eq_zero_or_pos len with h0 | hp
    · exact .inl (by omega)
    · right
      obtain ⟨b, off, spot⟩ := a'
      have hspot : spot = none := by simpa [Addr.add] using World.cell?_spot (hi 0 (by omega))
      subst hspot
      refine ⟨b, off, rfl, World.block_lt_of_cell? w _ (hi 0 (by omega)), fun i hi0 => ?_⟩
      have hcell := hi i (by omega)
      have hadd : (⟨b, off, none⟩ : Addr).add i = ⟨b, off + i, none⟩ := by unfold Addr.add; split <;> simp_all
      rw [hadd] at hcell
      rw [hcell, List.getElem_take]
      simp [List.getD, List.getElem?_eq_getElem (show i < zs.length by omega)]
end
end Go.Proofs.Ytjlffmkiiphfcaa

namespace Go.Proofs.Ytjlffmkiiphfcaa
open Go.ChangeShapes Go.WideShapes Go.ChangeAt Go.RowKit Go.Maps
set_option linter.unusedVariables false
set_option linter.unusedSimpArgs false
theorem HistAt.low {B B' : Nat} {w : World} {v : Value} {H : List HE} (h : HistAt B w v H) (hb : B' ≤ B) : HistAt B' w v H := ⟨row_mono h.own hb, h.txw⟩
theorem Hist.sess {fr : Int} {H : List HE} {R : RT} (h : Hist fr H R) : ∀ e ∈ H, e.tx.t.kind = 5 ∨ e.tx.t.kind = 6 → 1 ≤ e.tx.t.owner ∧ e.tx.t.owner ≤ 5 := by
  induction h with
  | nil => intro e he; cases he
  | @snoc H R h hh hz ht hs ih =>
    intro e he
    rcases List.mem_append.1 he with he | he
    · exact ih e he
    · simp at he; subst he; exact ht.sess
/-- the cells of the i-th entry -/
theorem HsN.ent {w W : World} {B : Nat} {g n cv c : Nat} {H : List HE} {T : List (TB × TM)} (h : HsN w B (.slice (some ⟨g, 0, none⟩) n cv) H T c W) {i : Nat} {E : HE} (he : H[i]? = some E) : W.cell? ⟨g, i * 11, none⟩ = some (.int .i64 E.e.zx) ∧ W.cell? ⟨g, i * 11 + 1, none⟩ = some (.int .i64 E.e.sess) ∧ W.cell? ⟨g, i * 11 + 2, none⟩ = some (.int .i64 E.e.xid) ∧ W.cell? ⟨g, i * 11 + 3, none⟩ = some (.int .i64 E.x.kind) ∧ W.cell? ⟨g, i * 11 + 4, none⟩ = some (.string E.x.path) ∧ W.cell? ⟨g, i * 11 + 5, none⟩ = some (.string E.x.data) ∧ W.cell? ⟨g, i * 11 + 6, none⟩ = some (.slice E.y.aa E.y.an E.y.ac) ∧ W.cell? ⟨g, i * 11 + 7, none⟩ = some (.int .i64 E.x.owner) ∧ W.cell? ⟨g, i * 11 + 8, none⟩ = some (.int .i64 E.x.number) ∧ W.cell? ⟨g, i * 11 + 9, none⟩ = some (.int .i64 E.y.err) ∧ W.cell? ⟨g, i * 11 + 10, none⟩ = some (.slice E.y.sa E.y.sn E.y.sc) := by
  obtain ⟨a9, cap9, hv9, hc9⟩ := h.at_.cells
  obtain ⟨g', ha9, hg, hce⟩ := hc9 i E he
  injection hv9 with hv1 hv2 hv3
  rw [← hv1] at ha9
  injection ha9 with ha9
  injection ha9 with ha9
  subst ha9
  exact ⟨hce 0 _ rfl, hce 1 _ rfl, hce 2 _ rfl, hce 3 _ rfl, hce 4 _ rfl, hce 5 _ rfl, hce 6 _ rfl, hce 7 _ rfl, hce 8 _ rfl, hce 9 _ rfl, hce 10 _ rfl⟩
theorem HsN.blk {w W : World} {B : Nat} {cv c : Nat} {av : Option Addr} {H : List HE} {T : List (TB × TM)} (h : HsN w B (.slice av H.length cv) H T c W) {i : Nat} {E : HE} (he : H[i]? = some E) : ∃ g, av = some ⟨g, 0, none⟩ := by
  obtain ⟨a9, cap9, hv9, hc9⟩ := h.at_.cells
  obtain ⟨g', ha9, hg, hce⟩ := hc9 i E he
  injection hv9 with hv1 hv2 hv3
  exact ⟨g', hv1.trans ha9⟩
structure SeL (w : World) (B : Nat) (v : Value) (H : List HE) (q r : TB) (iv : Value) (wr : World) : Prop where
  ex : ∃ (i : Nat) (A C : TM), iv = .int .i64 i ∧ i ≤ H.length ∧ Twin 100 A C ∧ HsN w B v H [(q, A), (r, C)] (1 + 8000008 * i) wr
structure SeM (w : World) (B : Nat) (v : Value) (H : List HE) (q r : TB) (nv : Value) (wr : World) : Prop where
  ex : ∃ (m : Nat) (A C : TM), nv = .int .i64 m ∧ 100 ≤ m ∧ m ≤ 109 ∧ Twin m A C ∧ HsN w B v H [(q, A), (r, C)] (2000000000 + 2000002 * m) wr
theorem HsN.to {w W : World} {B c c' : Nat} {v : Value} {H : List HE} {T : List (TB × TM)} (h : HsN w B v H T c W) (hc : c ≤ c') : HsN w B v H T c' W := ⟨fun p hp => (h.t p hp).mono hc, h.ap, h.at_, h.lo, h.kept⟩
theorem sel_next {w W : World} {B c i : Nat} {v iv : Value} {H : List HE} {q r : TB} {A C : TM} (hs : HsN w B v H [(q, A), (r, C)] c W) (ht : Twin 100 A C) (hc : c ≤ 1 + 8000008 * (i + 1)) (hi : i < H.length) (hv : iv = .int .i64 ((i + 1 : Nat) : Int)) : SeL w B v H q r iv W := ⟨i + 1, A, C, hv, hi, ht, hs.to hc⟩
set_option maxRecDepth 100000 in
set_option maxHeartbeats 4000000 in
theorem se_walk (w : World) (a0 : Option Addr) (cap0 : Nat) (l0 : List ActD) (a1 : Option Addr) (cap1 : Nat) (l1 : List Int) (h0 : ActsD w a0 l0) (h1 : IntsD w a1 l1) :
    Calls Try.prog 6 #[.slice a0 l0.length cap0, .slice a1 l1.length cap1] w (QPost true w) := by
  have H0 := Lib.hid h0
  have H1 := Lib.hid h1
  clear h0 h1
  go_enter Try.func6, Try.ntmps6
  go_wp2_with fail
  refine (tawake_any w).mono ?_
  rintro e w1 ⟨rfl, hk1⟩
  have HK1 := Lib.hid hk1
  have HHI := Lib.hid (hist_any a0 cap0 l0 (H0.out.kept0 hk1) 1 (by decide) (by decide))
  clear hk1
  go_wp2_with fail
  refine HHI.out.mono ?_
  rintro e w2 ⟨v, b, H, R, rfl, hat, hhi, _, hlen, _, _, hk2⟩
  have hk2' := HK1.out.trans hk2
  have HLEN := Lib.hid hlen
  have HSE := Lib.hid hhi.sess
  have HS0 : Hid (HsN w w2.heap.size v H [] 1 w2) := Lib.hid ⟨fun p hp => (List.not_mem_nil hp).elim, .nil, hat.low HK1.out.size, fun p hp => (List.not_mem_nil hp).elim, hk2'⟩
  obtain ⟨av, cv, rfl⟩ := own_shape hat.own
  obtain ⟨B, HB⟩ : ∃ B, Hid (w2.heap.size = B) := ⟨_, Lib.hid rfl⟩
  have HN1 := Lib.hid (tnew_any w2 (B := B) (Nat.le_of_eq HB.out.symm))
  rw [HB.out] at HS0
  clear hat hhi hlen hk2 hk2' HHI HK1
  go_wp2_with fail
  refine HN1.out.mono ?_
  rintro e w3 ⟨q, rfl, hT, hk3, hq⟩
  have HS1 := Lib.hid (HS0.out.more HS0.out.less hT hk3 hq)
  have HN2 := Lib.hid (tnew_any w3 (B := B) (HB.out ▸ hk3.size))
  clear hT hk3 hq HN1 HS0
  go_wp2_with fail
  refine HN2.out.mono ?_
  rintro e w4 ⟨r, rfl, hU, hk4, hr⟩
  have HS : Hid (HsN w B _ H [(q, newM), (r, newM)] 1 w4) := Lib.hid (HS1.out.more HS1.out.less hU hk4 hr)
  clear hU hk4 hr HN2 HS1 HB
  go_wp2_with fail
  go_loopw [10] (fun iv wr => SeL w B (.slice av H.length cv) H q r iv wr) (fun iv _ => H.length - (intOf iv).toNat)
  case atStart => exact ⟨0, newM, newM, rfl, Nat.zero_le _, Twin.refl _ (fun k _ _ => by unfold newM layM; split <;> rfl), HS.out⟩
  case round =>
    obtain ⟨i, A, C, rfl, hi, htw, hs⟩ := hrel.ex
    have HS := Lib.hid hs
    have HTW := Lib.hid htw
    have hlen := HLEN.out
    clear hrel hs htw
    by_cases hlt : i < H.length
    · obtain ⟨E, hE⟩ : ∃ E, H[i]? = some E := ⟨_, List.getElem?_eq_getElem hlt⟩
      have HE' := Lib.hid hE
      have HSE1 := Lib.hid (HSE.out E (List.mem_of_getElem? hE))
      obtain ⟨g, rfl⟩ := HS.out.blk hE
      have HA1 := Lib.hid (hs_apply HS.out (i := 0) (q := q) (M := A) rfl hE (by omega))
      obtain ⟨x0, x1, x2, x3, x4, x5, x6, x7, x8, x9, x10⟩ := HS.out.ent hE
      clear hE
      unfold entV at HA1
      go_wp2_with fail
      refine HA1.out.mono ?_
      rintro e w5 ⟨va, vm, rfl, hs⟩
      have HS1 : Hid (HsN w B _ H [(q, (applyM A E.tx E.e.zx).1), (r, C)] (1 + 8000008 * i + 2000002) w5) := Lib.hid hs
      have HA2 := Lib.hid (hs_apply HS1.out (i := 1) (q := r) (M := C) rfl HE'.out (by omega))
      clear hs x0 x1 x2 x3 x4 x5 x6 x7 x8 x9 x10 HA1
      obtain ⟨x0, x1, x2, x3, x4, x5, x6, x7, x8, x9, x10⟩ := HS1.out.ent HE'.out
      unfold entV at HA2
      go_wp2_with fail
      refine HA2.out.mono ?_
      rintro e w6 ⟨vb, vn, rfl, hs⟩
      obtain ⟨A1, hA1⟩ : ∃ A1, (applyM A E.tx E.e.zx).1 = A1 := ⟨_, rfl⟩
      obtain ⟨C1, hC1⟩ : ∃ C1, (applyM C E.tx E.e.zx).1 = C1 := ⟨_, rfl⟩
      have htw := HTW.out.both E.tx E.e.zx HSE1.out
      have hz1 := apply_z A E.tx E.e.zx
      have hs2 : HsN w B _ H [(q, (applyM A E.tx E.e.zx).1), (r, (applyM C E.tx E.e.zx).1)] (1 + 8000008 * i + 2000002 + 2000002) w6 := hs
      rw [hA1, hC1] at hs2 htw
      rw [hA1] at hz1
      have HS2 := Lib.hid hs2
      have HTW1 := Lib.hid htw
      have HZ1 := Lib.hid hz1
      clear hs x0 x1 x2 x3 x4 x5 x6 x7 x8 x9 x10 HA2 hA1 hC1 htw hz1 hs2 HS1 HS
      obtain ⟨x0, x1, x2, x3, x4, x5, x6, x7, x8, x9, x10⟩ := HS2.out.ent HE'.out
      by_cases hz : ¬ 0 < l1.length
      · go_wp2_with fail
        exact ⟨sel_next HS2.out HTW1.out (by omega) hlt (by go_num), by show H.length - ((i : Int) + 1).toNat < H.length - (i : Int).toNat; omega⟩
      · obtain ⟨j, hj⟩ : ∃ j, i % l1.length = j := ⟨_, rfl⟩
        have hj1 : j < l1.length := by rw [← hj]; exact Nat.mod_lt _ (Decidable.not_not.1 hz)
        have hj2 : (i : Int).tmod (l1.length : Int) = (j : Int) := by rw [← hj]; exact (Int.ofNat_tmod i l1.length).symm
        have hl1 := H1.out.room
        have l0 : (0 : Int) < (l1.length : Int) := by omega
        have l2 : (j : Int) < (l1.length : Int) := by omega
        obtain ⟨b1, o1, rfl, hb1, hc1⟩ := H1.out.at_.resolve_left (by omega)
        obtain ⟨z1, hz1⟩ : ∃ z1, l1[j] = z1 := ⟨_, rfl⟩
        have hfz := H1.out.fits z1 (hz1 ▸ List.getElem_mem hj1)
        have KI : Hid (∀ W, Kept (fun _ => False) w W → W.cell? ⟨b1, o1 + j, none⟩ = some (.int .i64 z1)) := Lib.hid (fun W hk => by
          rw [World.cell?_of_block (w := w) (hk.block b1 hb1 (fun f => f)), hc1 j hj1, hz1])
        have k6 := KI.out _ HS2.out.kept
        obtain ⟨s9, hs9⟩ : ∃ s : Nat, absN z1 % 9 = s := ⟨_, rfl⟩
        have h9 : s9 < 9 := by omega
        obtain ⟨s2, hs2⟩ : ∃ s : Nat, absN z1 % 2 = s := ⟨_, rfl⟩
        have HP9 : Hid (∀ W, Calls Try.prog 13 #[.int .i64 z1, .int .i64 9] W fun e w' => e = .returned (.int .i64 s9) ∧ W = w') := Lib.hid (fun W => tpick_nat z1 9 W hfz.1 hfz.2 (by decide) (by decide) hs9)
        have HP2 : Hid (∀ W, Calls Try.prog 13 #[.int .i64 z1, .int .i64 2] W fun e w' => e = .returned (.int .i64 s2) ∧ W = w') := Lib.hid (fun W => tpick_nat z1 2 W hfz.1 hfz.2 (by decide) (by decide) hs2)
        clear hc1 hfz hs9 hs2 hz1
        go_wp2_with fail
        refine (HP9.out _).mono ?_
        rintro e w6' ⟨rfl, rfl⟩
        obtain ⟨N, hN⟩ : ∃ N : Int, 100 + (s9 : Int) = N := ⟨_, rfl⟩
        have hn1 : 100 ≤ N := by omega
        have hn2 : N ≤ 108 := by omega
        have HB1 := Lib.hid (hs_bare HS2.out (i := 1) (q := r) (M := C1) rfl ⟨5, ⟨#[]⟩, ⟨#[]⟩, [], N, i⟩ (by show (0 : Nat) ≤ 100; decide) rfl (by show _ ≤ N ∧ N ≤ _; omega) ⟨E.e.zx, 0, 0⟩ (by omega))
        unfold entV at HB1
        go_wp2_with fail
        refine HB1.out.mono ?_
        rintro e w7 ⟨vc, vo, rfl, hs⟩
        have hs3 : HsN w B _ H [(q, A1), (r, (applyM C1 ⟨⟨5, ⟨#[]⟩, ⟨#[]⟩, [], N, i⟩, 0, []⟩ E.e.zx).1)] (1 + 8000008 * i + 2000002 + 2000002 + 2000002) w7 := hs
        have htw := HTW1.out.one (x := ⟨5, ⟨#[]⟩, ⟨#[]⟩, [], N, i⟩) (.inl rfl) hn1 hn2 0 E.e.zx HZ1.out
        obtain ⟨C2, hC2⟩ : ∃ C2, (applyM C1 ⟨⟨5, ⟨#[]⟩, ⟨#[]⟩, [], N, i⟩, 0, []⟩ E.e.zx).1 = C2 := ⟨_, rfl⟩
        rw [hC2] at hs3 htw
        have HS3 := Lib.hid hs3
        have HTW2 := Lib.hid htw
        clear hs hs3 htw hC2 HB1 x0 x1 x2 x3 x4 x5 x6 x7 x8 x9 x10 k6
        obtain ⟨x0, x1, x2, x3, x4, x5, x6, x7, x8, x9, x10⟩ := HS3.out.ent HE'.out
        have k6 := KI.out _ HS3.out.kept
        go_wp2_with fail
        refine (HP2.out _).mono ?_
        rintro e w7' ⟨rfl, rfl⟩
        by_cases h2 : s2 = 0
        · subst h2
          have HB2 := Lib.hid (hs_bare HS3.out (i := 1) (q := r) (M := C2) rfl ⟨6, ⟨#[]⟩, ⟨#[]⟩, [], N, 0⟩ (by show (0 : Nat) ≤ 100; decide) rfl (by show _ ≤ N ∧ N ≤ _; omega) ⟨E.e.zx, 0, 0⟩ (by omega))
          unfold entV at HB2
          go_wp2_with fail
          refine HB2.out.mono ?_
          rintro e w8 ⟨vd, vp, rfl, hs⟩
          have hs4 : HsN w B _ H [(q, A1), (r, (applyM C2 ⟨⟨6, ⟨#[]⟩, ⟨#[]⟩, [], N, 0⟩, 0, []⟩ E.e.zx).1)] (1 + 8000008 * i + 2000002 + 2000002 + 2000002 + 2000002) w8 := hs
          have htw := HTW2.out.one (x := ⟨6, ⟨#[]⟩, ⟨#[]⟩, [], N, 0⟩) (.inr rfl) hn1 hn2 0 E.e.zx HZ1.out
          have HS4 := Lib.hid hs4
          have HTW3 := Lib.hid htw
          clear hs hs4 htw HB2 x0 x1 x2 x3 x4 x5 x6 x7 x8 x9 x10 k6
          go_wp2_with fail
          exact ⟨sel_next HS4.out HTW3.out (by omega) hlt (by go_num), by show H.length - ((i : Int) + 1).toNat < H.length - (i : Int).toNat; omega⟩
        · clear x0 x1 x2 x3 x4 x5 x6 x7 x8 x9 x10
          go_wp2_with fail
          exact ⟨sel_next HS3.out HTW2.out (by omega) hlt (by go_num), by show H.length - ((i : Int) + 1).toNat < H.length - (i : Int).toNat; omega⟩
    · have htw := HTW.out
      go_wp2_with fail
      go_loopw [12] (fun nv wr => SeM w B (.slice av H.length cv) H q r nv wr) (fun nv _ => 109 - (intOf nv).toNat)
      case atStart => exact ⟨100, A, C, rfl, by omega, by omega, htw, HS.out.to (by omega)⟩
      case round =>
        obtain ⟨m, A, C, rfl, hm0, hm1, htw, hs⟩ := hrel.ex
        have HS := Lib.hid hs
        have HTW := Lib.hid htw
        clear hrel hs htw
        by_cases hlm : m < 109
        · have HZ := Lib.hid (zxid_any (HS.out.t (q, A) (by simp)))
          have HB1 := Lib.hid (hs_bare HS.out (i := 1) (q := r) (M := C) rfl ⟨6, ⟨#[]⟩, ⟨#[]⟩, [], m, 0⟩ (by show (0 : Nat) ≤ 100; decide) rfl (by show _ ≤ (m : Int) ∧ (m : Int) ≤ _; omega) ⟨A.z, 0, 0⟩ (by omega))
          unfold entV at HB1
          go_wp2_with fail
          refine HZ.out.mono ?_
          rintro e w9 ⟨rfl, rfl⟩
          go_wp2_with fail
          refine HB1.out.mono ?_
          rintro e w10 ⟨vc, vo, rfl, hs⟩
          have hs3 : HsN w B _ H [(q, A), (r, (applyM C ⟨⟨6, ⟨#[]⟩, ⟨#[]⟩, [], m, 0⟩, 0, []⟩ A.z).1)] (2000000000 + 2000002 * m + 2000002) w10 := hs
          have htw := HTW.out.close (x := ⟨6, ⟨#[]⟩, ⟨#[]⟩, [], m, 0⟩) rfl rfl (by omega) (by omega) 0 A.z rfl
          have HS3 := Lib.hid hs3
          have HTW2 := Lib.hid htw
          clear hs hs3 htw HB1 HZ
          go_wp2_with fail
          exact ⟨⟨m + 1, A, _, by go_num, by omega, by omega, HTW2.out, HS3.out.to (by omega)⟩, by show 109 - ((m : Int) + 1).toNat < 109 - (m : Int).toNat; omega⟩
        · have hm9 : m = 109 := by omega
          have htm : Twin 109 A C := by have h := HTW.out; rw [hm9] at h; exact h
          have hac : A = C := Twin.all htm
          have HSM := Lib.hid (same_true (HS.out.t (q, A) (by simp)) (HS.out.t (r, C) (by simp)) (by omega) (by omega) (by rw [hac]) (by rw [hac]) (by rw [hac]))
          clear hm9 hac htm
          go_wp2_with fail
          refine HSM.out.mono ?_
          rintro e w11 ⟨rfl, hk9⟩
          have HK9 := Lib.hid (HS.out.kept.trans hk9)
          clear hk9
          go_wp2_with fail
          go_ret
          exact ⟨rfl, HK9.out⟩
end Go.Proofs.Ytjlffmkiiphfcaa

namespace Go.Proofs
open Go.Shelf
def Try.keysT_ren : Go.Shelf.Ren := ⟨fun | 7 => 53 | 10 => 77 | n => n, fun | 23 => 89 | 26 => 9 | 3 => 99 | 28 => 114 | 0 => 0 | 27 => 113 | 33 => 147 | 4 => 4 | n => n, fun | n => n⟩
theorem Try.keysT : Go.Proofs.SlLaysZ.n7 Try.prog Try.keysT_ren := {
  mixed := by kernel_rfl
  f7 := ⟨Try.f53.name, by decide, Try.func53.trans (congrArg some (by kernel_rfl))⟩
  f10 := ⟨Try.f77.name, by decide, Try.func77.trans (congrArg some (by kernel_rfl))⟩
  t0 := Try.underlying0
  a0 := Try.isAgg0
  z0 := Try.sizeOf0
  v0 := Try.zeroValue0
  t4 := Try.underlying4
  a4 := Try.isAgg4
  z4 := Try.sizeOf4
  v4 := Try.zeroValue4
  t23 := Try.underlying89
  a23 := Try.isAgg89
  z23 := Try.sizeOf89
  v23 := Try.zeroValue89
  t26 := Try.underlying9
  a26 := Try.isAgg9
  z26 := Try.sizeOf9
  v26 := Try.zeroValue9
  t27 := Try.underlying113
  a27 := Try.isAgg113
  z27 := Try.sizeOf113
  v27 := Try.zeroValue113
  t28 := Try.underlying114
  a28 := Try.isAgg114
  z28 := Try.sizeOf114
  v28 := Try.zeroValue114
  t33 := Try.underlying147
  a33 := Try.isAgg147
  z33 := Try.sizeOf147
  v33 := Try.zeroValue147 }
def Try.sortedT_ren : Go.Shelf.Ren := ⟨fun | 6 => 52 | 8 => 76 | 9 => 48 | 11 => 107 | 13 => 74 | 12 => 73 | 23 => 105 | 24 => 106 | 14 => 96 | 15 => 97 | 16 => 98 | 17 => 99 | 18 => 100 | 19 => 101 | 20 => 102 | 21 => 103 | 22 => 104 | 25 => 119 | 26 => 120 | 27 => 121 | 28 => 122 | 29 => 123 | 30 => 124 | 31 => 140 | n => n, fun | 26 => 9 | 28 => 114 | 24 => 43 | 0 => 0 | 3 => 3 | 37 => 146 | 48 => 165 | 50 => 167 | 4 => 4 | 40 => 158 | 39 => 157 | 45 => 151 | 5 => 5 | 9 => 9 | 51 => 178 | 55 => 182 | 57 => 191 | 58 => 192 | 33 => 147 | n => n, fun | n => n⟩
theorem Try.sortedT : Go.Proofs.SlLaysZ.n6 Try.prog Try.sortedT_ren := {
  mixed := by kernel_rfl
  f6 := ⟨Try.f52.name, by decide, Try.func52.trans (congrArg some (by kernel_rfl))⟩
  f8 := ⟨Try.f76.name, by decide, Try.func76.trans (congrArg some (by kernel_rfl))⟩
  f11 := ⟨Try.f107.name, by decide, Try.func107.trans (congrArg some (by kernel_rfl))⟩
  t0 := Try.underlying0
  a0 := Try.isAgg0
  z0 := Try.sizeOf0
  v0 := Try.zeroValue0
  t24 := Try.underlying43
  a24 := Try.isAgg43
  z24 := Try.sizeOf43
  v24 := Try.zeroValue43
  t26 := Try.underlying9
  a26 := Try.isAgg9
  z26 := Try.sizeOf9
  v26 := Try.zeroValue9
  t28 := Try.underlying114
  a28 := Try.isAgg114
  z28 := Try.sizeOf114
  v28 := Try.zeroValue114
  i26 := by kernel_rfl }
def Try.sortT_ren : Go.Shelf.Ren := ⟨fun | 6 => 48 | 8 => 74 | 9 => 73 | 19 => 105 | 20 => 106 | 21 => 96 | 22 => 97 | 23 => 98 | 24 => 99 | 25 => 100 | 26 => 101 | 27 => 102 | 28 => 103 | 29 => 104 | 36 => 119 | 31 => 120 | 32 => 121 | 37 => 122 | 38 => 123 | 39 => 124 | 41 => 140 | n => n, fun | 27 => 43 | 29 => 9 | 3 => 3 | 32 => 146 | 26 => 43 | 0 => 0 | 44 => 165 | 46 => 167 | 4 => 4 | 36 => 158 | 35 => 157 | 41 => 151 | 5 => 5 | 9 => 9 | 53 => 178 | 57 => 182 | 63 => 191 | 64 => 192 | n => n, fun | n => n⟩
theorem Try.sortT : Go.Proofs.SlLaysM.n6 Try.prog Try.sortT_ren := {
  mixed := by kernel_rfl
  f6 := ⟨Try.f48.name, by decide, Try.func48.trans (congrArg some (by kernel_rfl))⟩
  f8 := Try.func74.trans (congrArg some (by kernel_rfl))
  f9 := ⟨Try.f73.name, by decide, Try.func73.trans (congrArg some (by kernel_rfl))⟩
  f19 := Try.func105.trans (congrArg some (by kernel_rfl))
  f20 := Try.func106.trans (congrArg some (by kernel_rfl))
  f21 := ⟨Try.f96.name, by decide, Try.func96.trans (congrArg some (by kernel_rfl))⟩
  f22 := ⟨Try.f97.name, by decide, Try.func97.trans (congrArg some (by kernel_rfl))⟩
  f23 := ⟨Try.f98.name, by decide, Try.func98.trans (congrArg some (by kernel_rfl))⟩
  f24 := ⟨Try.f99.name, by decide, Try.func99.trans (congrArg some (by kernel_rfl))⟩
  f25 := ⟨Try.f100.name, by decide, Try.func100.trans (congrArg some (by kernel_rfl))⟩
  f26 := ⟨Try.f101.name, by decide, Try.func101.trans (congrArg some (by kernel_rfl))⟩
  f27 := ⟨Try.f102.name, by decide, Try.func102.trans (congrArg some (by kernel_rfl))⟩
  f28 := ⟨Try.f103.name, by decide, Try.func103.trans (congrArg some (by kernel_rfl))⟩
  f29 := ⟨Try.f104.name, by decide, Try.func104.trans (congrArg some (by kernel_rfl))⟩
  f31 := Try.func120.trans (congrArg some (by kernel_rfl))
  f32 := Try.func121.trans (congrArg some (by kernel_rfl))
  f36 := ⟨Try.f119.name, by decide, Try.func119.trans (congrArg some (by kernel_rfl))⟩
  f37 := ⟨Try.f122.name, by decide, Try.func122.trans (congrArg some (by kernel_rfl))⟩
  f38 := ⟨Try.f123.name, by decide, Try.func123.trans (congrArg some (by kernel_rfl))⟩
  f39 := ⟨Try.f124.name, by decide, Try.func124.trans (congrArg some (by kernel_rfl))⟩
  f41 := ⟨Try.f140.name, by decide, Try.func140.trans (congrArg some (by kernel_rfl))⟩
  t0 := Try.underlying0
  a0 := Try.isAgg0
  z0 := Try.sizeOf0
  v0 := Try.zeroValue0
  t3 := Try.underlying3
  a3 := Try.isAgg3
  z3 := Try.sizeOf3
  v3 := Try.zeroValue3
  t4 := Try.underlying4
  a4 := Try.isAgg4
  z4 := Try.sizeOf4
  v4 := Try.zeroValue4
  t5 := Try.underlying5
  a5 := Try.isAgg5
  z5 := Try.sizeOf5
  v5 := Try.zeroValue5
  t9 := Try.underlying9
  a9 := Try.isAgg9
  z9 := Try.sizeOf9
  v9 := Try.zeroValue9
  t26 := Try.underlying43
  a26 := Try.isAgg43
  z26 := Try.sizeOf43
  v26 := Try.zeroValue43
  t27 := Try.underlying43
  a27 := Try.isAgg43
  z27 := Try.sizeOf43
  v27 := Try.zeroValue43
  t29 := Try.underlying9
  a29 := Try.isAgg9
  z29 := Try.sizeOf9
  v29 := Try.zeroValue9
  t32 := Try.underlying146
  a32 := Try.isAgg146
  z32 := Try.sizeOf146
  v32 := Try.zeroValue146
  t35 := Try.underlying157
  a35 := Try.isAgg157
  z35 := Try.sizeOf157
  v35 := Try.zeroValue157
  t36 := Try.underlying158
  a36 := Try.isAgg158
  z36 := Try.sizeOf158
  v36 := Try.zeroValue158
  t41 := Try.underlying151
  a41 := Try.isAgg151
  z41 := Try.sizeOf151
  v41 := Try.zeroValue151
  t44 := Try.underlying165
  a44 := Try.isAgg165
  z44 := Try.sizeOf165
  v44 := Try.zeroValue165
  t46 := Try.underlying167
  a46 := Try.isAgg167
  z46 := Try.sizeOf167
  v46 := Try.zeroValue167
  t53 := Try.underlying178
  a53 := Try.isAgg178
  z53 := Try.sizeOf178
  v53 := Try.zeroValue178
  t57 := Try.underlying182
  a57 := Try.isAgg182
  z57 := Try.sizeOf182
  v57 := Try.zeroValue182
  t63 := Try.underlying191
  a63 := Try.isAgg191
  z63 := Try.sizeOf191
  v63 := Try.zeroValue191
  t64 := Try.underlying192
  a64 := Try.isAgg192
  z64 := Try.sizeOf192
  v64 := Try.zeroValue192 }
end Go.Proofs
