/- AclMays holds: for any rows, any sum of permissions and any people the program's May and the document's tell one thing, and what is handed in stays as it is (U2). No condition. -/
import Derived.Test.YtpjanfclobpkjaaDoorCards
import Derived.Test.YtpjanfclobpkjaaDoorTie
import Derived.Test.YtpjanfclobpkjaaDoorUw
import Derived.WalkKit
import Derived.ProofKit
import Derived.OpenShut
import Derived.ShutString
import Derived.ChangeOld
import Derived.Below
import Derived.SizedLaws
import Derived.Deep.DeepHandedRow
import Derived.Lib.LaidTab
import Derived.Stop.LaidErr
import Derived.Laws.AppendOwn
import Derived.Maps.AppendAt
namespace Go.Proofs.YtpjanfclobpkjaaDoor.aclMays
open Go.ChangeShapes Go.WideShapes Go.ChangeAt Go.RowKit
open Go.ChangeMaps (open_string shut_string)
set_option linter.unusedVariables false
set_option linter.unusedSimpArgs false

theorem own_rows {w : World} {base : Nat} {v : Value} {l : List Row} {x : Row} (h : w.ownsRow base 27 2 v (l ++ [x]).length (rowC (l ++ [x]))) (hf : ∀ r ∈ l, r.Fits) :
    ∃ g cap, v = .slice (some ⟨g, 0, none⟩) (l.length + 1) cap ∧ base ≤ g ∧ g < w.heap.size ∧ l.length + 1 ≤ cap ∧ cap ≤ maxLen ∧ RowsAt w (.slice (some ⟨g, 0, none⟩) l.length cap) l ∧ w.cell? ⟨g, l.length * 2, none⟩ = some (.int .i64 x.perms) := by
  have hcell : ∀ g, v.ownBlock = some g → ∀ j u, (rowC (l ++ [x]))[j]? = some u → w.cell? ((⟨g, 0, none⟩ : Addr).add j) = some u := fun g hg => World.ownsRow.cells h (g := g) hg
  have hlt := World.ownsRow.lt h
  rcases h.2 with ⟨rfl, h0⟩ | ⟨g, cap, cur, rfl, hb, hh, hnc, hcm, hcs, htake⟩
  · simp at h0
  · have hnc' : l.length + 1 ≤ cap := by simpa using hnc
    refine ⟨g, cap, by simp, hb, (hlt g rfl).2, hnc', hcm, ⟨⟨_, _, rfl, fun i hi => ⟨g, 0, rfl, (hlt g rfl).2, ?_⟩⟩, hf, by unfold maxLen at hcm; omega⟩, ?_⟩
    · obtain ⟨r0, r1⟩ := rowC_get (l ++ [x]) i (by simp; omega)
      rw [List.getElem_append_left hi] at r0 r1
      have h0 := hcell g rfl _ _ r0
      have h1 := hcell g rfl _ _ r1
      rw [Addr.add_mid] at h0 h1
      exact ⟨h0, by rw [Nat.add_assoc]; exact h1⟩
    · obtain ⟨r0, _⟩ := rowC_get (l ++ [x]) l.length (by simp)
      rw [List.getElem_append_right (by omega)] at r0
      have h0 := hcell g rfl _ _ r0
      rw [Addr.add_mid, Nat.zero_add] at h0
      simpa using h0
theorem own_ids {w : World} {base : Nat} {v : Value} {l : List ByteArray} {x : ByteArray} (h : w.ownsRow base 9 1 v (l ++ [x]).length (idC (l ++ [x]))) :
    ∃ g cap, v = .slice (some ⟨g, 0, none⟩) (l.length + 1) cap ∧ base ≤ g ∧ g < w.heap.size ∧ l.length + 1 ≤ cap ∧ cap ≤ maxLen ∧ IdsAt w (.slice (some ⟨g, 0, none⟩) l.length cap) l ∧ w.cell? ⟨g, l.length, none⟩ = some (.string x) := by
  have hcell : ∀ g, v.ownBlock = some g → ∀ j u, (idC (l ++ [x]))[j]? = some u → w.cell? ((⟨g, 0, none⟩ : Addr).add j) = some u := fun g hg => World.ownsRow.cells h (g := g) hg
  have hlt := World.ownsRow.lt h
  rcases h.2 with ⟨rfl, h0⟩ | ⟨g, cap, cur, rfl, hb, hh, hnc, hcm, hcs, htake⟩
  · simp at h0
  · have hnc' : l.length + 1 ≤ cap := by simpa using hnc
    refine ⟨g, cap, by simp, hb, (hlt g rfl).2, hnc', hcm, ⟨⟨_, _, rfl, fun i hi => ⟨g, 0, rfl, (hlt g rfl).2, ?_⟩⟩, by unfold maxLen at hcm; omega⟩, ?_⟩
    · have h0 := hcell g rfl i (.string l[i]) (by simp [idC, List.getElem?_append_left, hi])
      rwa [Addr.add_mid] at h0
    · have h0 := hcell g rfl l.length (.string x) (by simp [idC])
      rwa [Addr.add_mid, Nat.zero_add] at h0
theorem one_id_at (w : World) (a : ByteArray) : IdsAt (w.alloc (.cells #[.string a] 9)) (.slice (some ⟨w.heap.size, 0, none⟩) 1 1) [a] := by
  refine ⟨⟨_, _, rfl, fun i hi => ⟨w.heap.size, 0, rfl, by simp, ?_⟩⟩, by simp⟩
  have hi : i < 1 := hi
  obtain rfl : i = 0 := by omega
  rw [cell_of_row _ w.heap.size (0 + 0) _ _ (0, 0) (heap_alloc_new w _)]; rfl
theorem row_alloc {w : World} {base : Nat} {e : TypeId} {size n : Nat} {v : Value} {xs : List Value} (h : w.ownsRow base e size v n xs) (o : Obj) : (w.alloc o).ownsRow base e size v n xs := by
  refine ⟨h.1, h.2.imp id ?_⟩
  rintro ⟨g, cap, cur, hv, hb, hh, r⟩
  exact ⟨g, cap, cur, hv, hb, by rw [Below.heap_alloc _ _ _ (Array.getElem?_eq_some_iff.1 hh).1]; exact hh, r⟩
theorem row_below {w w' : World} {base : Nat} {e : TypeId} {size n : Nat} {v : Value} {xs : List Value} (h : w.ownsRow base e size v n xs) (hb : Below w.heap.size w w') : w'.ownsRow base e size v n xs := by
  refine ⟨h.1, h.2.imp id ?_⟩
  rintro ⟨g, cap, cur, hv, hb2, hh, r⟩
  exact ⟨g, cap, cur, hv, hb2, by rw [hb.block g (Array.getElem?_eq_some_iff.1 hh).1]; exact hh, r⟩
def spareS : ByteArray := ⟨#[115, 112, 97, 114, 101]⟩

structure CmRel (w : World) (n : Nat) (iv sv : Value) (wr : World) : Prop where
  ex : ∃ i m : Nat, i ≤ n ∧ iv = .int .i64 i ∧ sv = .bool true ∧ wr = w.drewN m

set_option maxHeartbeats 4000000 in
theorem walk (v0 v2 : Value) (l : List Row) (p : Int) (ids : List ByteArray) (w : World) (h : RowsAt w v0 l) (hi : IdsAt w v2 ids) (z0 : l.length * 24 ≤ 140737488351232) (z2 : ids.length * 16 ≤ 140737488351232) (p1 : -9223372036854775808 ≤ p) (p2 : p ≤ 9223372036854775807) (tab : TabOk w) :
    Calls Tryd.prog 4 #[v0, .int .i64 p, v2] w fun e w' => e = .returned (.bool true) ∧ Below w.heap.size w w' := by
  have H := Lib.hid h
  have HI := Lib.hid hi
  have HF := Lib.hid h.fits
  obtain ⟨a, cap, rfl, _⟩ := h.ex
  obtain ⟨ia, icap, rfl, _⟩ := hi.ex
  clear h hi
  obtain ⟨x, hx⟩ : ∃ x, mayB l p ids = x := ⟨_, rfl⟩
  have HX := Lib.hid hx; clear hx
  go_enter Tryd.func4, Tryd.ntmps4
  go_wp2_with fail
  refine (awake_any _ tab).mono ?_
  rintro e w1 ⟨rfl, hb1⟩
  have H1 := Lib.hid (H.out.below hb1)
  have HI1 := Lib.hid (HI.out.below hb1)
  have HB1 := Lib.hid hb1; clear hb1
  go_wp2_with (first
    | (at_builtin; refine wpList_app_rows _ rfl _ _ rfl (base := w1.heap.size) (v := .slice none 0 0) (l := []) (m := l) rfl rfl (World.ownsRow_nil w1 _ _ 2) H1.out (by simp; omega) (Nat.le_refl _) (fun vA w2 hownA hgA => ?_)
       have HB2 : Hid (Below w1.heap.size w1 w2) := Lib.hid (grown_below (World.ownsRow_nil w1 w1.heap.size 27 2) hgA (Nat.le_refl _))
       have HOA : Hid (w2.ownsRow w1.heap.size 27 2 vA l.length (rowC l)) := Lib.hid hownA
       have HONE := Lib.hid (one_row_at w2 77 ByteArray.empty (by decide) (by decide) (by decide))
       have HOA3 := Lib.hid (row_alloc HOA.out (.cells #[.int .i64 77, .string ByteArray.empty] 27))
       have HB3 : Hid (Below w1.heap.size w1 (w2.alloc (.cells #[.int .i64 77, .string ByteArray.empty] 27))) := Lib.hid (HB2.out.alloc HB2.out.size _)
       clear hownA hgA HB2 HOA)
    | (at_builtin; refine wpList_app_rows _ rfl _ _ rfl (base := w1.heap.size) (v := vA) (l := l) (m := [⟨77, ByteArray.empty⟩]) rfl rfl HOA3.out HONE.out (by simp; omega) HB3.out.size (fun vB w4 hownB hgB => ?_)
       have HB4 : Hid (Below w1.heap.size w1 w4) := Lib.hid (HB3.out.trans (grown_below HOA3.out hgB HB3.out.size))
       obtain ⟨g, gcap, hvB, hg0, hg1, hg2, hg3, hrows, hlast⟩ := own_rows hownB HF.out
       subst hvB
       have HRB := Lib.hid hrows
       have HLB := Lib.hid hlast
       have hg4 : gcap ≤ 9223372036854775807 := by unfold maxLen at hg3; omega
       clear hownB hgB hrows hlast hg3 HOA3 HONE HB3)
    | (at_builtin; refine wpList_app_ids _ rfl _ _ rfl (base := w4.heap.size) (v := .slice none 0 0) (l := []) (m := ids) rfl rfl (World.ownsRow_nil w4 _ _ 1) (HI1.out.below HB4.out) (by simp; omega) (Nat.le_refl _) (fun vC w5 hownC hgC => ?_)
       have HB5 : Hid (Below w4.heap.size w4 w5) := Lib.hid (grown_below (World.ownsRow_nil w4 w4.heap.size 9 1) hgC (Nat.le_refl _))
       have HOC : Hid (w5.ownsRow w4.heap.size 9 1 vC ids.length (idC ids)) := Lib.hid hownC
       have HSP := Lib.hid (one_id_at w5 spareS)
       have HOC6 := Lib.hid (row_alloc HOC.out (.cells #[.string spareS] 9))
       have HB6 : Hid (Below w4.heap.size w4 (w5.alloc (.cells #[.string spareS] 9))) := Lib.hid (HB5.out.alloc HB5.out.size _)
       clear hownC hgC HB5 HOC)
    | (at_builtin; refine wpList_app_ids _ rfl _ _ rfl (base := w4.heap.size) (v := vC) (l := ids) (m := [spareS]) rfl rfl HOC6.out HSP.out (by simp; omega) HB6.out.size (fun vD w7 hownD hgD => ?_)
       have HB7 : Hid (Below w4.heap.size w4 w7) := Lib.hid (HB6.out.trans (grown_below HOC6.out hgD HB6.out.size))
       obtain ⟨k, kcap, hvD, hk0, hk1, hk2, hk3, hids, hspare⟩ := own_ids hownD
       subst hvD
       have HID := Lib.hid hids
       have HSS := Lib.hid hspare
       have hk4 : kcap ≤ 9223372036854775807 := by unfold maxLen at hk3; omega
       clear hownD hgD hids hspare hk3 HOC6 HSP HB6))
  have HRB7 := Lib.hid (HRB.out.below HB7.out)
  have hgl : w7.cell? ⟨g, l.length * 2, none⟩ = some (.int .i64 77) := by rw [HB7.out.cell (p := ⟨g, _, none⟩) hg1]; exact HLB.out
  have HL7 := Lib.hid hgl
  clear hgl
  have HB0 : Hid (Below w.heap.size w w7) := Lib.hid ((HB1.out.trans (HB4.out.mono HB1.out.size)).trans (HB7.out.mono (by have := HB1.out.size; have := HB4.out.size; omega)))
  have hg7 : g < w7.heap.size := by have := HB7.out.size; omega
  go_wp2_with fail
  refine (may_any HRB7.out HID.out p p1 p2 HX.out).mono ?_
  rintro e w8 ⟨rfl, hb8⟩
  have HRB8 := Lib.hid (HRB7.out.below hb8)
  have HID8 := Lib.hid (HID.out.below hb8)
  have hlast : w8.cell? ⟨g, l.length * 2, none⟩ = some (.int .i64 77) := by rw [hb8.cell (p := ⟨g, _, none⟩) hg7]; exact HL7.out
  have hspare : w8.cell? ⟨k, ids.length, none⟩ = some (.string spareS) := by rw [hb8.cell (p := ⟨k, _, none⟩) hk1]; exact HSS.out
  have HB8 : Hid (Below w.heap.size w w8) := Lib.hid (HB0.out.trans (hb8.mono HB0.out.size))
  have H8 := Lib.hid (H.out.below HB8.out)
  have HI8 := Lib.hid (HI.out.below HB8.out)
  clear hb8
  unfold spareS at hspare
  go_wp2_with fail
  clear hlast hspare
  go_loopw [12, 11] (fun iv sv wr => CmRel w8 l.length iv sv wr) (fun iv _ _ => l.length - (intOf iv).toNat)
  case atStart => exact ⟨0, 0, Nat.zero_le _, rfl, rfl, rfl⟩
  case round =>
    obtain ⟨i, m, hi, rfl, rfl, rfl⟩ := hrel.ex
    clear hrel
    by_cases hlt : i < l.length
    · obtain ⟨r, hr⟩ : ∃ r, l[i] = r := ⟨_, rfl⟩
      obtain ⟨b, off, rfl, hb, hc1, hc2⟩ := H8.out.at_ hlt hr
      obtain ⟨g', off', hgg, hg', hd1, hd2⟩ := HRB8.out.at_ hlt hr
      injection hgg with hgg
      injection hgg with e1 e2 _
      subst e1 e2
      simp only [Nat.zero_add] at hd1 hd2
      clear hr
      go_wp2_with fail
      go_quiet (fail)
      go_wp2_with fail
      go_roundw
      case rel => exact ⟨i + 1, m + nq, by omega, by go_num, rfl, rfl⟩
      case measure => simp [intOf]; omega
    · go_wp2_with fail
      go_loopw [13, 11] (fun iv sv wr => CmRel w8 ids.length iv sv wr) (fun iv _ _ => ids.length - (intOf iv).toNat)
      case atStart => exact ⟨0, m, Nat.zero_le _, rfl, rfl, rfl⟩
      case round =>
        obtain ⟨j, n, hj, rfl, rfl, rfl⟩ := hrel.ex
        clear hrel
        by_cases hjlt : j < ids.length
        · obtain ⟨s, hs⟩ : ∃ s, ids[j] = s := ⟨_, rfl⟩
          obtain ⟨b, off, rfl, hb, hc1⟩ := HI8.out.at_ hjlt hs
          obtain ⟨g', off', hgg, hg', hd1⟩ := HID8.out.at_ hjlt hs
          injection hgg with hgg
          injection hgg with e1 e2 _
          subst e1 e2
          simp only [Nat.zero_add] at hd1
          clear hs
          go_wp2_with fail
          go_quiet (fail)
          go_wp2_with fail
          go_roundw
          case rel => exact ⟨j + 1, n + nq, by omega, by go_num, rfl, rfl⟩
          case measure => simp [intOf]; omega
        · have HR9 := Lib.hid (H8.out.below (below_drewN w8 n))
          have HI9 := Lib.hid (HI8.out.below (below_drewN w8 n))
          go_wp2_with (go_at_call 12; refine (refMay_any HR9.out HI9.out p p1 p2 HX.out).mono ?_; rintro e w' ⟨rfl, q, rfl⟩)
          go_ret
          exact ⟨ret_bool (by simp), HB8.out.trans ((below_drewN w8 _).mono HB8.out.size)⟩

theorem own : ownKnob Tryd.prog.godebug = none := by kernel_rfl
theorem laidOut : laidOutB Tryd.prog = true := by kernel_rfl

theorem table {W : World} (h : laidMetH Tryd.prog Rows.aclMaysRow.laid W) : TabOk W := by
  have h1 : laidMet Tryd.prog Rows.aclMaysRow.laid W := h
  exact Lib.tabIs_of_head (zs := tab64) (g := 3) (t := 86) (e := 5) (n := 64) (by kernel_rfl) (by kernel_rfl) (by kernel_rfl) (by kernel_rfl) (by kernel_rfl) (by kernel_rfl) h1.tail

theorem contract (H : Type) (enc : TypeId × Value → H) (W : World) (base : Nat) (args : Array Value) (ds gs : List (DataW H)) (before : List MemPlace)
    (hval0 : ∀ (j : Nat) t v, Tryd.f4.params[j]? = some t → args[j]? = some v → Value.okWide Tryd.prog W .any base t v)
    (hW : DataW.Whole enc Tryd.prog Tryd.f4.params.toList Rows.aclMaysSpec.vars false W args.toList ds gs before) (hL : laidMetH Tryd.prog Rows.aclMaysRow.laid W)
    (hsz0 : (DataW.weightsEach Tryd.prog (Tryd.f4.params.toList ++ Rows.aclMaysSpec.plain.varTypes Tryd.prog) (ds ++ gs)).all (· ≤ reachBytes) = true) :
    Calls Tryd.prog 4 args W fun e W' => ∃ v, e = .returned v ∧ Rows.aclMaysSpec.post enc Tryd.prog Tryd.f4 false true false false W args v W' := by
  have hval : ∀ (j : Nat) t v, Tryd.f4.params[j]? = some t → args[j]? = some v → Value.okWide Tryd.prog W .any base t v := hval0
  have hW' := hW
  obtain ⟨p, q, hA0, hV, rfl, hfz, hnd⟩ := hW
  have hA : DataW.TrodAll enc Tryd.prog W 0 (fun _ => true) true Tryd.f4.params.toList args.toList ds p := hA0
  have hsz : (DataW.weightsEach Tryd.prog (Tryd.f4.params.toList ++ Rows.aclMaysSpec.plain.varTypes Tryd.prog) (ds ++ gs)).all (· ≤ reachBytes) = true := hsz0
  clear hsz0
  rw [Tryd.params4] at hA hval hsz
  obtain ⟨v0, vs0, d0, ds0, p0, q0, hargs, rfl, rfl, h0, r0⟩ := trodAll_cons hA
  obtain ⟨v1, vs1, d1, ds1, p1, q1, rfl, rfl, rfl, h1, r1⟩ := trodAll_cons r0
  obtain ⟨v2, vs2, d2, ds2, p2, q2, rfl, rfl, rfl, h2, r2⟩ := trodAll_cons r1
  obtain ⟨rfl, rfl, rfl⟩ := trodAll_nil r2
  obtain rfl : args = #[v0, v1, v2] := by cases args; simp_all
  obtain ⟨rfl, rfl⟩ := trodVars_none hV
  have k0 := h0
  have lt0 : ∀ x ∈ p0, x.block < W.heap.size := by obtain ⟨m, hm⟩ := k0; exact DataW.trod_lt m _ _ _ hm
  obtain ⟨a0, len0, cap0, rfl⟩ := okWide_slice Tryd.underlying22 (hval 0 22 v0 rfl rfl)
  obtain ⟨l0, hl0, R0, s0⟩ : ∃ l : List Row, l.length = len0 ∧ RowsAt W (.slice a0 len0 cap0) l ∧ (len0 = 0 ∨ ∃ el sp, d0 = .slice el sp ∧ el.length = len0) := by obtain ⟨fuel, hf⟩ := h0; exact rows_of (fun _ => rfl) hf
  have k1 := h1
  have lt1 : ∀ x ∈ p1, x.block < W.heap.size := by obtain ⟨m, hm⟩ := k1; exact DataW.trod_lt m _ _ _ hm
  obtain ⟨a1, e1, f1, g1, w1⟩ := open_int Tryd.underlying3 (hval 1 3 v1 rfl rfl) h1
  subst e1
  have b1 : -9223372036854775808 ≤ a1 ∧ a1 ≤ 9223372036854775807 := by have w := w1; simp [Lit.wf, IntKind.min, IntKind.max, IntKind.bits, IntKind.signed] at w; omega
  have k2 := h2
  have lt2 : ∀ x ∈ p2, x.block < W.heap.size := by obtain ⟨m, hm⟩ := k2; exact DataW.trod_lt m _ _ _ hm
  obtain ⟨a2, len2, cap2, rfl⟩ := okWide_slice Tryd.underlying25 (hval 2 25 v2 rfl rfl)
  obtain ⟨l2, hl2, R2, y2, s2⟩ : ∃ l : List ByteArray, l.length = len2 ∧ IdsAt W (.slice a2 len2 cap2) l ∧ (∀ s ∈ l, s.size ≤ maxLen) ∧ (len2 = 0 ∨ ∃ el sp, d2 = .slice el sp ∧ el.length = len2) := by obtain ⟨fuel, hf⟩ := h2; exact ids_of (fun _ => rfl) hf
  clear hA0 hval0
  have z0 : l0.length * 24 ≤ 140737488351232 := by
    rw [hl0]
    rcases s0 with s | ⟨el, sp, s, hs⟩
    · omega
    · have := sized_slice hsz (j := 0) (t := 22) (e := 27) (elems := el) (spare := sp) rfl (by rw [s]; rfl) Tryd.underlying22
      rw [show Tryd.prog.bytesOf 27 = 24 by kernel_rfl] at this
      have e : reachBytes = 140737488351232 := rfl
      omega
  have z2 : l2.length * 16 ≤ 140737488351232 := by
    rw [hl2]
    rcases s2 with s | ⟨el, sp, s, hs⟩
    · omega
    · have := sized_slice hsz (j := 2) (t := 25) (e := 9) (elems := el) (spare := sp) rfl (by rw [s]; rfl) Tryd.underlying25
      rw [show Tryd.prog.bytesOf 9 = 16 by kernel_rfl] at this
      have e : reachBytes = 140737488351232 := rfl
      omega
  have tab := table hL
  refine (walk _ _ l0 a1 l2 W R0 R2 z0 z2 b1.1 b1.2 tab).mono fun e W' ⟨he, bel⟩ => ?_
  subst he
  exact ⟨_, rfl, _, _, _, [], _, [], hW', trodAll_mk1 (shut_bool Tryd.underlying4 _), (trodAll_cons_mk (Below.trod laidOut (by kernel_rfl) (of_decide_eq_true (by kernel_rfl)) k0 bel lt0) (trodAll_cons_mk (Below.trod laidOut (by kernel_rfl) (of_decide_eq_true (by kernel_rfl)) k1 bel lt1) (trodAll_cons_mk (Below.trod laidOut (by kernel_rfl) (of_decide_eq_true (by kernel_rfl)) k2 bel lt2) trodAll_mk0))), rfl, bel.frame _, fun h => by cases h⟩

/-- the cells that a listed table has -/
def tabCells {H : Type} : DataW H → Array Value
  | .agg parts => (parts.map fun d => match d with | .lit (.int k z) => Value.int k z | _ => undef).toArray
  | _ => #[]
def lay (W : World) (g : Nat) (cs : Array Value) : World := { W with heap := W.heap.modify g fun
      | .cells _ t frozen => .cells cs t frozen
      | o => o }
noncomputable def laidWorld (os : Os) : World :=
  lay (lay (lay (World.holding Tryd.prog os ⟨#[], #[], []⟩) 0 (tabCells (H := Unit) Rows.laid_internal_strconv_uint64pow10)) 2 (tabCells (H := Unit) Rows.laid_math_bits_deBruijn32tab)) 3 (tabCells (H := Unit) Rows.laid_math_bits_deBruijn64tab)
theorem laid_met (os : Os) : laidMet Tryd.prog Rows.aclMaysRow.laid ((laidWorld os).forCall (fun _ _ => 0) ⟨#[], #[.slice none 0 0, .int .i64 0, .slice none 0 0], []⟩).memory :=
  laidMet_of_run' 8 (by kernel_rfl) (by kernel_rfl)
theorem reads (os : Os) {H : Type} (enc : TypeId × Value → H) : ∃ places, DataW.whole enc Tryd.prog ((laidWorld os).forCall (fun _ _ => 0) ⟨#[], #[.slice none 0 0, .int .i64 0, .slice none 0 0], []⟩).memory Tryd.f4.params.toList Rows.aclMaysSpec.vars false (#[.slice none 0 0, .int .i64 0, .slice none 0 0] : Array Value).toList 8 = some ([.nil, .lit (.int .i64 0), .nil], [], places) :=
  ⟨[], by kernel_rfl⟩

set_option maxRecDepth 100000 in
theorem lifted (os : Os) (started : os.Started) (H : Type) (enc : TypeId × Value → H) (F : Stop.Interp) :
    ReturnsInHanded {} Tryd.checked os 4 .any ((OpenSpec.ofChange Rows.aclMaysSpec).preRow enc Tryd.prog Tryd.f4 Rows.aclMaysRow.domain false Rows.aclMaysRow.laid) (((OpenSpec.ofChange Rows.aclMaysSpec).at F).post enc Tryd.prog Tryd.f4 false true false false) := by
  obtain ⟨places, hx⟩ := reads os enc
  refine returnsInHanded_of_row (C := Tryd.checked) (s := OpenSpec.ofChange Rows.aclMaysSpec) own started (by kernel_rfl) Tryd.func4
    (witness_row_at (enc := enc) (C := Tryd.checked) false (laidWorld os) #[.slice none 0 0, .int .i64 0, .slice none 0 0] rfl (by kernel_rfl) (by kernel_rfl) (by kernel_rfl)
      (OpenSpec.preRow_of_cond 8 hx (by kernel_rfl) (fun k hk => by cases hk) (by kernel_rfl) (laid_met os))) ?_
  intro W base args ds gs before hval hW _ hcond hsz hL _ _
  exact contract H enc W base args ds gs before hval hW hL hsz

theorem said : Rows.AclMaysSaid :=
  OpenClaim.holds_of_cond 4 Tryd.f4 rfl rfl rfl rfl rfl rfl rfl ⟨rfl, rfl, rfl, rfl, rfl⟩ rfl rfl rfl rfl rfl (by kernel_rfl) Tryd.func4 (by kernel_rfl)
    (of_decide_eq_true (by kernel_rfl)) (by unfold Func.isWrapper; first | (rw [if_pos (by decide +kernel)]; kernel_rfl) | (rw [if_neg (by decide +kernel)]; exact ⟨rfl, rfl⟩))
    (fun os started H enc _ F => by rw [OpenClaim.pre_eq_preRow]; exact lifted os started H enc F)

theorem plain (f : FuncId) (fn : Func) (hf : Tryd.pinned.checked.prog.funcNamed Rows.aclMaysRow.func = some f) (hfn : Tryd.pinned.checked.prog.funcs[f]? = some fn) :
    false = Tryd.pinned.checked.prog.looks [] ∧ ∀ (j : Nat) t, fn.params[j]? = some t → Tryd.pinned.checked.prog.wantsStandIn t = false := by
  obtain rfl : f = 4 := Option.some.inj ((show Tryd.prog.funcNamed Rows.aclMaysRow.func = some 4 by kernel_rfl).symm.trans hf) |>.symm
  obtain rfl : fn = Tryd.f4 := (Option.some.inj (Tryd.func4.symm.trans hfn)).symm
  refine ⟨by kernel_rfl, fun j t ht => ?_⟩
  rw [Tryd.params4] at ht
  have hm := Array.mem_of_getElem? ht
  have hall : ∀ t ∈ (#[22, 3, 25] : Array TypeId), Tryd.prog.wantsStandIn t = false := by
    intro t h
    simp only [List.mem_toArray, List.mem_cons, List.not_mem_nil, or_false] at h
    rcases h with rfl | rfl | rfl <;> kernel_rfl
  exact hall t hm

/-- the given statement -/
theorem proved : Rows.AclMaysCardSaid :=
  Claim7.holds_tied_plain_at .later [] _ _ _ _ said (fun _ h => by cases h) (by kernel_rfl) (fun _ h => by cases h) aclMays_row_tie rfl ⟨rfl, rfl⟩ (by kernel_rfl) rfl plain (by kernel_rfl)
#print axioms proved
end Go.Proofs.YtpjanfclobpkjaaDoor.aclMays
