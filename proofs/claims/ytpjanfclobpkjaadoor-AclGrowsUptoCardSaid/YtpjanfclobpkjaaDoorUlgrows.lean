/- AclGrows holds where what is handed in is of bulk at most 1048576: more rows, more people, fewer wishes: what was allowed stays so; what is allowed of two wishes is allowed of both together; the order of rows and people bears upon nothing (U2, U4). -/
import Derived.Test.YtpjanfclobpkjaaDoorCards
import Derived.Test.YtpjanfclobpkjaaDoorTie
import Derived.Test.YtpjanfclobpkjaaDoorUw
import Derived.WalkKit
import Derived.ProofKit
import Derived.OpenShut
import Derived.ShutString
import Derived.ChangeOld
import Derived.Below
import Derived.SizedLaws
import Derived.Deep.DeepHandedRow
import Derived.Lib.LaidTab
import Derived.Stop.LaidErr
import Derived.Laws.AppendOwn
import Derived.Maps.AppendAt
import Derived.Deep.RegionHeld3
import Derived.Deep.AppendLies
namespace Go.Proofs.YtpjanfclobpkjaaDoor.aclGrows
open Go.ChangeShapes Go.WideShapes Go.ChangeAt Go.RowKit
open Go.ChangeMaps (open_string shut_string)
set_option linter.unusedVariables false
set_option linter.unusedSimpArgs false

theorem row_below {w w' : World} {base : Nat} {e : TypeId} {size n : Nat} {v : Value} {xs : List Value} (h : w.ownsRow base e size v n xs) (hb : ∀ k, v.ownBlock = some k → w'.heap[k]? = w.heap[k]?) : w'.ownsRow base e size v n xs := by
  refine ⟨h.1, h.2.imp id ?_⟩
  rintro ⟨g, cap, cur, hv, hb2, hh, r⟩
  exact ⟨g, cap, cur, hv, hb2, by rw [hb g (by rw [hv]; rfl)]; exact hh, r⟩
theorem row_alloc {w : World} {base : Nat} {e : TypeId} {size n : Nat} {v : Value} {xs : List Value} (h : w.ownsRow base e size v n xs) (o : Obj) : (w.alloc o).ownsRow base e size v n xs :=
  row_below h (fun k hk => Below.heap_alloc _ _ _ (World.ownsRow.lt h k hk).2)
theorem row_drew {w : World} {base : Nat} {e : TypeId} {size n : Nat} {v : Value} {xs : List Value} (h : w.ownsRow base e size v n xs) : w.drew.ownsRow base e size v n xs := row_below h (fun k _ => rfl)

/-! ### plain -/
theorem hits_mono {ids ids' : List ByteArray} (h : ∀ x ∈ ids, x ∈ ids') {r : Row} (hh : hits ids r = true) : hits ids' r = true := by
  rw [hits, Bool.or_eq_true, List.any_eq_true] at hh ⊢
  rcases hh with hh | ⟨x, hx, hh⟩
  · exact .inl hh
  · exact .inr ⟨x, h x hx, hh⟩
theorem may_mono {l l' : List Row} {ids ids' : List ByteArray} {p : Int} (h1 : -9223372036854775808 ≤ p) (h2 : p ≤ 9223372036854775807) (hl : ∀ r ∈ l, r ∈ l') (hi : ∀ x ∈ ids, x ∈ ids') (h : mayB l p ids = true) : mayB l' p ids' = true := by
  rw [may_iff h1 h2] at h ⊢
  intro k hk
  obtain ⟨a, r, hr, hh, hb⟩ := h k hk
  exact ⟨a, r, hl r hr, hits_mono hi hh, hb⟩
theorem may_same {l l' : List Row} {ids ids' : List ByteArray} {p : Int} (h1 : -9223372036854775808 ≤ p) (h2 : p ≤ 9223372036854775807) (hl : ∀ r, r ∈ l ↔ r ∈ l') (hi : ∀ x, x ∈ ids ↔ x ∈ ids') : mayB l p ids = mayB l' p ids' := by
  rw [Bool.eq_iff_iff]
  exact ⟨may_mono h1 h2 (fun r => (hl r).1) (fun r => (hi r).1), may_mono h1 h2 (fun r => (hl r).2) (fun r => (hi r).2)⟩
theorem and_range (p q : Int) : -9223372036854775808 ≤ bits .and .i64 p q ∧ bits .and .i64 p q ≤ 9223372036854775807 := by rw [bits_and]; exact toInt_range _
theorem or_range (p q : Int) : -9223372036854775808 ≤ bits .or .i64 p q ∧ bits .or .i64 p q ≤ 9223372036854775807 := by rw [bits_or]; exact toInt_range _
theorem may_part {l : List Row} {ids : List ByteArray} {p q : Int} (h1 : -9223372036854775808 ≤ p) (h2 : p ≤ 9223372036854775807) (h : mayB l p ids = true) : mayB l (bits .and .i64 p q) ids = true := by
  rw [may_iff h1 h2] at h
  rw [may_iff (and_range p q).1 (and_range p q).2]
  intro k hk
  rw [bits_and, P_toInt, BitVec.getLsbD_and, Bool.and_eq_true] at hk
  exact h k hk.1
theorem may_sum {l : List Row} {ids : List ByteArray} {p q : Int} (p1 : -9223372036854775808 ≤ p) (p2 : p ≤ 9223372036854775807) (q1 : -9223372036854775808 ≤ q) (q2 : q ≤ 9223372036854775807) :
    mayB l (bits .or .i64 p q) ids = (mayB l p ids && mayB l q ids) := by
  rw [Bool.eq_iff_iff, Bool.and_eq_true, may_iff p1 p2, may_iff q1 q2, may_iff (or_range p q).1 (or_range p q).2]
  have e : ∀ k, (P64 (bits .or .i64 p q)).getLsbD k = ((P64 p).getLsbD k || (P64 q).getLsbD k) := fun k => by rw [bits_or, P_toInt, BitVec.getLsbD_or]
  constructor
  · intro h
    exact ⟨fun k hk => h k (by rw [e, hk]; rfl), fun k hk => h k (by rw [e, hk, Bool.or_true])⟩
  · rintro ⟨ha, hb⟩ k hk
    rw [e, Bool.or_eq_true] at hk
    exact hk.elim (ha k) (hb k)
def turnL (l : List ByteArray) : List ByteArray := l.flatMap fun x => [x, x]
theorem turnL_app (l m : List ByteArray) : turnL (l ++ m) = turnL l ++ turnL m := by simp [turnL]
theorem turnL_length (l : List ByteArray) : (turnL l).length = l.length * 2 := by
  induction l with
  | nil => rfl
  | cons x l ih =>
    have : turnL (x :: l) = x :: x :: turnL l := rfl
    rw [this]; simp only [List.length_cons, ih]; omega
theorem mem_turnL (l : List ByteArray) (x : ByteArray) : x ∈ turnL l ↔ x ∈ l := by simp [turnL]
theorem rev_step {α : Type} (l : List α) {j : Nat} (h : j < l.length) : (l.drop j).reverse = (l.drop (j + 1)).reverse ++ [l[j]] := by
  rw [List.drop_eq_getElem_cons h, List.reverse_cons]

structure BkRel (w : World) (l : List Row) (iv bv : Value) (wr : World) : Prop where
  ex : ∃ (j : Nat) (vb : Value), vb = bv ∧ j ≤ l.length ∧ iv = .int .i64 ((j : Int) - 1) ∧ wr.ownsRow w.heap.size 27 2 vb ((l.drop j).reverse).length (rowC ((l.drop j).reverse)) ∧ Below w.heap.size w wr
structure TuRel (w : World) (ids : List ByteArray) (iv bv : Value) (wr : World) : Prop where
  ex : ∃ (j : Nat) (vb : Value), vb = bv ∧ j ≤ ids.length ∧ iv = .int .i64 ((j : Int) - 1) ∧ wr.ownsRow w.heap.size 9 1 vb (turnL (ids.drop j).reverse).length (idC (turnL (ids.drop j).reverse)) ∧ Below w.heap.size w wr

set_option maxRecDepth 100000 in
set_option maxHeartbeats 8000000 in
theorem walk (v0 v1 v2 v3 : Value) (l m : List Row) (ids more : List ByteArray) (p q : Int) (w : World) (h0 : RowsAt w v0 l) (h1 : RowsAt w v1 m) (h2 : IdsAt w v2 ids) (h3 : IdsAt w v3 more)
    (z0 : l.length ≤ 1048576) (z1 : m.length ≤ 1048576) (z2 : ids.length ≤ 1048576) (z3 : more.length ≤ 1048576) (p1 : -9223372036854775808 ≤ p) (p2 : p ≤ 9223372036854775807) (q1 : -9223372036854775808 ≤ q) (q2 : q ≤ 9223372036854775807) (tab : TabOk w) :
    Calls Tryd.prog 6 #[v0, v1, v2, v3, .int .i64 p, .int .i64 q] w fun e w' => e = .returned (.bool true) ∧ Below w.heap.size w w' := by
  have H0 := Lib.hid h0
  have H1 := Lib.hid h1
  have H2 := Lib.hid h2
  have H3 := Lib.hid h3
  have F0 := Lib.hid h0.fits
  have F1 := Lib.hid h1.fits
  obtain ⟨a0, c0, rfl, _⟩ := h0.ex
  obtain ⟨a1, c1, rfl, _⟩ := h1.ex
  obtain ⟨a2, c2, rfl, _⟩ := h2.ex
  obtain ⟨a3, c3, rfl, _⟩ := h3.ex
  clear h0 h1 h2 h3
  obtain ⟨A, hA⟩ : ∃ A, mayB l p ids = A := ⟨_, rfl⟩
  obtain ⟨B, hB⟩ : ∃ B, mayB l q ids = B := ⟨_, rfl⟩
  obtain ⟨Bo, hBo⟩ : ∃ B, mayB (m ++ l) p (more ++ ids) = B := ⟨_, rfl⟩
  obtain ⟨Pa, hPa⟩ : ∃ B, mayB l (bits .and .i64 p q) ids = B := ⟨_, rfl⟩
  have hSu := may_sum (l := l) (ids := ids) p1 p2 q1 q2
  rw [hA, hB] at hSu
  have hSa : mayB ((l.drop 0).reverse) p (turnL (ids.drop 0).reverse) = A := by
    rw [← hA]
    exact may_same p1 p2 (fun r => by simp) (fun x => by rw [mem_turnL]; simp)
  have HREL : Hid ((A = true ∧ Bo = true ∧ Pa = true) ∨ A = false) := Lib.hid (by
    cases A
    · exact .inr rfl
    · left
      refine ⟨rfl, ?_, ?_⟩
      · rw [← hBo]; exact may_mono p1 p2 (fun r hr => by simp [hr]) (fun x hx => by simp [hx]) hA
      · rw [← hPa]; exact may_part p1 p2 hA)
  have HA := Lib.hid hA
  have HB := Lib.hid hB
  have HBo := Lib.hid hBo
  have HPa := Lib.hid hPa
  have HSu := Lib.hid hSu
  have HSa := Lib.hid hSa
  clear hA hB hBo hPa hSu hSa
  have HAR := Lib.hid (and_range p q)
  have HOR := Lib.hid (or_range p q)
  go_enter Tryd.func6, Tryd.ntmps6
  go_wp2_with fail
  refine (awake_any _ tab).mono ?_
  rintro e w1 ⟨rfl, hb1⟩
  have B1 := Lib.hid hb1
  clear hb1
  go_wp2_with fail
  refine (may_any (H0.out.below B1.out) (H2.out.below B1.out) p p1 p2 HA.out).mono ?_
  rintro e w2 ⟨rfl, hb2⟩
  have B2 : Hid (Below w.heap.size w w2) := Lib.hid (B1.out.trans (hb2.mono B1.out.size))
  clear hb2 B1
  go_wp2_with fail
  refine (may_any (H0.out.below B2.out) (H2.out.below B2.out) q q1 q2 HB.out).mono ?_
  rintro e w3 ⟨rfl, hb3⟩
  have B3 : Hid (Below w.heap.size w w3) := Lib.hid (B2.out.trans (hb3.mono B2.out.size))
  clear hb3 B2
  go_wp2_with (first
    | (at_builtin; refine wpList_app_rows _ rfl _ _ rfl (base := w3.heap.size) (v := .slice none 0 0) (l := []) (m := m) rfl rfl (World.ownsRow_nil w3 _ _ 2) (H1.out.below B3.out) (by simp; omega) (Nat.le_refl _) (fun vA w4 hownA hgA => ?_)
       have B4 : Hid (Below w3.heap.size w3 w4) := Lib.hid (grown_below (World.ownsRow_nil w3 w3.heap.size 27 2) hgA (Nat.le_refl _))
       have OA : Hid (w4.ownsRow w3.heap.size 27 2 vA m.length (rowC m)) := Lib.hid hownA
       have B4' : Hid (Below w.heap.size w w4) := Lib.hid (B3.out.trans (B4.out.mono B3.out.size))
       clear hownA hgA)
    | (at_builtin; refine wpList_app_rows _ rfl _ _ rfl (base := w3.heap.size) (v := vA) (l := m) (m := l) rfl rfl OA.out (H0.out.below B4'.out) (by omega) B4.out.size (fun vB w5 hownB hgB => ?_)
       have B5 : Hid (Below w3.heap.size w3 w5) := Lib.hid (B4.out.trans (grown_below OA.out hgB B4.out.size))
       have OB := Lib.hid (RowsAt.own hownB (fun r hr => (List.mem_append.1 hr).elim (F1.out r) (F0.out r)))
       have B5' : Hid (Below w.heap.size w w5) := Lib.hid (B3.out.trans (B5.out.mono B3.out.size))
       clear hownB hgB OA B4 B4')
    | (at_builtin; refine wpList_app_ids _ rfl _ _ rfl (base := w5.heap.size) (v := .slice none 0 0) (l := []) (m := more) rfl rfl (World.ownsRow_nil w5 _ _ 1) (H3.out.below B5'.out) (by simp; omega) (Nat.le_refl _) (fun vC w6 hownC hgC => ?_)
       have B6 : Hid (Below w5.heap.size w5 w6) := Lib.hid (grown_below (World.ownsRow_nil w5 w5.heap.size 9 1) hgC (Nat.le_refl _))
       have OC : Hid (w6.ownsRow w5.heap.size 9 1 vC more.length (idC more)) := Lib.hid hownC
       have B6' : Hid (Below w.heap.size w w6) := Lib.hid (B5'.out.trans (B6.out.mono B5'.out.size))
       clear hownC hgC)
    | (at_builtin; refine wpList_app_ids _ rfl _ _ rfl (base := w5.heap.size) (v := vC) (l := more) (m := ids) rfl rfl OC.out (H2.out.below B6'.out) (by omega) B6.out.size (fun vD w7 hownD hgD => ?_)
       have B7 : Hid (Below w5.heap.size w5 w7) := Lib.hid (B6.out.trans (grown_below OC.out hgD B6.out.size))
       have OD := Lib.hid (IdsAt.own hownD)
       have B7' : Hid (Below w.heap.size w w7) := Lib.hid (B5'.out.trans (B7.out.mono B5'.out.size))
       have OB7 := Lib.hid (OB.out.below B7.out)
       clear hownD hgD OC B6 B6' OB B5 B5' B7))
  refine (may_any OB7.out OD.out p p1 p2 HBo.out).mono ?_
  rintro e w8 ⟨rfl, hb8⟩
  have B8 : Hid (Below w.heap.size w w8) := Lib.hid (B7'.out.trans (hb8.mono B7'.out.size))
  clear hb8 B7' OB7 OD B3
  go_wp2_with fail
  refine (may_any (H0.out.below B8.out) (H2.out.below B8.out) _ HAR.out.1 HAR.out.2 HPa.out).mono ?_
  rintro e w9 ⟨rfl, hb9⟩
  have B9 : Hid (Below w.heap.size w w9) := Lib.hid (B8.out.trans (hb9.mono B8.out.size))
  clear hb9 B8
  go_wp2_with fail
  refine (may_any (H0.out.below B9.out) (H2.out.below B9.out) _ HOR.out.1 HOR.out.2 HSu.out).mono ?_
  rintro e wa ⟨rfl, hba⟩
  have Ba : Hid (Below w.heap.size w wa) := Lib.hid (B9.out.trans (hba.mono B9.out.size))
  clear hba B9
  go_wp2_with fail
  go_loopw [20, 19] (fun iv bv wr => BkRel wa l iv bv wr) (fun iv _ _ => (intOf iv + 1).toNat)
  case atStart => exact ⟨l.length, _, rfl, Nat.le_refl _, rfl, by rw [List.drop_of_length_le (Nat.le_refl _)]; exact World.ownsRow_nil wa _ _ 2, Below.refl _ _⟩
  case round =>
    obtain ⟨j, vb, rfl, hj, rfl, hown, hbel⟩ := hrel.ex
    clear hrel
    have OW := Lib.hid hown
    have BW := Lib.hid hbel
    clear hown hbel
    cases j with
    | succ j =>
      have hlt : j < l.length := hj
      obtain ⟨r, hr⟩ : ∃ r, l[j] = r := ⟨_, rfl⟩
      obtain ⟨b, off, rfl, hb, hc1, hc2⟩ := ((H0.out.below Ba.out).below BW.out).at_ hlt hr
      have HST : Hid ((l.drop j).reverse = (l.drop (j + 1)).reverse ++ [r]) := Lib.hid (by rw [rev_step l hlt, hr])
      have hfit := F0.out r (by rw [← hr]; exact List.getElem_mem hlt)
      have HONE := Lib.hid (one_row_at wr r.perms r.id hfit.lo hfit.hi hfit.id)
      clear hr hfit
      have e1 : ((j + 1 : Nat) : Int) - 1 = (j : Int) := by omega
      rw [e1]
      clear e1
      have HLEN : Hid ((l.drop (j + 1)).reverse.length ≤ 1048576) := Lib.hid (by simp; omega)
      have OW1 := Lib.hid (row_alloc OW.out (.cells #[.int .i64 r.perms, .string r.id] 27))
      have BW1 : Hid (Below wa.heap.size wa (wr.alloc (.cells #[.int .i64 r.perms, .string r.id] 27))) := Lib.hid (BW.out.alloc BW.out.size _)
      go_wp2_with (at_builtin; refine wpList_app_rows _ rfl _ _ rfl (base := wa.heap.size) (v := vb) (l := (l.drop (j + 1)).reverse) (m := [⟨r.perms, r.id⟩]) rfl rfl OW1.out HONE.out (by have := HLEN.out; show (_ + 1) * 24 ≤ _; omega) BW1.out.size (fun vb2 w4 hown4 hg4 => ?_)
                   have OW4 := Lib.hid hown4
                   have BW4 : Hid (Below wa.heap.size wa w4) := Lib.hid (BW1.out.trans (grown_below OW1.out hg4 BW1.out.size))
                   clear hown4 hg4)
      go_roundw
      case rel => exact ⟨j, vb2, rfl, by omega, rfl, by rw [HST.out]; exact OW4.out, BW4.out⟩
      case measure => simp [intOf]
    | zero =>
      obtain ⟨wq, rfl⟩ : ∃ wq, wq = wr := ⟨_, rfl⟩
      have HBK := Lib.hid (RowsAt.own OW.out (fun r hr => F0.out r (by simpa using hr)))
      have Bb : Hid (Below w.heap.size w wq) := Lib.hid (Ba.out.trans (BW.out.mono Ba.out.size))
      clear OW BW hj
      rw [show (((0 : Nat) : Int) - 1) = -1 from rfl]
      go_wp2_with fail
      go_loopw [22, 21] (fun iv bv w5 => TuRel wq ids iv bv w5) (fun iv _ _ => (intOf iv + 1).toNat)
      case atStart => exact ⟨ids.length, _, rfl, Nat.le_refl _, rfl, by rw [List.drop_of_length_le (Nat.le_refl _)]; exact World.ownsRow_nil wq _ _ 1, Below.refl _ _⟩
      case round =>
        obtain ⟨j, vt, rfl, hj, rfl, hown, hbel⟩ := hrel.ex
        clear hrel
        have OW := Lib.hid hown
        have BW := Lib.hid hbel
        clear hown hbel
        cases j with
        | succ j =>
          have hlt : j < ids.length := hj
          obtain ⟨s, hs⟩ : ∃ s, ids[j] = s := ⟨_, rfl⟩
          obtain ⟨b, off, rfl, hbB, hc0⟩ := (H2.out.below Bb.out).at_ hlt hs
          have HBB := Lib.hid hbB
          have hb : b < wr.heap.size := Nat.lt_of_lt_of_le hbB BW.out.size
          have hc1 : wr.cell? ⟨b, off + j, none⟩ = some (.string s) := by rw [BW.out.cell (p := ⟨b, _, none⟩) hbB]; exact hc0
          clear hc0 hbB
          have HST : Hid (turnL (ids.drop j).reverse = turnL (ids.drop (j + 1)).reverse ++ [s, s]) := Lib.hid (by rw [rev_step ids hlt, hs, turnL_app]; rfl)
          clear hs
          have e1 : ((j + 1 : Nat) : Int) - 1 = (j : Int) := by omega
          rw [e1]
          clear e1
          have HLEN : Hid ((turnL (ids.drop (j + 1)).reverse).length ≤ 2097152) := Lib.hid (by rw [turnL_length]; simp; omega)
          obtain ⟨i0, hi0, hz0, hz1, hz2⟩ := info_parts str_info
          have hbw : b < wr.heap.size := hb
          have hbB : b < wq.heap.size := HBB.out
          have HIN := Lib.hid (And.intro hi0 (And.intro hz0 (And.intro hz1 hz2)))
          clear hi0 hz0 hz1 hz2
          go_wp2_with fail
          go_region_held3 (fun w' => w'.cell? ⟨b, off + j, none⟩ = some (.string s))
            (first
              | assumption
              | go_keep
              | (rw [hgrow.cell_far _ (by simp; omega) (fun e => by have := World.ownsRow.lt OW.out b e.symm; omega)]; first | assumption | go_keep))
            ((refine step_append_lies _ (by rfl) _ _ _ (by rfl) wq.heap.size 9 i0 _ 1 16 Tryd.underlying25 HIN.out.1 HIN.out.2.1 HIN.out.2.2.1 HIN.out.2.2.2 rfl (by omega) vt (turnL (ids.drop (j + 1)).reverse).length (idC (turnL (ids.drop (j + 1)).reverse)) (by rfl) (row_drew (row_alloc OW.out _))
                  ⟨wr.heap.size, 0, none⟩ 2 2 [.string s, .string s] (by rfl) (by rfl) (World.news_of_block (cs := #[.string s, .string s]) (t := 9) (fr := (0, 0)) (heap_alloc_new wr _)) (by simp [Value.oneCell'])
                  (by omega) (by have := HLEN.out; unfold maxLen; omega) (by have := HLEN.out; omega) (by have := BW.out.size; simp; omega) (wr.heap.size + 1) (by simp) ?_; intro gg cap6 w6 hown6 hgrow hat hlt6))
          go_wp2_with fail
          have HO6 : Hid (w6.ownsRow wq.heap.size 9 1 (.slice (some ⟨gg, 0, none⟩) ((turnL (ids.drop (j + 1)).reverse).length + 2) cap6) (turnL (ids.drop (j + 1)).reverse ++ [s, s]).length (idC (turnL (ids.drop (j + 1)).reverse ++ [s, s]))) := Lib.hid (by rw [List.length_append, idC_app]; exact hown6)
          have hal : Below wr.heap.size wr (wr.alloc (.cells #[.string s, .string s] 9)).drew := ((Below.refl _ _).alloc (Nat.le_refl _) _).drew
          have HB6 : Hid (Below wq.heap.size wq w6) := Lib.hid ((BW.out.trans (hal.mono BW.out.size)).trans (grown_below (row_drew (row_alloc OW.out _)) hgrow (by have := BW.out.size; simp; omega)))
          clear hown6 hgrow hat hlt6 hal
          go_roundw
          case rel =>
            exact ⟨j, _, rfl, by omega, rfl, by rw [HST.out]; exact HO6.out, HB6.out⟩
          case measure => simp [intOf]
        | zero =>
          have HTU := Lib.hid (IdsAt.own OW.out)
          have Bc : Hid (Below w.heap.size w wr) := Lib.hid (Bb.out.trans (BW.out.mono Bb.out.size))
          have HBK5 := Lib.hid (HBK.out.below BW.out)
          clear OW BW hj
          rw [show (((0 : Nat) : Int) - 1) = -1 from rfl]
          go_wp2_with fail
          refine (may_any HBK5.out HTU.out p p1 p2 HSa.out).mono ?_
          rintro e w6 ⟨rfl, hb6⟩
          have B6 : Hid (Below w.heap.size w w6) := Lib.hid (Bc.out.trans (hb6.mono Bc.out.size))
          clear hb6
          have hrel := HREL.out
          clear HREL HA HB HBo HPa HSu HSa
          rcases hrel with ⟨rfl, rfl, rfl⟩ | rfl
          · rw [Bool.true_and]
            by_cases c1 : 0 ≤ p
            · by_cases c2 : 0 ≤ q
              · cases B
                all_goals
                  go_wp2_with fail
                  go_ret
                  exact ⟨rfl, B6.out⟩
              · cases B
                all_goals
                  go_wp2_with fail
                  go_ret
                  exact ⟨rfl, B6.out⟩
            · cases B
              all_goals
                go_wp2_with fail
                go_ret
                exact ⟨rfl, B6.out⟩
          · rw [Bool.false_and]
            go_wp2_with fail
            go_ret
            exact ⟨rfl, B6.out⟩

theorem own : ownKnob Tryd.prog.godebug = none := by kernel_rfl
theorem laidOut : laidOutB Tryd.prog = true := by kernel_rfl

theorem table {W : World} (h : laidMetH Tryd.prog Rows.aclGrowsUptoRow.laid W) : TabOk W := by
  have h1 : laidMet Tryd.prog Rows.aclGrowsUptoRow.laid W := h
  exact Lib.tabIs_of_head (zs := tab64) (g := 3) (t := 86) (e := 5) (n := 64) (by kernel_rfl) (by kernel_rfl) (by kernel_rfl) (by kernel_rfl) (by kernel_rfl) (by kernel_rfl) h1.tail

theorem contract (H : Type) (enc : TypeId × Value → H) (W : World) (base : Nat) (args : Array Value) (ds gs : List (DataW H)) (before : List MemPlace)
    (hval0 : ∀ (j : Nat) t v, Tryd.f6.params[j]? = some t → args[j]? = some v → Value.okWide Tryd.prog W .any base t v)
    (hW : DataW.Whole enc Tryd.prog Tryd.f6.params.toList Rows.aclGrowsSpec.vars false W args.toList ds gs before) (hL : laidMetH Tryd.prog Rows.aclGrowsUptoRow.laid W)
    (hbulk : Rows.uptoBulkAll (ds ++ gs) ≤ 1048576) :
    Calls Tryd.prog 6 args W fun e W' => ∃ v, e = .returned v ∧ Rows.aclGrowsSpec.post enc Tryd.prog Tryd.f6 false true false false W args v W' := by
  have hval : ∀ (j : Nat) t v, Tryd.f6.params[j]? = some t → args[j]? = some v → Value.okWide Tryd.prog W .any base t v := hval0
  have hW' := hW
  obtain ⟨p, q, hA0, hV, rfl, hfz, hnd⟩ := hW
  have hA : DataW.TrodAll enc Tryd.prog W 0 (fun _ => true) true Tryd.f6.params.toList args.toList ds p := hA0
  rw [Tryd.params6] at hA hval
  obtain ⟨v0, vs0, d0, ds0, p0, q0, hargs, rfl, rfl, h0, r0⟩ := trodAll_cons hA
  obtain ⟨v1, vs1, d1, ds1, p1, q1, rfl, rfl, rfl, h1, r1⟩ := trodAll_cons r0
  obtain ⟨v2, vs2, d2, ds2, p2, q2, rfl, rfl, rfl, h2, r2⟩ := trodAll_cons r1
  obtain ⟨v3, vs3, d3, ds3, p3, q3, rfl, rfl, rfl, h3, r3⟩ := trodAll_cons r2
  obtain ⟨v4, vs4, d4, ds4, p4, q4, rfl, rfl, rfl, h4, r4⟩ := trodAll_cons r3
  obtain ⟨v5, vs5, d5, ds5, p5, q5, rfl, rfl, rfl, h5, r5⟩ := trodAll_cons r4
  obtain ⟨rfl, rfl, rfl⟩ := trodAll_nil r5
  obtain rfl : args = #[v0, v1, v2, v3, v4, v5] := by cases args; simp_all
  obtain ⟨rfl, rfl⟩ := trodVars_none hV
  have k0 := h0
  have lt0 : ∀ x ∈ p0, x.block < W.heap.size := by obtain ⟨m, hm⟩ := k0; exact DataW.trod_lt m _ _ _ hm
  obtain ⟨a0, len0, cap0, rfl⟩ := okWide_slice Tryd.underlying22 (hval 0 22 v0 rfl rfl)
  obtain ⟨l0, hl0, R0, s0⟩ : ∃ l : List Row, l.length = len0 ∧ RowsAt W (.slice a0 len0 cap0) l ∧ (len0 = 0 ∨ ∃ el sp, d0 = .slice el sp ∧ el.length = len0) := by obtain ⟨fuel, hf⟩ := h0; exact rows_of (fun _ => rfl) hf
  have k1 := h1
  have lt1 : ∀ x ∈ p1, x.block < W.heap.size := by obtain ⟨m, hm⟩ := k1; exact DataW.trod_lt m _ _ _ hm
  obtain ⟨a1, len1, cap1, rfl⟩ := okWide_slice Tryd.underlying22 (hval 1 22 v1 rfl rfl)
  obtain ⟨l1, hl1, R1, s1⟩ : ∃ l : List Row, l.length = len1 ∧ RowsAt W (.slice a1 len1 cap1) l ∧ (len1 = 0 ∨ ∃ el sp, d1 = .slice el sp ∧ el.length = len1) := by obtain ⟨fuel, hf⟩ := h1; exact rows_of (fun _ => rfl) hf
  have k2 := h2
  have lt2 : ∀ x ∈ p2, x.block < W.heap.size := by obtain ⟨m, hm⟩ := k2; exact DataW.trod_lt m _ _ _ hm
  obtain ⟨a2, len2, cap2, rfl⟩ := okWide_slice Tryd.underlying25 (hval 2 25 v2 rfl rfl)
  obtain ⟨l2, hl2, R2, y2, s2⟩ : ∃ l : List ByteArray, l.length = len2 ∧ IdsAt W (.slice a2 len2 cap2) l ∧ (∀ s ∈ l, s.size ≤ maxLen) ∧ (len2 = 0 ∨ ∃ el sp, d2 = .slice el sp ∧ el.length = len2) := by obtain ⟨fuel, hf⟩ := h2; exact ids_of (fun _ => rfl) hf
  have k3 := h3
  have lt3 : ∀ x ∈ p3, x.block < W.heap.size := by obtain ⟨m, hm⟩ := k3; exact DataW.trod_lt m _ _ _ hm
  obtain ⟨a3, len3, cap3, rfl⟩ := okWide_slice Tryd.underlying25 (hval 3 25 v3 rfl rfl)
  obtain ⟨l3, hl3, R3, y3, s3⟩ : ∃ l : List ByteArray, l.length = len3 ∧ IdsAt W (.slice a3 len3 cap3) l ∧ (∀ s ∈ l, s.size ≤ maxLen) ∧ (len3 = 0 ∨ ∃ el sp, d3 = .slice el sp ∧ el.length = len3) := by obtain ⟨fuel, hf⟩ := h3; exact ids_of (fun _ => rfl) hf
  have k4 := h4
  have lt4 : ∀ x ∈ p4, x.block < W.heap.size := by obtain ⟨m, hm⟩ := k4; exact DataW.trod_lt m _ _ _ hm
  obtain ⟨a4, e4, f4, g4, w4⟩ := open_int Tryd.underlying3 (hval 4 3 v4 rfl rfl) h4
  subst e4
  have b4 : -9223372036854775808 ≤ a4 ∧ a4 ≤ 9223372036854775807 := by have w := w4; simp [Lit.wf, IntKind.min, IntKind.max, IntKind.bits, IntKind.signed] at w; omega
  have k5 := h5
  have lt5 : ∀ x ∈ p5, x.block < W.heap.size := by obtain ⟨m, hm⟩ := k5; exact DataW.trod_lt m _ _ _ hm
  obtain ⟨a5, e5, f5, g5, w5⟩ := open_int Tryd.underlying3 (hval 5 3 v5 rfl rfl) h5
  subst e5
  have b5 : -9223372036854775808 ≤ a5 ∧ a5 ≤ 9223372036854775807 := by have w := w5; simp [Lit.wf, IntKind.min, IntKind.max, IntKind.bits, IntKind.signed] at w; omega
  clear hA0 hval0
  have z0 : l0.length ≤ 1048576 := by
    rw [hl0]
    rcases s0 with s | ⟨el, sp, s, hs⟩
    · omega
    · have hb := hbulk
      have := bulk_len el
      simp only [s, List.append_nil, List.cons_append, List.nil_append, Rows.uptoBulkAll, Rows.uptoBulk] at hb
      omega
  have z1 : l1.length ≤ 1048576 := by
    rw [hl1]
    rcases s1 with s | ⟨el, sp, s, hs⟩
    · omega
    · have hb := hbulk
      have := bulk_len el
      simp only [s, List.append_nil, List.cons_append, List.nil_append, Rows.uptoBulkAll, Rows.uptoBulk] at hb
      omega
  have z2 : l2.length ≤ 1048576 := by
    rw [hl2]
    rcases s2 with s | ⟨el, sp, s, hs⟩
    · omega
    · have hb := hbulk
      have := bulk_len el
      simp only [s, List.append_nil, List.cons_append, List.nil_append, Rows.uptoBulkAll, Rows.uptoBulk] at hb
      omega
  have z3 : l3.length ≤ 1048576 := by
    rw [hl3]
    rcases s3 with s | ⟨el, sp, s, hs⟩
    · omega
    · have hb := hbulk
      have := bulk_len el
      simp only [s, List.append_nil, List.cons_append, List.nil_append, Rows.uptoBulkAll, Rows.uptoBulk] at hb
      omega
  have tab := table hL
  refine (walk _ _ _ _ l0 l1 l2 l3 a4 a5 W R0 R1 R2 R3 z0 z1 z2 z3 b4.1 b4.2 b5.1 b5.2 tab).mono fun e W' ⟨he, bel⟩ => ?_
  subst he
  exact ⟨_, rfl, _, _, _, [], _, [], hW', trodAll_mk1 (shut_bool Tryd.underlying4 _), (trodAll_cons_mk (Below.trod laidOut (by kernel_rfl) (of_decide_eq_true (by kernel_rfl)) k0 bel lt0) (trodAll_cons_mk (Below.trod laidOut (by kernel_rfl) (of_decide_eq_true (by kernel_rfl)) k1 bel lt1) (trodAll_cons_mk (Below.trod laidOut (by kernel_rfl) (of_decide_eq_true (by kernel_rfl)) k2 bel lt2) (trodAll_cons_mk (Below.trod laidOut (by kernel_rfl) (of_decide_eq_true (by kernel_rfl)) k3 bel lt3) (trodAll_cons_mk (Below.trod laidOut (by kernel_rfl) (of_decide_eq_true (by kernel_rfl)) k4 bel lt4) (trodAll_cons_mk (Below.trod laidOut (by kernel_rfl) (of_decide_eq_true (by kernel_rfl)) k5 bel lt5) trodAll_mk0)))))), rfl, bel.frame _, fun h => by cases h⟩

/-- the cells that a listed table has -/
def tabCells {H : Type} : DataW H → Array Value
  | .agg parts => (parts.map fun d => match d with | .lit (.int k z) => Value.int k z | _ => undef).toArray
  | _ => #[]
def lay (W : World) (g : Nat) (cs : Array Value) : World := { W with heap := W.heap.modify g fun
      | .cells _ t frozen => .cells cs t frozen
      | o => o }
noncomputable def laidWorld (os : Os) : World :=
  lay (lay (lay (World.holding Tryd.prog os ⟨#[], #[], []⟩) 0 (tabCells (H := Unit) Rows.laid_internal_strconv_uint64pow10)) 2 (tabCells (H := Unit) Rows.laid_math_bits_deBruijn32tab)) 3 (tabCells (H := Unit) Rows.laid_math_bits_deBruijn64tab)
theorem laid_met (os : Os) : laidMet Tryd.prog Rows.aclGrowsUptoRow.laid ((laidWorld os).forCall (fun _ _ => 0) ⟨#[], #[.slice none 0 0, .slice none 0 0, .slice none 0 0, .slice none 0 0, .int .i64 0, .int .i64 0], []⟩).memory :=
  laidMet_of_run' 8 (by kernel_rfl) (by kernel_rfl)
theorem reads (os : Os) {H : Type} (enc : TypeId × Value → H) : ∃ places, DataW.whole enc Tryd.prog ((laidWorld os).forCall (fun _ _ => 0) ⟨#[], #[.slice none 0 0, .slice none 0 0, .slice none 0 0, .slice none 0 0, .int .i64 0, .int .i64 0], []⟩).memory Tryd.f6.params.toList Rows.aclGrowsSpec.vars false (#[.slice none 0 0, .slice none 0 0, .slice none 0 0, .slice none 0 0, .int .i64 0, .int .i64 0] : Array Value).toList 8 = some ([.nil, .nil, .nil, .nil, .lit (.int .i64 0), .lit (.int .i64 0)], [], places) :=
  ⟨[], by kernel_rfl⟩

set_option maxRecDepth 100000 in
theorem lifted (os : Os) (started : os.Started) (H : Type) (enc : TypeId × Value → H) (F : Stop.Interp) :
    ReturnsInHanded {} Tryd.checked os 6 .any ((Rows.OpenSpec.upto Rows.aclGrowsSpec).preRow enc Tryd.prog Tryd.f6 Rows.aclGrowsUptoRow.domain false Rows.aclGrowsUptoRow.laid) (((Rows.OpenSpec.upto Rows.aclGrowsSpec).at F).post enc Tryd.prog Tryd.f6 false true false false) := by
  obtain ⟨places, hx⟩ := reads os enc
  refine returnsInHanded_of_row (C := Tryd.checked) (s := Rows.OpenSpec.upto Rows.aclGrowsSpec) own started (by kernel_rfl) Tryd.func6
    (witness_row_at (enc := enc) (C := Tryd.checked) false (laidWorld os) #[.slice none 0 0, .slice none 0 0, .slice none 0 0, .slice none 0 0, .int .i64 0, .int .i64 0] rfl (by kernel_rfl) (by kernel_rfl) (by kernel_rfl)
      (OpenSpec.preRow_of_cond 8 hx (by kernel_rfl) (fun k hk => by cases hk; kernel_rfl) (by kernel_rfl) (laid_met os))) ?_
  intro W base args ds gs before hval hW _ hcond hsz hL _ _
  have hb : Rows.uptoBulkAll (ds ++ gs) ≤ 1048576 := of_decide_eq_true (hcond _ rfl)
  exact contract H enc W base args ds gs before hval hW hL hb

theorem said : Rows.AclGrowsUptoSaid :=
  OpenClaim.holds_of_cond 6 Tryd.f6 rfl rfl rfl rfl rfl rfl rfl ⟨rfl, rfl, rfl, rfl, rfl⟩ rfl rfl rfl rfl rfl (by kernel_rfl) Tryd.func6 (by kernel_rfl)
    (of_decide_eq_true (by kernel_rfl)) (by unfold Func.isWrapper; first | (rw [if_pos (by decide +kernel)]; kernel_rfl) | (rw [if_neg (by decide +kernel)]; exact ⟨rfl, rfl⟩))
    (fun os started H enc _ F => by rw [OpenClaim.pre_eq_preRow]; exact lifted os started H enc F)

theorem plain (f : FuncId) (fn : Func) (hf : Tryd.pinned.checked.prog.funcNamed Rows.aclGrowsUptoRow.func = some f) (hfn : Tryd.pinned.checked.prog.funcs[f]? = some fn) :
    false = Tryd.pinned.checked.prog.looks [] ∧ ∀ (j : Nat) t, fn.params[j]? = some t → Tryd.pinned.checked.prog.wantsStandIn t = false := by
  obtain rfl : f = 6 := Option.some.inj ((show Tryd.prog.funcNamed Rows.aclGrowsUptoRow.func = some 6 by kernel_rfl).symm.trans hf) |>.symm
  obtain rfl : fn = Tryd.f6 := (Option.some.inj (Tryd.func6.symm.trans hfn)).symm
  refine ⟨by kernel_rfl, fun j t ht => ?_⟩
  rw [Tryd.params6] at ht
  have hm := Array.mem_of_getElem? ht
  have hall : ∀ t ∈ (#[22, 22, 25, 25, 3, 3] : Array TypeId), Tryd.prog.wantsStandIn t = false := by
    intro t h
    simp only [List.mem_toArray, List.mem_cons, List.not_mem_nil, or_false] at h
    rcases h with rfl | rfl | rfl | rfl | rfl | rfl <;> kernel_rfl
  exact hall t hm

/-- the given statement -/
theorem proved : Rows.AclGrowsUptoCardSaid :=
  Claim7.holds_tied_plain_at .later [] _ _ _ _ said (fun _ h => by cases h) (by kernel_rfl) (fun _ h => by cases h) aclGrowsUpto_row_tie rfl ⟨rfl, rfl⟩ (by kernel_rfl) rfl plain (by kernel_rfl)
#print axioms proved
end Go.Proofs.YtpjanfclobpkjaaDoor.aclGrows
