/- Rows and IDs in memory; acl.Right and May, the document's own Right, given, May. -/
import Derived.Test.YtpjanfclobpkjaaDoorUb
import Derived.Deep.Slices
import Derived.Deep.Fields
import Derived.Below
namespace Go.Proofs.YtpjanfclobpkjaaDoor
open Go.ChangeShapes Go.WideShapes Go.ChangeAt Go.RowKit
set_option linter.unusedVariables false
set_option linter.unusedSimpArgs false

/-- rows, two cells each, one behind the other, where the slice says -/
structure RowsAt (w : World) (v : Value) (l : List Row) : Prop where
  ex : ∃ a cap, v = .slice a l.length cap ∧ ∀ i (h : i < l.length), ∃ g off, a = some ⟨g, off, none⟩ ∧ g < w.heap.size ∧
    w.cell? ⟨g, off + i * 2, none⟩ = some (.int .i64 l[i].perms) ∧ w.cell? ⟨g, off + i * 2 + 1, none⟩ = some (.string l[i].id)
  fits : ∀ r ∈ l, r.Fits
  room : l.length ≤ 9223372036854775807
structure IdsAt (w : World) (v : Value) (l : List ByteArray) : Prop where
  ex : ∃ a cap, v = .slice a l.length cap ∧ ∀ i (h : i < l.length), ∃ g off, a = some ⟨g, off, none⟩ ∧ g < w.heap.size ∧ w.cell? ⟨g, off + i, none⟩ = some (.string l[i])
  room : l.length ≤ 9223372036854775807
theorem RowsAt.below {w w' : World} {v : Value} {l : List Row} (h : RowsAt w v l) (hb : Below w.heap.size w w') : RowsAt w' v l := by
  obtain ⟨a, cap, hv, hc⟩ := h.ex
  refine ⟨⟨a, cap, hv, fun i hi => ?_⟩, h.fits, h.room⟩
  obtain ⟨g, off, ha, hg, h1, h2⟩ := hc i hi
  exact ⟨g, off, ha, Nat.lt_of_lt_of_le hg hb.size, by rw [hb.cell (p := ⟨g, _, none⟩) hg]; exact h1, by rw [hb.cell (p := ⟨g, _, none⟩) hg]; exact h2⟩
theorem IdsAt.below {w w' : World} {v : Value} {l : List ByteArray} (h : IdsAt w v l) (hb : Below w.heap.size w w') : IdsAt w' v l := by
  obtain ⟨a, cap, hv, hc⟩ := h.ex
  refine ⟨⟨a, cap, hv, fun i hi => ?_⟩, h.room⟩
  obtain ⟨g, off, ha, hg, h1⟩ := hc i hi
  exact ⟨g, off, ha, Nat.lt_of_lt_of_le hg hb.size, by rw [hb.cell (p := ⟨g, _, none⟩) hg]; exact h1⟩
theorem RowsAt.nil (w : World) : RowsAt w (.slice none 0 0) [] := ⟨⟨none, 0, rfl, fun i h => absurd h (by simp)⟩, by simp, by simp⟩
theorem IdsAt.nil (w : World) : IdsAt w (.slice none 0 0) [] := ⟨⟨none, 0, rfl, fun i h => absurd h (by simp)⟩, by simp⟩
theorem RowsAt.at_ {w : World} {a : Option Addr} {n cap : Nat} {l : List Row} (h : RowsAt w (.slice a n cap) l) {i : Nat} (hi : i < l.length) {r : Row} (hr : l[i] = r) : ∃ g off, a = some ⟨g, off, none⟩ ∧ g < w.heap.size ∧
    w.cell? ⟨g, off + i * 2, none⟩ = some (.int .i64 r.perms) ∧ w.cell? ⟨g, off + i * 2 + 1, none⟩ = some (.string r.id) := by
  obtain ⟨a', cap', hv, hc⟩ := h.ex
  injection hv with h1 h2 h3
  subst h1 hr
  exact hc i hi
theorem IdsAt.at_ {w : World} {a : Option Addr} {n cap : Nat} {l : List ByteArray} (h : IdsAt w (.slice a n cap) l) {i : Nat} (hi : i < l.length) {r : ByteArray} (hr : l[i] = r) : ∃ g off, a = some ⟨g, off, none⟩ ∧ g < w.heap.size ∧
    w.cell? ⟨g, off + i, none⟩ = some (.string r) := by
  obtain ⟨a', cap', hv, hc⟩ := h.ex
  injection hv with h1 h2 h3
  subst h1 hr
  exact hc i hi

theorem rowB_cases (r : Row) : (rowB r = false ∧ r.perms < 1) ∨ (rowB r = false ∧ 1 ≤ r.perms ∧ 31 < r.perms) ∨ (1 ≤ r.perms ∧ r.perms ≤ 31 ∧ rowB r = idD r.id.data.toList) := by
  unfold rowB
  by_cases h1 : 1 ≤ r.perms
  · by_cases h2 : r.perms ≤ 31
    · right; right; simp [h1, h2]
    · right; left; simp [h1, h2]; omega
  · left; simp [h1]; omega
theorem any_snoc {α : Type} (P : α → Bool) (l : List α) (k : Nat) (h : k < l.length) : (l.take (k + 1)).any P = ((l.take k).any P || P l[k]) := by
  rw [List.take_succ_eq_append_getElem h, List.any_append]; simp
theorem allr_snoc {α : Type} (P : α → Bool) (l : List α) (k : Nat) (h : k < l.length) : (l.take (k + 1)).all P = ((l.take k).all P && P l[k]) := by
  rw [List.take_succ_eq_append_getElem h, List.all_append]; simp
theorem all_false {α : Type} {P : α → Bool} {l : List α} {k : Nat} (h : k < l.length) (hp : P l[k] = false) : l.all P = false := by
  rw [List.all_eq_false]; exact ⟨l[k], List.getElem_mem h, by simp [hp]⟩
theorem any_true {α : Type} {P : α → Bool} {l : List α} {k : Nat} (h : k < l.length) (hp : P l[k] = true) : l.any P = true := by
  rw [List.any_eq_true]; exact ⟨l[k], List.getElem_mem h, hp⟩

structure RtRel (w : World) (v : Value) (l : List Row) (iv : Value) (wr : World) : Prop where
  ex : ∃ k : Nat, k ≤ l.length ∧ iv = .int .i64 k ∧ (l.take k).all rowB = true ∧ RowsAt wr v l ∧ Below w.heap.size w wr

set_option maxHeartbeats 1000000 in
theorem right_any {w : World} {v : Value} {l : List Row} (h : RowsAt w v l) {x : Bool} (hx : rightL l = x) :
    Calls Tryd.prog 9 #[v] w fun e w' => e = .returned (.bool x) ∧ Below w.heap.size w w' := by
  have HX := Lib.hid hx; clear hx
  have H := Lib.hid h
  have HR := Lib.hid h.room
  have HF := Lib.hid h.fits
  obtain ⟨a, cap, rfl, _⟩ := h.ex
  clear h
  by_cases h1 : l.length < 1
  · have HG : Hid (x = false) := Lib.hid (by rw [← HX.out]; simp [rightL]; intro; omega)
    go_enter Tryd.func9, Tryd.ntmps9
    go_wp2
    go_ret
    exact ⟨ret_bool HG.out.symm, Below.refl _ _⟩
  by_cases h4 : 4 < l.length
  · have HG : Hid (x = false) := Lib.hid (by rw [← HX.out]; simp [rightL]; intro; omega)
    go_enter Tryd.func9, Tryd.ntmps9
    go_wp2
    go_ret
    exact ⟨ret_bool HG.out.symm, Below.refl _ _⟩
  have HG : Hid (x = l.all rowB) := Lib.hid (by rw [← HX.out, rightL, decide_eq_true (by omega), decide_eq_true (by omega)]; rfl)
  have hroom := HR.out
  go_enter Tryd.func9, Tryd.ntmps9
  go_wp2
  go_loopw [15] (fun iv wr => RtRel w (.slice a l.length cap) l iv wr) (fun iv _ => l.length - (intOf iv).toNat)
  case atStart => exact ⟨0, Nat.zero_le _, rfl, rfl, H.out, Below.refl _ _⟩
  case round =>
    obtain ⟨k, hk, rfl, hall, hrows, hbel⟩ := hrel.ex
    clear hrel
    have HA := Lib.hid hall; clear hall
    have HB := Lib.hid hbel; clear hbel
    have HRS := Lib.hid hrows; clear hrows
    by_cases hlt : k < l.length
    · obtain ⟨r, hr⟩ : ∃ r, l[k] = r := ⟨_, rfl⟩
      obtain ⟨g, off, rfl, hg, hc1, hc2⟩ := HRS.out.at_ hlt hr
      have hfit : r.Fits := HF.out r (by rw [← hr]; exact List.getElem_mem hlt)
      have f1 := hfit.lo
      have f2 := hfit.hi
      have HID := Lib.hid hfit.id
      clear hfit
      have HFA : Hid (rowB r = false → x = false) := Lib.hid (fun e => by rw [HG.out]; exact all_false hlt (by rw [hr]; exact e))
      have HTR : Hid (rowB r = true → (l.take (k + 1)).all rowB = true) := Lib.hid (fun e => by rw [allr_snoc rowB l k hlt, HA.out, hr, e]; rfl)
      clear hr
      rcases rowB_cases r with ⟨hn, hp⟩ | ⟨hn, hp0, hp⟩ | ⟨hp, hq, hn⟩
      · have HN := Lib.hid (HFA.out hn)
        clear hn
        go_wp2
        go_ret
        exact ⟨ret_bool HN.out.symm, HB.out.alloc HB.out.size _⟩
      · have HN := Lib.hid (HFA.out hn)
        clear hn
        go_wp2
        go_ret
        exact ⟨ret_bool HN.out.symm, HB.out.alloc HB.out.size _⟩
      · obtain ⟨y, hy⟩ : ∃ y, idD r.id.data.toList = y := ⟨_, rfl⟩
        have HY := Lib.hid hy
        rw [hy] at hn
        clear hy
        cases y
        · have HN := Lib.hid (HFA.out hn)
          clear hn
          go_wp2_with (go_at_call 15; refine (isID_any _ _ HID.out HY.out).mono ?_; rintro e w1 ⟨rfl, hb1⟩)
          go_ret
          exact ⟨ret_bool HN.out.symm, (HB.out.alloc HB.out.size _).trans (hb1.mono (by have := HB.out.size; simp; omega))⟩
        · have HN := Lib.hid (HTR.out hn)
          clear hn
          go_wp2_with (go_at_call 15; refine (isID_any _ _ HID.out HY.out).mono ?_; rintro e w1 ⟨rfl, hb1⟩)
          go_roundw
          case rel => exact ⟨k + 1, by omega, by go_num, HN.out, HRS.out.below (((Below.refl _ _).alloc (Nat.le_refl _) _).trans (hb1.mono (by simp))), (HB.out.alloc HB.out.size _).trans (hb1.mono (by have := HB.out.size; simp; omega))⟩
          case measure => simp [intOf]; omega
    · have HN : Hid (x = true) := Lib.hid (by rw [HG.out, ← List.take_of_length_le (show l.length ≤ k by omega)]; exact HA.out)
      go_wp2
      go_ret
      exact ⟨ret_bool HN.out.symm, HB.out⟩

set_option maxHeartbeats 1000000 in
theorem refRight_any {w : World} {v : Value} {l : List Row} (h : RowsAt w v l) {x : Bool} (hx : rightL l = x) :
    Calls Tryd.prog 10 #[v] w fun e w' => e = .returned (.bool x) ∧ w = w' := by
  have HX := Lib.hid hx; clear hx
  have H := Lib.hid h
  have HR := Lib.hid h.room
  have HF := Lib.hid h.fits
  obtain ⟨a, cap, rfl, _⟩ := h.ex
  clear h
  by_cases h1 : l.length < 1
  · have HG : Hid (x = false) := Lib.hid (by rw [← HX.out]; simp [rightL]; intro; omega)
    go_enter Tryd.func10, Tryd.ntmps10
    go_wp2
    go_ret
    exact ⟨ret_bool HG.out.symm, rfl⟩
  by_cases h4 : 4 < l.length
  · have HG : Hid (x = false) := Lib.hid (by rw [← HX.out]; simp [rightL]; intro; omega)
    go_enter Tryd.func10, Tryd.ntmps10
    go_wp2
    go_ret
    exact ⟨ret_bool HG.out.symm, rfl⟩
  have HG : Hid (x = l.all rowB) := Lib.hid (by rw [← HX.out, rightL, decide_eq_true (by omega), decide_eq_true (by omega)]; rfl)
  go_enter Tryd.func10, Tryd.ntmps10
  go_wp2
  go_loop [3, 4] (fun iv _ => ∃ k : Nat, k ≤ l.length ∧ iv = .int .i64 k ∧ (l.take k).all rowB = true) (fun iv _ => l.length - (intOf iv).toNat)
  case atStart => exact ⟨0, Nat.zero_le _, rfl, rfl⟩
  case round =>
    obtain ⟨k, hk, rfl, hall⟩ := hrel
    have HA := Lib.hid hall; clear hall
    by_cases hlt : k < l.length
    · obtain ⟨r, hr⟩ : ∃ r, l[k] = r := ⟨_, rfl⟩
      obtain ⟨g, off, rfl, hg, hc1, hc2⟩ := H.out.at_ hlt hr
      have hfit : r.Fits := HF.out r (by rw [← hr]; exact List.getElem_mem hlt)
      have f1 := hfit.lo
      have f2 := hfit.hi
      have HID := Lib.hid hfit.id
      clear hfit
      have HFA : Hid (rowB r = false → x = false) := Lib.hid (fun e => by rw [HG.out]; exact all_false hlt (by rw [hr]; exact e))
      have HTR : Hid (rowB r = true → (l.take (k + 1)).all rowB = true) := Lib.hid (fun e => by rw [allr_snoc rowB l k hlt, HA.out, hr, e]; rfl)
      clear hr
      obtain ⟨y, hy⟩ : ∃ y, idD r.id.data.toList = y := ⟨_, rfl⟩
      have HY := Lib.hid hy
      rcases rowB_cases r with ⟨hn, hp⟩ | ⟨hn, hp0, hp⟩ | ⟨hp, hq, hn⟩
      · have HN := Lib.hid (HFA.out hn)
        clear hn hy
        go_wp2_with (go_at_call 16; refine (refID_any _ _ HID.out HY.out).mono ?_; rintro e w1 ⟨rfl, rfl⟩)
        go_ret
        exact ⟨ret_bool HN.out.symm, rfl⟩
      · have HN := Lib.hid (HFA.out hn)
        clear hn hy
        go_wp2_with (go_at_call 16; refine (refID_any _ _ HID.out HY.out).mono ?_; rintro e w1 ⟨rfl, rfl⟩)
        go_ret
        exact ⟨ret_bool HN.out.symm, rfl⟩
      · rw [hy] at hn
        clear hy
        cases y
        · have HN := Lib.hid (HFA.out hn)
          clear hn
          go_wp2_with (go_at_call 16; refine (refID_any _ _ HID.out HY.out).mono ?_; rintro e w1 ⟨rfl, rfl⟩)
          go_ret
          exact ⟨ret_bool HN.out.symm, rfl⟩
        · have HN := Lib.hid (HTR.out hn)
          clear hn
          go_wp2_with (go_at_call 16; refine (refID_any _ _ HID.out HY.out).mono ?_; rintro e w1 ⟨rfl, rfl⟩)
          go_round
          case rel => exact ⟨k + 1, by omega, by go_num, HN.out⟩
          case measure => simp [intOf]; omega
    · have HN : Hid (x = true) := Lib.hid (by rw [HG.out, ← List.take_of_length_le (show l.length ≤ k by omega)]; exact HA.out)
      go_wp2
      go_ret
      exact ⟨ret_bool HN.out.symm, rfl⟩

/-! ### May -/
theorem contains_any {w : World} {v : Value} {ids : List ByteArray} (h : IdsAt w v ids) (s : ByteArray) {x : Bool} (hx : (ids.any fun y => y.data.toList == s.data.toList) = x) :
    Calls Tryd.prog 17 #[v, .string s] w fun e w' => e = .returned (.bool x) ∧ w = w' := by
  obtain ⟨a, cap, rfl, hc⟩ := h.ex
  have hxx : Lib.containsS (ids.take ids.length) s = x := by
    rw [List.take_length, Bool.eq_iff_iff, Lib.containsS_iff, ← hx, List.any_eq_true]
    constructor
    · intro hm; exact ⟨s, hm, by simp⟩
    · rintro ⟨y, hm, hy⟩
      have : y = s := by
        apply ByteArray.ext
        apply Array.ext'
        simpa using hy
      rwa [← this]
  by_cases h0 : ids.length = 0
  · have : x = false := by rw [← hxx, List.eq_nil_of_length_eq_zero h0]; rfl
    rw [h0, this]
    exact (Tryd.slices_Contains_string_empty a cap s w).mono fun e w' ⟨h1, h2⟩ => ⟨h1, h2.symm⟩
  · obtain ⟨g, off, rfl, hg, _⟩ := hc 0 (by omega)
    refine (Tryd.slices_Contains_string g off ids.length cap ids s w (Nat.le_refl _) h.room (fun j hj => ?_)).mono fun e w' ⟨h1, h2⟩ => ⟨by rw [h1, hxx], h2.symm⟩
    obtain ⟨g', off', ha, _, hcell⟩ := hc j hj
    injection ha with ha
    injection ha with h1 h2 _
    subst h1 h2
    rw [hcell, List.getD, List.getElem?_eq_getElem hj]; rfl

theorem grantF_app (ids : List ByteArray) : ∀ (l m : List Row) (g : BitVec 64), grantF ids (l ++ m) g = grantF ids m (grantF ids l g)
  | [], m, g => rfl
  | r :: l, m, g => by rw [List.cons_append, grantF, grantF_app ids l m, grantF]
def grantN (l : List Row) (ids : List ByteArray) (k : Nat) : BitVec 64 := grantF ids (l.take k) 0#64
theorem grantN_succ (l : List Row) (ids : List ByteArray) {k : Nat} (h : k < l.length) {r : Row} (hr : l[k] = r) : grantN l ids (k + 1) = if hits ids r then grantN l ids k ||| P64 r.perms else grantN l ids k := by
  rw [grantN, List.take_succ_eq_append_getElem h, grantF_app, hr]; rfl
def missN (l : List Row) (ids : List ByteArray) (p : Int) (k : Nat) : Int := (P64 p &&& ~~~ grantN l ids k).toInt
theorem missN_zero (l : List Row) (ids : List ByteArray) {p : Int} (h1 : -9223372036854775808 ≤ p) (h2 : p ≤ 9223372036854775807) : missN l ids p 0 = p := by
  rw [missN, show grantN l ids 0 = 0#64 from rfl, BitVec.not_zero, BitVec.and_allOnes, toInt_P h1 h2]
theorem missN_hit (l : List Row) (ids : List ByteArray) (p : Int) {k : Nat} (h : k < l.length) {r : Row} (hr : l[k] = r) (hh : hits ids r = true) : bits .andNot .i64 (missN l ids p k) r.perms = missN l ids p (k + 1) := by
  rw [bits_andNot, missN, P_toInt, missN, grantN_succ l ids h hr, if_pos hh, BitVec.not_or, BitVec.and_assoc]
theorem missN_not (l : List Row) (ids : List ByteArray) (p : Int) {k : Nat} (h : k < l.length) {r : Row} (hr : l[k] = r) (hh : hits ids r = false) : missN l ids p k = missN l ids p (k + 1) := by
  rw [missN, missN, grantN_succ l ids h hr, if_neg (by simp [hh])]
theorem mayB_end {l : List Row} {ids : List ByteArray} {p : Int} {k : Nat} (hk : l.length ≤ k) (hs : small p = true) : mayB l p ids = (missN l ids p k == 0) := by
  rw [mayB, hs, missN, Bool.true_and, grantN, List.take_of_length_le hk, Bool.eq_iff_iff, beq_iff_eq, beq_iff_eq, toInt_zero]; rfl

structure MyRel (w : World) (v ids : Value) (l : List Row) (il : List ByteArray) (p : Int) (iv mv : Value) (wr : World) : Prop where
  ex : ∃ k : Nat, k ≤ l.length ∧ iv = .int .i64 k ∧ mv = .int .i64 (missN l il p k) ∧ RowsAt wr v l ∧ IdsAt wr ids il ∧ Below w.heap.size w wr

set_option maxHeartbeats 1000000 in
theorem may_any {w : World} {v iv : Value} {l : List Row} {ids : List ByteArray} (h : RowsAt w v l) (hi : IdsAt w iv ids) (p : Int) (p1 : -9223372036854775808 ≤ p) (p2 : p ≤ 9223372036854775807) {x : Bool} (hx : mayB l p ids = x) :
    Calls Tryd.prog 11 #[v, .int .i64 p, iv] w fun e w' => e = .returned (.bool x) ∧ Below w.heap.size w w' := by
  have HX := Lib.hid hx; clear hx
  have H := Lib.hid h
  have HI := Lib.hid hi
  have HR := Lib.hid h.room
  have HF := Lib.hid h.fits
  obtain ⟨a, cap, rfl, _⟩ := h.ex
  obtain ⟨ia, icap, rfl, _⟩ := hi.ex
  clear h hi
  by_cases h1 : p < 0
  · have HG : Hid (x = false) := Lib.hid (by rw [← HX.out]; simp [mayB, small]; intro; omega)
    go_enter Tryd.func11, Tryd.ntmps11
    go_wp2
    go_ret
    exact ⟨ret_bool HG.out.symm, Below.refl _ _⟩
  by_cases h4 : 31 < p
  · have HG : Hid (x = false) := Lib.hid (by rw [← HX.out]; simp [mayB, small]; intro; omega)
    go_enter Tryd.func11, Tryd.ntmps11
    go_wp2
    go_ret
    exact ⟨ret_bool HG.out.symm, Below.refl _ _⟩
  have HS : Hid (small p = true) := Lib.hid (by simp [small]; omega)
  have H0 := Lib.hid (missN_zero l ids p1 p2)
  have hroom := HR.out
  go_enter Tryd.func11, Tryd.ntmps11
  go_wp2
  go_loopw [19, 7] (fun iv mv wr => MyRel w (.slice a l.length cap) (.slice ia ids.length icap) l ids p iv mv wr) (fun iv _ _ => l.length - (intOf iv).toNat)
  case atStart => exact ⟨0, Nat.zero_le _, rfl, by rw [H0.out], H.out, HI.out, Below.refl _ _⟩
  case round =>
    obtain ⟨k, hk, rfl, rfl, hrows, hids, hbel⟩ := hrel.ex
    clear hrel
    have HB := Lib.hid hbel; clear hbel
    have HRS := Lib.hid hrows; clear hrows
    have HIS := Lib.hid hids; clear hids
    by_cases hlt : k < l.length
    · obtain ⟨r, hr⟩ : ∃ r, l[k] = r := ⟨_, rfl⟩
      obtain ⟨g, off, rfl, hg, hc1, hc2⟩ := HRS.out.at_ hlt hr
      have HHIT : Hid (hits ids r = true → bits .andNot .i64 (missN l ids p k) r.perms = missN l ids p (k + 1)) := Lib.hid (missN_hit l ids p hlt hr)
      have HNOT : Hid (hits ids r = false → missN l ids p k = missN l ids p (k + 1)) := Lib.hid (missN_not l ids p hlt hr)
      have hal : Below wr.heap.size wr (wr.alloc (.cells #[.int .i64 r.perms, .string r.id] 27)) := (Below.refl _ _).alloc (Nat.le_refl _) _
      have HAL := Lib.hid hal
      clear hr hal
      generalize missN l ids p k = m at HHIT HNOT
      obtain ⟨m', hm'⟩ : ∃ m', missN l ids p (k + 1) = m' := ⟨_, rfl⟩
      rw [hm'] at HHIT HNOT
      have HMM := Lib.hid hm'
      clear hm'
      by_cases hw : r.id.toList = [119, 111, 114, 108, 100]
      · have g1 : (r.id.toList == [119, 111, 114, 108, 100]) = true := by simpa using hw
        have HM := Lib.hid (HHIT.out (by rw [hits, ← Lib.toList_data, hw]; rfl))
        clear hw
        go_wp2
        go_roundw
        case rel => exact ⟨k + 1, by omega, by go_num, congrArg (Value.int .i64) (HM.out.trans HMM.out.symm), HRS.out.below HAL.out, HIS.out.below HAL.out, HB.out.alloc HB.out.size _⟩
        case measure => simp [intOf]; omega
      · have g1 : (r.id.toList == [119, 111, 114, 108, 100]) = false := by simpa using hw
        have g2 : (r.id.data.toList == worldL) = false := by rw [← Lib.toList_data]; exact g1
        cases hc : (ids.any fun y => y.data.toList == r.id.data.toList)
        · have HM := Lib.hid (HNOT.out (by rw [hits, hc, g2]; rfl))
          have HC := Lib.hid hc
          clear hw hc g2
          go_wp2_with (go_at_call 17; refine (contains_any (HIS.out.below HAL.out) _ HC.out).mono ?_; rintro e w1 ⟨rfl, rfl⟩)
          go_roundw
          case rel => exact ⟨k + 1, by omega, by go_num, congrArg (Value.int .i64) (HM.out.trans HMM.out.symm), HRS.out.below HAL.out, HIS.out.below HAL.out, HB.out.alloc HB.out.size _⟩
          case measure => simp [intOf]; omega
        · have HM := Lib.hid (HHIT.out (by rw [hits, hc, g2]; rfl))
          have HC := Lib.hid hc
          clear hw hc g2
          go_wp2_with (go_at_call 17; refine (contains_any (HIS.out.below HAL.out) _ HC.out).mono ?_; rintro e w1 ⟨rfl, rfl⟩)
          go_roundw
          case rel => exact ⟨k + 1, by omega, by go_num, congrArg (Value.int .i64) (HM.out.trans HMM.out.symm), HRS.out.below HAL.out, HIS.out.below HAL.out, HB.out.alloc HB.out.size _⟩
          case measure => simp [intOf]; omega
    · have HN := Lib.hid (mayB_end (show l.length ≤ k by omega) HS.out (ids := ids))
      generalize missN l ids p k = m at HN
      go_wp2
      go_ret
      exact ⟨ret_bool (by rw [← HX.out, HN.out]), HB.out⟩
end Go.Proofs.YtpjanfclobpkjaaDoor
