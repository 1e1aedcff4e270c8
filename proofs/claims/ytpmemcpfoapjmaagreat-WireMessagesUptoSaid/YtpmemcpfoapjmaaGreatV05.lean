/- The document's own reader. -/
import Derived.Test.YtpmemcpfoapjmaaGreatV02
namespace Go.Proofs.YtpmemcpfoapjmaaGreat
open Go.ChangeShapes Go.WideShapes Go.ChangeAt Go.RowKit
set_option linter.unusedVariables false

/-- block b is the document's reader of s, at place p, e wrong -/
structure FAt (w : World) (b : Nat) (s : ByteArray) (p e : Nat) : Prop where
  at_ : w.heap[b]? = some (.cells #[.string s, .int .i64 p, .int .i64 e] 111 (0, 0))
  le : p ≤ s.size
  small : s.size ≤ 140737488355328

theorem FAt.c0 {w : World} {b : Nat} {s : ByteArray} {p e : Nat} (h : FAt w b s p e) : w.cell? ⟨b, 0, none⟩ = some (.string s) := by simp [World.cell?, h.at_]
theorem FAt.c1 {w : World} {b : Nat} {s : ByteArray} {p e : Nat} (h : FAt w b s p e) : w.cell? ⟨b, 1, none⟩ = some (.int .i64 p) := by simp [World.cell?, h.at_]
theorem FAt.c2 {w : World} {b : Nat} {s : ByteArray} {p e : Nat} (h : FAt w b s p e) : w.cell? ⟨b, 2, none⟩ = some (.int .i64 e) := by simp [World.cell?, h.at_]
theorem FAt.f1 {w : World} {b : Nat} {s : ByteArray} {p e : Nat} (h : FAt w b s p e) : w.frozen? ⟨b, 1, none⟩ = false := by simp [World.frozen?, h.at_]
theorem FAt.f2 {w : World} {b : Nat} {s : ByteArray} {p e : Nat} (h : FAt w b s p e) : w.frozen? ⟨b, 2, none⟩ = false := by simp [World.frozen?, h.at_]
theorem FAt.drewN {w : World} {b : Nat} {s : ByteArray} {p e : Nat} (h : FAt w b s p e) (n : Nat) : FAt (w.drewN n) b s p e := ⟨h.at_, h.le, h.small⟩
theorem FAt.keep {S : Nat → Prop} {w w' : World} {b : Nat} {s : ByteArray} {p e : Nat} (h : FAt w b s p e) (hk : Kept S w w') (hb : ¬ S b) : FAt w' b s p e :=
  ⟨by rw [hk.block b (lt_of_block h.at_) hb]; exact h.at_, h.le, h.small⟩
theorem FAt.set1 {w : World} {b : Nat} {s : ByteArray} {p e : Nat} (h : FAt w b s p e) (q : Nat) (hq : q ≤ s.size) : FAt (w.setCell ⟨b, 1, none⟩ (.int .i64 q)) b s q e :=
  ⟨(cells3_set h.at_ _).1, hq, h.small⟩
theorem FAt.set2 {w : World} {b : Nat} {s : ByteArray} {p e : Nat} (h : FAt w b s p e) (x : Nat) : FAt (w.setCell ⟨b, 2, none⟩ (.int .i64 x)) b s p x :=
  ⟨(cells3_set h.at_ _).2, h.le, h.small⟩

/-- behind a call of the document's reader: its place is the program's as long as nothing is wrong -/
def FPost (w : World) (b : Nat) (s : ByteArray) (r : Value) (pos e : Nat) (en : Ending) (w' : World) : Prop :=
  ∃ p, en = .returned r ∧ FAt w' b s p e ∧ (e = 0 → p = pos) ∧ Kept (RS b) w w'

theorem fwrong_any (x : Nat) (w : World) (b : Nat) (s : ByteArray) (p e : Nat) (hF : FAt w b s p e) :
    Calls Tryz.prog 105 #[.pointer (some ⟨b, 0, none⟩), .int .i64 x] w fun en w' => en = .returned (.tuple #[]) ∧ FAt w' b s p (wr e x) ∧ Kept (RS b) w w' := by
  have hc := hF.c2
  have hf := hF.f2
  by_cases he : e = 0
  · subst he
    go_enter Tryz.func105, Tryz.ntmps105
    go_wp2
    go_end0
    exact ⟨rfl, hF.set2 x, kept_set _⟩
  · have hb : ((e : Int) == 0) = false := by simp; omega
    have hwr : wr e x = e := if_neg he
    rw [hwr]
    go_enter Tryz.func105, Tryz.ntmps105
    go_wp2
    go_end0
    exact ⟨rfl, hF, Kept.refl _ _⟩

theorem fzag_any (z : Nat) (w : World) (h : z ≤ 18446744073709551615) :
    Calls Tryz.prog 122 #[.int .u64 z] w fun e w' => e = .returned (.int .i64 (unzz z)) ∧ w = w' := by
  by_cases hz : z % 2 = 0
  · have hb : ((z : Int) % 2 == 0) = true := by simp; omega
    have HZ := Lib.hid hz; clear hz
    go_enter Tryz.func122, Tryz.ntmps122
    go_wp2
    go_ret
    exact ⟨ret_val (congrArg (Value.int .i64) (by have := HZ.out; unfold unzz; rw [if_pos this]; omega)), rfl⟩
  · have hb : ((z : Int) % 2 == 0) = false := by simp; omega
    have HZ := Lib.hid hz; clear hz
    go_enter Tryz.func122, Tryz.ntmps122
    go_wp2
    go_ret
    exact ⟨ret_val (congrArg (Value.int .i64) (by have := HZ.out; unfold unzz; rw [if_neg this]; omega)), rfl⟩

structure FSeekRel (w : World) (s : ByteArray) (p : Nat) (u un k : Value) (wr : World) : Prop where
  ex : ∃ (j n d : Nat), k = .int .i64 (j + 1 : Nat) ∧ u = .int .u64 n ∧ un = .int .u64 (128 ^ j : Nat) ∧ p + j ≤ s.size ∧ j ≤ 9 ∧ n < 128 ^ j ∧ seek j n (s.data.toList.drop (p + j)) = seek 0 0 (s.data.toList.drop p) ∧ wr = w.drewN d

theorem seek_at {s : ByteArray} {p j : Nat} (h : p + j < s.size) (n : Nat) : seek j n (s.data.toList.drop (p + j)) =
    if j = 9 ∧ 1 < s[p + j].toNat then (0, 0, 11)
    else if 128 ≤ s[p + j].toNat then seek (j + 1) (n + s[p + j].toNat % 128 * 128 ^ j) (s.data.toList.drop (p + (j + 1)))
    else if s[p + j].toNat = 0 ∧ 0 < j then (0, 0, 11)
    else (n + s[p + j].toNat * 128 ^ j, j + 1, 0) := by
  rw [List.drop_eq_getElem_cons (show p + j < s.data.toList.length by simpa using h)]; rfl

theorem mul_step (n x j : Nat) (hx : x < 256) (hj : j ≤ 9) (hn : n < 128 ^ j) (h9 : j = 9 → x ≤ 1) :
    IntKind.u64.wrap ((n : Int) + IntKind.u64.wrap ((x : Int) % 128 * ((128 ^ j : Nat) : Int))) = ((n + x % 128 * 128 ^ j : Nat) : Int) := by
  have h1 := acc_lt (x := x) hn
  have hpk : (128 : Nat) ^ j ≤ 128 ^ 9 := Nat.pow_le_pow_right (by omega) hj
  rw [pow9] at hpk
  have hb : n + x % 128 * 128 ^ j < 18446744073709551616 := by
    by_cases h : j = 9
    · subst h
      rw [pow9] at *
      have := h9 rfl
      have : x % 128 * 9223372036854775808 ≤ 1 * 9223372036854775808 := Nat.mul_le_mul_right _ (by omega)
      omega
    · have h8 : (128 : Nat) ^ (j + 1) ≤ 128 ^ 9 := Nat.pow_le_pow_right (by omega) (by omega)
      rw [pow9] at h8
      omega
  have e1 : ((x : Int) % 128 * ((128 ^ j : Nat) : Int)) = ((x % 128 * 128 ^ j : Nat) : Int) := by push_cast; rfl
  rw [e1, IntKind.wrap_u64, IntKind.wrap_u64]
  omega
theorem unit_step (j : Nat) (hj : j < 9) : IntKind.u64.wrap (((128 ^ j : Nat) : Int) * 128) = ((128 ^ (j + 1) : Nat) : Int) := by
  have h8 : (128 : Nat) ^ (j + 1) ≤ 128 ^ 9 := Nat.pow_le_pow_right (by omega) (by omega)
  rw [pow9, Nat.pow_succ] at h8
  rw [IntKind.wrap_u64, Nat.pow_succ]
  omega

set_option maxRecDepth 100000 in
set_option maxHeartbeats 1000000 in
theorem fsev_zero (w : World) (b : Nat) (s : ByteArray) (p : Nat) (hF : FAt w b s p 0) :
    Calls Tryz.prog 121 #[.pointer (some ⟨b, 0, none⟩)] w (FPost w b s (.int .u64 (seek 0 0 (s.data.toList.drop p)).1) (p + (seek 0 0 (s.data.toList.drop p)).2.1) (seek 0 0 (s.data.toList.drop p)).2.2) := by
  have c0 := hF.c0
  have c1 := hF.c1
  have c2 := hF.c2
  have f1 := hF.f1
  have hle := hF.le
  have hsm := hF.small
  go_enter Tryz.func121, Tryz.ntmps121
  go_wp2_with fail
  go_loopw [3, 4, 5] (fun u un k wr => FSeekRel w s p u un k wr) (fun _ _ k _ => s.size + 2 - (intOf k).toNat)
  case atStart => exact ⟨0, 0, 0, rfl, rfl, rfl, by omega, by omega, by decide, rfl, rfl⟩
  case round =>
    obtain ⟨j, n, d, rfl, rfl, rfl, hj, hj9, hn, hs, rfl⟩ := hrel.ex
    clear hrel
    have hU : (128 : Nat) ^ j ≤ 9223372036854775808 := by
      have := Nat.pow_le_pow_right (show 0 < 128 by omega) hj9
      rw [pow9] at this; exact this
    by_cases hlt : p + j < s.size
    · have HD := Lib.hid (seek_at hlt n)
      have HS := Lib.hid hs; clear hs
      have hx256 : s[p + j].toNat < 256 := s[p + j].toNat_lt
      have HMUL : Hid ((j = 9 → s[p + j].toNat ≤ 1) → _) := mul_step n s[p + j].toNat j hx256 hj9 hn
      have HUNIT : Hid (j < 9 → _) := unit_step j
      have HACC := Lib.hid (acc_lt (x := s[p + j].toNat) hn)
      generalize hUU : (128 : Nat) ^ j = U at *
      have HUU := Lib.hid hUU; clear hUU
      have a1 : IntKind.i64.wrap ((p : Int) + ((j : Int) + 1)) = (p : Int) + ((j : Int) + 1) := IntWalk.i64_in _ (by omega)
      have a2 : IntKind.i64.wrap ((p : Int) + ((j : Int) + 1) - 1) = (p : Int) + (j : Int) := by rw [IntWalk.i64_in _ (by omega)]; omega
      have a3 : (0 : Int) ≤ (p : Int) + (j : Int) := by omega
      have a4 : (p : Int) + (j : Int) < (s.size : Int) := by omega
      have a5 : ((p : Int) + (j : Int)).toNat = p + j := by omega
      by_cases h9 : j = 9 ∧ 1 < s[p + j].toNat
      · obtain ⟨h9, hx1⟩ := h9
        have HF : Hid (seek 0 0 (s.data.toList.drop p) = (0, 0, 11)) := by rw [← HS.out, HD.out, if_pos ⟨h9, hx1⟩]; exact rfl
        have h9a : 9 ≤ j := by omega
        clear h9
        go_wp2_with fail
        go_quiet (fail)
        go_wp2_with fail
        go_quiet (fail)
        go_wp2_with (go_at_call 105; refine (fwrong_any 11 _ b s p 0 (hF.drewN _)).mono ?_; rintro en w7 ⟨rfl, hF7, hk7⟩)
        go_ret
        rw [HF.out]
        exact ⟨p, rfl, hF7, fun h => by simp at h, ((Kept.refl _ _).drewN _).trans hk7⟩
      · have HNF := Lib.hid h9
        have hq9 : j = 9 → s[p + j].toNat ≤ 1 := fun h => by omega
        have HM := Lib.hid (HMUL.out hq9)
        clear hq9 HMUL
        by_cases h128 : 128 ≤ s[p + j].toNat
        · have h9' : j ≠ 9 := by omega
          have hfin : seek (j + 1) (n + s[p + j].toNat % 128 * U) (s.data.toList.drop (p + (j + 1))) = seek 0 0 (s.data.toList.drop p) := by
            rw [← HS.out, HD.out, if_neg HNF.out, if_pos h128]
          have HFIN := Lib.hid hfin; clear hfin
          have HU2 := Lib.hid (HUNIT.out (by omega))
          clear h9 HUNIT
          go_wp2_with fail
          go_quiet (fail)
          go_wp2_with fail
          go_quiet (fail)
          go_wp2_with fail
          exact ⟨⟨j + 1, _, _, rfl, congrArg (Value.int .u64) HM.out, congrArg (Value.int .u64) HU2.out, by omega, by omega, HACC.out, HFIN.out, rfl⟩, by simp [intOf]; omega⟩
        · have hmod : s[p + j].toNat % 128 = s[p + j].toNat := by omega
          rw [hmod] at HM
          by_cases h0 : s[p + j].toNat = 0 ∧ 0 < j
          · obtain ⟨hx0, hj0⟩ := h0
            have HF : Hid (seek 0 0 (s.data.toList.drop p) = (0, 0, 11)) := by rw [← HS.out, HD.out, if_neg HNF.out, if_neg h128, if_pos ⟨hx0, hj0⟩]; exact rfl
            have hb0 : ((s[p + j].toNat : Int) == 0) = true := by simp; omega
            have hb1 : (s[p + j].toNat : Int) ≤ 1 := by omega
            have HX0 := Lib.hid hx0; clear hx0 hmod h9 HUNIT
            by_cases h9' : j = 9
            · have h9a : 9 ≤ j := by omega
              clear h9'
              go_wp2_with fail
              go_quiet (fail)
              go_wp2_with fail
              go_quiet (fail)
              go_wp2_with (go_at_call 105; refine (fwrong_any 11 _ b s p 0 (hF.drewN _)).mono ?_; rintro en w7 ⟨rfl, hF7, hk7⟩)
              go_ret
              rw [HF.out]
              exact ⟨p, rfl, hF7, fun h => by simp at h, ((Kept.refl _ _).drewN _).trans hk7⟩
            · go_wp2_with fail
              go_quiet (fail)
              go_wp2_with fail
              go_quiet (fail)
              go_wp2_with (go_at_call 105; refine (fwrong_any 11 _ b s p 0 (hF.drewN _)).mono ?_; rintro en w7 ⟨rfl, hF7, hk7⟩)
              go_ret
              rw [HF.out]
              exact ⟨p, rfl, hF7, fun h => by simp at h, ((Kept.refl _ _).drewN _).trans hk7⟩
          · have HF : Hid (seek 0 0 (s.data.toList.drop p) = (n + s[p + j].toNat * U, j + 1, 0)) := by rw [← HS.out, HD.out, if_neg HNF.out, if_neg h128, if_neg h0]; exact rfl
            have hend : ∀ m (y z : Int), y = ((n + s[p + j].toNat * U : Nat) : Int) → z = (p : Int) + ((j : Int) + 1) → FPost w b s (.int .u64 (seek 0 0 (s.data.toList.drop p)).1) (p + (seek 0 0 (s.data.toList.drop p)).2.1) (seek 0 0 (s.data.toList.drop p)).2.2 (.returned (.int .u64 y)) ((w.drewN m).setCell ⟨b, 1, none⟩ (.int .i64 z)) := by
              intro m y z hy hz
              rw [HF.out, hy, hz]
              exact ⟨p + (j + 1), rfl, (hF.drewN m).set1 (p + (j + 1)) (by omega), fun _ => rfl, ((Kept.refl _ _).drewN _).trans (kept_set _)⟩
            have HEND := Lib.hid hend; clear hend
            clear hmod HUNIT
            by_cases h9' : j = 9
            · have h9a : 9 ≤ j := by omega
              have hb0 : ((s[p + j].toNat : Int) == 0) = false := by simp; omega
              have hb1 : (s[p + j].toNat : Int) ≤ 1 := by omega
              clear h9 h0 h9'
              go_wp2_with fail
              go_quiet (fail)
              go_wp2_with fail
              go_quiet (fail)
              go_wp2_with fail
              go_ret
              exact HEND.out _ _ _ HM.out (by omega)
            · by_cases hx0 : s[p + j].toNat = 0
              · have hj0 : j ≤ 0 := by omega
                have hb0 : ((s[p + j].toNat : Int) == 0) = true := by simpa using hx0
                have hb1 : (s[p + j].toNat : Int) ≤ 1 := by omega
                clear hx0 h9 h0 h9'
                go_wp2_with fail
                go_quiet (fail)
                go_wp2_with fail
                go_quiet (fail)
                go_wp2_with fail
                go_ret
                exact HEND.out _ _ _ HM.out (by omega)
              · have hb0 : ((s[p + j].toNat : Int) == 0) = false := by simp; omega
                clear hx0 h9 h0
                go_wp2_with fail
                go_quiet (fail)
                go_wp2_with fail
                go_quiet (fail)
                go_wp2_with fail
                go_ret
                exact HEND.out _ _ _ HM.out (by omega)
    · have HF : Hid (seek 0 0 (s.data.toList.drop p) = (0, 0, 10)) := by rw [← hs, List.drop_of_length_le (by simp; omega)]; exact rfl
      clear hs
      have a1 : IntKind.i64.wrap ((p : Int) + ((j : Int) + 1)) = (p : Int) + ((j : Int) + 1) := IntWalk.i64_in _ (by omega)
      go_wp2_with fail
      go_quiet (fail)
      go_wp2_with (go_at_call 105; refine (fwrong_any 10 _ b s p 0 (hF.drewN _)).mono ?_; rintro en w7 ⟨rfl, hF7, hk7⟩)
      go_ret
      rw [HF.out]
      exact ⟨p, rfl, hF7, fun h => by simp at h, ((Kept.refl _ _).drewN _).trans hk7⟩

theorem fsev_any (w : World) (b : Nat) (s : ByteArray) (p pos e : Nat) (hF : FAt w b s p e) (hp : e = 0 → p = pos) :
    Calls Tryz.prog 121 #[.pointer (some ⟨b, 0, none⟩)] w (FPost w b s (.int .u64 (rSev s.data.toList pos e).1) (rSev s.data.toList pos e).2.1 (rSev s.data.toList pos e).2.2) := by
  by_cases he : e = 0
  · subst he
    obtain rfl := hp rfl
    have h : rSev s.data.toList p 0 = _ := if_pos rfl
    rw [h]
    exact fsev_zero w b s p hF
  · have h : rSev s.data.toList pos e = (0, pos, e) := if_neg he
    rw [h]
    have c2 := hF.c2
    have hb : ((e : Int) == 0) = false := by simp; omega
    go_enter Tryz.func121, Tryz.ntmps121
    go_wp2_with fail
    go_ret
    exact ⟨p, rfl, hF, fun h => absurd h he, Kept.refl _ _⟩

theorem fnum_any (w : World) (b : Nat) (s : ByteArray) (p pos e : Nat) (hF : FAt w b s p e) (hp : e = 0 → p = pos) :
    Calls Tryz.prog 86 #[.pointer (some ⟨b, 0, none⟩)] w (FPost w b s (.int .i64 (unzz (rSev s.data.toList pos e).1)) (rSev s.data.toList pos e).2.1 (rSev s.data.toList pos e).2.2) := by
  have hfit := rSev_fit s.data.toList pos e
  have hs := fsev_any w b s p pos e hF hp
  rcases hr : rSev s.data.toList pos e with ⟨n, q, x⟩
  rw [hr] at hs hfit
  simp only at hs hfit
  have HS := Lib.hid hs; clear hs
  have HR := Lib.hid hr; clear hr
  go_enter Tryz.func86, Tryz.ntmps86
  go_wp2_with (first | (go_at_call 121; refine HS.out.mono ?_; rintro en w1 ⟨p1, rfl, hF1, hp1, hk1⟩) | (go_at_call 122; refine (fzag_any n _ hfit).mono ?_; rintro en w2 ⟨rfl, rfl⟩))
  go_ret
  exact ⟨p1, rfl, hF1, hp1, hk1⟩

end Go.Proofs.YtpmemcpfoapjmaaGreat
