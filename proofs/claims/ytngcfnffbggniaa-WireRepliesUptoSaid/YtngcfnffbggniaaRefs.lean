/- The document's own reader: Flag, Count, Text, End. -/
import Derived.Test.YtngcfnffbggniaaRefr
import Derived.Lib.Strings
namespace Go.Proofs.Ytngcfnffbggniaa
open Go.ChangeShapes Go.WideShapes Go.ChangeAt Go.RowKit
set_option linter.unusedVariables false

theorem rSev_wrong {l : List UInt8} {pos e : Nat} (h : (rSev l pos e).2.2 ≠ 0) : (rSev l pos e).1 = 0 := by
  unfold rSev at h ⊢
  by_cases he : e = 0
  · rw [if_pos he] at h ⊢
    rcases seek_err (l.drop pos) 0 0 with h1 | h1 | h1
    · exact absurd h1.1 h
    · simp only; rw [h1]
    · simp only; rw [h1]
  · rw [if_neg he]

set_option maxRecDepth 100000 in
theorem fflag_any (w : World) (b : Nat) (s : ByteArray) (p pos e : Nat) (hF : FAt w b s p e) (hp : e = 0 → p = pos) :
    Calls Try.prog 152 #[.pointer (some ⟨b, 0, none⟩)] w (FPost w b s (.bool (rFlag s.data.toList pos e).1) (rFlag s.data.toList pos e).2.1 (rFlag s.data.toList pos e).2.2) := by
  have c0 := hF.c0
  have c1 := hF.c1
  have c2 := hF.c2
  have f1 := hF.f1
  have hle := hF.le
  have hsm := hF.small
  have hsl : s.data.toList.length = s.size := by simp
  by_cases he : e = 0
  · subst he
    obtain rfl := hp rfl
    clear hp
    by_cases hlt : p < s.size
    · have hne : ((p : Int) == (s.size : Int)) = false := by simp; omega
      have hpl : p < s.data.toList.length := by omega
      have hx256 := s[p].toNat_lt
      have b1 : (0 : Int) ≤ (p : Int) := by omega
      have b2 : (p : Int) < (s.size : Int) := by omega
      by_cases h1 : 1 < s[p].toNat
      · have hr : rFlag s.data.toList p 0 = (false, p, 11) := by
          unfold rFlag; rw [dif_pos hpl]; exact if_pos h1
        rw [hr]
        clear hr hsl
        go_enter Try.func152, Try.ntmps152
        go_wp2_with fail
        go_quiet (fail)
        go_wp2_with fail
        go_quiet (fail)
        go_wp2_with (go_at_call 124; refine (fwrong_any 11 _ b s p 0 (hF.drewN _)).mono ?_; rintro en w1 ⟨rfl, hF1, hk1⟩)
        go_ret
        exact ⟨p, rfl, hF1, fun _ => rfl, ((Kept.refl _ _).drewN _).trans hk1⟩
      · have hr : rFlag s.data.toList p 0 = (s[p].toNat == 1, p + 1, 0) := by
          unfold rFlag; rw [dif_pos hpl]; exact (if_neg h1).trans (if_pos rfl)
        rw [hr]
        have hfin : ∀ m, FAt ((w.drewN m).setCell ⟨b, 1, none⟩ (.int .i64 ((p : Int) + 1))) b s (p + 1) 0 ∧ Kept (RS b) w ((w.drewN m).setCell ⟨b, 1, none⟩ (.int .i64 ((p : Int) + 1))) := fun m =>
          ⟨(hF.drewN m).set1 (p + 1) (by omega), ((Kept.refl _ _).drewN _).trans (kept_set _)⟩
        have HFIN := Lib.hid hfin; clear hfin
        clear hr hsl
        go_enter Try.func152, Try.ntmps152
        go_wp2_with fail
        go_quiet (fail)
        go_wp2_with fail
        go_quiet (fail)
        go_wp2_with fail
        go_ret
        exact ⟨p + 1, ret_val (congrArg Value.bool (by rw [Bool.eq_iff_iff]; simp; omega)), (HFIN.out _).1, fun _ => rfl, (HFIN.out _).2⟩
    · have hpe : p = s.size := by omega
      have hr : rFlag s.data.toList p 0 = (false, p, 10) := by
        unfold rFlag; rw [dif_neg (by omega)]; rfl
      rw [hr]
      clear hr hsl hlt
      subst hpe
      go_enter Try.func152, Try.ntmps152
      go_wp2_with fail
      go_quiet (fail)
      go_wp2_with (go_at_call 124; refine (fwrong_any 10 _ b s s.size 0 (hF.drewN _)).mono ?_; rintro en w1 ⟨rfl, hF1, hk1⟩)
      go_ret
      exact ⟨s.size, rfl, hF1, fun _ => rfl, ((Kept.refl _ _).drewN _).trans hk1⟩
  · have hr : ∃ q, rFlag s.data.toList pos e = (false, q, e) := by
      unfold rFlag
      split
      · split
        · exact ⟨pos, by rw [show wr e 11 = e from if_neg he]⟩
        · exact ⟨pos, rfl⟩
      · exact ⟨pos, by rw [show wr e 10 = e from if_neg he]⟩
    obtain ⟨q, hr⟩ := hr
    rw [hr]
    have hb : ((e : Int) == 0) = false := by simp; omega
    clear hr hsl hp
    go_enter Try.func152, Try.ntmps152
    go_wp2_with fail
    go_ret
    exact ⟨p, rfl, hF, fun h => absurd h he, Kept.refl _ _⟩

theorem fcount_any (most : Int) (w : World) (b : Nat) (s : ByteArray) (p pos e : Nat) (hF : FAt w b s p e) (hp : e = 0 → p = pos) (hm : I64 most) :
    Calls Try.prog 138 #[.pointer (some ⟨b, 0, none⟩), .int .i64 most] w (FPost w b s (.int .i64 (rCount s.data.toList most pos e).1) (rCount s.data.toList most pos e).2.1 (rCount s.data.toList most pos e).2.2) := by
  have c1 := hF.c1
  have hle := hF.le
  have hfit := rSev_fit s.data.toList pos e
  have hs := fsev_any w b s p pos e hF hp
  have hwrong : (rSev s.data.toList pos e).2.2 ≠ 0 → (rSev s.data.toList pos e).1 = 0 := rSev_wrong
  obtain ⟨hm1, hm2⟩ := hm
  unfold rCount
  rcases hr : rSev s.data.toList pos e with ⟨n, q, x⟩
  rw [hr] at hs hfit hwrong
  simp only at hs hfit hwrong ⊢
  have HS := Lib.hid hs; clear hs
  have HR := Lib.hid hr; clear hr
  by_cases hn : most.toNat < n
  · rw [if_pos hn]
    have hx : x = 0 := by
      rcases Nat.eq_zero_or_pos x with h | h
      · exact h
      · have := hwrong (by omega); omega
    subst hx
    clear hwrong hp
    by_cases h0 : 0 ≤ most
    · go_enter Try.func138, Try.ntmps138
      go_wp2_with fail
      refine HS.out.mono ?_
      rintro en w1 ⟨p1, rfl, hF1, hp1, hk1⟩
      have d1 := hF1.c1
      have d2 := hF1.c2
      have g1 := hF1.f1
      have hF2 := hF1.set1 p hle
      go_wp2_with (go_at_call 124; refine (fwrong_any 12 _ b s p 0 hF2).mono ?_; rintro en w2 ⟨rfl, hF3, hk3⟩)
      go_ret
      exact ⟨p, rfl, hF3, fun h => by simp [wr] at h, hk1.trans ((kept_set _).trans hk3)⟩
    · go_enter Try.func138, Try.ntmps138
      go_wp2_with fail
      refine HS.out.mono ?_
      rintro en w1 ⟨p1, rfl, hF1, hp1, hk1⟩
      have d1 := hF1.c1
      have d2 := hF1.c2
      have g1 := hF1.f1
      have hF2 := hF1.set1 p hle
      go_wp2_with (go_at_call 124; refine (fwrong_any 12 _ b s p 0 hF2).mono ?_; rintro en w2 ⟨rfl, hF3, hk3⟩)
      go_ret
      exact ⟨p, rfl, hF3, fun h => by simp [wr] at h, hk1.trans ((kept_set _).trans hk3)⟩
  · rw [if_neg hn]
    by_cases hx : x = 0
    · subst hx
      clear hwrong hp
      by_cases h0 : 0 ≤ most
      · go_enter Try.func138, Try.ntmps138
        go_wp2_with fail
        refine HS.out.mono ?_
        rintro en w1 ⟨p1, rfl, hF1, hp1, hk1⟩
        have d2 := hF1.c2
        have HP1 := Lib.hid hp1; clear hp1
        go_wp2_with fail
        go_ret
        exact ⟨p1, rfl, hF1, fun _ => HP1.out trivial, hk1⟩
      · go_enter Try.func138, Try.ntmps138
        go_wp2_with fail
        refine HS.out.mono ?_
        rintro en w1 ⟨p1, rfl, hF1, hp1, hk1⟩
        have d2 := hF1.c2
        have HP1 := Lib.hid hp1; clear hp1
        go_wp2_with fail
        go_ret
        exact ⟨p1, rfl, hF1, fun _ => HP1.out trivial, hk1⟩
    · have hb : ((x : Int) == 0) = false := by simp; omega
      have hn0 := hwrong hx
      subst hn0
      clear hwrong hp
      go_enter Try.func138, Try.ntmps138
      go_wp2_with fail
      refine HS.out.mono ?_
      rintro en w1 ⟨p1, rfl, hF1, hp1, hk1⟩
      have d2 := hF1.c2
      have HP1 := Lib.hid hp1; clear hp1
      go_wp2_with fail
      go_ret
      exact ⟨p1, rfl, hF1, HP1.out, hk1⟩

theorem extract_str (s : ByteArray) (a c : Nat) : s.extract a c = ⟨((s.data.toList.drop a).take (c - a)).toArray⟩ := by
  apply ByteArray.ext
  apply Array.toList_inj.1
  rw [Lib.extract_data]

theorem rCount_wrong {l : List UInt8} {most : Int} {pos e : Nat} (h : (rCount l most pos e).2.2 ≠ 0) : (rCount l most pos e).1 = 0 := by
  unfold rCount at h ⊢
  by_cases hn : most.toNat < (rSev l pos e).1
  · rw [if_pos hn]
  · rw [if_neg hn] at h ⊢; exact rSev_wrong h

set_option maxRecDepth 100000 in
theorem ftext_any (most : Int) (w : World) (b : Nat) (s : ByteArray) (p pos e : Nat) (hF : FAt w b s p e) (hp : e = 0 → p = pos) (hm : I64 most) :
    Calls Try.prog 102 #[.pointer (some ⟨b, 0, none⟩), .int .i64 most] w (FPost w b s (.string ⟨(rText s.data.toList most pos e).1.toArray⟩) (rText s.data.toList most pos e).2.1 (rText s.data.toList most pos e).2.2) := by
  have c1 := hF.c1
  have hle := hF.le
  have hsm := hF.small
  have hcl := rCount_le s.data.toList most pos e
  have hs := fcount_any most w b s p pos e hF hp hm
  have hwrong : (rCount s.data.toList most pos e).2.2 ≠ 0 → (rCount s.data.toList most pos e).1 = 0 := rCount_wrong
  have hsl : s.data.toList.length = s.size := by simp
  obtain ⟨hm1, hm2⟩ := hm
  unfold rText
  rw [hsl]
  rcases hr : rCount s.data.toList most pos e with ⟨n, q, x⟩
  rw [hr] at hs hwrong hcl
  simp only at hs hwrong hcl ⊢
  have HS := Lib.hid hs; clear hs
  have HR := Lib.hid hr; clear hr
  have hnn : (n : Int) ≤ 9223372036854775807 := by omega
  clear hm1 hm2 hcl hp
  by_cases hx : x = 0
  · subst hx
    clear hwrong
    by_cases hlt : s.size - q < n
    · rw [if_pos hlt]
      go_enter Try.func102, Try.ntmps102
      go_wp2_with fail
      refine HS.out.mono ?_
      rintro en w1 ⟨p1, rfl, hF1, hp1, hk1⟩
      obtain rfl := hp1 rfl
      clear hp1
      have hle1 := hF1.le
      have d0 := hF1.c0
      have d1 := hF1.c1
      have d2 := hF1.c2
      have g1 := hF1.f1
      have z1 : IntKind.i64.wrap ((s.size : Int) - (p1 : Int)) = (s.size : Int) - (p1 : Int) := IntWalk.i64_in _ (by omega)
      have hF2 : Hid (∀ m, FAt ((w1.drewN m).setCell ⟨b, 1, none⟩ (.int .i64 p)) b s p 0) := fun m => (hF1.drewN m).set1 p hle
      go_wp2_with fail
      go_quiet (fail)
      go_wp2_with (go_at_call 124; refine (fwrong_any 10 _ b s p 0 (hF2.out _)).mono ?_; rintro en w2 ⟨rfl, hF3, hk3⟩)
      go_ret
      exact ⟨p, rfl, hF3, fun h => by simp [wr] at h, hk1.trans (((Kept.refl _ _).drewN _).trans ((kept_set _).trans hk3))⟩
    · rw [if_neg hlt, if_pos rfl]
      go_enter Try.func102, Try.ntmps102
      go_wp2_with fail
      refine HS.out.mono ?_
      rintro en w1 ⟨p1, rfl, hF1, hp1, hk1⟩
      obtain rfl := hp1 rfl
      clear hp1
      have hle1 := hF1.le
      have d0 := hF1.c0
      have d1 := hF1.c1
      have d2 := hF1.c2
      have g1 := hF1.f1
      have z1 : IntKind.i64.wrap ((s.size : Int) - (p1 : Int)) = (s.size : Int) - (p1 : Int) := IntWalk.i64_in _ (by omega)
      have z2 : IntKind.i64.wrap ((p1 : Int) + (n : Int)) = (p1 : Int) + (n : Int) := IntWalk.i64_in _ (by omega)
      have z3 : (0 : Int) ≤ (p1 : Int) + (n : Int) := by omega
      have z4 : ((p1 : Int) + (n : Int)).toNat = p1 + n := by omega
      have z5 : (p1 : Int) + (n : Int) ≤ (s.size : Int) := by omega
      have z6 : (p1 : Int) ≤ (p1 : Int) + (n : Int) := by omega
      have z7 : (0 : Int) ≤ (p1 : Int) := by omega
      have hfin : ∀ m, FAt ((w1.drewN m).setCell ⟨b, 1, none⟩ (.int .i64 ((p1 : Int) + n))) b s (p1 + n) 0 ∧ Kept (RS b) w ((w1.drewN m).setCell ⟨b, 1, none⟩ (.int .i64 ((p1 : Int) + n))) := fun m =>
        ⟨(hF1.drewN m).set1 (p1 + n) (by omega), hk1.trans (((Kept.refl _ _).drewN _).trans (kept_set _))⟩
      have HFIN := Lib.hid hfin; clear hfin
      go_wp2_with fail
      go_quiet (fail)
      go_wp2_with fail
      go_quiet (fail)
      go_wp2_with fail
      go_ret
      refine ⟨p1 + n, ret_val ?_, (HFIN.out _).1, fun _ => rfl, (HFIN.out _).2⟩
      show Value.string (s.extract p1 (p1 + n)) = _
      rw [extract_str, show p1 + n - p1 = n from by omega]
  · have hn0 := hwrong hx
    subst hn0
    rw [if_neg (by omega), if_neg hx]
    have hb : ((x : Int) == 0) = false := by simp; omega
    clear hwrong
    go_enter Try.func102, Try.ntmps102
    go_wp2_with fail
    refine HS.out.mono ?_
    rintro en w1 ⟨p1, rfl, hF1, hp1, hk1⟩
    have d2 := hF1.c2
    have HP1 := Lib.hid hp1; clear hp1
    go_wp2_with fail
    go_ret
    exact ⟨p1, rfl, hF1, fun h => absurd h hx, hk1⟩

/-- what End answers -/
def rEndE (n pos e : Nat) : Nat := if pos = n then e else wr e 11
theorem rEndE_wrong {n pos e : Nat} (h : e ≠ 0) : rEndE n pos e = e := by unfold rEndE wr; rw [if_neg h, ite_self]
theorem rEndE_zero {n pos e : Nat} (h : rEndE n pos e = 0) : e = 0 ∧ pos = n := by
  unfold rEndE wr at h
  split at h
  · exact ⟨h, by assumption⟩
  · split at h
    · omega
    · omega

theorem rend_e (w : World) (b : Nat) (v : Value) (l : List UInt8) (pos e : Nat) (hR : RAt w b v l pos e) :
    Calls Try.prog 110 #[.pointer (some ⟨b, 0, none⟩)] w (RPost w b v l (.int .i64 (rEndE l.length pos e)) pos (rEndE l.length pos e)) := by
  have h := rend_any w b v l pos e hR
  unfold rEndE
  by_cases hp : pos = l.length
  · rw [if_pos hp, if_pos hp] at h; rw [if_pos hp]; exact h
  · rw [if_neg hp, if_neg hp] at h; rw [if_neg hp]; exact h

theorem fend_any (w : World) (b : Nat) (s : ByteArray) (p pos e : Nat) (hF : FAt w b s p e) (hp : e = 0 → p = pos) :
    Calls Try.prog 76 #[.pointer (some ⟨b, 0, none⟩)] w (FPost w b s (.int .i64 (rEndE s.size pos e)) pos (rEndE s.size pos e)) := by
  have c0 := hF.c0
  have c1 := hF.c1
  have hle := hF.le
  have hsm := hF.small
  by_cases hps : p = s.size
  · have hres : rEndE s.size pos e = e := by
      by_cases he : e = 0
      · unfold rEndE; rw [if_pos (by rw [← hp he]; exact hps)]
      · exact rEndE_wrong he
    rw [hres]
    have c2 := hF.c2
    have HP := Lib.hid hp
    have hpb : ((p : Int) == (s.size : Int)) = true := by simp; omega
    have hpa : s.size ≤ p := by omega
    clear hp hres hps
    go_enter Try.func76, Try.ntmps76
    go_wp2_with fail
    go_quiet (fail)
    go_wp2_with fail
    go_ret
    exact ⟨p, rfl, hF.drewN _, HP.out, (Kept.refl _ _).drewN _⟩
  · have hres : rEndE s.size pos e = wr e 11 := by
      by_cases he : e = 0
      · unfold rEndE; rw [if_neg (by rw [← hp he]; exact hps)]
      · rw [rEndE_wrong he, show wr e 11 = e from if_neg he]
    rw [hres]
    have hne : ((p : Int) == (s.size : Int)) = false := by simp; omega
    have hwz : wr e 11 = 0 → p = pos := fun h => by unfold wr at h; split at h <;> simp_all
    have HP := Lib.hid hwz; clear hp hres hwz
    go_enter Try.func76, Try.ntmps76
    go_wp2_with fail
    go_quiet (fail)
    go_wp2_with (go_at_call 124; refine (fwrong_any 11 _ b s p e (hF.drewN _)).mono ?_; rintro en w1 ⟨rfl, hF1, hk1⟩; have d2 := hF1.c2)
    go_ret
    exact ⟨p, rfl, hF1, HP.out, ((Kept.refl _ _).drewN _).trans hk1⟩
end Go.Proofs.Ytngcfnffbggniaa
