/- The document's own reader: Flag, Count, Text, End. The document's own answers: what is laid; and the law's helpers size, lay. What Put and Get answer; plain mathematics, and the worlds between. What a law holds of what Get answered: whole and lying in a block, or refused. Through and inside: what is laid, read again, cut off, with more; a slice of one struct; a cell of a struct written. -/
import Derived.Test.YtpmemcpfoapjmaaGreatV05
import Derived.Lib.Strings
import Derived.Test.YtpmemcpfoapjmaaGreatV02
import Derived.Laws.Concat
import Derived.Test.YtpmemcpfoapjmaaGreatV04
import Derived.Deep.MidRow
import Derived.Great.BuildSlice
import Derived.Great.FillDense
namespace Go.Proofs.YtpmemcpfoapjmaaGreat
open Go.ChangeShapes Go.WideShapes Go.ChangeAt Go.RowKit
set_option linter.unusedVariables false

theorem rSev_wrong {l : List UInt8} {pos e : Nat} (h : (rSev l pos e).2.2 ≠ 0) : (rSev l pos e).1 = 0 := by
  unfold rSev at h ⊢
  by_cases he : e = 0
  · rw [if_pos he] at h ⊢
    rcases seek_err (l.drop pos) 0 0 with h1 | h1 | h1
    · exact absurd h1.1 h
    · simp only; rw [h1]
    · simp only; rw [h1]
  · rw [if_neg he]

set_option maxRecDepth 100000 in
theorem fflag_any (w : World) (b : Nat) (s : ByteArray) (p pos e : Nat) (hF : FAt w b s p e) (hp : e = 0 → p = pos) :
    Calls Tryz.prog 134 #[.pointer (some ⟨b, 0, none⟩)] w (FPost w b s (.bool (rFlag s.data.toList pos e).1) (rFlag s.data.toList pos e).2.1 (rFlag s.data.toList pos e).2.2) := by
  have c0 := hF.c0
  have c1 := hF.c1
  have c2 := hF.c2
  have f1 := hF.f1
  have hle := hF.le
  have hsm := hF.small
  have hsl : s.data.toList.length = s.size := by simp
  by_cases he : e = 0
  · subst he
    obtain rfl := hp rfl
    clear hp
    by_cases hlt : p < s.size
    · have hne : ((p : Int) == (s.size : Int)) = false := by simp; omega
      have hpl : p < s.data.toList.length := by omega
      have hx256 := s[p].toNat_lt
      have b1 : (0 : Int) ≤ (p : Int) := by omega
      have b2 : (p : Int) < (s.size : Int) := by omega
      by_cases h1 : 1 < s[p].toNat
      · have hr : rFlag s.data.toList p 0 = (false, p, 11) := by
          unfold rFlag; rw [dif_pos hpl]; exact if_pos h1
        rw [hr]
        clear hr hsl
        go_enter Tryz.func134, Tryz.ntmps134
        go_wp2_with fail
        go_quiet (fail)
        go_wp2_with fail
        go_quiet (fail)
        go_wp2_with (go_at_call 105; refine (fwrong_any 11 _ b s p 0 (hF.drewN _)).mono ?_; rintro en w1 ⟨rfl, hF1, hk1⟩)
        go_ret
        exact ⟨p, rfl, hF1, fun _ => rfl, ((Kept.refl _ _).drewN _).trans hk1⟩
      · have hr : rFlag s.data.toList p 0 = (s[p].toNat == 1, p + 1, 0) := by
          unfold rFlag; rw [dif_pos hpl]; exact (if_neg h1).trans (if_pos rfl)
        rw [hr]
        have hfin : ∀ m, FAt ((w.drewN m).setCell ⟨b, 1, none⟩ (.int .i64 ((p : Int) + 1))) b s (p + 1) 0 ∧ Kept (RS b) w ((w.drewN m).setCell ⟨b, 1, none⟩ (.int .i64 ((p : Int) + 1))) := fun m =>
          ⟨(hF.drewN m).set1 (p + 1) (by omega), ((Kept.refl _ _).drewN _).trans (kept_set _)⟩
        have HFIN := Lib.hid hfin; clear hfin
        clear hr hsl
        go_enter Tryz.func134, Tryz.ntmps134
        go_wp2_with fail
        go_quiet (fail)
        go_wp2_with fail
        go_quiet (fail)
        go_wp2_with fail
        go_ret
        exact ⟨p + 1, ret_val (congrArg Value.bool (by rw [Bool.eq_iff_iff]; simp; omega)), (HFIN.out _).1, fun _ => rfl, (HFIN.out _).2⟩
    · have hpe : p = s.size := by omega
      have hr : rFlag s.data.toList p 0 = (false, p, 10) := by
        unfold rFlag; rw [dif_neg (by omega)]; rfl
      rw [hr]
      clear hr hsl hlt
      subst hpe
      go_enter Tryz.func134, Tryz.ntmps134
      go_wp2_with fail
      go_quiet (fail)
      go_wp2_with (go_at_call 105; refine (fwrong_any 10 _ b s s.size 0 (hF.drewN _)).mono ?_; rintro en w1 ⟨rfl, hF1, hk1⟩)
      go_ret
      exact ⟨s.size, rfl, hF1, fun _ => rfl, ((Kept.refl _ _).drewN _).trans hk1⟩
  · have hr : ∃ q, rFlag s.data.toList pos e = (false, q, e) := by
      unfold rFlag
      split
      · split
        · exact ⟨pos, by rw [show wr e 11 = e from if_neg he]⟩
        · exact ⟨pos, rfl⟩
      · exact ⟨pos, by rw [show wr e 10 = e from if_neg he]⟩
    obtain ⟨q, hr⟩ := hr
    rw [hr]
    have hb : ((e : Int) == 0) = false := by simp; omega
    clear hr hsl hp
    go_enter Tryz.func134, Tryz.ntmps134
    go_wp2_with fail
    go_ret
    exact ⟨p, rfl, hF, fun h => absurd h he, Kept.refl _ _⟩

theorem fcount_any (most : Int) (w : World) (b : Nat) (s : ByteArray) (p pos e : Nat) (hF : FAt w b s p e) (hp : e = 0 → p = pos) (hm : I64 most) :
    Calls Tryz.prog 104 #[.pointer (some ⟨b, 0, none⟩), .int .i64 most] w (FPost w b s (.int .i64 (rCount s.data.toList most pos e).1) (rCount s.data.toList most pos e).2.1 (rCount s.data.toList most pos e).2.2) := by
  have c1 := hF.c1
  have hle := hF.le
  have hfit := rSev_fit s.data.toList pos e
  have hs := fsev_any w b s p pos e hF hp
  have hwrong : (rSev s.data.toList pos e).2.2 ≠ 0 → (rSev s.data.toList pos e).1 = 0 := rSev_wrong
  obtain ⟨hm1, hm2⟩ := hm
  unfold rCount
  rcases hr : rSev s.data.toList pos e with ⟨n, q, x⟩
  rw [hr] at hs hfit hwrong
  simp only at hs hfit hwrong ⊢
  have HS := Lib.hid hs; clear hs
  have HR := Lib.hid hr; clear hr
  by_cases hn : most.toNat < n
  · rw [if_pos hn]
    have hx : x = 0 := by
      rcases Nat.eq_zero_or_pos x with h | h
      · exact h
      · have := hwrong (by omega); omega
    subst hx
    clear hwrong hp
    by_cases h0 : 0 ≤ most
    · go_enter Tryz.func104, Tryz.ntmps104
      go_wp2_with fail
      refine HS.out.mono ?_
      rintro en w1 ⟨p1, rfl, hF1, hp1, hk1⟩
      have d1 := hF1.c1
      have d2 := hF1.c2
      have g1 := hF1.f1
      have hF2 := hF1.set1 p hle
      go_wp2_with (go_at_call 105; refine (fwrong_any 12 _ b s p 0 hF2).mono ?_; rintro en w2 ⟨rfl, hF3, hk3⟩)
      go_ret
      exact ⟨p, rfl, hF3, fun h => by simp [wr] at h, hk1.trans ((kept_set _).trans hk3)⟩
    · go_enter Tryz.func104, Tryz.ntmps104
      go_wp2_with fail
      refine HS.out.mono ?_
      rintro en w1 ⟨p1, rfl, hF1, hp1, hk1⟩
      have d1 := hF1.c1
      have d2 := hF1.c2
      have g1 := hF1.f1
      have hF2 := hF1.set1 p hle
      go_wp2_with (go_at_call 105; refine (fwrong_any 12 _ b s p 0 hF2).mono ?_; rintro en w2 ⟨rfl, hF3, hk3⟩)
      go_ret
      exact ⟨p, rfl, hF3, fun h => by simp [wr] at h, hk1.trans ((kept_set _).trans hk3)⟩
  · rw [if_neg hn]
    by_cases hx : x = 0
    · subst hx
      clear hwrong hp
      by_cases h0 : 0 ≤ most
      · go_enter Tryz.func104, Tryz.ntmps104
        go_wp2_with fail
        refine HS.out.mono ?_
        rintro en w1 ⟨p1, rfl, hF1, hp1, hk1⟩
        have d2 := hF1.c2
        have HP1 := Lib.hid hp1; clear hp1
        go_wp2_with fail
        go_ret
        exact ⟨p1, rfl, hF1, fun _ => HP1.out trivial, hk1⟩
      · go_enter Tryz.func104, Tryz.ntmps104
        go_wp2_with fail
        refine HS.out.mono ?_
        rintro en w1 ⟨p1, rfl, hF1, hp1, hk1⟩
        have d2 := hF1.c2
        have HP1 := Lib.hid hp1; clear hp1
        go_wp2_with fail
        go_ret
        exact ⟨p1, rfl, hF1, fun _ => HP1.out trivial, hk1⟩
    · have hb : ((x : Int) == 0) = false := by simp; omega
      have hn0 := hwrong hx
      subst hn0
      clear hwrong hp
      go_enter Tryz.func104, Tryz.ntmps104
      go_wp2_with fail
      refine HS.out.mono ?_
      rintro en w1 ⟨p1, rfl, hF1, hp1, hk1⟩
      have d2 := hF1.c2
      have HP1 := Lib.hid hp1; clear hp1
      go_wp2_with fail
      go_ret
      exact ⟨p1, rfl, hF1, HP1.out, hk1⟩

theorem extract_str (s : ByteArray) (a c : Nat) : s.extract a c = ⟨((s.data.toList.drop a).take (c - a)).toArray⟩ := by
  apply ByteArray.ext
  apply Array.toList_inj.1
  rw [Lib.extract_data]

theorem rCount_wrong {l : List UInt8} {most : Int} {pos e : Nat} (h : (rCount l most pos e).2.2 ≠ 0) : (rCount l most pos e).1 = 0 := by
  unfold rCount at h ⊢
  by_cases hn : most.toNat < (rSev l pos e).1
  · rw [if_pos hn]
  · rw [if_neg hn] at h ⊢; exact rSev_wrong h

set_option maxRecDepth 100000 in
theorem ftext_any (most : Int) (w : World) (b : Nat) (s : ByteArray) (p pos e : Nat) (hF : FAt w b s p e) (hp : e = 0 → p = pos) (hm : I64 most) :
    Calls Tryz.prog 67 #[.pointer (some ⟨b, 0, none⟩), .int .i64 most] w (FPost w b s (.string ⟨(rText s.data.toList most pos e).1.toArray⟩) (rText s.data.toList most pos e).2.1 (rText s.data.toList most pos e).2.2) := by
  have c1 := hF.c1
  have hle := hF.le
  have hsm := hF.small
  have hcl := rCount_le s.data.toList most pos e
  have hs := fcount_any most w b s p pos e hF hp hm
  have hwrong : (rCount s.data.toList most pos e).2.2 ≠ 0 → (rCount s.data.toList most pos e).1 = 0 := rCount_wrong
  have hsl : s.data.toList.length = s.size := by simp
  obtain ⟨hm1, hm2⟩ := hm
  unfold rText
  rw [hsl]
  rcases hr : rCount s.data.toList most pos e with ⟨n, q, x⟩
  rw [hr] at hs hwrong hcl
  simp only at hs hwrong hcl ⊢
  have HS := Lib.hid hs; clear hs
  have HR := Lib.hid hr; clear hr
  have hnn : (n : Int) ≤ 9223372036854775807 := by omega
  clear hm1 hm2 hcl hp
  by_cases hx : x = 0
  · subst hx
    clear hwrong
    by_cases hlt : s.size - q < n
    · rw [if_pos hlt]
      go_enter Tryz.func67, Tryz.ntmps67
      go_wp2_with fail
      refine HS.out.mono ?_
      rintro en w1 ⟨p1, rfl, hF1, hp1, hk1⟩
      obtain rfl := hp1 rfl
      clear hp1
      have hle1 := hF1.le
      have d0 := hF1.c0
      have d1 := hF1.c1
      have d2 := hF1.c2
      have g1 := hF1.f1
      have z1 : IntKind.i64.wrap ((s.size : Int) - (p1 : Int)) = (s.size : Int) - (p1 : Int) := IntWalk.i64_in _ (by omega)
      have hF2 : Hid (∀ m, FAt ((w1.drewN m).setCell ⟨b, 1, none⟩ (.int .i64 p)) b s p 0) := fun m => (hF1.drewN m).set1 p hle
      go_wp2_with fail
      go_quiet (fail)
      go_wp2_with (go_at_call 105; refine (fwrong_any 10 _ b s p 0 (hF2.out _)).mono ?_; rintro en w2 ⟨rfl, hF3, hk3⟩)
      go_ret
      exact ⟨p, rfl, hF3, fun h => by simp [wr] at h, hk1.trans (((Kept.refl _ _).drewN _).trans ((kept_set _).trans hk3))⟩
    · rw [if_neg hlt, if_pos rfl]
      go_enter Tryz.func67, Tryz.ntmps67
      go_wp2_with fail
      refine HS.out.mono ?_
      rintro en w1 ⟨p1, rfl, hF1, hp1, hk1⟩
      obtain rfl := hp1 rfl
      clear hp1
      have hle1 := hF1.le
      have d0 := hF1.c0
      have d1 := hF1.c1
      have d2 := hF1.c2
      have g1 := hF1.f1
      have z1 : IntKind.i64.wrap ((s.size : Int) - (p1 : Int)) = (s.size : Int) - (p1 : Int) := IntWalk.i64_in _ (by omega)
      have z2 : IntKind.i64.wrap ((p1 : Int) + (n : Int)) = (p1 : Int) + (n : Int) := IntWalk.i64_in _ (by omega)
      have z3 : (0 : Int) ≤ (p1 : Int) + (n : Int) := by omega
      have z4 : ((p1 : Int) + (n : Int)).toNat = p1 + n := by omega
      have z5 : (p1 : Int) + (n : Int) ≤ (s.size : Int) := by omega
      have z6 : (p1 : Int) ≤ (p1 : Int) + (n : Int) := by omega
      have z7 : (0 : Int) ≤ (p1 : Int) := by omega
      have hfin : ∀ m, FAt ((w1.drewN m).setCell ⟨b, 1, none⟩ (.int .i64 ((p1 : Int) + n))) b s (p1 + n) 0 ∧ Kept (RS b) w ((w1.drewN m).setCell ⟨b, 1, none⟩ (.int .i64 ((p1 : Int) + n))) := fun m =>
        ⟨(hF1.drewN m).set1 (p1 + n) (by omega), hk1.trans (((Kept.refl _ _).drewN _).trans (kept_set _))⟩
      have HFIN := Lib.hid hfin; clear hfin
      go_wp2_with fail
      go_quiet (fail)
      go_wp2_with fail
      go_quiet (fail)
      go_wp2_with fail
      go_ret
      refine ⟨p1 + n, ret_val ?_, (HFIN.out _).1, fun _ => rfl, (HFIN.out _).2⟩
      show Value.string (s.extract p1 (p1 + n)) = _
      rw [extract_str, show p1 + n - p1 = n from by omega]
  · have hn0 := hwrong hx
    subst hn0
    rw [if_neg (by omega), if_neg hx]
    have hb : ((x : Int) == 0) = false := by simp; omega
    clear hwrong
    go_enter Tryz.func67, Tryz.ntmps67
    go_wp2_with fail
    refine HS.out.mono ?_
    rintro en w1 ⟨p1, rfl, hF1, hp1, hk1⟩
    have d2 := hF1.c2
    have HP1 := Lib.hid hp1; clear hp1
    go_wp2_with fail
    go_ret
    exact ⟨p1, rfl, hF1, fun h => absurd h hx, hk1⟩

/-- what End answers -/
def rEndE (n pos e : Nat) : Nat := if pos = n then e else wr e 11
theorem rEndE_wrong {n pos e : Nat} (h : e ≠ 0) : rEndE n pos e = e := by unfold rEndE wr; rw [if_neg h, ite_self]
theorem rEndE_zero {n pos e : Nat} (h : rEndE n pos e = 0) : e = 0 ∧ pos = n := by
  unfold rEndE wr at h
  split at h
  · exact ⟨h, by assumption⟩
  · split at h
    · omega
    · omega

theorem rend_e (w : World) (b : Nat) (v : Value) (l : List UInt8) (pos e : Nat) (hR : RAt w b v l pos e) :
    Calls Tryz.prog 89 #[.pointer (some ⟨b, 0, none⟩)] w (RPost w b v l (.int .i64 (rEndE l.length pos e)) pos (rEndE l.length pos e)) := by
  have h := rend_any w b v l pos e hR
  unfold rEndE
  by_cases hp : pos = l.length
  · rw [if_pos hp, if_pos hp] at h; rw [if_pos hp]; exact h
  · rw [if_neg hp, if_neg hp] at h; rw [if_neg hp]; exact h

theorem fend_any (w : World) (b : Nat) (s : ByteArray) (p pos e : Nat) (hF : FAt w b s p e) (hp : e = 0 → p = pos) :
    Calls Tryz.prog 71 #[.pointer (some ⟨b, 0, none⟩)] w (FPost w b s (.int .i64 (rEndE s.size pos e)) pos (rEndE s.size pos e)) := by
  have c0 := hF.c0
  have c1 := hF.c1
  have hle := hF.le
  have hsm := hF.small
  by_cases hps : p = s.size
  · have hres : rEndE s.size pos e = e := by
      by_cases he : e = 0
      · unfold rEndE; rw [if_pos (by rw [← hp he]; exact hps)]
      · exact rEndE_wrong he
    rw [hres]
    have c2 := hF.c2
    have HP := Lib.hid hp
    have hpb : ((p : Int) == (s.size : Int)) = true := by simp; omega
    have hpa : s.size ≤ p := by omega
    clear hp hres hps
    go_enter Tryz.func71, Tryz.ntmps71
    go_wp2_with fail
    go_quiet (fail)
    go_wp2_with fail
    go_ret
    exact ⟨p, rfl, hF.drewN _, HP.out, (Kept.refl _ _).drewN _⟩
  · have hres : rEndE s.size pos e = wr e 11 := by
      by_cases he : e = 0
      · unfold rEndE; rw [if_neg (by rw [← hp he]; exact hps)]
      · rw [rEndE_wrong he, show wr e 11 = e from if_neg he]
    rw [hres]
    have hne : ((p : Int) == (s.size : Int)) = false := by simp; omega
    have hwz : wr e 11 = 0 → p = pos := fun h => by unfold wr at h; split at h <;> simp_all
    have HP := Lib.hid hwz; clear hp hres hwz
    go_enter Tryz.func71, Tryz.ntmps71
    go_wp2_with fail
    go_quiet (fail)
    go_wp2_with (go_at_call 105; refine (fwrong_any 11 _ b s p e (hF.drewN _)).mono ?_; rintro en w1 ⟨rfl, hF1, hk1⟩; have d2 := hF1.c2)
    go_ret
    exact ⟨p, rfl, hF1, HP.out, ((Kept.refl _ _).drewN _).trans hk1⟩
end Go.Proofs.YtpmemcpfoapjmaaGreat

namespace Go.Proofs.YtpmemcpfoapjmaaGreat
open Go.ChangeShapes Go.WideShapes Go.ChangeAt Go.RowKit
set_option linter.unusedVariables false

theorem refzig_any (n : Int) (w : World) (h : I64 n) :
    Calls Tryz.prog 101 #[.int .i64 n] w fun e w' => e = .returned (.int .u64 (zz n)) ∧ w = w' := by
  obtain ⟨h1, h2⟩ := h
  by_cases hn : 0 ≤ n
  · go_enter Tryz.func101, Tryz.ntmps101
    go_wp2
    go_ret
    exact ⟨ret_val (congrArg (Value.int .u64) (by unfold zz; rw [if_pos hn]; omega)), rfl⟩
  · go_enter Tryz.func101, Tryz.ntmps101
    go_wp2
    go_ret
    exact ⟨ret_val (congrArg (Value.int .u64) (by unfold zz; rw [if_neg (by omega)]; omega)), rfl⟩

structure RefPutRel (w : World) (n : Nat) (v i : Value) (wr : World) : Prop where
  ex : ∃ (m : Nat) (done : List UInt8), i = .int .u64 m ∧ m ≤ n ∧ done ++ sev m = sev n ∧ Row wr v done ∧ Old w wr ∧ Off w.heap.size (fun k => some k = v.ownBlock)

def OldStr (w : World) (l : List UInt8) (e : Ending) (w' : World) : Prop := e = .returned (.string ⟨l.toArray⟩) ∧ Old w w'

theorem convert_row {w : World} {v : Value} {l : List UInt8} (h : Row w v l) :
    Sem.run Tryz.prog (convert 136 9 v) w = .ok (.string ⟨l.toArray⟩) w := by
  obtain ⟨p, c, rfl, _, _, hp⟩ := h.reads.ex
  rcases hp with ⟨rfl, h0⟩ | ⟨g, rfl, _, hc⟩
  · have hl := h.1
    rcases h.2 with ⟨hv, hn⟩ | ⟨g, cap, cur, hv, _⟩
    · have : l = [] := List.eq_nil_of_length_eq_zero hn
      subst this
      exact run_convert_bytes_nil (P := Tryz.prog) w 136 5 Tryz.underlying136 Tryz.underlying5 _ _ 9 Tryz.underlying9
    · simp at hv
  · exact run_convert_bytes_back (P := Tryz.prog) w 136 9 5 ⟨g, 0, none⟩ c l Tryz.underlying136 Tryz.underlying5 Tryz.underlying9 (fun j hj => by
      have hadd : (⟨g, 0, none⟩ : Addr).add j = ⟨g, j, none⟩ := by unfold Addr.add; split <;> simp_all
      rw [hadd]; exact hc j hj)

set_option maxRecDepth 100000 in
theorem refsev_any (n : Nat) (w : World) (h2 : n ≤ 18446744073709551615) :
    Calls Tryz.prog 63 #[.int .u64 n] w (OldStr w (sev n)) := by
  have HN := Lib.hid h2
  clear h2
  go_enter Tryz.func63, Tryz.ntmps63
  go_wp2
  go_loopw [3, 0] (fun v1 i wr => RefPutRel w n v1 i wr) (fun _ i _ => (intOf i).toNat)
  case atStart => exact ⟨n, [], rfl, Nat.le_refl _, rfl, World.ownsRow_nil _ _ _ _, Old.refl _, fun k hk => by simp [Value.ownBlock] at hk⟩
  case round =>
    obtain ⟨m, done, rfl, hmn, hsev, hrow, hO, hoff⟩ := hrel.ex
    clear hrel
    have HS := Lib.hid hsev; clear hsev
    have hm64 : m ≤ 18446744073709551615 := by have := HN.out; omega
    have hdl : done.length ≤ 10 := by
      have := congrArg List.length HS.out
      simp only [List.length_append] at this
      have := sev_length_u64 HN.out
      omega
    have hback : ∀ (o : Obj) (v' : Value) (w' : World), (wr.alloc o).grownBy w' u3.ownBlock → Sep (wr.alloc o) u3.ownBlock v' → Old w w' ∧ Off w.heap.size (fun k => some k = v'.ownBlock) := by
      intro o v' w' hg hs
      have h1 : Old w (wr.alloc o) := Kept.alloc hO o
      refine ⟨h1.step (Kept.of_grownBy hg) hoff, fun k hk => ?_⟩
      rcases hs with hs | hs
      · exact hoff k (Eq.trans hk hs)
      · have := hs k hk.symm
        have := h1.size
        omega
    have HB := Lib.hid hback; clear hback
    by_cases hlt : 128 ≤ m
    · have hcell : ∀ w : World, (w.alloc (.cells #[.int .u8 ((m : Int) % 128 + 128)] 5)).cell? ⟨w.heap.size, 0, none⟩ = some (.int .u8 (UInt8.ofNat (m % 128 + 128)).toNat) := fun w => by
        rw [cell_new, toNat_ofNat_lt (by omega)]; congr 2
      have HC := Lib.hid hcell; clear hcell
      go_wp2_with (at_builtin; go_loud (refine wpList_append_byte _ rfl _ _ rfl u3 done rfl (hrow.alloc _) (by omega) ⟨wr.heap.size, 0, none⟩ 1 (UInt8.ofNat (m % 128 + 128)) rfl (HC.out _) ?_); intro v' w' hrow' hg' hs')
      obtain ⟨hO', hoff'⟩ := HB.out _ _ _ hg' hs'
      refine ⟨⟨m / 128, done ++ [UInt8.ofNat (m % 128 + 128)], rfl, by omega, ?_, hrow', hO', hoff'⟩, by simp [intOf]; omega⟩
      rw [← HS.out, sev_ge hlt]; simp
    · have hcell : ∀ w : World, (w.alloc (.cells #[.int .u8 (m : Int)] 5)).cell? ⟨w.heap.size, 0, none⟩ = some (.int .u8 (UInt8.ofNat m).toNat) := fun w => by rw [cell_new, toNat_ofNat_lt (by omega)]
      have HC := Lib.hid hcell; clear hcell
      have hfin : done ++ [UInt8.ofNat m] = sev n := by rw [← HS.out, sev_lt (by omega)]
      have HF := Lib.hid hfin; clear hfin
      go_wp2_with (at_builtin; go_loud (refine wpList_append_byte _ rfl _ _ rfl u3 done rfl (hrow.alloc _) (by omega) ⟨wr.heap.size, 0, none⟩ 1 (UInt8.ofNat m) rfl (HC.out _) ?_); intro v' w' hrow' hg' hs'; rw [HF.out] at hrow'; have hconv := convert_row hrow')
      obtain ⟨hO', hoff'⟩ := HB.out _ _ _ hg' hs'
      go_ret
      exact ⟨rfl, hO'⟩

theorem refnum_any (n : Int) (w : World) (h : I64 n) :
    Calls Tryz.prog 62 #[.int .i64 n] w (OldStr w (sev (zz n))) := by
  have hz := zz_le h.1 h.2
  go_enter Tryz.func62, Tryz.ntmps62
  go_wp2_with (first | (go_at_call 101; refine (refzig_any _ _ h).mono ?_; rintro e w' ⟨rfl, rfl⟩) | (go_at_call 63; refine (refsev_any _ _ hz).mono ?_; rintro e w1 ⟨rfl, hO⟩))
  go_ret
  exact ⟨rfl, hO⟩

theorem refcount_any (n : Int) (w : World) (h : I64 n) :
    Calls Tryz.prog 23 #[.int .i64 n] w (OldStr w (sev n.toNat)) := by
  obtain ⟨h1, h2⟩ := h
  by_cases hn : 0 ≤ n
  · obtain ⟨m, rfl⟩ := Int.eq_ofNat_of_zero_le hn
    rw [Int.toNat_natCast]
    go_enter Tryz.func23, Tryz.ntmps23
    go_wp2_with (go_at_call 63; refine (refsev_any m _ (by omega)).mono ?_; rintro e w1 ⟨rfl, hO⟩)
    go_ret
    exact ⟨rfl, hO⟩
  · rw [show n.toNat = 0 from by omega]
    go_enter Tryz.func23, Tryz.ntmps23
    go_wp2_with (go_at_call 63; refine (refsev_any 0 _ (by omega)).mono ?_; rintro e w1 ⟨rfl, hO⟩)
    go_ret
    exact ⟨rfl, hO⟩

theorem size_mk (l : List UInt8) : (⟨l.toArray⟩ : ByteArray).size = l.length := by simp [ByteArray.size]
theorem str_append (a : List UInt8) (s : ByteArray) : (⟨a.toArray⟩ : ByteArray) ++ s = ⟨(a ++ s.data.toList).toArray⟩ := by
  apply ByteArray.ext
  simp [ByteArray.data_append]

theorem reftext_any (s : ByteArray) (w : World) (h : s.size ≤ 9223372036854775000) :
    Calls Tryz.prog 24 #[.string s] w (OldStr w (sev s.size ++ s.data.toList)) := by
  have hl : (sev s.size).length ≤ 10 := sev_length_u64 (by omega)
  have hsz := size_mk (sev s.size)
  have q : ∀ W, Sem.run Tryz.prog (Op.stringOp .add ⟨(sev s.size).toArray⟩ s) W = .ok (.string ⟨(sev s.size ++ s.data.toList).toArray⟩) W := fun W => by
    rw [run_string_add_sum W _ _ (by rw [hsz]; omega), str_append]
  clear hsz hl
  go_enter Tryz.func24, Tryz.ntmps24
  go_wp2_with (go_at_call 23; refine (refcount_any s.size _ (by unfold I64; omega)).mono ?_; rintro e w1 ⟨rfl, hO⟩)
  go_ret
  exact ⟨rfl, hO⟩

theorem refflag_any (x : Bool) (w : World) :
    Calls Tryz.prog 103 #[.bool x] w (OldStr w [if x then 1 else 0]) := by
  cases x
  · go_enter Tryz.func103, Tryz.ntmps103
    go_wp2
    go_ret
    exact ⟨rfl, Old.refl _⟩
  · go_enter Tryz.func103, Tryz.ntmps103
    go_wp2
    go_ret
    exact ⟨rfl, Old.refl _⟩
end Go.Proofs.YtpmemcpfoapjmaaGreat

namespace Go.Proofs.YtpmemcpfoapjmaaGreat
open Go.ChangeShapes Go.WideShapes Go.ChangeAt Go.RowKit
set_option linter.unusedVariables false

theorem i64_zero : I64 0 := by unfold I64; omega
theorem str_empty : Str ⟨#[]⟩ := by unfold Str; simp [ByteArray.size]

/-- what the bytes s are, as a whole -/
def Fmt.read {α : Type} (f : Fmt α) (s : ByteArray) : Option α :=
  if rEndE s.data.toList.length (f.get s.data.toList 0 0).2.1 (f.get s.data.toList 0 0).2.2 = 0 then some (f.get s.data.toList 0 0).1 else none

theorem Fmt.read_some {α : Type} {f : Fmt α} (hf : f.Ok) {s : ByteArray} {x : α} (h : f.read s = some x) : s.data.toList = f.lay x ∧ f.fits x := by
  unfold Fmt.read at h
  split at h
  · rename_i h0
    obtain ⟨h1, h2⟩ := rEndE_zero h0
    have h3 := hf.back _ 0 0 (Nat.zero_le _) h1
    simp only [Option.some.injEq] at h
    rw [h2, List.take_length, h] at h3
    exact ⟨by simpa using h3.2.1, h3.2.2⟩
  · simp at h
theorem Fmt.read_lay {α : Type} {f : Fmt α} (hf : f.Ok) {s : ByteArray} {x : α} (h : s.data.toList = f.lay x) (hx : f.fits x) : f.read s = some x := by
  have h1 := hf.fwd x s.data.toList 0 [] hx (by simpa using h)
  unfold Fmt.read
  rw [h1, if_pos]
  simp only [Nat.zero_add, ← h]
  unfold rEndE
  rw [if_pos rfl]

/-- the number that goes along -/
def errOf {α : Type} (o : Option α) : Int := if o.isSome then 0 else 120

/-- what Get answers -/
def TakenPost {α : Type} (E : CellsOf α) (z : α) (w : World) (o : Option α) (en : Ending) (w' : World) : Prop :=
  ∃ cs, en = .returned (.tuple #[.agg cs.toArray, .int .i64 (errOf o)]) ∧ Old w w' ∧ E w' (New w) cs (o.getD z)

section
variable {w w1 w2 w4 : World} {b : Nat} {v : Value} {l : List UInt8} {T : TypeId} {zc : Array Value} {cs : List Value}
structure TakenSt (w w1 w2 w4 : World) (b : Nat) (v : Value) (l : List UInt8) (T : TypeId) (zc : Array Value) (cs : List Value) : Prop where
  rd : RAt w1 b v l 0 0
  k1 : Kept (fun _ => False) (w.alloc (.cells zc T)) w1
  ge : w.heap.size + 1 ≤ b
  k2 : Kept (RS b) w1 w2
  k4 : Kept (RS b) (w2.alloc (.cells cs.toArray T)) w4

theorem TakenSt.sizes (h : TakenSt w w1 w2 w4 b v l T zc cs) : w.heap.size + 1 ≤ w1.heap.size ∧ w1.heap.size ≤ w2.heap.size ∧ w2.heap.size + 1 ≤ w4.heap.size ∧ b < w1.heap.size := by
  have h1 := h.k1.size
  have h2 := h.k2.size
  have h4 := h.k4.size
  have e1 : (w.alloc (.cells zc T)).heap.size = w.heap.size + 1 := by simp
  have e2 : (w2.alloc (.cells cs.toArray T)).heap.size = w2.heap.size + 1 := by simp
  exact ⟨by omega, h2, by omega, h.rd.lt⟩
theorem TakenSt.kept (h : TakenSt w w1 w2 w4 b v l T zc cs) : Kept (RS b) (w.alloc (.cells zc T)) w4 :=
  Kept.trans' (Kept.trans' (h.k1.mono (fun _ _ f => f.elim)) (h.k2.alloc _) (fun _ _ s => s)) h.k4 (fun _ _ s => s)
theorem TakenSt.res (h : TakenSt w w1 w2 w4 b v l T zc cs) : w4.heap[w.heap.size]? = some (.cells zc T (0, 0)) := by
  have := h.ge
  rw [h.kept.block _ (by simp) (fun hs => by have hs' : w.heap.size = b := hs; omega)]
  exact heap_alloc_new w _
theorem TakenSt.box (h : TakenSt w w1 w2 w4 b v l T zc cs) : w4.heap[w2.heap.size]? = some (.cells cs.toArray T (0, 0)) := by
  obtain ⟨h1, h2, h3, h4⟩ := h.sizes
  rw [h.k4.block _ (by simp) (fun hs => by have hs' : w2.heap.size = b := hs; omega)]
  exact heap_alloc_new w2 _
theorem old_setRow {w w4 : World} (h : Old w w4) (c : Array Value) : Old w (w4.setRow w.heap.size c) :=
  Kept.trans' h (setRow_kept w4 w.heap.size c) (fun k hk hs => by have hs' : k = w.heap.size := hs; omega)
theorem TakenSt.old (h : TakenSt w w1 w2 w4 b v l T zc cs) : Old w w4 := by
  have := h.ge
  exact Kept.trans' ((Kept.refl (fun _ => False) w).alloc _) h.kept (fun k hk hs => by have hs' : k = b := hs; omega)
theorem TakenSt.rel {α : Type} {E : CellsOf α} (hE : E.Ok) {x : α} (h : TakenSt w w1 w2 w4 b v l T zc cs) (hx : E w2 (New w1) cs x) (c : Array Value) : E (w4.setRow w.heap.size c) (New w) cs x := by
  obtain ⟨h1, h2, h3, h4⟩ := h.sizes
  have hk : Kept (RS b) w2 w4 := Kept.trans' ((Kept.refl (RS b) w2).alloc _) h.k4 (fun _ _ s => s)
  have h5 := hE.keep hx hk (new_rs h.rd)
  exact hE.mono (hE.keep h5 (setRow_kept w4 w.heap.size c) (fun k hk hs => by have hk' : w1.heap.size ≤ k := hk; have hs' : k = w.heap.size := hs; omega)) (fun k _ hk => by have hk' : w1.heap.size ≤ k := hk; unfold New; omega)
end


end Go.Proofs.YtpmemcpfoapjmaaGreat

namespace Go.Proofs.YtpmemcpfoapjmaaGreat
open Go.ChangeShapes Go.WideShapes Go.ChangeAt Go.RowKit
set_option linter.unusedVariables false

/-- Q, but for the normal end, where R is asked -/
def AtEnd (R : Act → World → Prop) (Q : Exit → Act → World → Prop) : Exit → Act → World → Prop
  | .normal, a, w => R a w
  | e, a, w => Q e a w

theorem upon_cut {P : Program} {o : Oper} {a : Act} {w : World} {K K' : Act → World → Prop} {R : Act → World → Prop} {Q : Exit → Act → World → Prop} (h : ∀ a w, K a w → K' a w)
    (hh : o.wp P a w K (AtEnd R Q)) : o.wp P a w K' Q := by
  unfold Oper.wp at *
  generalize (execOp a.eval o).run P w = r at *
  cases r with
  | ok n w' =>
    cases n <;> simp only [Oper.upon] at hh ⊢ <;>
      first
        | exact h _ _ hh
        | exact Calls.mono hh (fun e w'' he => by cases e <;> first | exact h _ _ he | exact he)
        | exact Rows.mono hh (fun _ _ he => h _ _ he)
  | halt x w' => cases x <;> simp only [Oper.upon] at hh ⊢ <;> exact hh

theorem wpList_cut {P : Program} {ops : Array Oper} {R : Act → World → Prop} {Q : Exit → Act → World → Prop} : ∀ (n : Nat) (l : List Oper) (a : Act) (w : World),
    wpList P ops (AtEnd R Q) (l.take n) a w → (∀ a' w', R a' w' → wpList P ops Q (l.drop n) a' w') → wpList P ops Q l a w := by
  intro n
  induction n with
  | zero => intro l a w h1 h2; exact h2 a w h1
  | succ n ih =>
    intro l a w h1 h2
    cases l with
    | nil => exact h2 a w h1
    | cons o l =>
      simp only [List.take_succ_cons, wpList] at h1
      simp only [wpList]
      split
      · rename_i hw
        rw [if_pos hw] at h1
        rcases h1 with h1 | ⟨h1, h3⟩
        · exact Or.inl (upon_cut (fun a' w' q => ih l a' w' q (by simpa using h2)) h1)
        · exact Or.inr ⟨h1, h3⟩
      · rename_i hw
        rw [if_neg hw] at h1
        exact ih l _ _ h1 (by simpa using h2)

/-- a call that is asked for or not: what follows knows that the last slot says yes -/
theorem wpList_or {P : Program} {ops : Array Oper} {Q : Exit → Act → World → Prop} {o : Oper} {l : List Oper} {a : Act} {w : World} (d1 d2 d3 d4 d5 : Nat) (hd : o.dst = some d1) (S : World → Prop)
    (h1 : ∀ Q2 : Exit → Act → World → Prop, (∀ v1 v2 v3 v4 w', S w' → Q2 .normal (((((a.put (some d1) v1).put (some d2) v2).put (some d3) v3).put (some d4) v4).put (some d5) (.bool true)) w') → wpList P ops Q2 (o :: l.take 4) a w)
    (h2 : ∀ v1 v2 v3 v4 w', S w' → wpList P ops Q (l.drop 4) (((((a.put (some d1) v1).put (some d2) v2).put (some d3) v3).put (some d4) v4).put (some d5) (.bool true)) w') : wpList P ops Q (o :: l) a w :=
  wpList_cut (R := fun a' w' => ∃ v1 v2 v3 v4, a' = ((((a.put (some d1) v1).put (some d2) v2).put (some d3) v3).put (some d4) v4).put (some d5) (.bool true) ∧ S w') 5 (o :: l) a w
    (h1 _ (fun v1 v2 v3 v4 w' hs => ⟨v1, v2, v3, v4, rfl, hs⟩)) (fun a' w' ⟨v1, v2, v3, v4, e, hs⟩ => by subst e; exact h2 v1 v2 v3 v4 w' hs)
/-- a struct loaded as a whole, where what guards the load says yes -/
theorem wpList_load_guarded {P : Program} {ops : Array Oper} {rest : List Oper} {op : Oper} {a : Act} {w : World} {Q : Exit → Act → World → Prop} (hw : Region.wanted op (yielded ops a.tmps) = true) (ty : TypeId) (x : Operand) (ho : op.op = .load ty x)
    (b o : Nat) (hx : a.eval x = .pointer (some ⟨b, o, none⟩)) (cs : List Value) (d : TypeDesc) (hc : w.rangeAt b o cs)
    (hu : P.underlying ty = some d) (hd : d.isRow = true) (hi : (P.info? ty).map (·.size) = some cs.length)
    (h : wpList P ops Q rest (a.put op.dst (.agg cs.toArray)) w) : wpList P ops Q (op :: rest) a w := by
  simp only [wpList, hw, if_true]
  exact Or.inl (wp_load_mid ty x ho b o hx cs d hc hu hd hi h)
theorem info_len {P : Program} {T : TypeId} {n : Nat} {cs : List Value} (h : (P.info? T).map (·.size) = some n) (hl : cs.length = n) : (P.info? T).map (·.size) = some cs.length := by rw [hl]; exact h
theorem at_end {R : Act → World → Prop} {Q : Exit → Act → World → Prop} {a : Act} {w : World} (h : R a w) : AtEnd R Q .normal a w := h

/-- the thing and its number, as Get answers them: o is what the bytes are -/
def GotPost {α : Type} (E : CellsOf α) (n : Nat) (o : Option α) (w : World) (en : Ending) (w' : World) : Prop :=
  ∃ cs e, en = .returned (.tuple #[.agg cs.toArray, .int .i64 e]) ∧ Old w w' ∧ Flat n cs ∧
    ((e = 0 ∧ ∃ x, o = some x ∧ E w' (fun k => k < w'.heap.size) cs x) ∨ (e = 120 ∧ o = none))

theorem got_of_taken {α : Type} {E : CellsOf α} {n : Nat} {o : Option α} {z : α} {w w' : World} {en : Ending} (hE : E.Ok) (hfl : ∀ {w : World} {ok : Nat → Prop} {cs : List Value} {x : α}, E w ok cs x → Flat n cs)
    (h : TakenPost E z w o en w') : GotPost E n o w en w' := by
  obtain ⟨cs, he, hO, hx⟩ := h
  refine ⟨cs, _, he, hO, hfl hx, ?_⟩
  cases o with
  | none => exact Or.inr ⟨rfl, rfl⟩
  | some x => exact Or.inl ⟨rfl, x, rfl, hE.mono hx (fun k hk _ => hk)⟩

/-- the same, later, the cells in the block g -/
def Got {α : Type} (E : CellsOf α) (T : TypeId) (o : Option α) (g : Nat) (cs : List Value) (e : Int) (W : World) : Prop :=
  W.heap[g]? = some (.cells cs.toArray T (0, 0)) ∧ ((e = 0 ∧ ∃ x B, o = some x ∧ B ≤ W.heap.size ∧ E W (fun k => k < B) cs x) ∨ (e = 120 ∧ o = none))

theorem Got.old {α : Type} {E : CellsOf α} (hE : E.Ok) {T : TypeId} {o : Option α} {g : Nat} {cs : List Value} {e : Int} {W W' : World} (h : Got E T o g cs e W) (hO : Old W W') : Got E T o g cs e W' := by
  obtain ⟨h1, h2⟩ := h
  refine ⟨(hO.block _ (lt_of_block h1) id).trans h1, ?_⟩
  rcases h2 with ⟨h0, x, B, h3, h4, h5⟩ | h2
  · exact Or.inl ⟨h0, x, B, h3, Nat.le_trans h4 hO.size, hE.keep h5 hO (disj_none _)⟩
  · exact Or.inr h2
theorem Got.mk {α : Type} {E : CellsOf α} (hE : E.Ok) {T : TypeId} {o : Option α} {cs : List Value} {e : Int} {w' : World}
    (h : (e = 0 ∧ ∃ x, o = some x ∧ E w' (fun k => k < w'.heap.size) cs x) ∨ (e = 120 ∧ o = none)) : Got E T o w'.heap.size cs e (w'.alloc (.cells cs.toArray T)) := by
  refine ⟨heap_alloc_new w' _, ?_⟩
  rcases h with ⟨h0, x, h3, h5⟩ | h
  · exact Or.inl ⟨h0, x, w'.heap.size, h3, by simp, hE.keep h5 ((Kept.refl (fun _ => False) w').alloc _) (disj_none _)⟩
  · exact Or.inr h
theorem in_lt {W : World} {B : Nat} (h : B ≤ W.heap.size) : In W (fun k => k < B) := fun k hk => Nat.lt_of_lt_of_le hk h

theorem lay_str {α : Type} {f : Fmt α} (hf : f.Ok) {s : ByteArray} {x : α} (h : f.read s = some x) : (⟨(f.lay x).toArray⟩ : ByteArray) = s := by
  have := (Fmt.read_some hf h).1
  exact str_eq (by simp [this])
theorem lay_facts {α : Type} {f : Fmt α} (hf : f.Ok) {s : ByteArray} {o : Option α} (ho : f.read s = o) : ∀ x, o = some x → (⟨(f.lay x).toArray⟩ : ByteArray) = s ∧ (f.lay x).length = s.size := fun x hx => by
  subst ho
  refine ⟨lay_str hf hx, ?_⟩
  have := (Fmt.read_some hf hx).1
  rw [← this, str_len]
theorem lay_len {α : Type} {f : Fmt α} (hf : f.Ok) {s : ByteArray} {x : α} (h : f.read s = some x) : (f.lay x).length = s.size := by
  have := (Fmt.read_some hf h).1
  rw [← this, str_len]
end Go.Proofs.YtpmemcpfoapjmaaGreat

namespace Go.Proofs.YtpmemcpfoapjmaaGreat
open Go.ChangeShapes Go.WideShapes Go.ChangeAt Go.RowKit
set_option linter.unusedVariables false

section
variable {α : Type} {f : Fmt α}
theorem read_of_lay (hf : f.Ok) {x : α} {s : ByteArray} (hs : s.data.toList = f.lay x) : (f.read s = some x ∧ f.fits x) ∨ (f.read s = none ∧ ¬ f.fits x) := by
  cases h : f.read s with
  | none =>
    refine Or.inr ⟨rfl, fun hx => ?_⟩
    rw [Fmt.read_lay hf hs hx] at h
    cases h
  | some y =>
    obtain ⟨h1, h2⟩ := Fmt.read_some hf h
    have h3 := hf.pf x y [] [] (by rw [List.append_nil, List.append_nil, ← hs, h1])
    rw [h3.1]
    exact Or.inl ⟨rfl, h2⟩
theorem read_cut (hf : f.Ok) {x : α} {s t : ByteArray} (hs : s.data.toList = f.lay x) {k : Nat} (hk : k < s.size) (ht : t.data.toList = s.data.toList.take k) : f.read t = none := by
  cases h : f.read t with
  | none => rfl
  | some y =>
    exfalso
    obtain ⟨h1, h2⟩ := Fmt.read_some hf h
    have h3 := hf.pf x y [] ((f.lay x).drop k) (by
      rw [← h1, ht, hs, List.append_nil, List.take_append_drop])
    have h4 : ((f.lay x).drop k).length = 0 := by rw [← h3.2]; rfl
    rw [List.length_drop, ← hs, str_len] at h4
    omega
theorem read_more (hf : f.Ok) {x : α} {t : ByteArray} {r : List UInt8} (hr : r ≠ []) (ht : t.data.toList = f.lay x ++ r) : f.read t = none := by
  cases h : f.read t with
  | none => rfl
  | some y =>
    exfalso
    obtain ⟨h1, h2⟩ := Fmt.read_some hf h
    have h3 := hf.pf x y r [] (by rw [List.append_nil, ← h1, ht])
    exact hr h3.2
end

theorem mod_in (k : Nat) {n : Nat} (h : 0 < n) : 0 ≤ (k : Int) % (n : Int) ∧ (k : Int) % (n : Int) ≤ (n : Int) :=
  ⟨Int.emod_nonneg _ (by omega), Int.le_of_lt (Int.emod_lt_of_pos _ (by omega))⟩
/-- no entry, no message: behind names that no walk opens -/
structure NoEntry (s : ByteArray) : Prop where
  h : entryF.read s = none
structure NoMessage (s : ByteArray) : Prop where
  h : messageF.read s = none

theorem not_empty {s : ByteArray} (h : 0 < s.size) : s.toList.isEmpty = false := by
  rw [ByteArray.toList_eq]
  have : 0 < s.data.toList.length := by rw [str_len]; exact h
  cases hl : s.data.toList with
  | nil => rw [hl] at this; simp at this
  | cons a l => rfl

theorem read_ext {α : Type} {f : Fmt α} (hf : f.Ok) {x : α} {s : ByteArray} (hs : s.data.toList = f.lay x) (k : Nat) (h0 : 0 < s.size) : f.read (s.extract 0 (k % s.size)) = none :=
  read_cut hf hs (k := k % s.size) (Nat.mod_lt _ h0) (by rw [Lib.extract_data]; simp)
theorem read_plus {α : Type} {f : Fmt α} (hf : f.Ok) {x : α} {s : ByteArray} (hs : s.data.toList = f.lay x) (b : UInt8) : f.read (s ++ ⟨#[b]⟩) = none :=
  read_more hf (x := x) (r := [b]) (by simp) (by rw [← hs]; simp [ByteArray.data_append])
theorem ext_size (s : ByteArray) (k : Nat) : (s.extract 0 k).size ≤ s.size := by
  rw [← str_len, ← str_len, Lib.extract_data]; simp; omega

theorem lay_pos_entry (x : Entry) : 0 < (entryF.lay x).length := by
  have h := sev_length_pos (zz x.zxid)
  have e : ∃ r, entryF.lay x = sev (zz x.zxid) ++ r := ⟨_, rfl⟩
  obtain ⟨r, e⟩ := e
  rw [e, List.length_append]; omega
theorem lay_pos_message (x : Message) : 0 < (messageF.lay x).length := by
  have h := sev_length_pos (zz x.kind)
  have e : ∃ r, messageF.lay x = sev (zz x.kind) ++ r := ⟨_, rfl⟩
  obtain ⟨r, e⟩ := e
  rw [e, List.length_append]; omega

/-- a message, its entries others -/
def withEntries (y : Message) (l : List Entry) : Message := { y with entries := l }
theorem message_split (y : Message) : ∃ a b, ∀ l, messageF.lay (withEntries y l) = a ++ (sev l.length ++ (layN entryF l ++ b)) :=
  ⟨sev (zz y.kind) ++ (sev (zz y.epoch) ++ (sev (zz y.zxid) ++ (sev (zz y.number) ++ (sev (zz y.session) ++ ((listF numF).lay y.marks ++ (textF 65536).lay y.data))))), reqF.lay y.request ++ (listF (textF 4096)).lay y.ids, fun l => by
    simp only [messageF, isoF, seqF, listF, numF, withEntries, List.append_assoc]⟩
theorem withEntries_self (y : Message) : withEntries y y.entries = y := rfl
theorem message_len (y : Message) (l : List Entry) (hl : l.length ≤ 9223372036854775807) : (messageF.lay (withEntries y l)).length ≤ (messageF.lay y).length + (layN entryF l).length + 10 := by
  obtain ⟨a, b, h⟩ := message_split y
  have h0 := h y.entries
  rw [withEntries_self] at h0
  rw [h, h0]
  have := sev_length_u64 (n := l.length) (by omega)
  simp only [List.length_append]
  omega
theorem message_fits {y : Message} {l : List Entry} (h : messageF.fits (withEntries y l)) : ∀ x ∈ l, entryF.fits x := by
  have h' : (listF entryF).fits l := h.2.2.2.2.2.2.2.1
  exact h'.2

theorem messageE_set {w : World} {ok ok' : Nat → Prop} {cs : List Value} {y : Message} {v : Value} {l : List Entry} (h : messageE w ok cs y) (hm : ∀ k, k < w.heap.size → ok k → ok' k) (hl : ListR entryE w ok' 11 v l) : messageE w ok' (cs.set 7 v) (withEntries y l) := by
  obtain ⟨a, b, c, d, rfl, h0, h1, h2, h3, hp⟩ := h
  exact ⟨a, v, c, d, rfl, h0.mono intE_ok hm, hl, reqE_ok.mono h2 hm, h3.mono textE_ok hm, hp⟩

theorem fill_one (cs : List Value) (n : Nat) (hn : cs.length = n) (hp : 0 < n) (Z : Array Value) (hZ : Z.size = n) :
    Instr.fill (fun i => some (i * n, n)) Z [(0, .agg cs.toArray)] = some cs.toArray := by
  have hcs : (Value.agg cs.toArray).cells = cs.toArray := rfl
  obtain ⟨r, h1, h2, h3⟩ := Great.fill_dense (s := n) hp [.agg cs.toArray] 0 Z (by simp [hcs, hn]) (by simp [hZ])
  have h1' : Instr.fill (fun i => some (i * n, n)) Z [(0, .agg cs.toArray)] = some r := h1
  rw [h1']
  congr 1
  apply Array.ext_getElem?
  intro k
  rw [h3 k]
  by_cases hk : k < n
  · rw [if_pos ⟨by omega, by simpa using hk⟩, Nat.div_eq_of_lt hk]
    simp [hcs, Nat.mod_eq_of_lt hk]
  · rw [if_neg (by simp; omega), Array.getElem?_eq_none (by omega), Array.getElem?_eq_none (by simp; omega)]

theorem wpList_build_one {P : Program} {ops : Array Oper} {rest : List Oper} {o : Oper} {a : Act} {w : World} {Q : Exit → Act → World → Prop} (hg : o.guard = none) (t e : TypeId) (x : Operand) (ho : o.op = .buildSlice t 1 #[(0, x)])
    (cs : List Value) (n : Nat) (hx : a.eval x = .agg cs.toArray) (hu : P.underlying t = some (.slice e)) (hsz : (P.info? e).map (·.size) = some n) (hz : ((P.info? e).bind (·.zero)).isSome = true) (hl : cs.length = n) (hp : 0 < n) (hn : n ≤ 1000)
    (h : wpList P ops Q rest (a.put o.dst (.slice (some ⟨w.heap.size, 0, none⟩) 1 1)) (w.alloc (.cells cs.toArray e))) : wpList P ops Q (o :: rest) a w := by
  cases hie : P.info? e with
  | none => simp [hie] at hsz
  | some ie =>
    simp only [hie, Option.map_some, Option.some.injEq, Option.bind_some] at hsz hz
    obtain ⟨z, hzz⟩ := Option.isSome_iff_exists.1 hz
    refine wpList_buildSlice hg t e 1 _ ho cs.toArray ie z hu hie hzz (by rw [hsz]; omega) (by rw [hsz]; omega) ?_ h
    rw [hsz]
    have : (#[(0, x)].map fun (i, x) => (i, a.eval x)).toList = [(0, .agg cs.toArray)] := by simp [hx]
    rw [this]
    exact fill_one cs n hl hp _ (by simp)

theorem setCell_row {w : World} {g i : Nat} {c : List Value} {T : TypeId} {v : Value} (h : w.heap[g]? = some (.cells c.toArray T (0, 0))) : w.setCell ⟨g, i, none⟩ v = w.setRow g (c.set i v).toArray := by
  unfold World.setCell World.setRow
  congr 1
  apply Array.ext_getElem?
  intro k
  rw [Array.getElem?_modify, Array.getElem?_modify]
  by_cases hk : g = k
  · subst hk
    rw [if_pos rfl, if_pos rfl, h]
    simp
  · rw [if_neg hk, if_neg hk]

/-- a value of one cell goes into a cell of a block that is known whole -/
theorem wpList_store_at {P : Program} {ops : Array Oper} {rest : List Oper} {op : Oper} {a : Act} {w : World} {Q : Exit → Act → World → Prop} (hgd : op.guard = none) (ty : TypeId) (x y : Operand) (ho : op.op = .store ty x y)
    (g i : Nat) (v : Value) (hx : a.eval x = .pointer (some ⟨g, i, none⟩)) (hy : a.eval y = v) (hv : v.oneCell' = true) (c : List Value) (T : TypeId) (hg : w.heap[g]? = some (.cells c.toArray T (0, 0))) (hil : i < c.length) (hi : (P.info? ty).map (·.size) = some 1)
    (h : wpList P ops Q rest (a.put op.dst undef) (w.setRow g (c.set i v).toArray)) : wpList P ops Q (op :: rest) a w :=
  wpList_plain hgd fun _ hK => by
    have hc : v.cells = #[v] := by cases v <;> first | rfl | cases hv
    have hcell : (w.cell? ⟨g, i, none⟩).isSome = true := by rw [cell_of_row w g i _ T (0, 0) hg]; simp [hil]
    have hfz : w.frozen? ⟨g, i, none⟩ = false := by simp [World.frozen?, hg]
    have hrun := run_storeCells_cells (P := P) g i [v] 0 w (fun j hj => by obtain rfl : j = 0 := by simpa using hj
                                                                           exact hcell) (fun j hj => by obtain rfl : j = 0 := by simpa using hj
                                                                                                        exact hfz) (fun u hu => by simp at hu; subst hu; exact hv)
    have hset : w.setCells g i [v] = w.setRow g (c.set i v).toArray := setCell_row hg
    have hst : (storeVar ty ⟨g, i, none⟩ v).run P w = .ok () (w.setRow g (c.set i v).toArray) := by
      cases hq : P.info? ty with
      | none => simp [hq] at hi
      | some i0 =>
        have hs : i0.size = 1 := by simpa [hq] using hi
        simp only [Nat.add_zero, hset] at hrun
        simp [storeVar, sizeOf, typeInfo, hq, hc, hs, hrun]
    unfold Oper.wp execOp
    simp only [ho, hx, hy, Instr.storeAt, Instr.sureAddr, Sem.run_bind, Sem.run_pure, Result.andThen_ok, hst]
    exact hK _ _ h

theorem one_entry {w : World} {ok : Nat → Prop} {g : Nat} {ce : List Value} {x : Entry} {T : TypeId} (h : w.heap[g]? = some (.cells ce.toArray T (0, 0))) (hok : ok g) (hE : entryE w ok ce x) (hT : TyOf 11 T := by unfold TyOf; decide) : ListR entryE w ok 11 (.slice (some ⟨g, 0, none⟩) 1 1) [x] := by
  refine ⟨[ce], ⟨some ⟨g, 0, none⟩, 1, rfl, Nat.le_refl _, by unfold maxLen; omega, Or.inr ⟨g, 0, rfl, ⟨hok, fun k _ => by simp [World.frozen?, h], fun _ => ⟨rfl, _, T, h, by simp [(entryE_flat hE).1], hT⟩⟩, lt_of_block h, fun i hi => ?_⟩⟩, rfl, fun i hi hi' => ?_⟩
  · obtain rfl : i = 0 := by simpa using hi
    refine ⟨(entryE_flat hE).1, fun j hj => ?_⟩
    have := range_row h j _ (List.getElem?_eq_getElem hj)
    rw [← this]
  · obtain rfl : i = 0 := by simpa using hi
    exact hE
theorem msg_entries {w : World} {ok : Nat → Prop} {cs : List Value} {z : Message} (h : messageE w ok cs z) : ∃ v, cs[7]? = some v ∧ ListR entryE w ok 11 v z.entries := by
  obtain ⟨a, b, c, d, rfl, h0, h1, h2, h3, hp⟩ := h
  exact ⟨b, rfl, h1⟩
theorem at_entry {w : World} {ok : Nat → Prop} {v : Value} {l : List Entry} (h : ListR entryE w ok 11 v l) : ∀ i (hi : i < l.length), ∃ g off c r, v = .slice (some ⟨g, off, none⟩) l.length c ∧ l.length ≤ c ∧ g < w.heap.size ∧ ok g ∧ w.rangeAt g (off + i * 11) r ∧ entryE w ok r l[i] := by
  intro i hi
  obtain ⟨rows, ⟨A, c, rfl, hc, hm, hat⟩, hlen, hel⟩ := h
  rcases hat with h0 | ⟨g, off, rfl, hok, hg, hcell⟩
  · rw [h0.1] at hlen
    simp at hlen
    omega
  · refine ⟨g, off, c, rows[i]'(by omega), by rw [hlen], by omega, hg, hok.1, fun j v hv => ?_, hel i hi (by omega)⟩
    have hj := (List.getElem?_eq_some_iff.1 hv)
    obtain ⟨hj1, hj2⟩ := hj
    rw [(hcell i (by omega)).2 j hj1, hj2]
theorem rangeAt_old {w w' : World} (h : Old w w') {g o : Nat} {cs : List Value} (hr : w.rangeAt g o cs) (hg : g < w.heap.size) : w'.rangeAt g o cs := fun j v hv => by
  rw [← hr j v hv]
  exact World.cell?_of_block (h.block g hg id)
theorem cell_of_heap {w : World} {g i : Nat} {cs : List Value} {T : TypeId} {v : Value} (h : w.heap[g]? = some (.cells cs.toArray T (0, 0))) (hv : cs[i]? = some v) : w.cell? ⟨g, i, none⟩ = some v := by
  rw [cell_of_row w g i _ T (0, 0) h]
  simpa using hv
end Go.Proofs.YtpmemcpfoapjmaaGreat
