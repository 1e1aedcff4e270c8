/- What a log finds on its disk. -/
import Derived.Test.YtmfngbgdmlnlcaaJke
import Derived.Test.YtmfngbgdmlnlcaaJkf
import Derived.Test.YtmfngbgdmlnlcaaJkg
import Derived.Test.YtmfngbgdmlnlcaaJaj
namespace Go.Proofs.Ytmfngbgdmlnlcaa
open Go.ChangeShapes Go.WideShapes Go.ChangeAt Go.RowKit
set_option linter.unusedVariables false
set_option linter.unusedSimpArgs false
theorem valN_one (l : List UInt8) (h : l.length = 1) : valN l < 256 := by
  rcases l with _ | ⟨a, _ | ⟨b, l⟩⟩ <;> simp at h
  have ha := a.toNat_lt
  show 0 * 256 + a.toNat < 256
  omega
theorem fld_four {l : List UInt8} {i j : Nat} (hl : l.length = 64) (hj : j = i + 4) (h : j ≤ 64) : 0 ≤ fld l i j ∧ fld l i j < 4294967296 := by
  unfold fld
  have := valN_four ((l.drop i).take (j - i)) (by rw [List.length_take, List.length_drop]; omega)
  rw [valI_small _ (by omega)]; omega
theorem fld_one {l : List UInt8} {i j : Nat} (hl : l.length = 64) (hj : j = i + 1) (h : j ≤ 64) : 0 ≤ fld l i j ∧ fld l i j < 256 := by
  unfold fld
  have := valN_one ((l.drop i).take (j - i)) (by rw [List.length_take, List.length_drop]; omega)
  rw [valI_small _ (by omega)]; omega
structure Fit (m : MSt) (space : Nat) : Prop where
  sm : m.Small
  ar : m.ar ≤ 1
  le : m.le ≤ space
theorem lastOne_nat {m0 : MZ} {l : List UInt8} {sector : Int} {space : Nat} (hl : l.length = 64) (h : ∃ m : MSt, m0 = m.z ∧ Fit m space) : ∃ m : MSt, lastOne m0 l sector space = m.z ∧ Fit m space := by
  rcases lastOne_cases m0 l sector space with ⟨h1, h2, h3⟩ | ⟨h1, _⟩
  · rw [h1]
    have c := fld_four (i := 2) (j := 6) hl (by omega) (by omega)
    have ar := fld_one (i := 6) (j := 7) hl (by omega) (by omega)
    have le := fld_four (i := 7) (j := 11) hl (by omega) (by omega)
    have nu := fld_four (i := 11) (j := 15) hl (by omega) (by omega)
    have a0 := h2.a
    have b0 := h2.b
    have a1 := (markIn_in l).a
    have b1 := (markIn_in l).b
    have hle := h2.le
    have har := h2.ar
    have ec : (markIn l).c = fld l 2 6 := rfl
    have ear : (markIn l).ar = fld l 6 7 := rfl
    have ele : (markIn l).le = fld l 7 11 := rfl
    have enu : (markIn l).nu = fld l 11 15 := rfl
    refine ⟨⟨(markIn l).c.toNat, (markIn l).ar.toNat, (markIn l).le.toNat, (markIn l).nu.toNat, (markIn l).a.toNat, (markIn l).b.toNat⟩, ?_, ⟨⟨?_, ?_, ?_, ?_, ?_, ?_⟩, ?_, ?_⟩⟩
    · unfold MSt.z
      have e1 : (((markIn l).c.toNat : Nat) : Int) = (markIn l).c := by omega
      have e2 : (((markIn l).ar.toNat : Nat) : Int) = (markIn l).ar := by omega
      have e3 : (((markIn l).le.toNat : Nat) : Int) = (markIn l).le := by omega
      have e4 : (((markIn l).nu.toNat : Nat) : Int) = (markIn l).nu := by omega
      have e5 : (((markIn l).a.toNat : Nat) : Int) = (markIn l).a := by omega
      have e6 : (((markIn l).b.toNat : Nat) : Int) = (markIn l).b := by omega
      show markIn l = MZ.mk _ _ _ _ _ _
      rw [e1, e2, e3, e4, e5, e6]
    all_goals (simp only []; omega)
  · rw [h1]; exact h
theorem lastZ_nat {s0 s1 : List UInt8} {space : Nat} (h0 : s0.length = 64) (h1 : s1.length = 64) : ∃ m : MSt, lastZ s0 s1 space = m.z ∧ Fit m space :=
  lastOne_nat h1 (lastOne_nat h0 ⟨⟨0, 0, 0, 0, 0, 0⟩, rfl, ⟨⟨by decide, by decide, by decide, by decide, by decide, by decide⟩, by decide, Nat.zero_le _⟩⟩)
def bytesOf (l : List UInt8) : ByteArray := ⟨l.toArray⟩
/-- what stands on a disk, as a log; none: no log stands there -/
structure Stands (d : DSt) (m : MSt) (l : List (List UInt8)) : Prop where
  last : lastZ (d.S 0) (d.S 1) (spaceN d) = m.z
  fit : Fit m (spaceN d)
  c : m.c ≠ 0
  taken : takenN (m.le + 1) ((areaL d.S (startN d m.ar) (secN d)).take m.le) = some l
  nu : l.length = m.nu
def openL (m : MSt) (l : List (List UInt8)) : LSt := ⟨m, l.map bytesOf, m.le, false⟩
def setLog (w : World) (lb : Nat) (m : MSt) (v : Value) : World :=
  (((((((w.setCell ⟨lb, 1, none⟩ (.int .i64 m.c)).setCell ⟨lb, 2, none⟩ (.int .i64 m.ar)).setCell ⟨lb, 3, none⟩ (.int .i64 m.le)).setCell ⟨lb, 4, none⟩ (.int .i64 m.nu)).setCell ⟨lb, 5, none⟩ (.int .i64 m.a)).setCell ⟨lb, 6, none⟩ (.int .i64 m.b)).setCell ⟨lb, 7, none⟩ v).setCell ⟨lb, 8, none⟩ (.int .i64 m.le)
theorem setLog_kept (w : World) (lb : Nat) (m : MSt) (v : Value) : Kept (fun k => k = lb) w (setLog w lb m v) :=
  (((((((kept_set w lb 1 _).trans (kept_set _ lb 2 _)).trans (kept_set _ lb 3 _)).trans (kept_set _ lb 4 _)).trans (kept_set _ lb 5 _)).trans (kept_set _ lb 6 _)).trans (kept_set _ lb 7 _)).trans (kept_set _ lb 8 _)
theorem Wl.opened {Z : Nat → Prop} {w w2 : World} {lb db : Nat} {d : DSt} {m : MSt} {l : List (List UInt8)} {v : Value} {B : Nat} (h : Wl Z w lb db log0 d) (hk : Kept (fun _ => False) w w2) (hr : w2.ownsRow B 9 1 v l.length (l.map strB)) (hB : w.heap.size ≤ B) :
    Wl Z (setLog w2 lb m v) lb db (openL m l) d := by
  obtain ⟨sb, mb, nn, rv, hD, hL, ⟨a1, a2, a3⟩, a4, a5⟩ := (h.kept0 hk).ex
  have hs := setLog_kept w2 lb m v
  have hlt : lb < w.heap.size := by obtain ⟨sb, mb, nn, rv, hD, hL, _⟩ := h.ex; exact lt_of_block hL.at_
  refine ⟨sb, mb, nn, v, hD.kept hs (fun k hk e => by have e : k = lb := e; subst e; exact a4 hk), ⟨?_, ?_⟩, ⟨a1, a2, fun k e => ?_⟩, a4, fun k hk' => a5 k (Nat.le_trans hs.size hk')⟩
  · exact heap_set _ (heap_set _ (heap_set _ (heap_set _ (heap_set _ (heap_set _ (heap_set _ (heap_set _ hL.at_)))))))
  · have e1 : (openL m l).recs.map Value.string = l.map strB := by simp [openL, bytesOf, strB, Function.comp_def]
    have e2 : (openL m l).recs.length = l.length := by simp [openL]
    rw [e1, e2]
    refine ⟨hr.1, ?_⟩
    rcases hr.2 with hx | ⟨gg, cap, cur, hv, hb, hh, r⟩
    · exact .inl hx
    · exact .inr ⟨gg, cap, cur, hv, Nat.zero_le _, by rw [hs.block gg (lt_of_block hh) (by omega)]; exact hh, r⟩
  · obtain ⟨_, _, _, _, _, _, _, _, b5⟩ := h.ex
    exact b5 k (Nat.le_trans hB (hr.lt k e).1)
end Go.Proofs.Ytmfngbgdmlnlcaa
