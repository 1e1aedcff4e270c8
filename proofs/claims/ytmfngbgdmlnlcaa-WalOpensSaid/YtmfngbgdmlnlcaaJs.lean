/- All records last: the disk is synced, then the next mark is written. -/
import Derived.Test.YtmfngbgdmlnlcaaJm
import Derived.Deep.RegionLaw
namespace Go.Proofs.Ytmfngbgdmlnlcaa
open Go.ChangeShapes Go.WideShapes Go.ChangeAt Go.RowKit
set_option linter.unusedVariables false
set_option linter.unusedSimpArgs false

def LSt.all (g : LSt) : LSt := { g with m := { g.m with le := g.used, nu := g.recs.length } }
def setD (g : LSt) (d : DSt) : DSt × Int := if (syncD d).2 = 0 then advD g.all (syncD d).1 else syncD d
def setL (g : LSt) (d : DSt) : LSt := if (syncD d).2 = 0 then g.all.bump else g
section
variable {Z : Nat → Prop} {w w' : World} {lb db sb mb nn : Nat} {rv : Value} {g g' : LSt} {d d' : DSt}
theorem Wp.three (h : Wp Z w lb db sb mb nn rv g d) : w.cell? ⟨lb, 8, none⟩ = some (.int .i64 g.used) ∧ w.frozen? ⟨lb, 3, none⟩ = false ∧ w.frozen? ⟨lb, 4, none⟩ = false ∧ w.cell? ⟨lb, 3, none⟩ = some (.int .i64 g.m.le) ∧ w.cell? ⟨lb, 4, none⟩ = some (.int .i64 g.m.nu) :=
  ⟨h.l.cell 8, by simp [World.frozen?, h.l.at_], by simp [World.frozen?, h.l.at_], h.l.cell 3, h.l.cell 4⟩
set_option maxRecDepth 100000 in
set_option maxHeartbeats 2000000 in
theorem wsettle_any (h : Wl Z w lb db g d) (hm : g.all.bump.m.Fits) (ha : d.acts < 4611686018427387900) : Calls Try.prog 40 #[.pointer (some ⟨lb, 0, none⟩)] w fun e w' =>
    e = .returned (.int .i64 (setD g d).2) ∧ Wl Z w' lb db (setL g d) (setD g d).1 ∧ Kept Z w w' := by
  obtain ⟨sb, mb, nn, rv, hW⟩ := h.open_
  have c0 : w.cell? ⟨lb, 0, none⟩ = some (.pointer (some ⟨db, 0, none⟩)) := hW.l.cell 0
  obtain ⟨v, hv⟩ : ∃ v, (syncD d).2 = v := ⟨_, rfl⟩
  have HV := Lib.hid hv
  have HW := Lib.hid hW
  have HM := Lib.hid hm
  have HSD : Hid (setD g d = if v = 0 then advD g.all (syncD d).1 else syncD d) := Lib.hid (by unfold setD; rw [hv])
  have HSL : Hid (setL g d = if v = 0 then g.all.bump else g) := Lib.hid (by unfold setL; rw [hv])
  have hda := (syncD_le d).1
  clear h hv hW hm
  go_enter Try.func40, Try.ntmps40
  go_wp2_with fail
  refine (sync_any HW.out.d (by omega)).mono ?_
  rintro e w2 ⟨he, ⟨mb2, nn2, hd2, hm2⟩, hk2⟩
  replace he := he.trans (ret_int HV.out)
  subst he
  have HP := Lib.hid (HW.out.sync hk2 hd2 hm2)
  have HK := Lib.hid (HW.out.keptB hk2 (fun k e => .inl (.inl e)))
  clear hd2 hm2 hk2 c0
  by_cases hv0 : v = 0
  · subst hv0
    go_wp2_with fail
    have h2 := (HP.out.log (g' := { g with m := { g.m with le := g.used } }) 3 (.int .i64 g.used) rfl rfl).log (g' := g.all) 4 (.int .i64 g.recs.length) rfl rfl
    have HV2 := Lib.hid (h2.kept0 ((Kept.refl _ _).drew))
    have HKV : Hid (Kept Z w2 (((w2.setCell ⟨lb, 3, none⟩ (.int .i64 g.used)).setCell ⟨lb, 4, none⟩ (.int .i64 g.recs.length)).drew)) :=
      Lib.hid ((((Kept.refl Z w2).setCell (a := ⟨lb, 3, none⟩) (.inl HP.out.b1) _).setCell (a := ⟨lb, 4, none⟩) (.inl HP.out.b1) _).drew)
    clear h2
    have hp := HP.out.kept0 ((Kept.refl _ w2).drew)
    obtain ⟨c8, f3, f4, c3, c4⟩ := hp.three
    have c8' : w2.cell? ⟨lb, 8, none⟩ = some (.int .i64 g.used) := c8
    have c3' : w2.cell? ⟨lb, 3, none⟩ = some (.int .i64 g.m.le) := c3
    have c4' : w2.cell? ⟨lb, 4, none⟩ = some (.int .i64 g.m.nu) := c4
    have f3' : w2.frozen? ⟨lb, 3, none⟩ = false := f3
    have f4' : w2.frozen? ⟨lb, 4, none⟩ = false := f4
    have HLEN := Lib.hid (len_any hp.close)
    clear hp
    go_region_law ((go_simp; go_at_call 28; refine HLEN.out.mono ?_; rintro e w5 ⟨rfl, rfl⟩))
    all_goals (
      have hV := HV2.out
      have hK := HKV.out
      generalize ((w2.setCell ⟨lb, 3, none⟩ (.int .i64 g.used)).setCell ⟨lb, 4, none⟩ (.int .i64 g.recs.length)).drew = W at hV hK ⊢
      clear c8 c8' c3 c3' c4 c4' f3 f3' f4 f4' HLEN HV2 HKV
      have HV3 := Lib.hid hV
      have HK3 := Lib.hid hK
      clear hV hK
      go_wp2_with fail
      refine (advance_any HV3.out.close HM.out (by omega)).mono ?_
      rintro e w9 ⟨rfl, hw9, hk9⟩
      go_wp2_with fail
      go_ret
      rw [HSD.out, HSL.out, if_pos trivial, if_pos trivial]
      exact ⟨rfl, hw9, HK.out.trans (HK3.out.trans hk9)⟩)
  · have hvb : (v == 0) = false := by simpa using hv0
    go_wp2_with fail
    go_ret
    rw [HSD.out, HSL.out, if_neg hv0, if_neg hv0]
    exact ⟨ret_int HV.out.symm, HP.out.close, HK.out⟩
end
end Go.Proofs.Ytmfngbgdmlnlcaa
