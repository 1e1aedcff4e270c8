/- Same. -/
import Derived.Test.YtccoeccibokecaaNw
namespace Go.Proofs.Ytccoeccibokecaa
open Go.ChangeShapes Go.WideShapes Go.ChangeAt Go.RowKit Go.Maps
set_option linter.unusedVariables false
set_option linter.unusedSimpArgs false
def QPost (b : Bool) (w : World) (e : Ending) (w' : World) : Prop := e = .returned (.bool b) ∧ Kept (fun _ => False) w w'
theorem bool_true {P : Program} {f : Nat} {args : Array Value} {w : World} {p : Prop} (h : Calls P f args w (BoolPost w p)) (hp : p) : Calls P f args w (QPost true w) :=
  h.mono (fun e w' ⟨b, he, hb, hk⟩ => by have := hb.2 hp; subst this; exact ⟨he, hk⟩)
theorem bool_false {P : Program} {f : Nat} {args : Array Value} {w : World} {p : Prop} (h : Calls P f args w (BoolPost w p)) (hp : ¬ p) : Calls P f args w (QPost false w) :=
  h.mono (fun e w' ⟨b, he, hb, hk⟩ => by
    cases b
    · exact ⟨he, hk⟩
    · exact absurd (hb.1 rfl) hp)
section
variable {Z Z' : Nat → Prop} {w w' : World} {q r : TB} {M N : TM} {c c' : Nat} {D E D' E' : DV}
/-- two trees' own cells -/
abbrev Cells6 (q r : TB) (N : TM) (w : World) : Prop := w.cell? ⟨q.t, 0, none⟩ = some (.map (some q.n)) ∧ w.cell? ⟨q.t, 1, none⟩ = some (.map (some q.s)) ∧ w.cell? ⟨q.t, 2, none⟩ = some (.int .i64 N.z) ∧ w.cell? ⟨r.t, 0, none⟩ = some (.map (some r.n)) ∧ w.cell? ⟨r.t, 1, none⟩ = some (.map (some r.s)) ∧ w.cell? ⟨r.t, 2, none⟩ = some (.int .i64 N.z)
theorem cells6 (h : TAt Z w q M c) (g : TAt Z w r N c') (hz : M.z = N.z) : Cells6 q r N w := by
  obtain ⟨D, E, h⟩ := h
  obtain ⟨D', E', g⟩ := g
  exact ⟨h.three.c0, h.three.c1, hz ▸ h.three.c2, g.three.c0, g.three.c1, g.three.c2⟩
set_option maxRecDepth 100000 in
set_option maxHeartbeats 2000000 in
theorem same_true (h : TAt Z w q M c) (g : TAt Z w r N c') (hc : c ≤ 9223372036854775807) (hc' : c' ≤ 9223372036854775807) (hz : M.z = N.z) (hS : M.S = N.S) (hN : M.N = N.N) :
    Calls Try.prog 14 #[.pointer (some ⟨q.t, 0, none⟩), .pointer (some ⟨r.t, 0, none⟩)] w (QPost true w) := by
  have HH := Lib.hid (And.intro h g)
  obtain ⟨D, E, h⟩ := h
  obtain ⟨D', E', g⟩ := g
  have HS := Lib.hid (bool_true (sesseq_any h.drew g.drew hc hc') hS)
  have HN := Lib.hid (fun (W : World) (hk : Kept (fun _ => False) w W) => bool_true (nodeseq_any (h.kept0 hk) (g.kept0 hk) hc hc') hN)
  unfold QPost at HS HN
  obtain ⟨t0, t1, t2, t3, t4, t5⟩ := cells6 (w := w.drew) (HH.out.1.kept0 (Kept.refl _ w).drew) (HH.out.2.kept0 (Kept.refl _ w).drew) hz
  have HZ := Lib.hid hz
  clear h g hc hc' hz hS hN
  go_enter Try.func14, Try.ntmps14
  go_wp2_with fail
  go_region_held3 (fun w' => w'.cell? ⟨q.t, 0, none⟩ = some (.map (some q.n)) ∧ w'.cell? ⟨q.t, 1, none⟩ = some (.map (some q.s)) ∧ w'.cell? ⟨q.t, 2, none⟩ = some (.int .i64 N.z) ∧ w'.cell? ⟨r.t, 0, none⟩ = some (.map (some r.n)) ∧ w'.cell? ⟨r.t, 1, none⟩ = some (.map (some r.s)) ∧ w'.cell? ⟨r.t, 2, none⟩ = some (.int .i64 N.z))
    (first | assumption | go_keep)
    (first
      | (go_at_call 35; with_reducible refine HS.out.mono ?_; rintro e w5 ⟨rfl, hk5⟩; have HK5 := Lib.hid ((Kept.refl (fun _ => False) w).drew.trans hk5); clear t0 t1 t2 t3 t4 t5 hk5; obtain ⟨t0, t1, t2, t3, t4, t5⟩ := cells6 (HH.out.1.kept0 HK5.out) (HH.out.2.kept0 HK5.out) HZ.out)
      | (go_at_call 36; with_reducible refine (HN.out _ HK5.out).mono ?_; rintro e w6 ⟨rfl, hk6⟩; have HK6 := Lib.hid (HK5.out.trans hk6); clear t0 t1 t2 t3 t4 t5 hk6; obtain ⟨t0, t1, t2, t3, t4, t5⟩ := cells6 (HH.out.1.kept0 HK6.out) (HH.out.2.kept0 HK6.out) HZ.out))
  go_wp2_with fail
  go_ret
  exact ⟨rfl, HK6.out⟩
end
end Go.Proofs.Ytccoeccibokecaa
