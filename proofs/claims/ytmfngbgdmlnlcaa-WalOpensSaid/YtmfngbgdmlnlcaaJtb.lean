/- does: a call of a log, whatever it is. -/
import Derived.Test.YtmfngbgdmlnlcaaJta
namespace Go.Proofs.Ytmfngbgdmlnlcaa
open Go.ChangeShapes Go.WideShapes Go.ChangeAt Go.RowKit
set_option linter.unusedVariables false
set_option linter.unusedSimpArgs false
def allB (l : List ByteArray) : Bool := l.all fun s => decide (s.size ≤ 4000)
theorem allB_iff (l : List ByteArray) : allB l = true ↔ Alls l := by simp [allB, Alls]
/-- what a call answers, and the log and the disk behind it -/
def doG (k n f : Int) (l : List Int) (g : LSt) (d : DSt) : Int × LSt × DSt :=
  if k = 1 then (if 4000 < (wbytes n f).size then (33, g, d) else if roomZ g.used d < ((wbytes n f).size : Int) then (30, g, d) else ((wriD (g.add (wbytes n f)) d g.used (recL (wbytes n f))).2, g.add (wbytes n f), (wriD (g.add (wbytes n f)) d g.used (recL (wbytes n f))).1))
  else if k = 2 then (if g.m.nu = g.recs.length then (0, g, d) else ((setD g d).2, setL g d, (setD g d).1))
  else if k = 3 then (if n < 0 then (32, g, d) else if (g.recs.length : Int) < n then (32, g, d) else ((setD (g.held (g.recs.take n.toNat)) d).2, setL (g.held (g.recs.take n.toNat)) d, (setD (g.held (g.recs.take n.toNat)) d).1))
  else if k = 4 then (if allB (manyL l) = false then (33, g, d) else if spaceN d < sizeN (manyL l) then (30, g, d) else ((renD g d (manyL l)).2, renL g d (manyL l), (renD g d (manyL l)).1))
  else if k = 5 then (if n < 0 then (1, g, d) else if f < 0 then (1, g, d) else ((advD (g.put n.toNat f.toNat) d).2, (g.put n.toNat f.toNat).bump, (advD (g.put n.toNat f.toNat) d).1))
  else (0, g, d)
section
variable {Z : Nat → Prop} {w w' : World} {lb db : Nat} {g : LSt} {d : DSt}
def DoPost (Z : Nat → Prop) (w : World) (lb db : Nat) (r : Int × LSt × DSt) (e : Ending) (w' : World) : Prop :=
  e = .returned (.int .i64 r.1) ∧ Wq Z w' lb db r.2.1 r.2.2 r.1 ∧ Kept Z w w'
/-- what the calls ask of a log -/
structure Fine (d : DSt) (g : LSt) : Prop where
  good : Good d g
  c : g.m.c < 4000000000
  acts : d.acts ≤ 4600000000000000000
theorem Fine.sp {d : DSt} {g : LSt} (h : Fine d g) : g.used ≤ 1048512 ∧ g.recs.length ≤ 1048512 ∧ sizeN g.recs ≤ 1048512 ∧ g.m.nu ≤ 1048512 := by
  have h1 := h.good.usp
  have h2 := h.good.half.base.space
  have h3 := h.good.used
  have h4 := sizeN_len g.recs
  have h5 := h.good.nu
  omega
theorem fits_all {d : DSt} {g g1 : LSt} (h : Fine d g) (hc : g1.m.c = g.m.c) (har : g1.m.ar ≤ 1) (hu : g1.used ≤ 2000000) (hl : g1.recs.length ≤ 2000000) (ha : g1.m.a = g.m.a) (hb : g1.m.b = g.m.b) : g1.all.bump.m.Fits := by
  have h1 := h.c
  have h2 := h.good.half.A.a
  have h3 := h.good.half.A.b
  exact ⟨by show g1.m.c + 1 ≤ _; omega, by show g1.m.ar ≤ _; omega, by show g1.used ≤ _; omega, by show g1.recs.length ≤ _; omega, by show g1.m.a ≤ _; omega, by show g1.m.b ≤ _; omega⟩
theorem Wq.of {v : Int} (h : Wl Z w lb db g d) : Wq Z w lb db g d v := h.whole v
theorem wl_own {rv : Value} {sb mb nn : Nat} (h : Wl Z w lb db g d) : ∀ k, w.heap.size ≤ k → Z k := by
  obtain ⟨_, _, _, _, _, _, _, _, h5⟩ := h.ex; exact h5
/-- a row of texts just made, as texts -/
theorem ts_row {w : World} {B : Nat} {v : Value} {l : List ByteArray} (h : w.ownsRow B 9 1 v l.length (l.map Value.string)) : TsAt w (fun k => v.ownBlock = some k) v l := by
  rcases h.2 with ⟨hv, h0⟩ | ⟨gg, cap, cur, hv, hb, hh, h1, h2, h3, h4⟩
  · exact ⟨⟨none, 0, by rw [hv, h0], fun i hi => by omega⟩⟩
  · refine ⟨⟨some ⟨gg, 0, none⟩, cap, hv, fun i hi => ⟨gg, 0, rfl, by rw [hv]; rfl, ?_⟩⟩⟩
    have e : cur.toList.take (l.length * 1) = l.map Value.string := h4
    simp only [World.cell?, hh, Nat.zero_add]
    have e2 : (cur.toList.take (l.length * 1))[i]? = some (.string l[i]) := by rw [e, List.getElem?_map, List.getElem?_eq_getElem hi]; rfl
    rw [List.getElem?_take, if_pos (by omega)] at e2
    rw [← Array.getElem?_toList]; exact e2
/-- a log beside a row that was just made -/
theorem apart_row {w w2 : World} {v : Value} {l : List ByteArray} (h : Wl Z w lb db g d) (hr : w2.ownsRow w.heap.size 9 1 v l.length (l.map Value.string)) (hk : Kept (fun _ => False) w w2) :
    ∃ Z2 : Nat → Prop, ((∀ k, Z2 k → Z k) ∧ ∀ k, w2.heap.size ≤ k → Z k) ∧ Wl Z2 w2 lb db g d ∧ True ∧ ∀ k, v.ownBlock = some k → k < w2.heap.size ∧ ¬ Z2 k := by
  refine ⟨fun k => Z k ∧ v.ownBlock ≠ some k, ⟨fun k hk => hk.1, ?_⟩, ?_, trivial, fun k hk => ⟨(hr.lt k hk).2, fun hz => hz.2 hk⟩⟩
  · obtain ⟨_, _, _, _, _, _, _, _, h5⟩ := h.ex
    exact fun k hk' => h5 k (Nat.le_trans hk.size hk')
  · obtain ⟨sb, mb, nn, rv, hD, hL, ⟨a1, a2, a3⟩, a4, a5⟩ := h.ex
    have hno : ∀ k, k < w.heap.size → v.ownBlock ≠ some k := fun k hlt e => by have := (hr.lt k e).1; omega
    exact ⟨sb, mb, nn, rv, hD.kept hk (fun _ _ x => x), hL.kept hk id (fun _ _ x => x), ⟨⟨a1, hno _ (lt_of_block hL.at_)⟩, fun k hk' => ⟨a2 k hk', hno _ (hD.inn k hk')⟩, fun k hk' => ⟨a3 k hk', hno _ (hL.row.lt k hk').2⟩⟩, a4,
      fun k hk' => ⟨a5 k (Nat.le_trans hk.size hk'), fun e => by have := (hr.lt k e).2; omega⟩⟩
theorem Wq.mono {v : Int} {Z2 : Nat → Prop} (h : Wq Z2 w lb db g d v) (hz : ∀ k, Z2 k → Z k) {n0 : Nat} (hn : ∀ k, n0 ≤ k → Z k) : Wq Z w lb db g d v := by
  obtain ⟨sb, mb, nn, hD, hD2⟩ := h.disk
  exact ⟨fun hv => (h.log hv).mono hz, ⟨sb, mb, nn, hD, fun k hk => hz k (hD2 k hk)⟩, fun k hk => hz k (h.nw k hk)⟩
end
end Go.Proofs.Ytmfngbgdmlnlcaa
