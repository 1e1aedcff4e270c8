/- Sync on a disk that is not armed; Open beside a log that stands; what lies aside of a log. -/
import Derived.Test.YtcjfpddmpiggoaaJtg
namespace Go.Proofs.Ytcjfpddmpiggoaa
open Go.ChangeShapes Go.WideShapes Go.ChangeAt Go.RowKit
set_option linter.unusedVariables false
set_option linter.unusedSimpArgs false
section
variable {Z : Nat → Prop} {w w' : World} {lb db : Nat} {g : LSt} {d : DSt}
structure Synced (d d' : DSt) (g g' : LSt) : Prop where
  good : Good d' g'
  all : g'.m.nu = g'.recs.length
  left : d'.left = 0
  c : g'.m.c ≤ g.m.c + 1
  acts : d'.acts ≤ d.acts + 1100000
def SyPost (Z : Nat → Prop) (w : World) (lb db : Nat) (g : LSt) (d : DSt) (e : Ending) (w' : World) : Prop :=
  ∃ g' d', e = .returned (.int .i64 0) ∧ Wl Z w' lb db g' d' ∧ Synced d d' g g' ∧ Kept Z w w'
theorem wsync_quiet (hw : Wl Z w lb db g d) (hf : Fine d g) (hl : d.left = 0) : Calls Try.prog 17 #[.pointer (some ⟨lb, 0, none⟩)] w (SyPost Z w lb db g d) := by
  have hc := hf.c
  have hsp := hf.sp
  by_cases h : g.m.nu = g.recs.length
  · refine (wsync_all hw hf.good.doubt h).mono ?_
    rintro e w' ⟨rfl, hw', hk⟩
    exact ⟨g, d, rfl, hw', ⟨hf.good, h, hl, by omega, by omega⟩, hk⟩
  · obtain ⟨h0, hcalm⟩ := out_calm (sync_out hf.good (by omega)) hl (Nat.le_refl _)
    have hL : setL g d = g.all.bump := ((sync_out hf.good (by omega)).ok (by rw [h0]; decide)).2.1
    refine (wsync_go hw hf.good.doubt h (by omega) (fits_all hf rfl hf.good.half.A.ar (by omega) (by omega) rfl rfl) (by have := hf.acts; omega)).mono ?_
    rintro e w' ⟨rfl, hq, hk⟩
    refine ⟨setL g d, (setD g d).1, by rw [h0], hq.log (by rw [h0]; decide), ⟨hcalm.good, ?_, hcalm.left, hcalm.c, hcalm.acts⟩, hk⟩
    rw [hL]; rfl
theorem openL_all {d : DSt} {g : LSt} (hg : Good d g) (hall : g.m.nu = g.recs.length) : openL g.m (g.recs.map fun r => r.data.toList) = g ∧ Stands d g.m (g.recs.map fun r => r.data.toList) := by
  have hh := hg.half
  rw [hall, List.take_length] at hh
  have h1 := hh.A.le
  have h2 := hg.used
  have h3 := hg.doubt
  refine ⟨?_, hh.stands⟩
  unfold openL
  rw [bytesOf_id]
  cases g with
  | mk m recs used doubt =>
    simp only at h1 h2 h3
    rw [h1, ← h2, h3]
def OpBeside (Z : Nat → Prop) (w : World) (lb db : Nat) (g : LSt) (d : DSt) (e : Ending) (w' : World) : Prop :=
  ∃ lb', e = .returned (.tuple #[.pointer (some ⟨lb', 0, none⟩), .int .i64 0]) ∧ Wl Z w' lb' db g d ∧ Wl Z w' lb db g d ∧ Kept Z w w'
theorem wopen_beside (hw : Wl Z w lb db g d) (hg : Good d g) (hall : g.m.nu = g.recs.length) : Calls Try.prog 19 #[.pointer (some ⟨db, 0, none⟩)] w (OpBeside Z w lb db g d) := by
  obtain ⟨sb, mb, nn, rv, hP⟩ := hw.open_
  have hD := hP.d
  have hL := hP.l
  have a1 := hP.b1
  have a2 := hP.b2
  have a3 := hP.b3
  have a4 := hP.ap
  have a5 := hP.nw
  obtain ⟨he, hs⟩ := openL_all hg hall
  have hlt := lt_of_block hL.at_
  refine (open_any (Z := fun k => DB db sb mb k ∨ w.heap.size ≤ k) hD (fun k hk => .inl hk) (fun k hk => .inr hk) hg.dead).mono ?_
  rintro e w' ⟨p, v, rfl, h1, _, hk⟩
  obtain ⟨rfl, lb', rfl, hlb, hwl⟩ := h1 _ _ hs
  rw [he] at hwl
  have hZ : ∀ k, (DB db sb mb k ∨ w.heap.size ≤ k) → Z k := fun k hk => hk.elim (a2 k) (a5 k)
  refine ⟨lb', rfl, hwl.mono hZ, ?_, hk.mono (fun k _ h => hZ k h)⟩
  obtain ⟨sb2, mb2, nn2, rv2, hD2, _, ⟨_, b2, _⟩, _, b5⟩ := hwl.ex
  have hn1 : ¬ (DB db sb mb lb ∨ w.heap.size ≤ lb) := fun h => h.elim a4 (fun h => by omega)
  have hrow : ∀ k, rv.ownBlock = some k → ¬ (DB db sb mb k ∨ w.heap.size ≤ k) := fun k hk h => h.elim (fun h => hP.ow k h hk) (fun h => by have := (hL.row.lt k hk).2; omega)
  exact ⟨sb2, mb2, nn2, rv, hD2, hL.kept hk hn1 hrow, ⟨a1, fun k hk => hZ k (b2 k hk), a3⟩, fun h => hn1 (b2 lb h), fun k hk => hZ k (b5 k hk)⟩
theorem Wl.aside (h : Wl Z w lb db g d) (hk : Kept (fun _ => False) w w') : Wl (fun k => Z k ∧ (k < w.heap.size ∨ w'.heap.size ≤ k)) w' lb db g d := by
  obtain ⟨sb, mb, nn, rv, hD, hL, ⟨h1, h2, h3⟩, h4, h5⟩ := h.ex
  refine ⟨sb, mb, nn, rv, hD.kept hk (fun _ _ f => f), hL.kept hk id (fun _ _ f => f), ⟨⟨h1, .inl (lt_of_block hL.at_)⟩, fun k hk => ⟨h2 k hk, .inl (hD.inn k hk)⟩, fun k hk => ⟨h3 k hk, .inl (hL.row.lt k hk).2⟩⟩, h4, fun k hk' => ⟨h5 k (Nat.le_trans hk.size hk'), .inr hk'⟩⟩
theorem TsAt.lt {ok : Nat → Prop} {v : Value} {l : List ByteArray} (h : TsAt w ok v l) : TsAt w (fun k => ok k ∧ k < w.heap.size) v l := by
  obtain ⟨a, cap, hv, hc⟩ := h.ex
  refine ⟨⟨a, cap, hv, fun i hi => ?_⟩⟩
  obtain ⟨g, off, h1, h2, h3⟩ := hc i hi
  exact ⟨g, off, h1, ⟨h2, World.block_lt_of_cell? w _ h3⟩, h3⟩
end
end Go.Proofs.Ytcjfpddmpiggoaa
