/- One call, whatever it is; two pairs of disks side by side; a script that came in. -/
import Derived.Test.YtpobflionjndcaaDq
namespace Go.Proofs.Ytpobflionjndcaa
open Go.ChangeShapes Go.WideShapes Go.ChangeAt Go.RowKit
open Go.Maps Go.Sort Go.Shelf Go.Proofs
set_option linter.unusedVariables false
set_option linter.unusedSimpArgs false

theorem stepD_le (d : DSt) (o : OpS) : (stepD d o).acts ≤ d.acts + 1 ∧ (stepD d o).n = d.n := by
  unfold stepD
  split
  · unfold writeD
    split
    · exact ⟨by simp, rfl⟩
    · split
      · exact ⟨by simp, rfl⟩
      · obtain ⟨h1, _, _, h4⟩ := actD_same { d with S := upd d.S o.n.toNat o.text, O := if (d.O o.n.toNat).isSome then d.O else upd d.O o.n.toNat (some (d.S o.n.toNat)) }
        exact ⟨by rw [h4]; exact Nat.le_refl _, h1⟩
  · split
    · unfold syncD
      obtain ⟨h1, _, _, h4⟩ := actD_same d
      split
      · exact ⟨by simp, rfl⟩
      · split
        · exact ⟨by show (actD d).1.acts ≤ _; omega, h1⟩
        · exact ⟨by show (actD d).1.acts ≤ _; omega, h1⟩
    · split
      · unfold armD
        split
        · exact ⟨by simp, rfl⟩
        · split <;> exact ⟨by simp, rfl⟩
      · split
        · exact ⟨by show d.acts ≤ _; omega, rfl⟩
        · exact ⟨by simp, rfl⟩

theorem step_any {B : Nat} {X : Nat → Prop} {b : Nat} {q : RB4} {d : DSt} {r : RSt} {w : World} (h : Pq B X b q d r w) (hs : Sim d r) (o : OpS) (hf : o.Fits) (ha : d.acts < 4611686018427387902) (hv : Value) (hh : HowAt w (fun k => k < B) hv o.how) :
    Calls Try.prog 10 #[.pointer (some ⟨b, 0, none⟩), .pointer (some ⟨q.x, 0, none⟩), .agg (o.cells hv).toArray] w (SPost B X b q (stepD d o) w) := by
  by_cases h1 : o.k = 1
  · exact step_write h hs o hf h1 ha hv
  by_cases h2 : o.k = 2
  · exact step_sync h hs o h2 ha hv
  by_cases h3 : o.k = 3
  · exact step_read h hs o h3 hv
  by_cases h4 : o.k = 4
  · exact step_arm h hs o hf h4 ha hv
  by_cases h5 : o.k = 5
  · exact step_crash h hs o hf h5 hv hh
  by_cases h6 : o.k = 6
  · exact step_pend h hs o h6 hv
  by_cases h7 : o.k = 7
  · exact step_size h hs o h7 hv
  · exact step_none h hs o (fun i hi1 hi2 hk => by
      have : i = 1 ∨ i = 2 ∨ i = 3 ∨ i = 4 ∨ i = 5 ∨ i = 6 ∨ i = 7 := by omega
      rcases this with rfl | rfl | rfl | rfl | rfl | rfl | rfl <;> contradiction) hv

/-- two pairs, each apart from the other -/
def Zb (b sb mb : Nat) (q : RB4) : Nat → Prop := fun k => DB b sb mb k ∨ XB q k
structure Two (B : Nat) (b1 : Nat) (q1 : RB4) (b2 : Nat) (q2 : RB4) (d1 d2 : DSt) (r1 r2 : RSt) (w : World) : Prop where
  ex : ∃ sb1 mb1 nn1 sb2 mb2 nn2, DAt w b1 sb1 mb1 nn1 d1 ∧ DAt w b2 sb2 mb2 nn2 d2 ∧ RfAt w q1 r1 ∧ RfAt w q2 r2 ∧
    (∀ k, Zb b1 sb1 mb1 q1 k → B ≤ k) ∧ (∀ k, Zb b2 sb2 mb2 q2 k → B ≤ k) ∧
    (∀ k, XB q1 k → ¬ DB b1 sb1 mb1 k) ∧ (∀ k, XB q2 k → ¬ DB b2 sb2 mb2 k) ∧ (∀ k, Zb b1 sb1 mb1 q1 k → ¬ Zb b2 sb2 mb2 q2 k)
section
variable {B b1 b2 : Nat} {q1 q2 : RB4} {d1 d2 : DSt} {r1 r2 : RSt} {w w' : World}
theorem Two.swap (h : Two B b1 q1 b2 q2 d1 d2 r1 r2 w) : Two B b2 q2 b1 q1 d2 d1 r2 r1 w := by
  obtain ⟨sb1, mb1, nn1, sb2, mb2, nn2, D1, D2, R1, R2, l1, l2, a1, a2, a3⟩ := h.ex
  exact ⟨sb2, mb2, nn2, sb1, mb1, nn1, D2, D1, R2, R1, l2, l1, a2, a1, fun k hk hn => a3 k hn hk⟩
theorem Two.kept (h : Two B b1 q1 b2 q2 d1 d2 r1 r2 w) {Y : Nat → Prop} (hk : Kept Y w w') (hY : ∀ k, B ≤ k → ¬ Y k) : Two B b1 q1 b2 q2 d1 d2 r1 r2 w' := by
  obtain ⟨sb1, mb1, nn1, sb2, mb2, nn2, D1, D2, R1, R2, l1, l2, a1, a2, a3⟩ := h.ex
  exact ⟨sb1, mb1, nn1, sb2, mb2, nn2, D1.kept hk (fun k hk => hY k (l1 k (.inl hk))), D2.kept hk (fun k hk => hY k (l2 k (.inl hk))), R1.kept hk (fun k hk => hY k (l1 k (.inr hk))), R2.kept hk (fun k hk => hY k (l2 k (.inr hk))), l1, l2, a1, a2, a3⟩
theorem Two.kept0 (h : Two B b1 q1 b2 q2 d1 d2 r1 r2 w) (hk : Kept (fun _ => False) w w') : Two B b1 q1 b2 q2 d1 d2 r1 r2 w' := h.kept hk (fun _ _ f => f)
theorem Two.drew (h : Two B b1 q1 b2 q2 d1 d2 r1 r2 w) : Two B b1 q1 b2 q2 d1 d2 r1 r2 w.drew := h.kept0 ((Kept.refl _ w).drew)
theorem Two.drewN (h : Two B b1 q1 b2 q2 d1 d2 r1 r2 w) (n : Nat) : Two B b1 q1 b2 q2 d1 d2 r1 r2 (w.drewN n) := h.kept0 ((Kept.refl _ w).drewN n)
theorem Two.left (h : Two B b1 q1 b2 q2 d1 d2 r1 r2 w) : ∃ X : Nat → Prop, Pq B X b1 q1 d1 r1 w ∧ ∀ w' d' r', Pq B X b1 q1 d' r' w' → Kept (OutX B X) w w' → Two B b1 q1 b2 q2 d' d2 r' r2 w' := by
  obtain ⟨sb1, mb1, nn1, sb2, mb2, nn2, D1, D2, R1, R2, l1, l2, a1, a2, a3⟩ := h.ex
  have in2 : ∀ k, Zb b2 sb2 mb2 q2 k → k < w.heap.size := fun k hk => hk.elim (D2.inn k) (R2.inn k)
  refine ⟨Zb b2 sb2 mb2 q2, ⟨⟨sb1, mb1, nn1, D1, ⟨l1 _ (.inl (.inl rfl)), l1 _ (.inl (.inr (.inl rfl))), l1 _ (.inl (.inr (.inr rfl)))⟩, ?_⟩, R1, fun g hg => l1 g (.inr hg), fun g hg => ⟨in2 g hg, fun hx => a3 g (.inr hx) hg⟩⟩, ?_⟩
  · rintro k (hk | hk)
    · exact ⟨in2 k hk, fun hd => a3 k (.inl hd) hk⟩
    · exact ⟨R1.inn k hk, a1 k hk⟩
  · intro w' d' r' hp hk
    obtain ⟨sb', mb', nn', D', e1, e2⟩ := hp.dx.ex
    refine ⟨sb', mb', nn', sb2, mb2, nn2, D', D2.kept hk (fun k hk hy => hy.2 (.inl hk)), hp.rf, R2.kept hk (fun k hk hy => hy.2 (.inr hk)), ?_, l2, fun k hx => (e2 k (.inr hx)).2, a2, ?_⟩
    · rintro k ((rfl | rfl | rfl) | hx)
      · exact e1.1
      · exact e1.2.1
      · exact e1.2.2
      · exact hp.lo k hx
    · rintro k (hx | hx) hn
      · exact (e2 k (.inl hn)).2 hx
      · exact (hp.far k hn).2 hx
theorem OutX.from_ {B : Nat} {X : Nat → Prop} {w w' : World} (h : Kept (OutX B X) w w') : Kept (fun k => B ≤ k) w w' := h.mono (fun _ _ hy => hy.1)

/-- step on the first pair -/
theorem two_step (h : Two B b1 q1 b2 q2 d1 d2 r1 r2 w) (hs : Sim d1 r1) (o : OpS) (hf : o.Fits) (ha : d1.acts < 4611686018427387902) (hv : Value) (hh : HowAt w (fun k => k < B) hv o.how) :
    Calls Try.prog 10 #[.pointer (some ⟨b1, 0, none⟩), .pointer (some ⟨q1.x, 0, none⟩), .agg (o.cells hv).toArray] w fun e w' =>
      e = .returned (.bool true) ∧ (∃ r, Two B b1 q1 b2 q2 (stepD d1 o) d2 r r2 w' ∧ Sim (stepD d1 o) r) ∧ Kept (fun k => B ≤ k) w w' := by
  obtain ⟨X, hp, hb⟩ := h.left
  refine (step_any hp hs o hf ha hv hh).mono ?_
  rintro e w' ⟨he, ⟨r, hp', hs'⟩, hk⟩
  exact ⟨he, ⟨r, hb w' _ _ hp' hk, hs'⟩, hk.mono (fun _ _ hy => hy.1)⟩
/-- Crash of the first program's disk -/
theorem two_crash (h : Two B b1 q1 b2 q2 d1 d2 r1 r2 w) {hv : Value} {how : List Int} (hh : HowAt w (fun k => k < B) hv how) :
    Calls Try.prog 12 #[.pointer (some ⟨b1, 0, none⟩), hv] w fun e w' => e = .returned (.tuple #[]) ∧ Two B b1 q1 b2 q2 (crashD d1 how) d2 r1 r2 w' ∧ Kept (fun k => B ≤ k) w w' := by
  obtain ⟨X, hp, hb⟩ := h.left
  refine (pq_crash hp (hh.mono (fun k hk => .inl hk))).mono ?_
  rintro e w' ⟨he, hp', hk⟩
  exact ⟨he, hb w' _ _ hp' hk, hk.mono (fun _ _ hy => hy.1)⟩
theorem two_xcrash (h : Two B b1 q1 b2 q2 d1 d2 r1 r2 w) {hv : Value} {how : List Int} (hh : HowAt w (fun k => k < B) hv how) (hl : how.length ≤ 9223372036854775807) :
    Calls Try.prog 13 #[.pointer (some ⟨q1.x, 0, none⟩), hv] w fun e w' => e = .returned (.tuple #[]) ∧ Two B b1 q1 b2 q2 d1 d2 (crashX r1 how) r2 w' ∧ Kept (fun k => B ≤ k) w w' := by
  obtain ⟨X, hp, hb⟩ := h.left
  refine (pq_xcrash hp (hh.mono (fun k hk => .inl hk)) hl).mono ?_
  rintro e w' ⟨he, hp', hk⟩
  exact ⟨he, hb w' _ _ hp' hk, hk.mono (fun _ _ hy => hy.1)⟩
theorem two_read (h : Two B b1 q1 b2 q2 d1 d2 r1 r2 w) (k : Int) {s : ByteArray} {v : Int} (h1 : (⟨(readD d1 k).1.toArray⟩ : ByteArray) = s) (h2 : (readD d1 k).2 = v) :
    Calls Try.prog 21 #[.pointer (some ⟨b1, 0, none⟩), .int .i64 k] w fun e w' => e = .returned (.tuple #[.string s, .int .i64 v]) ∧ w = w' := by
  obtain ⟨X, hp, _⟩ := h.left
  exact pq_read hp k h1 h2
theorem two_dead (h : Two B b1 q1 b2 q2 d1 d2 r1 r2 w) {x : Bool} (hx : d1.dead = x) : Calls Try.prog 19 #[.pointer (some ⟨b1, 0, none⟩)] w fun e w' => e = .returned (.bool x) ∧ w = w' := by
  obtain ⟨X, hp, _⟩ := h.left
  exact pq_dead hp hx
theorem two_acts (h : Two B b1 q1 b2 q2 d1 d2 r1 r2 w) {x : Nat} (hx : d1.acts = x) : Calls Try.prog 22 #[.pointer (some ⟨b1, 0, none⟩)] w fun e w' => e = .returned (.int .i64 x) ∧ w = w' := by
  obtain ⟨X, hp, _⟩ := h.left
  exact pq_acts hp hx
theorem two_pending (h : Two B b1 q1 b2 q2 d1 d2 r1 r2 w) {L : List Nat} (hL : pendL d1.n d1.O = L) : Calls Try.prog 20 #[.pointer (some ⟨b1, 0, none⟩)] w (PdPost w L) := by
  obtain ⟨X, hp, _⟩ := h.left
  exact pq_pending hp hL
end

theorem crash_again (d : DSt) (how again : List Int) : crashD (crashD d how) again = crashD d how := by
  unfold crashD
  have e : pendL d.n (fun _ => (none : Option (List UInt8))) = [] := List.filter_eq_nil_iff.2 (fun a _ => by simp)
  simp only [e]
  rfl

/-- a script in blocks below B -/
structure OpsAt (B : Nat) (w : World) (a : Option Addr) (os : List OpS) : Prop where
  fits : ∀ o ∈ os, o.Fits
  at_ : ∀ (i : Nat) (h : i < os.length), ∃ g off hv, a = some ⟨g, off, none⟩ ∧ g < B ∧ w.rangeAt g (off + i * 6) (os[i].cells hv) ∧ HowAt w (fun k => k < B) hv os[i].how
  len : os.length ≤ 140737488351232
theorem OpsAt.kept {B : Nat} {w w' : World} {a : Option Addr} {os : List OpS} (h : OpsAt B w a os) (hk : Kept (fun k => B ≤ k) w w') : OpsAt B w' a os := by
  refine ⟨h.fits, fun i hi => ?_, h.len⟩
  obtain ⟨g, off, hv, ha, hg, hr, hh⟩ := h.at_ i hi
  refine ⟨g, off, hv, ha, hg, fun j v hj => ?_, hh.kept hk (fun k hk hn => by omega)⟩
  have hc := hr j v hj
  have hb := World.block_lt_of_cell? w _ hc
  rw [World.cell?_of_block (w := w) (hk.block g hb (by omega))]; exact hc
end Go.Proofs.Ytpobflionjndcaa
