/- The program's disk and the document's, side by side: each call of either. -/
import Derived.Test.YtpobflionjndcaaDe
namespace Go.Proofs.Ytpobflionjndcaa
open Go.ChangeShapes Go.WideShapes Go.ChangeAt Go.RowKit
open Go.Maps Go.Sort Go.Shelf Go.Proofs
set_option linter.unusedVariables false
set_option linter.unusedSimpArgs false

/-- the program's disk at b and the document's at q, in blocks from B on, beside X -/
structure Pq (B : Nat) (X : Nat → Prop) (b : Nat) (q : RB4) (d : DSt) (r : RSt) (w : World) : Prop where
  dx : Dx B (fun k => X k ∨ XB q k) w b d
  rf : RfAt w q r
  lo : ∀ g, XB q g → B ≤ g
  far : ∀ g, X g → g < w.heap.size ∧ ¬ XB q g
theorem Pq.le {B : Nat} {X : Nat → Prop} {b : Nat} {q : RB4} {d : DSt} {r : RSt} {w : World} (h : Pq B X b q d r w) : B ≤ w.heap.size := h.dx.le
theorem Pq.kept {B : Nat} {X Y : Nat → Prop} {b : Nat} {q : RB4} {d : DSt} {r : RSt} {w w' : World} (h : Pq B X b q d r w) (hk : Kept Y w w') (hY : ∀ k, k < w.heap.size → Y k → X k) : Pq B X b q d r w' :=
  ⟨h.dx.kept hk (fun k hk hy => .inl (hY k hk hy)), h.rf.kept hk (fun k hx hy => (h.far k (hY k (h.rf.inn k hx) hy)).2 hx), h.lo, fun g hg => ⟨Nat.lt_of_lt_of_le (h.far g hg).1 hk.size, (h.far g hg).2⟩⟩
theorem Pq.kept0 {B : Nat} {X : Nat → Prop} {b : Nat} {q : RB4} {d : DSt} {r : RSt} {w w' : World} (h : Pq B X b q d r w) (hk : Kept (fun _ => False) w w') : Pq B X b q d r w' := h.kept hk (fun _ _ f => f.elim)
theorem Pq.drew {B : Nat} {X : Nat → Prop} {b : Nat} {q : RB4} {d : DSt} {r : RSt} {w : World} (h : Pq B X b q d r w) : Pq B X b q d r w.drew := h.kept0 ((Kept.refl _ w).drew)
theorem Pq.drewN {B : Nat} {X : Nat → Prop} {b : Nat} {q : RB4} {d : DSt} {r : RSt} {w : World} (h : Pq B X b q d r w) (n : Nat) : Pq B X b q d r (w.drewN n) := h.kept0 ((Kept.refl _ w).drewN n)
/-- a block more that is left alone -/
theorem Pq.more {B : Nat} {X : Nat → Prop} {b g : Nat} {q : RB4} {d : DSt} {r : RSt} {w w' : World} (h : Pq B X b q d r w) (hk : Kept (fun _ => False) w w') (h1 : w.heap.size ≤ g) (h2 : g < w'.heap.size) : Pq B (fun k => X k ∨ k = g) b q d r w' := by
  have hd := h.dx.more hk h1 h2
  refine ⟨?_, h.rf.kept hk (fun _ _ f => f), h.lo, fun k hx => ?_⟩
  · obtain ⟨sb, mb, nn, hD, e1, e2⟩ := hd.ex
    exact ⟨sb, mb, nn, hD, e1, fun k hx => e2 k (by rcases hx with (hx | hx) | hx; exact .inl (.inl hx); exact .inr hx; exact .inl (.inr hx))⟩
  · rcases hx with hx | rfl
    · exact ⟨Nat.lt_of_lt_of_le (h.far k hx).1 hk.size, (h.far k hx).2⟩
    · exact ⟨h2, fun hx => by have := h.rf.inn k hx; omega⟩
/-- the program's disk has turned -/
theorem Pq.left {B : Nat} {X : Nat → Prop} {b : Nat} {q : RB4} {d d' : DSt} {r : RSt} {w w' : World} (h : Pq B X b q d r w) (hd : Dx B (fun k => X k ∨ XB q k) w' b d') (hk : Kept (OutX B (fun k => X k ∨ XB q k)) w w') : Pq B X b q d' r w' ∧ Kept (OutX B X) w w' :=
  ⟨⟨hd, h.rf.kept hk (fun k hx hy => hy.2 (.inr hx)), h.lo, fun g hg => ⟨Nat.lt_of_lt_of_le (h.far g hg).1 hk.size, (h.far g hg).2⟩⟩, hk.mono (fun k _ hy => ⟨hy.1, fun hx => hy.2 (.inl hx)⟩)⟩
/-- the document's disk has turned -/
theorem Pq.right {B : Nat} {X : Nat → Prop} {b : Nat} {q : RB4} {d : DSt} {r r' : RSt} {w w' : World} (h : Pq B X b q d r w) (hr : RfAt w' q r') (hk : Kept (XB q) w w') : Pq B X b q d r' w' ∧ Kept (OutX B X) w w' :=
  ⟨⟨h.dx.kept hk (fun k _ hy => .inr hy), hr, h.lo, fun g hg => ⟨Nat.lt_of_lt_of_le (h.far g hg).1 hk.size, (h.far g hg).2⟩⟩, hk.mono (fun k _ hy => ⟨h.lo k hy, fun hx => (h.far k hx).2 hy⟩)⟩

/-- beside a box of the call's own -/
structure Ps (w0 : World) (B : Nat) (X0 X : Nat → Prop) (ob : Nat) (cs : List Value) (b : Nat) (q : RB4) (d : DSt) (r : RSt) (w : World) : Prop where
  pq : Pq B X b q d r w
  sub : ∀ g, X0 g → X g
  obx : X ob
  box : w.heap[ob]? = some (.cells cs.toArray 33 (0, 0))
  kept : Kept (OutX B X0) w0 w
section
variable {w0 : World} {B : Nat} {X0 X : Nat → Prop} {ob : Nat} {cs : List Value} {b : Nat} {q : RB4} {d d' : DSt} {r r' : RSt} {w w' : World}
theorem Ps.step (h : Ps w0 B X0 X ob cs b q d r w) (h' : Pq B X b q d' r' w') (hk : Kept (OutX B X) w w') : Ps w0 B X0 X ob cs b q d' r' w' :=
  ⟨h', h.sub, h.obx, by rw [hk.block ob (h.pq.far ob h.obx).1 (fun hy => hy.2 h.obx)]; exact h.box, h.kept.trans' hk (fun k _ hy => ⟨hy.1, fun hx => hy.2 (h.sub k hx)⟩)⟩
theorem Ps.kept0 (h : Ps w0 B X0 X ob cs b q d r w) (hk : Kept (fun _ => False) w w') : Ps w0 B X0 X ob cs b q d r w' := h.step (h.pq.kept0 hk) (hk.mono (fun _ _ f => f.elim))
theorem Ps.drew (h : Ps w0 B X0 X ob cs b q d r w) : Ps w0 B X0 X ob cs b q d r w.drew := h.kept0 ((Kept.refl _ w).drew)
theorem Ps.drewN (h : Ps w0 B X0 X ob cs b q d r w) (n : Nat) : Ps w0 B X0 X ob cs b q d r (w.drewN n) := h.kept0 ((Kept.refl _ w).drewN n)
theorem Ps.more {g : Nat} (h : Ps w0 B X0 X ob cs b q d r w) (hk : Kept (fun _ => False) w w') (h1 : w.heap.size ≤ g) (h2 : g < w'.heap.size) : Ps w0 B X0 (fun k => X k ∨ k = g) ob cs b q d r w' :=
  ⟨h.pq.more hk h1 h2, fun k hx => .inl (h.sub k hx), .inl h.obx, by rw [hk.block ob (h.pq.far ob h.obx).1 id]; exact h.box, h.kept.trans' hk (fun _ _ f => f.elim)⟩
theorem Ps.cell (h : Ps w0 B X0 X ob cs b q d r w) (i : Nat) : w.cell? ⟨ob, i, none⟩ = cs[i]? := by
  rw [cell_of_row w ob i _ _ (0, 0) h.box, List.getElem?_toArray]
end

section
variable {w0 : World} {B : Nat} {X0 X : Nat → Prop} {ob : Nat} {cs : List Value} {b : Nat} {q : RB4} {d : DSt} {r : RSt} {w : World}

theorem pq_write (h : Pq B X b q d r w) (k : Int) (s : ByteArray) (ha : d.acts < 9223372036854775807) {v : Int} (hv : (writeD d k s.data.toList).2 = v) : Calls Try.prog 16 #[.pointer (some ⟨b, 0, none⟩), .int .i64 k, .string s] w fun e w' => e = .returned (.int .i64 v) ∧ Pq B X b q (writeD d k s.data.toList).1 r w' ∧ Kept (OutX B X) w w' := by
  rw [← hv]
  exact (dx_write h.dx k s ha).mono fun e w' ⟨he, hd, hk⟩ => ⟨he, (h.left hd hk).1, (h.left hd hk).2⟩
theorem ps_write (h : Ps w0 B X0 X ob cs b q d r w) (k : Int) (s : ByteArray) (ha : d.acts < 9223372036854775807) {v : Int} (hv : (writeD d k s.data.toList).2 = v) : Calls Try.prog 16 #[.pointer (some ⟨b, 0, none⟩), .int .i64 k, .string s] w fun e w' => e = .returned (.int .i64 v) ∧ Ps w0 B X0 X ob cs b q (writeD d k s.data.toList).1 r w' :=
  (pq_write h.pq k s ha hv).mono fun e w' ⟨he, hp, hk⟩ => ⟨he, h.step hp hk⟩
theorem pq_sync (h : Pq B X b q d r w) (ha : d.acts < 9223372036854775807) {v : Int} (hv : (syncD d).2 = v) : Calls Try.prog 17 #[.pointer (some ⟨b, 0, none⟩)] w fun e w' => e = .returned (.int .i64 v) ∧ Pq B X b q (syncD d).1 r w' ∧ Kept (OutX B X) w w' := by
  rw [← hv]
  exact (dx_sync h.dx ha).mono fun e w' ⟨he, hd, hk⟩ => ⟨he, (h.left hd hk).1, (h.left hd hk).2⟩
theorem ps_sync (h : Ps w0 B X0 X ob cs b q d r w) (ha : d.acts < 9223372036854775807) {v : Int} (hv : (syncD d).2 = v) : Calls Try.prog 17 #[.pointer (some ⟨b, 0, none⟩)] w fun e w' => e = .returned (.int .i64 v) ∧ Ps w0 B X0 X ob cs b q (syncD d).1 r w' :=
  (pq_sync h.pq ha hv).mono fun e w' ⟨he, hp, hk⟩ => ⟨he, h.step hp hk⟩
theorem pq_arm (h : Pq B X b q d r w) (k : Int) (hk : k ≤ 9223372036854775807) {v : Int} (hv : (armD d k).2 = v) : Calls Try.prog 18 #[.pointer (some ⟨b, 0, none⟩), .int .i64 k] w fun e w' => e = .returned (.int .i64 v) ∧ Pq B X b q (armD d k).1 r w' ∧ Kept (OutX B X) w w' := by
  rw [← hv]
  exact (dx_arm h.dx k hk).mono fun e w' ⟨he, hd, hk⟩ => ⟨he, (h.left hd hk).1, (h.left hd hk).2⟩
theorem ps_arm (h : Ps w0 B X0 X ob cs b q d r w) (k : Int) (hk : k ≤ 9223372036854775807) {v : Int} (hv : (armD d k).2 = v) : Calls Try.prog 18 #[.pointer (some ⟨b, 0, none⟩), .int .i64 k] w fun e w' => e = .returned (.int .i64 v) ∧ Ps w0 B X0 X ob cs b q (armD d k).1 r w' :=
  (pq_arm h.pq k hk hv).mono fun e w' ⟨he, hp, hk⟩ => ⟨he, h.step hp hk⟩
theorem pq_xwrite (h : Pq B X b q d r w) (k : Int) (s : ByteArray) (ha : r.N < 9223372036854775807) {v : Int} (hv : (writeR r k s.data.toList).2 = v) : Calls Try.prog 24 #[.pointer (some ⟨q.x, 0, none⟩), .int .i64 k, .string s] w fun e w' => e = .returned (.int .i64 v) ∧ Pq B X b q d (writeR r k s.data.toList).1 w' ∧ Kept (OutX B X) w w' := by
  rw [← hv]
  exact (xwrite_any h.rf k s ha).mono fun e w' ⟨he, hd, hk⟩ => ⟨he, (h.right hd hk).1, (h.right hd hk).2⟩
theorem ps_xwrite (h : Ps w0 B X0 X ob cs b q d r w) (k : Int) (s : ByteArray) (ha : r.N < 9223372036854775807) {v : Int} (hv : (writeR r k s.data.toList).2 = v) : Calls Try.prog 24 #[.pointer (some ⟨q.x, 0, none⟩), .int .i64 k, .string s] w fun e w' => e = .returned (.int .i64 v) ∧ Ps w0 B X0 X ob cs b q d (writeR r k s.data.toList).1 w' :=
  (pq_xwrite h.pq k s ha hv).mono fun e w' ⟨he, hp, hk⟩ => ⟨he, h.step hp hk⟩
theorem pq_xsync (h : Pq B X b q d r w) (ha : r.N < 9223372036854775807) {v : Int} (hv : (syncR r).2 = v) : Calls Try.prog 25 #[.pointer (some ⟨q.x, 0, none⟩)] w fun e w' => e = .returned (.int .i64 v) ∧ Pq B X b q d (syncR r).1 w' ∧ Kept (OutX B X) w w' := by
  rw [← hv]
  exact (xsync_any h.rf ha).mono fun e w' ⟨he, hd, hk⟩ => ⟨he, (h.right hd hk).1, (h.right hd hk).2⟩
theorem ps_xsync (h : Ps w0 B X0 X ob cs b q d r w) (ha : r.N < 9223372036854775807) {v : Int} (hv : (syncR r).2 = v) : Calls Try.prog 25 #[.pointer (some ⟨q.x, 0, none⟩)] w fun e w' => e = .returned (.int .i64 v) ∧ Ps w0 B X0 X ob cs b q d (syncR r).1 w' :=
  (pq_xsync h.pq ha hv).mono fun e w' ⟨he, hp, hk⟩ => ⟨he, h.step hp hk⟩
theorem pq_xarm (h : Pq B X b q d r w) (k : Int) (hk : k ≤ 9223372036854775807) (ha : r.N ≤ 4611686018427387903) {v : Int} (hv : (armR r k).2 = v) : Calls Try.prog 27 #[.pointer (some ⟨q.x, 0, none⟩), .int .i64 k] w fun e w' => e = .returned (.int .i64 v) ∧ Pq B X b q d (armR r k).1 w' ∧ Kept (OutX B X) w w' := by
  rw [← hv]
  exact (xarm_any h.rf k hk ha).mono fun e w' ⟨he, hd, hk⟩ => ⟨he, (h.right hd hk).1, (h.right hd hk).2⟩
theorem ps_xarm (h : Ps w0 B X0 X ob cs b q d r w) (k : Int) (hk : k ≤ 9223372036854775807) (ha : r.N ≤ 4611686018427387903) {v : Int} (hv : (armR r k).2 = v) : Calls Try.prog 27 #[.pointer (some ⟨q.x, 0, none⟩), .int .i64 k] w fun e w' => e = .returned (.int .i64 v) ∧ Ps w0 B X0 X ob cs b q d (armR r k).1 w' :=
  (pq_xarm h.pq k hk ha hv).mono fun e w' ⟨he, hp, hk⟩ => ⟨he, h.step hp hk⟩
theorem pq_crash (h : Pq B X b q d r w) {hv : Value} {how : List Int} (hh : HowAt w (fun k => k < B ∨ X k) hv how) : Calls Try.prog 12 #[.pointer (some ⟨b, 0, none⟩), hv] w fun e w' => e = .returned (.tuple #[]) ∧ Pq B X b q (crashD d how) r w' ∧ Kept (OutX B X) w w' :=
  (dx_crash h.dx (hh.mono (fun k hk => hk.imp id .inl))).mono fun e w' ⟨he, hd, hk⟩ => ⟨he, (h.left hd hk).1, (h.left hd hk).2⟩
theorem pq_xcrash (h : Pq B X b q d r w) {hv : Value} {how : List Int} (hh : HowAt w (fun k => k < B ∨ X k) hv how) (hl : how.length ≤ 9223372036854775807) : Calls Try.prog 13 #[.pointer (some ⟨q.x, 0, none⟩), hv] w fun e w' => e = .returned (.tuple #[]) ∧ Pq B X b q d (crashX r how) w' ∧ Kept (OutX B X) w w' :=
  (xcrash_any h.rf (hh.mono (fun k hk hx => hk.elim (fun hk => by have := h.lo k hx; omega) (fun hk => (h.far k hk).2 hx))) hl).mono fun e w' ⟨he, hd, hk⟩ => ⟨he, (h.right hd hk).1, (h.right hd hk).2⟩
theorem ps_crash (h : Ps w0 B X0 X ob cs b q d r w) {hv : Value} {how : List Int} (hh : HowAt w (fun k => k < B ∨ X k) hv how) : Calls Try.prog 12 #[.pointer (some ⟨b, 0, none⟩), hv] w fun e w' => e = .returned (.tuple #[]) ∧ Ps w0 B X0 X ob cs b q (crashD d how) r w' ∧ Kept (OutX B X) w w' :=
  (pq_crash h.pq hh).mono fun e w' ⟨he, hp, hk⟩ => ⟨he, h.step hp hk, hk⟩
theorem ps_xcrash (h : Ps w0 B X0 X ob cs b q d r w) {hv : Value} {how : List Int} (hh : HowAt w (fun k => k < B ∨ X k) hv how) (hl : how.length ≤ 9223372036854775807) : Calls Try.prog 13 #[.pointer (some ⟨q.x, 0, none⟩), hv] w fun e w' => e = .returned (.tuple #[]) ∧ Ps w0 B X0 X ob cs b q d (crashX r how) w' ∧ Kept (OutX B X) w w' :=
  (pq_xcrash h.pq hh hl).mono fun e w' ⟨he, hp, hk⟩ => ⟨he, h.step hp hk, hk⟩
theorem pq_read (h : Pq B X b q d r w) (k : Int) {s : ByteArray} {v : Int} (h1 : (⟨(readD d k).1.toArray⟩ : ByteArray) = s) (h2 : (readD d k).2 = v) : Calls Try.prog 21 #[.pointer (some ⟨b, 0, none⟩), .int .i64 k] w fun e w' => e = .returned (.tuple #[.string s, .int .i64 v]) ∧ w = w' := by
  rw [← h1, ← h2]; exact dx_read h.dx k
theorem pq_xread (h : Pq B X b q d r w) (k : Int) {s : ByteArray} {v : Int} (h1 : (⟨(readR r k).1.toArray⟩ : ByteArray) = s) (h2 : (readR r k).2 = v) : Calls Try.prog 26 #[.pointer (some ⟨q.x, 0, none⟩), .int .i64 k] w fun e w' => e = .returned (.tuple #[.string s, .int .i64 v]) ∧ w = w' := by
  rw [← h1, ← h2]; exact xread_any h.rf k
theorem pq_dead (h : Pq B X b q d r w) {x : Bool} (hx : d.dead = x) : Calls Try.prog 19 #[.pointer (some ⟨b, 0, none⟩)] w fun e w' => e = .returned (.bool x) ∧ w = w' := dx_dead h.dx hx
theorem pq_acts (h : Pq B X b q d r w) {x : Nat} (hx : d.acts = x) : Calls Try.prog 22 #[.pointer (some ⟨b, 0, none⟩)] w fun e w' => e = .returned (.int .i64 x) ∧ w = w' := by
  obtain ⟨sb, mb, nn, hD, h1, h2⟩ := h.dx.ex
  rw [← hx]; exact acts_any hD
theorem pq_size (h : Pq B X b q d r w) {x : Nat} (hx : d.n = x) : Calls Try.prog 30 #[.pointer (some ⟨b, 0, none⟩)] w fun e w' => e = .returned (.int .i64 x) ∧ w = w' := by
  obtain ⟨sb, mb, nn, hD, h1, h2⟩ := h.dx.ex
  rw [← hx]; exact size_any hD
end
end Go.Proofs.Ytpobflionjndcaa
