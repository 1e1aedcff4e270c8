/- step of layer 3: Size, Dead, Acts; Pending. -/
import Derived.Test.YtpobflionjndcaaDg
import Derived.BigQuiet
namespace Go.Proofs.Ytpobflionjndcaa
open Go.ChangeShapes Go.WideShapes Go.ChangeAt Go.RowKit
open Go.Maps Go.Sort Go.Shelf Go.Proofs
set_option linter.unusedVariables false
set_option linter.unusedSimpArgs false

def intsZ (L : List Nat) : List Int := L.map fun (i : Nat) => (i : Int)
theorem how_own {w : World} {base : Nat} {v : Value} {L : List Nat} (h : w.ownsRow base 3 1 v L.length (intsV L)) (hb : ∀ x ∈ L, x ≤ 9223372036854775807) : HowAt w (fun k => base ≤ k) v (intsZ L) := by
  have hcell : ∀ g, v.ownBlock = some g → ∀ j u, (intsV L)[j]? = some u → w.cell? ((⟨g, 0, none⟩ : Addr).add j) = some u := fun g hg => World.ownsRow.cells h (g := g) hg
  have hwf : ∀ x ∈ intsZ L, -9223372036854775808 ≤ x ∧ x ≤ 9223372036854775807 := by
    intro x hx
    obtain ⟨n, hn, rfl⟩ := List.mem_map.1 hx
    have := hb n hn; omega
  have hl : (intsZ L).length = L.length := by simp [intsZ]
  rcases h.2 with ⟨rfl, h0⟩ | ⟨g, cap, cur, rfl, hbg, hh, r⟩
  · have : L = [] := List.eq_nil_of_length_eq_zero h0
    subst this
    exact HowAt.nil _ _ _ _
  · refine ⟨⟨_, _, by rw [hl], fun i hi => ⟨g, 0, rfl, hbg, ?_⟩⟩, hwf⟩
    have hi' : i < L.length := by omega
    have := hcell g rfl i (.int .i64 (intsZ L)[i]) (by simp [intsV, intsZ, hi'])
    rwa [Addr.add_mid] at this

section
variable {w0 : World} {B : Nat} {X0 X : Nat → Prop} {ob : Nat} {cs : List Value} {b : Nat} {q : RB4} {d : DSt} {r : RSt} {w : World}
def PdPost (w : World) (L : List Nat) (e : Ending) (w' : World) : Prop :=
  ∃ v, e = .returned v ∧ w'.ownsRow w.heap.size 3 1 v L.length (intsV L) ∧ (v = .slice none 0 0 ↔ L = []) ∧ Kept (fun _ => False) w w'
theorem pq_pending (h : Pq B X b q d r w) {L : List Nat} (hL : pendL d.n d.O = L) : Calls Try.prog 20 #[.pointer (some ⟨b, 0, none⟩)] w (PdPost w L) := by
  obtain ⟨sb, mb, nn, hD, h1, h2⟩ := h.dx.ex
  rw [← hL]
  exact (pending_any hD).mono fun e w' ⟨v, he, hrow, hnil, hb⟩ => ⟨v, he, by rw [show intsV (pendL d.n d.O) = (numsZ (pendL d.n d.O)).map encZ by simp [intsV, numsZ]]; exact hrow, hnil, keptBelow hb⟩
theorem pq_xpending (h : Pq B X b q d r w) {L : List Nat} (hL : pendR r r.n = L) : Calls Try.prog 29 #[.pointer (some ⟨q.x, 0, none⟩)] w (PdPost w L) := by
  rw [← hL]
  exact (xpending_any h.rf).mono fun e w' ⟨v, he, hrow, hnil, hb⟩ => ⟨v, he, hrow, hnil, hb⟩
theorem Pq.hi (h : Pq B X b q d r w) : d.n ≤ 32768 := by
  obtain ⟨sb, mb, nn, hD, h1, h2⟩ := h.dx.ex
  exact hD.hi
theorem pend_bound {L : List Nat} (hL : pendL d.n d.O = L) (hn : d.n ≤ 32768) : L.length ≤ 32768 ∧ ∀ x ∈ L, x ≤ 9223372036854775807 := by
  subst hL
  refine ⟨?_, fun x hx => ?_⟩
  · unfold pendL
    exact Nat.le_trans (List.length_filter_le _ _) (by simp; omega)
  · have := ((pend_mem d.n d.O x).1 hx).1; omega

set_option maxRecDepth 100000 in
set_option maxHeartbeats 2000000 in
theorem step_size (h : Pq B X b q d r w) (hs : Sim d r) (o : OpS) (hk : o.k = 7) (hv : Value) :
    Calls Try.prog 10 #[.pointer (some ⟨b, 0, none⟩), .pointer (some ⟨q.x, 0, none⟩), .agg #[.int .i64 o.k, .int .i64 o.n, .int .i64 o.f, .bool o.short, .bool o.other, hv]] w (SPost B X b q (stepD d o) w) := by
  obtain ⟨k, n, f, short, other, how⟩ := o
  obtain rfl : k = 7 := hk
  have HST : Hid (stepD d ⟨7, n, f, short, other, how⟩ = d) := Lib.hid rfl
  have HSIM := Lib.hid hs
  have HB : Hid (Ps w B X (fun k => X k ∨ k = w.heap.size) w.heap.size [.int .i64 7, .int .i64 n, .int .i64 f, .bool short, .bool other, hv] b q d r (w.alloc (.cells #[.int .i64 7, .int .i64 n, .int .i64 f, .bool short, .bool other, hv] 33))) := Lib.hid (h.box [.int .i64 7, .int .i64 n, .int .i64 f, .bool short, .bool other, hv])
  have six := HB.out.pq.rf.six
  obtain ⟨x, hx⟩ : ∃ x, d.dead = x := ⟨_, rfl⟩
  have c0 := six.c0
  have c3 := six.c3
  have c5 := six.c5
  rw [hs.n] at c0
  rw [hs.N] at c3
  rw [hs.Gone, hx] at c5
  have HSZ := Lib.hid (fun n => pq_size (HB.out.pq.drewN n) rfl)
  have HDE := Lib.hid (fun n => pq_dead (HB.out.pq.drewN n) hx)
  have HAC := Lib.hid (fun n => pq_acts (HB.out.pq.drewN n) rfl)
  clear hs h hx six
  go_enter Try.func10, Try.ntmps10
  go_wp2_with fail
  go_quiet ((first
    | (go_at_call 30; exact quiet_same (HSZ.out _))
    | (go_at_call 19; exact quiet_same (HDE.out _))
    | (go_at_call 22; exact quiet_same (HAC.out _))))
  go_wp2_with fail
  go_ret
  rw [HST.out]
  exact Ps.post (HB.out.drewN _) HSIM.out (by simp)
end
end Go.Proofs.Ytpobflionjndcaa
