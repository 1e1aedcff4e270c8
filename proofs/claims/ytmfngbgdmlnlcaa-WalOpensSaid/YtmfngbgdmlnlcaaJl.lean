/- A log in memory, and what it tells of itself. -/
import Derived.Test.YtmfngbgdmlnlcaaJv
import Derived.BigQuiet
namespace Go.Proofs.Ytmfngbgdmlnlcaa
open Go.ChangeShapes Go.WideShapes Go.ChangeAt Go.RowKit
set_option linter.unusedVariables false
set_option linter.unusedSimpArgs false

theorem rowKept {X : Nat → Prop} {w w' : World} {base : Nat} {e : TypeId} {size n : Nat} {v : Value} {xs : List Value} (h : w.ownsRow base e size v n xs) (hk : Kept X w w') (hx : ∀ k, base ≤ k → ¬ X k) : w'.ownsRow base e size v n xs := by
  refine ⟨h.1, ?_⟩
  rcases h.2 with h2 | ⟨g, cap, cur, rfl, hb, hh, r⟩
  · exact .inl h2
  · exact .inr ⟨g, cap, cur, rfl, hb, by rw [hk.block g (lt_of_block hh) (hx g hb)]; exact hh, r⟩
structure MSt where
  c : Nat
  ar : Nat
  le : Nat
  nu : Nat
  a : Nat
  b : Nat
structure LSt where
  m : MSt
  recs : List ByteArray
  used : Nat
  doubt : Bool
def MSt.cells (m : MSt) : List Value := [.int .i64 m.c, .int .i64 m.ar, .int .i64 m.le, .int .i64 m.nu, .int .i64 m.a, .int .i64 m.b]
def LSt.cells (g : LSt) (db : Nat) (rv : Value) : List Value := [.pointer (some ⟨db, 0, none⟩), .int .i64 g.m.c, .int .i64 g.m.ar, .int .i64 g.m.le, .int .i64 g.m.nu, .int .i64 g.m.a, .int .i64 g.m.b, rv, .int .i64 g.used, .bool g.doubt]
structure LgAt (w : World) (lb db : Nat) (rv : Value) (g : LSt) : Prop where
  at_ : w.heap[lb]? = some (.cells (g.cells db rv).toArray 75 (0, 0))
  row : w.ownsRow 0 9 1 rv g.recs.length (g.recs.map Value.string)
theorem LgAt.cell {w : World} {lb db : Nat} {rv : Value} {g : LSt} (h : LgAt w lb db rv g) (i : Nat) : w.cell? ⟨lb, i, none⟩ = (g.cells db rv)[i]? := by
  rw [cell_of_row w lb i _ _ (0, 0) h.at_, List.getElem?_toArray]
/-- a log over a disk, all its blocks in a set Z, in which every new block is -/
structure Wl (Z : Nat → Prop) (w : World) (lb db : Nat) (g : LSt) (d : DSt) : Prop where
  ex : ∃ sb mb nn rv, DAt w db sb mb nn d ∧ LgAt w lb db rv g ∧ (Z lb ∧ (∀ k, DB db sb mb k → Z k) ∧ ∀ k, rv.ownBlock = some k → Z k) ∧ ¬ DB db sb mb lb ∧ ∀ k, w.heap.size ≤ k → Z k
section
variable {Z : Nat → Prop} {w : World} {lb db : Nat} {g : LSt} {d : DSt}
theorem rowOwn {X : Nat → Prop} {w w' : World} {base : Nat} {e : TypeId} {size n : Nat} {v : Value} {xs : List Value} (h : w.ownsRow base e size v n xs) (hk : Kept X w w') (hx : ∀ k, v.ownBlock = some k → ¬ X k) : w'.ownsRow base e size v n xs := by
  refine ⟨h.1, ?_⟩
  rcases h.2 with h2 | ⟨g, cap, cur, rfl, hb, hh, r⟩
  · exact .inl h2
  · exact .inr ⟨g, cap, cur, rfl, hb, by rw [hk.block g (lt_of_block hh) (hx g rfl)]; exact hh, r⟩
theorem Wl.kept (h : Wl Z w lb db g d) {Y : Nat → Prop} {w' : World} (hk : Kept Y w w') (hY : ∀ k, Z k → ¬ Y k) : Wl Z w' lb db g d := by
  obtain ⟨sb, mb, nn, rv, hD, hL, ⟨h1, h2, h4⟩, h3, h5⟩ := h.ex
  refine ⟨sb, mb, nn, rv, hD.kept hk (fun k hk => hY k (h2 k hk)), ⟨?_, ?_⟩, ⟨h1, h2, h4⟩, h3, fun k hk' => h5 k (Nat.le_trans hk.size hk')⟩
  · rw [hk.block lb (lt_of_block hL.at_) (hY lb h1)]; exact hL.at_
  · exact rowOwn hL.row hk (fun k hk => hY k (h4 k hk))
theorem Wl.kept0 (h : Wl Z w lb db g d) {w' : World} (hk : Kept (fun _ => False) w w') : Wl Z w' lb db g d := h.kept hk (fun _ _ f => f)
theorem Wl.drewN (h : Wl Z w lb db g d) (n : Nat) : Wl Z (w.drewN n) lb db g d := h.kept0 ((Kept.refl _ w).drewN n)
def secN (d : DSt) : Nat := (d.n - 2) / 2

theorem sectors_any (h : Wl Z w lb db g d) : Calls Try.prog 58 #[.pointer (some ⟨lb, 0, none⟩)] w fun e w' => e = .returned (.int .i64 (secN d)) ∧ w = w' := by
  obtain ⟨sb, mb, nn, rv, hD, hL, _, _⟩ := h.ex
  have c0 : w.cell? ⟨lb, 0, none⟩ = some (.pointer (some ⟨db, 0, none⟩)) := hL.cell 0
  have HSZ := Lib.hid (size_any hD)
  have hlo := hD.lo
  have hhi := hD.hi
  have HE : Hid (((d.n : Int) - 2) / 2 = (secN d : Int)) := Lib.hid (by unfold secN; omega)
  clear hD hL h
  go_enter Try.func58, Try.ntmps58
  go_wp2_with (go_at_call 70; refine HSZ.out.mono ?_; rintro e w' ⟨rfl, rfl⟩)
  go_ret
  exact ⟨ret_int HE.out, rfl⟩
def spaceN (d : DSt) : Nat := secN d * 64
theorem Wl.hi (h : Wl Z w lb db g d) : 16 ≤ d.n ∧ d.n ≤ 32768 := by
  obtain ⟨sb, mb, nn, rv, hD, _⟩ := h.ex
  exact ⟨hD.lo, hD.hi⟩
theorem Wl.sec_hi (h : Wl Z w lb db g d) : 7 ≤ secN d ∧ secN d ≤ 16383 := by
  have := h.hi; unfold secN; omega
theorem space_any (h : Wl Z w lb db g d) : Calls Try.prog 39 #[.pointer (some ⟨lb, 0, none⟩)] w fun e w' => e = .returned (.int .i64 (spaceN d)) ∧ w = w' := by
  have hs := h.sec_hi
  have HS := Lib.hid (sectors_any h)
  have HE : Hid (((secN d : Nat) : Int) * 64 = (spaceN d : Int)) := Lib.hid (by unfold spaceN; omega)
  clear h
  go_enter Try.func39, Try.ntmps39
  go_wp2_with (go_at_call 58; refine HS.out.mono ?_; rintro e w' ⟨rfl, rfl⟩)
  go_ret
  exact ⟨ret_int HE.out, rfl⟩
def startN (d : DSt) (ar : Nat) : Nat := 2 + ar * secN d
theorem start_any (h : Wl Z w lb db g d) (ar : Nat) (ha : ar ≤ 1) : Calls Try.prog 53 #[.pointer (some ⟨lb, 0, none⟩), .int .i64 ar] w fun e w' => e = .returned (.int .i64 (startN d ar)) ∧ w = w' := by
  have hs := h.sec_hi
  have HS := Lib.hid (sectors_any h)
  have hm : (ar : Int) * (secN d : Int) = ((ar * secN d : Nat) : Int) := by push_cast; rfl
  have hb : ar * secN d ≤ 16383 := by
    have : ar * secN d ≤ 1 * secN d := Nat.mul_le_mul_right _ ha
    omega
  have HE : Hid ((2 : Int) + ((ar * secN d : Nat) : Int) = (startN d ar : Int)) := Lib.hid (by unfold startN; omega)
  generalize ar * secN d = x at hm hb HE
  have hb2 : 0 ≤ (ar : Int) * (secN d : Int) := by omega
  have hb3 : (ar : Int) * (secN d : Int) ≤ 16383 := by omega
  have HM := Lib.hid hm
  clear h
  go_enter Try.func53, Try.ntmps53
  go_wp2_with (go_at_call 58; refine HS.out.mono ?_; rintro e w' ⟨rfl, rfl⟩)
  go_ret
  exact ⟨ret_int HE.out, rfl⟩
theorem len_any (h : Wl Z w lb db g d) : Calls Try.prog 28 #[.pointer (some ⟨lb, 0, none⟩)] w fun e w' => e = .returned (.int .i64 g.recs.length) ∧ w = w' := by
  obtain ⟨sb, mb, nn, rv, hD, hL, _, _⟩ := h.ex
  obtain ⟨a, cap, rfl⟩ : ∃ a cap, rv = .slice a g.recs.length cap := by
    rcases hL.row.2 with ⟨hv, h0⟩ | ⟨gg, cap, cur, hv, _⟩
    · exact ⟨none, 0, by rw [hv, h0]⟩
    · exact ⟨_, _, hv⟩
  have c7 : w.cell? ⟨lb, 7, none⟩ = some (.slice a g.recs.length cap) := hL.cell 7
  clear hD hL h
  go_enter Try.func28, Try.ntmps28
  go_wp2_with fail
  go_ret
  exact ⟨rfl, rfl⟩
theorem synced_any (h : Wl Z w lb db g d) : Calls Try.prog 29 #[.pointer (some ⟨lb, 0, none⟩)] w fun e w' => e = .returned (.int .i64 g.m.nu) ∧ w = w' := by
  obtain ⟨sb, mb, nn, rv, hD, hL, _, _⟩ := h.ex
  have c4 : w.cell? ⟨lb, 4, none⟩ = some (.int .i64 g.m.nu) := hL.cell 4
  clear hD hL h
  go_enter Try.func29, Try.ntmps29
  go_wp2_with fail
  go_ret
  exact ⟨rfl, rfl⟩
theorem marks_any (h : Wl Z w lb db g d) : Calls Try.prog 27 #[.pointer (some ⟨lb, 0, none⟩)] w fun e w' => e = .returned (.tuple #[.int .i64 g.m.a, .int .i64 g.m.b]) ∧ ∃ n, w' = w.drewN n := by
  obtain ⟨sb, mb, nn, rv, hD, hL, _, _⟩ := h.ex
  have c5 : w.cell? ⟨lb, 5, none⟩ = some (.int .i64 g.m.a) := hL.cell 5
  have c6 : w.cell? ⟨lb, 6, none⟩ = some (.int .i64 g.m.b) := hL.cell 6
  clear hD hL h
  go_enter Try.func27, Try.ntmps27
  go_wp2_with fail
  go_quiet (fail)
  go_wp2_with fail
  go_ret2
  exact ⟨rfl, _, rfl⟩
def roomZ (used : Nat) (d : DSt) : Int := max (-1) (min 4000 ((spaceN d : Int) - used - 6))
theorem room_any (h : Wl Z w lb db g d) (hu : g.used ≤ 4611686018427387904) : Calls Try.prog 14 #[.pointer (some ⟨lb, 0, none⟩)] w fun e w' => e = .returned (.int .i64 (roomZ g.used d)) ∧ ∃ n, w' = w.drewN n := by
  have hs := h.sec_hi
  have hsp : spaceN d ≤ 1048512 := by unfold spaceN; omega
  have HS := Lib.hid (fun n => space_any (h.drewN n))
  obtain ⟨sb, mb, nn, rv, hD, hL, _, _⟩ := h.ex
  have c8 : w.cell? ⟨lb, 8, none⟩ = some (.int .i64 g.used) := hL.cell 8
  clear hD hL h
  generalize g.used = u at hu c8
  go_enter Try.func14, Try.ntmps14
  go_wp2_with fail
  go_quiet ((go_at_call 39; exact (HS.out _).mono fun e w' ⟨he, hw⟩ => ⟨he, _, hw.symm⟩))
  go_wp2_with fail
  go_ret
  exact ⟨ret_int rfl, _, rfl⟩
end
end Go.Proofs.Ytmfngbgdmlnlcaa
