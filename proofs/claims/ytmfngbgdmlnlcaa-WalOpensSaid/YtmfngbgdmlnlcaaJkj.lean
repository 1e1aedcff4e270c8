/- Open; Records. -/
import Derived.Test.YtmfngbgdmlnlcaaJki
namespace Go.Proofs.Ytmfngbgdmlnlcaa
open Go.ChangeShapes Go.WideShapes Go.ChangeAt Go.RowKit
set_option linter.unusedVariables false
set_option linter.unusedSimpArgs false
section
variable {Z : Nat → Prop} {w w' : World} {lb db sb mb nn : Nat} {g : LSt} {d : DSt}
def OpenPost (Z : Nat → Prop) (w : World) (db : Nat) (d : DSt) (e : Ending) (w' : World) : Prop :=
  ∃ (p : Option Addr) (v : Int), e = .returned (.tuple #[.pointer p, .int .i64 v]) ∧ (∀ m l, Stands d m l → v = 0 ∧ ∃ lb, p = some ⟨lb, 0, none⟩ ∧ w.heap.size ≤ lb ∧ Wl Z w' lb db (openL m l) d) ∧ ((¬ ∃ m l, Stands d m l) → p = none ∧ v = 31) ∧ Kept Z w w'
set_option maxRecDepth 100000 in
set_option maxHeartbeats 4000000 in
theorem open_any (hD : DAt w db sb mb nn d) (hz : ∀ k, DB db sb mb k → Z k) (hn : ∀ k, w.heap.size ≤ k → Z k) (hd : d.dead = false) : Calls Try.prog 17 #[.pointer (some ⟨db, 0, none⟩)] w (OpenPost Z w db d) := by
  have hlt := hD.inn
  have hk : Kept (fun _ => False) w (w.alloc (.cells #[.pointer (some ⟨db, 0, none⟩), .int .i64 0, .int .i64 0, .int .i64 0, .int .i64 0, .int .i64 0, .int .i64 0, .slice none 0 0, .int .i64 0, .bool false] 75)) := (Kept.refl _ w).alloc _
  have hwl : Wl Z (w.alloc (.cells #[.pointer (some ⟨db, 0, none⟩), .int .i64 0, .int .i64 0, .int .i64 0, .int .i64 0, .int .i64 0, .int .i64 0, .slice none 0 0, .int .i64 0, .bool false] 75)) w.heap.size db log0 d :=
    Wl.born (hD.kept hk (fun _ _ f => f)) (heap_alloc_new w _) hz (hn _ (Nat.le_refl _)) (fun h => by have := hlt _ h; omega) (fun k hk' => hn k (Nat.le_trans hk.size hk'))
  have HFI := Lib.hid (find_any hwl hd)
  have HK := Lib.hid (hk.mono (T := Z) (fun _ _ f => f.elim))
  by_cases hst : ∃ m l, Stands d m l
  · obtain ⟨m, l, hs⟩ := hst
    have HS := Lib.hid hs
    clear hD hz hn hlt hwl hk hs
    go_enter Try.func17, Try.ntmps17
    go_wp2_with fail
    refine HFI.out.mono ?_
    rintro e w2 ⟨v, rfl, h1, h2, hk2⟩
    obtain ⟨rfl, hw2⟩ := h1 m l HS.out
    have HH1 := Lib.hid h1
    have HK2 := Lib.hid (HK.out.trans hk2)
    clear h1 h2 hk2
    have HW2 := Lib.hid hw2
    clear hw2
    go_wp2_with fail
    go_ret2
    exact ⟨_, _, rfl, fun m' l' hs' => ⟨rfl, _, rfl, Nat.le_refl _, (HH1.out m' l' hs').2⟩, fun hn => absurd ⟨m, l, HS.out⟩ hn, HK2.out⟩
  · have HS := Lib.hid hst
    clear hD hz hn hlt hwl hk hst
    go_enter Try.func17, Try.ntmps17
    go_wp2_with fail
    refine HFI.out.mono ?_
    rintro e w2 ⟨v, rfl, h1, h2, hk2⟩
    obtain rfl := h2 HS.out
    have HK2 := Lib.hid (HK.out.trans hk2)
    clear h1 h2 hk2
    go_wp2_with fail
    go_ret2
    exact ⟨_, _, rfl, fun m' l' hs' => absurd ⟨m', l', hs'⟩ HS.out, fun _ => ⟨rfl, rfl⟩, HK2.out⟩
set_option maxRecDepth 100000 in
set_option maxHeartbeats 4000000 in
theorem records_any (h : Wl Z w lb db g d) (hd : g.doubt = false) (hl : g.recs.length * 16 ≤ 140737488355328) : Calls Try.prog 18 #[.pointer (some ⟨lb, 0, none⟩)] w fun e w' =>
    ∃ v', e = .returned (.tuple #[v', .int .i64 0]) ∧ w'.ownsRow w.heap.size 9 1 v' g.recs.length (g.recs.map Value.string) ∧ Kept (fun _ => False) w w' := by
  obtain ⟨sb, mb, nn, rv, hD, hL, _, _⟩ := h.ex
  obtain ⟨a, cap, rfl, hcap⟩ := hL.slice
  have c7 : w.cell? ⟨lb, 7, none⟩ = some (.slice a g.recs.length cap) := hL.cell 7
  have c9 : w.cell? ⟨lb, 9, none⟩ = some (.bool false) := by rw [← hd]; exact hL.cell 9
  have HCL := Lib.hid (clone_any hL.texts hl)
  clear hD hL h
  go_enter Try.func18, Try.ntmps18
  go_wp2_with fail
  refine HCL.out.mono ?_
  rintro e w2 ⟨v', rfl, hr, hk⟩
  have HR := Lib.hid hr
  have HK := Lib.hid hk
  clear hr hk
  go_wp2_with fail
  go_ret2
  exact ⟨_, rfl, HR.out, HK.out⟩
end
end Go.Proofs.Ytmfngbgdmlnlcaa
