/- The document's disk: Pending. -/
import Derived.Test.YtpobflionjndcaaDs
namespace Go.Proofs.Ytpobflionjndcaa
open Go.ChangeShapes Go.WideShapes Go.ChangeAt Go.RowKit
open Go.Maps Go.Sort Go.Shelf Go.Proofs
set_option linter.unusedVariables false
set_option linter.unusedSimpArgs false

/-- the numbers of those that are pending, rising -/
def pendR (d : RSt) (k : Nat) : List Nat := (List.range k).filter fun i => d.Pend i
theorem pendR_succ (d : RSt) (k : Nat) : pendR d (k + 1) = if d.Pend k then pendR d k ++ [k] else pendR d k := by
  unfold pendR
  rw [List.range_succ, List.filter_append]
  cases h : d.Pend k <;> simp [h]
theorem pendR_le (d : RSt) (k : Nat) : (pendR d k).length ≤ k := by
  unfold pendR
  exact Nat.le_trans (List.length_filter_le _ _) (by simp)
def intsV (l : List Nat) : List Value := l.map fun (i : Nat) => Value.int .i64 (i : Int)
theorem int_info : (Try.prog.info? 3).map (fun i => (i.zero, i.size, i.bytes)) = some (some (.int .i64 0), 1, 8) := by kernel_rfl
theorem ownRow_kept {w w' : World} {base : Nat} {e : TypeId} {size n : Nat} {v : Value} {xs : List Value} (h : w.ownsRow base e size v n xs) (hg : w.grownBy w' v.ownBlock) : Kept (fun j => base ≤ j) w w' :=
  (Kept.of_grownBy hg).mono (fun j hj e => by
    rcases h.2 with ⟨rfl, _⟩ | ⟨g, cap, cur, rfl, hbg, r⟩
    · exact absurd e (by simp [Value.ownBlock])
    · simp only [Value.ownBlock, Option.some.injEq] at e
      omega)

structure PeRel (w : World) (d : RSt) (lv iv : Value) (wr : World) : Prop where
  ex : ∃ (k : Nat) (v : Value), lv = v ∧ iv = .int .i64 k ∧ k ≤ d.n ∧ wr.ownsRow w.heap.size 3 1 v (pendR d k).length (intsV (pendR d k)) ∧ (v = .slice none 0 0 ↔ pendR d k = []) ∧ Kept (fun j => w.heap.size ≤ j) w wr

section
variable {w : World} {q : RB4} {d : RSt}
def PePost (w : World) (d : RSt) (e : Ending) (w' : World) : Prop :=
  ∃ v, e = .returned v ∧ w'.ownsRow w.heap.size 3 1 v (pendR d d.n).length (intsV (pendR d d.n)) ∧ (v = .slice none 0 0 ↔ pendR d d.n = []) ∧ Kept (fun _ => False) w w'
theorem kept_fresh {w w' : World} (h : Kept (fun j => w.heap.size ≤ j) w w') : Kept (fun _ => False) w w' := h.mono (fun k hk hj => by omega)
set_option maxHeartbeats 1000000 in
theorem xpending_any (h : RfAt w q d) : Calls Try.prog 29 #[.pointer (some ⟨q.x, 0, none⟩)] w (PePost w d) := by
  have HD := Lib.hid h
  have hhi := h.hi
  clear h
  obtain ⟨i0, hsi, hsz0, hss, hsb⟩ := info_parts int_info
  have HSI := Lib.hid hsi
  have HSZ := Lib.hid hsz0
  have HSS := Lib.hid hss
  have HSB := Lib.hid hsb
  clear hsi hsz0 hss hsb
  go_enter Try.func29, Try.ntmps29
  go_wp2_with fail
  go_loopw [3, 4] (fun lv iv wr => PeRel w d lv iv wr) (fun _ iv _ => d.n - (Go.RowKit.intOf iv).toNat)
  case atStart => exact ⟨0, _, rfl, rfl, Nat.zero_le _, World.ownsRow_nil w _ _ 1, ⟨fun _ => rfl, fun _ => rfl⟩, Kept.refl _ _⟩
  case round =>
    obtain ⟨k, v, rfl, rfl, hk, hown, hnil, hkw⟩ := hrel.ex
    clear hrel
    have hr := HD.out.kept hkw (fun j hj hj2 => by have := HD.out.inn j hj; omega)
    obtain ⟨c0, c1, c2, c3, c4, c5, f⟩ := hr.six
    have HR := Lib.hid hr
    have HKW := Lib.hid hkw
    have HOWN := Lib.hid hown
    have HNIL := Lib.hid hnil
    have hpl := pendR_le d k
    have HPS := Lib.hid (pendR_succ d k)
    clear c0 c1 c3 c4 c5 f hr hkw hown hnil
    by_cases hlt : k < d.n
    · have hcp : wr.cell? ⟨q.p, k, none⟩ = some (.bool (d.Pend k)) := HR.out.hp.cell (i := k) hlt
      cases hp : d.Pend k
      · rw [hp] at hcp HPS
        have HPS2 : Hid (pendR d (k + 1) = pendR d k) := Lib.hid (by rw [HPS.out]; rfl)
        clear hp
        go_wp2_with fail
        go_roundw
        case rel => exact ⟨k + 1, _, rfl, by go_num, by omega, by rw [HPS2.out]; exact HOWN.out, by rw [HPS2.out]; exact HNIL.out, HKW.out⟩
        case measure => simp [Go.RowKit.intOf]; omega
      · rw [hp] at hcp HPS
        have HPS2 : Hid (pendR d (k + 1) = pendR d k ++ [k]) := Lib.hid (by rw [HPS.out]; rfl)
        clear hp
        have HCEL : Hid (∀ j u, [Value.int .i64 (k : Int)][j]? = some u → ((wr.alloc (.cells #[.int .i64 (k : Int)] 3)).cell? ((⟨wr.heap.size, 0, none⟩ : Addr).add j) = some u)) := Lib.hid (fun j u hj => by
          rw [Addr.add_mid, cell_of_row _ wr.heap.size (0 + j) _ _ (0, 0) (heap_alloc_last wr _)]
          simpa using hj)
        have HOWN2 := Lib.hid (row_kept HOWN.out ((Kept.refl (fun _ => False) wr).alloc (.cells #[.int .i64 (k : Int)] 3)) (fun _ _ f => f))
        have HK2 := Lib.hid (HKW.out.alloc (.cells #[.int .i64 (k : Int)] 3))
        go_wp2_with (at_builtin; refine wpList_append_own _ rfl _ _ 23 rfl w.heap.size 3 i0 (.int .i64 0) 1 8 Try.underlying23 HSI.out HSZ.out HSS.out HSB.out rfl (by decide) u3 _ (intsV (pendR d k)) rfl HOWN2.out ⟨wr.heap.size, 0, none⟩ 1 1 [.int .i64 (k : Int)] rfl rfl HCEL.out (by intro u hu; simp only [List.mem_singleton] at hu; subst hu; rfl) (by unfold maxLen; omega) (by omega) HK2.out.size (fun v' w' hown' hg' hnil' => ?_))
        have HOWN3 : Hid (w'.ownsRow w.heap.size 3 1 v' (pendR d (k + 1)).length (intsV (pendR d (k + 1)))) := Lib.hid (by rw [HPS2.out]; unfold intsV at hown' ⊢; simpa using hown')
        have HNIL3 : Hid (v' = .slice none 0 0 ↔ pendR d (k + 1) = []) := Lib.hid (by rw [HPS2.out, hnil']; simp)
        have HK3 := Lib.hid (HK2.out.trans (ownRow_kept HOWN2.out hg'))
        clear hown' hg' hnil'
        go_wp2_with fail
        go_roundw
        case rel => exact ⟨k + 1, v', rfl, by go_num, by omega, HOWN3.out, HNIL3.out, HK3.out⟩
        case measure => simp [Go.RowKit.intOf]; omega
    · have hge : d.n ≤ k := by omega
      have HKE : Hid (k = d.n) := Lib.hid (by omega)
      go_wp2_with fail
      go_ret
      exact ⟨_, rfl, by rw [← HKE.out]; exact HOWN.out, by rw [← HKE.out]; exact HNIL.out, kept_fresh HKW.out⟩
end
end Go.Proofs.Ytpobflionjndcaa
