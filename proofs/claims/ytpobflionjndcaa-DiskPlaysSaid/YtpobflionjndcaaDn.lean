/- New; pick, Filled. -/
import Derived.Test.YtpobflionjndcaaDc
import Derived.Laws.MakeOwn
import Derived.OwnWalk
namespace Go.Proofs.Ytpobflionjndcaa
open Go.ChangeShapes Go.WideShapes Go.ChangeAt Go.RowKit
set_option linter.unusedVariables false
set_option linter.unusedSimpArgs false

theorem sector_info : (Try.prog.info? 62).map (fun i => (i.zero, i.size, i.bytes)) = some (some (sec zeros), 64, 64) := by kernel_rfl

theorem secs_zero (n : Nat) : madeCells (sec zeros).cells (n * 64) = (secs n (fun _ => zeros)).toArray := by
  have hl : ∀ i, i < n → ((fun _ => zeros : Nat → List UInt8) i).length = 64 := fun _ _ => rfl
  apply Array.ext_getElem?
  intro j
  have hz : ((sec zeros).cells).size = 64 := by rfl
  by_cases hj : j < n * 64
  · obtain ⟨q, r, hq, hr, rfl⟩ : ∃ q r, q < n ∧ r < 64 ∧ j = q * 64 + r := ⟨j / 64, j % 64, by omega, by omega, by omega⟩
    have hR : (secs n (fun _ => zeros)).toArray[q * 64 + r]? = (secL zeros)[r]? := by
      rw [List.getElem?_toArray]; exact secs_get n _ hl q r hq hr
    rw [hR]
    have h1 : (secL zeros)[r]? = some (bcell 0) := by
      have : zeros[r]? = some 0 := by rw [zeros, List.getElem?_replicate, if_pos hr]
      simp [secL, this]
    rw [h1]
    have h3 : (sec zeros).cells[r]! = bcell 0 := by
      rw [getElem!_pos _ r (by rw [hz]; exact hr)]
      have : (sec zeros).cells[r]? = some (bcell 0) := by rw [show (sec zeros).cells = (secL zeros).toArray from rfl, List.getElem?_toArray]; exact h1
      exact (Array.getElem?_eq_some_iff.1 this).2
    simp only [madeCells, Array.getElem?_map]
    rw [Array.getElem?_eq_getElem (by simpa using hj)]
    simp [hz, Nat.mod_eq_of_lt hr]
    exact h3
  · rw [Array.getElem?_eq_none (by simp [madeCells]; omega), Array.getElem?_eq_none (by simp [secs_length n _ hl]; omega)]

theorem make_sectors (w : World) (n : Nat) (hn : n ≤ 32768) : Sem.run Try.prog (Instr.makeSlice 53 (.int .i64 n) (.int .i64 n)) w = .ok (.slice (some ⟨w.heap.size, 0, none⟩) n n) (w.alloc (.cells (secs n (fun _ => zeros)).toArray 62)) := by
  obtain ⟨i0, hi, hz0, hz1, hz2⟩ := info_parts sector_info
  have := run_makeSlice (P := Try.prog) w 53 62 i0 (sec zeros) Try.underlying53 hi hz0 .i64 .i64 n n (by omega) (by omega) (by rw [hz1]; omega) (by rw [hz2]; omega) (by omega)
  rw [hz1] at this
  rw [this]
  simp only [Int.toNat_natCast]
  rw [secs_zero]

def newD (n : Nat) : DSt := ⟨n, fun _ => zeros, fun _ => none, 0, 0, false⟩

theorem new_at (w : World) (n : Nat) (h1 : 16 ≤ n) (h2 : n ≤ 32768) :
    DAt (((w.alloc (.cells (secs n (fun _ => zeros)).toArray 62)).alloc (.map #[] 0)).alloc (.cells #[.slice (some ⟨w.heap.size, 0, none⟩) n n, .map (some (w.heap.size + 1)), .int .i64 0, .int .i64 0, .bool false] 56))
      (w.heap.size + 1 + 1) w.heap.size (w.heap.size + 1) 0 (newD n) := by
  have a1 := heap_alloc_last w (.cells (secs n (fun _ => zeros)).toArray 62)
  have hm := made_old (w.alloc (.cells (secs n (fun _ => zeros)).toArray 62))
  have e1 : (w.alloc (.cells (secs n (fun _ => zeros)).toArray 62)).heap.size = w.heap.size + 1 := by simp
  rw [e1] at hm
  refine ⟨?_, ⟨?_, fun _ _ => rfl⟩, ?_, by omega, by omega, by omega, fun k l h => absurd h (by simp [newD]), Nat.zero_le _, h1, h2, by simp [newD]⟩
  · have := heap_alloc_last ((w.alloc (.cells (secs n (fun _ => zeros)).toArray 62)).alloc (.map #[] 0)) (.cells #[.slice (some ⟨w.heap.size, 0, none⟩) n n, .map (some (w.heap.size + 1)), .int .i64 0, .int .i64 0, .bool false] 56)
    simpa [newD] using this
  · rw [Below.heap_alloc _ _ _ (by simp; omega), Below.heap_alloc _ _ _ (by simp)]; exact a1
  · exact hm.kept ((Kept.refl (fun _ => False) _).alloc _) (fun f => f)

def NewPost (w : World) (k : Int) (e : Ending) (w' : World) : Prop :=
  (16 ≤ k ∧ k ≤ 32768 ∧ e = .returned (.tuple #[.pointer (some ⟨w.heap.size + 1 + 1, 0, none⟩), .int .i64 0]) ∧ DAt w' (w.heap.size + 1 + 1) w.heap.size (w.heap.size + 1) 0 (newD k.toNat) ∧ Kept (fun _ => False) w w') ∨
  ((k < 16 ∨ 32768 < k) ∧ e = .returned (.tuple #[.pointer none, .int .i64 1]) ∧ w = w')

set_option maxHeartbeats 1000000 in
theorem new_any (w : World) (k : Int) : Calls Try.prog 8 #[.int .i64 k] w (NewPost w k) := by
  by_cases hlo : k < 16
  · go_enter Try.func8, Try.ntmps8
    go_wp2
    go_ret2
    exact .inr ⟨.inl hlo, rfl, rfl⟩
  · by_cases hhi : 32768 < k
    · go_enter Try.func8, Try.ntmps8
      go_wp2
      go_ret2
      exact .inr ⟨.inr hhi, rfl, rfl⟩
    · obtain ⟨n, rfl⟩ := Int.eq_ofNat_of_zero_le (show 0 ≤ k by omega)
      have hmk := make_sectors w n (by omega)
      have hmm := fun W => make_map W
      have HN := Lib.hid (new_at w n (by omega) (by omega))
      go_enter Try.func8, Try.ntmps8
      go_wp2
      go_ret2
      refine .inl ⟨by omega, by omega, rfl, ?_, (((Kept.refl _ w).alloc _).alloc _).alloc _⟩
      simpa using HN.out

theorem pick_any (c n : Int) (w : World) (h1 : -9223372036854775808 ≤ c) (h2 : c ≤ 9223372036854775807) (hn : 0 < n) (hn2 : n ≤ 9223372036854775807) :
    Calls Try.prog 14 #[.int .i64 c, .int .i64 n] w fun e w' => e = .returned (.int .i64 ((fateN c : Int) % n)) ∧ w = w' := by
  by_cases hc : c < 0
  · have HF : Hid (-(c + 1).tmod n = (fateN c : Int) % n) := Lib.hid (by
      rw [← Int.neg_tmod, Int.tmod_eq_emod_of_nonneg (by omega)]
      unfold fateN; rw [if_pos hc]; congr 1; omega)
    have hp : 0 ≤ -(c + 1) := by omega
    go_enter Try.func14, Try.ntmps14
    go_wp2
    go_ret
    exact ⟨ret_int HF.out, rfl⟩
  · have HF : Hid ((c % n) = (fateN c : Int) % n) := Lib.hid (by unfold fateN; rw [if_neg hc]; congr 1; omega)
    have hp : 0 ≤ c := by omega
    go_enter Try.func14, Try.ntmps14
    go_wp2
    go_ret
    exact ⟨ret_int HF.out, rfl⟩

theorem info_u8 : (Try.prog.info? 5).map (fun i => (i.zero, i.size, i.bytes)) = some (some (.int .u8 0), 1, 1) := by kernel_rfl
theorem make_64 (w : World) : Sem.run Try.prog (Instr.makeSlice 39 (.int .i64 64) (.int .i64 64)) w = .ok (.slice (some ⟨w.heap.size, 0, none⟩) 64 64) (w.alloc (.cells (secL zeros).toArray 5)) := by
  obtain ⟨i0, hi, hz0, hz1, hz2⟩ := info_parts info_u8
  have := run_makeSlice (P := Try.prog) w 39 5 i0 (.int .u8 0) Try.underlying39 hi hz0 .i64 .i64 64 64 (by decide) (by decide) (by rw [hz1]; decide) (by rw [hz2]; decide) (by decide)
  rw [hz1] at this
  rw [this, show madeCells (Value.int .u8 0).cells (Int.toNat 64 * 1) = (secL zeros).toArray by kernel_rfl]
  rfl

/-- the bytes of Filled, as Go reckons them -/
def fB (n : Int) (i : Nat) : Int := wrap64 (n + wrap64 ((i : Int) * n.tmod 5)) % 256
def filledL (n : Int) : List UInt8 := (List.range 64).map fun i => UInt8.ofNat (fB n i).toNat
theorem filledL_len (n : Int) : (filledL n).length = 64 := by simp [filledL]
theorem filledL_get (n : Int) (i : Nat) (hi : i < 64) : (secL (filledL n))[i]? = some (.int .u8 (fB n i)) := by
  have h0 : 0 ≤ fB n i ∧ fB n i < 256 := by unfold fB; omega
  have : (filledL n)[i]? = some (UInt8.ofNat (fB n i).toNat) := by
    simp only [filledL, List.getElem?_map]
    rw [List.getElem?_range hi]; rfl
  simp only [secL, List.getElem?_map, this, Option.map_some, bcell, UInt8.toNat_ofNat']
  congr 2
  omega

structure FillRel (n : Int) (w : World) (iv : Value) (wr : World) : Prop where
  ex : ∃ i : Nat, i ≤ 64 ∧ iv = .int .i64 i ∧ ∃ cs : List Value, cs.length = 64 ∧ wr.heap[w.heap.size]? = some (.cells cs.toArray 5 (0, 0)) ∧ (∀ j, j < i → cs[j]? = some (.int .u8 (fB n j))) ∧ Kept (fun _ => False) w wr

set_option maxHeartbeats 1000000 in
theorem filled_any (n : Int) (w : World) (h1 : -9223372036854775808 ≤ n) (h2 : n ≤ 9223372036854775807) :
    Calls Try.prog 15 #[.int .i64 n] w fun e w' => e = .returned (.string ⟨(filledL n).toArray⟩) ∧ Kept (fun _ => False) w w' := by
  have hmk := make_64 w
  have HFB : Hid (∀ i : Nat, wrap64 (n + wrap64 ((i : Int) * n.tmod 5)) % 256 = fB n i) := Lib.hid (fun _ => rfl)
  go_enter Try.func15, Try.ntmps15
  go_wp2_with fail
  go_loopw [4] (fun iv wr => FillRel n w iv wr) (fun iv _ => 64 - (Go.RowKit.intOf iv).toNat)
  case atStart => exact ⟨0, by omega, rfl, secL zeros, rfl, heap_alloc_last w _, fun j hj => by omega, (Kept.refl _ w).alloc _⟩
  case round =>
    obtain ⟨i, hi, rfl, cs, hcl, hh, hcs, hk⟩ := hrel.ex
    clear hrel
    have HCS := Lib.hid hcs
    have HH := Lib.hid hh
    have HCL := Lib.hid hcl
    clear hcs hcl
    by_cases hlt : i < 64
    · have hcell : wr.cell? ⟨w.heap.size, i, none⟩ = some (cs[i]'(by rw [HCL.out]; exact hlt)) := by
        rw [cell_of_row wr w.heap.size i _ _ (0, 0) hh, List.getElem?_toArray, List.getElem?_eq_getElem]
      have hfz : wr.frozen? ⟨w.heap.size, i, none⟩ = false := by simp [World.frozen?, hh]
      clear hh
      generalize cs[i]'(by rw [HCL.out]; exact hlt) = x at hcell
      go_wp2
      go_roundw
      case rel =>
        refine ⟨i + 1, by omega, by go_num, cs.set i (.int .u8 (fB n i)), by rw [List.length_set]; exact HCL.out, by rw [HFB.out]; exact heap_set _ HH.out, ?_, ?_⟩
        · intro j hj
          by_cases e : j = i
          · subst e; rw [List.getElem?_set_self (by rw [HCL.out]; exact hlt)]
          · rw [List.getElem?_set_ne (Ne.symm e)]; exact HCS.out j (by omega)
        · exact hk.setCell (.inr (Nat.le_refl _)) _
      case measure => simp [Go.RowKit.intOf]; omega
    · obtain rfl : i = 64 := by omega
      have e : cs = secL (filledL n) := by
        apply List.ext_getElem?
        intro j
        by_cases hj : j < 64
        · rw [HCS.out j hj, filledL_get n j hj]
        · rw [List.getElem?_eq_none (by rw [HCL.out]; omega), List.getElem?_eq_none (by simp [secL, filledL_len]; omega)]
      have hc := run_convert_bytes_back (P := Try.prog) wr 39 9 5 ⟨w.heap.size, 0, none⟩ 64 (filledL n) Try.underlying39 Try.underlying5 Try.underlying9 (fun j hj => by
        rw [Addr.add_mid, cell_of_row wr w.heap.size (0 + j) _ _ (0, 0) hh, List.getElem?_toArray, e]
        simp [secL, bcell, hj])
      rw [filledL_len] at hc
      clear hh e
      go_wp2
      go_ret
      exact ⟨rfl, hk⟩
end Go.Proofs.Ytpobflionjndcaa
