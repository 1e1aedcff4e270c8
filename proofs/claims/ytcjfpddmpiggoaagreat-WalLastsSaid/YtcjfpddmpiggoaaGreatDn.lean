/- pick, Filled. -/
import Derived.Test.YtcjfpddmpiggoaaGreatDc
import Derived.Test.YtcjfpddmpiggoaaGreatDn0
import Derived.Laws.MakeOwn
import Derived.OwnWalk
namespace Go.Proofs.YtcjfpddmpiggoaaGreat
open Go.ChangeShapes Go.WideShapes Go.ChangeAt Go.RowKit
set_option linter.unusedVariables false
set_option linter.unusedSimpArgs false

theorem info_u8 : (Tryz.prog.info? 5).map (fun i => (i.zero, i.size, i.bytes)) = some (some (.int .u8 0), 1, 1) := by kernel_rfl
theorem make_64 (w : World) : Sem.run Tryz.prog (Instr.makeSlice 80 (.int .i64 64) (.int .i64 64)) w = .ok (.slice (some ⟨w.heap.size, 0, none⟩) 64 64) (w.alloc (.cells (secL zeros).toArray 5)) := by
  obtain ⟨i0, hi, hz0, hz1, hz2⟩ := info_parts info_u8
  have := run_makeSlice (P := Tryz.prog) w 80 5 i0 (.int .u8 0) Tryz.underlying80 hi hz0 .i64 .i64 64 64 (by decide) (by decide) (by rw [hz1]; decide) (by rw [hz2]; decide) (by decide)
  rw [hz1] at this
  rw [this, show madeCells (Value.int .u8 0).cells (Int.toNat 64 * 1) = (secL zeros).toArray by kernel_rfl]
  rfl

/-- the bytes of Filled, as Go reckons them -/
def fB (n : Int) (i : Nat) : Int := wrap64 (n + wrap64 ((i : Int) * n.tmod 5)) % 256
def filledL (n : Int) : List UInt8 := (List.range 64).map fun i => UInt8.ofNat (fB n i).toNat
theorem filledL_len (n : Int) : (filledL n).length = 64 := by simp [filledL]
theorem filledL_get (n : Int) (i : Nat) (hi : i < 64) : (secL (filledL n))[i]? = some (.int .u8 (fB n i)) := by
  have h0 : 0 ≤ fB n i ∧ fB n i < 256 := by unfold fB; omega
  have : (filledL n)[i]? = some (UInt8.ofNat (fB n i).toNat) := by
    simp only [filledL, List.getElem?_map]
    rw [List.getElem?_range hi]; rfl
  simp only [secL, List.getElem?_map, this, Option.map_some, bcell, UInt8.toNat_ofNat']
  congr 2
  omega

structure FillRel (n : Int) (w : World) (iv : Value) (wr : World) : Prop where
  ex : ∃ i : Nat, i ≤ 64 ∧ iv = .int .i64 i ∧ ∃ cs : List Value, cs.length = 64 ∧ wr.heap[w.heap.size]? = some (.cells cs.toArray 5 (0, 0)) ∧ (∀ j, j < i → cs[j]? = some (.int .u8 (fB n j))) ∧ Kept (fun _ => False) w wr

end Go.Proofs.YtcjfpddmpiggoaaGreat
