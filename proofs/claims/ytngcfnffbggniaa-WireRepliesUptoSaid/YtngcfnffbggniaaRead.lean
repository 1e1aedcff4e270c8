/- Read: a reader of a text. -/
import Derived.Test.YtngcfnffbggniaaReader
import Derived.Laws.IdiomStrings
namespace Go.Proofs.Ytngcfnffbggniaa
open Go.ChangeShapes Go.WideShapes Go.ChangeAt Go.RowKit
set_option linter.unusedVariables false

/-- a new reader -/
def ReadPost (w : World) (s : ByteArray) (e : Ending) (w' : World) : Prop :=
  ∃ b v, e = .returned (.pointer (some ⟨b, 0, none⟩)) ∧ RAt w' b v s.data.toList 0 0 ∧ w.heap.size ≤ b ∧ (∀ k, v.ownBlock = some k → w.heap.size ≤ k) ∧ Kept (fun _ => False) w w'

theorem bytesRow_get (s : ByteArray) (c i : Nat) (h : i < s.data.toList.length) : (bytesRow s c)[i]? = some (.int .u8 (s.data.toList[i].toNat : Int)) := by
  have hi : i < s.data.size := by simpa using h
  unfold bytesRow
  rw [Array.getElem?_append_left (by simpa using hi)]
  simp [Array.getElem?_eq_getElem hi]

theorem read_at (s : ByteArray) (w : World) (hs : s.size ≤ maxLen) (C : Array Value) (hC : bytesRow s (grownCap w s.size 0 5) = C) :
    RAt (((w.alloc (.cells C 5 (C.size, C.size + 1))).alloc (.cells #[.slice (some ⟨w.heap.size, 0, none⟩) s.size (grownCap w s.size 0 5), .int .i64 0, .int .i64 0] 182)).drew)
      (w.heap.size + 1) (.slice (some ⟨w.heap.size, 0, none⟩) s.size (grownCap w s.size 0 5)) s.data.toList 0 0 := by
  have hsz : s.data.toList.length = s.size := by simp
  have e1 : (w.alloc (.cells C 5 (C.size, C.size + 1))).heap.size = w.heap.size + 1 := by simp
  refine ⟨?_, ⟨_, _, by rw [hsz], ?_, grownCap_le_maxLen _ _ _ _ hs, Or.inr ⟨w.heap.size, rfl, ?_, fun i hi => ?_⟩⟩, ?_, Nat.zero_le _⟩
  · have := heap_alloc_new (w.alloc (.cells C 5 (C.size, C.size + 1))) (.cells #[.slice (some ⟨w.heap.size, 0, none⟩) s.size (grownCap w s.size 0 5), .int .i64 0, .int .i64 0] 182)
    rw [e1] at this
    exact this
  · rw [hsz]; exact grownCap_ge _ _ _ _
  · show w.heap.size < (((w.heap.push _).push _)).size
    simp
    omega
  · have h2 := World.cell?_alloc_mark w C 5 (C.size, C.size + 1) i
    rw [← hC, bytesRow_get s _ i hi, hC] at h2
    rw [← h2]
    exact World.cell?_of_block (w := w.alloc (.cells C 5 (C.size, C.size + 1))) (Below.heap_alloc _ _ _ (by simp))
  · simp [Value.ownBlock]

theorem read_any (s : ByteArray) (w : World) (hs : s.size ≤ maxLen) :
    Calls Try.prog 109 #[.string s] w (ReadPost w s) := by
  have hconv := run_bytes_of_string (P := Try.prog) w 9 157 5 s Try.underlying9 Try.underlying157 Try.underlying5
  generalize hC : bytesRow s (grownCap w s.size 0 5) = C at hconv
  have HC := Lib.hid hC; clear hC
  go_enter Try.func109, Try.ntmps109
  go_wp2
  go_ret
  refine ⟨_, _, rfl, read_at s w hs C HC.out, by omega, fun k hk => ?_, (((Kept.refl _ _).alloc _).alloc _).drew⟩
  simp only [Value.ownBlock, Option.some.injEq] at hk
  omega
end Go.Proofs.Ytngcfnffbggniaa
