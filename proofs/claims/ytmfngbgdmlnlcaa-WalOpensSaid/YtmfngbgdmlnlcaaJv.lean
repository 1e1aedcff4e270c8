/- value of package wal: the number that some bytes are. -/
import Derived.Test.YtmfngbgdmlnlcaaJa
import Derived.Laws.BytesArg
import Derived.Laws.BitsLemmas
import Derived.Laws.IdiomStrings
namespace Go.Proofs.Ytmfngbgdmlnlcaa
open Go.ChangeShapes Go.WideShapes Go.ChangeAt Go.RowKit
set_option linter.unusedVariables false
set_option linter.unusedSimpArgs false

theorem bytes_of (s : ByteArray) (w : World) : ∃ cap V1, Sem.run Try.prog (convert 9 31 (.string s)) w = .ok (.slice (some ⟨w.heap.size, 0, none⟩) s.size cap) V1 ∧
    (∀ j (h : j < s.size), V1.cell? ⟨w.heap.size, j, none⟩ = some (.int .u8 (s[j].toNat : Int))) ∧ Kept (fun _ => False) w V1 := by
  refine ⟨_, _, run_bytes_of_string w 9 31 5 s Try.underlying9 Try.underlying31 Try.underlying5, ?_, (Kept.refl _ w).drew.alloc _⟩
  intro j h
  have h1 := heap_alloc_last w.drew (.cells (bytesRow s (grownCap w s.size 0 5)) 5 ((bytesRow s (grownCap w s.size 0 5)).size, (bytesRow s (grownCap w s.size 0 5)).size + 1))
  have h2 : (w.drew.alloc (.cells (bytesRow s (grownCap w s.size 0 5)) 5 ((bytesRow s (grownCap w s.size 0 5)).size, (bytesRow s (grownCap w s.size 0 5)).size + 1))).heap[w.heap.size]? = _ := h1
  simp only [World.cell?, h2]
  exact bytesRow_at s _ j h

/-- the number, as Go reckons it, and as it is -/
def valS (z : Int) (c : UInt8) : Int := bits BinOp.or IntKind.i64 (wrap64 (z * 256)) (wrap64 (c.toNat : Int))
def valI (l : List UInt8) : Int := l.foldl valS 0
def valN (l : List UInt8) : Nat := l.foldl (fun n c => n * 256 + c.toNat) 0
theorem valI_snoc (l : List UInt8) (c : UInt8) : valI (l ++ [c]) = valS (valI l) c := by simp [valI]
theorem valN_snoc (l : List UInt8) (c : UInt8) : valN (l ++ [c]) = valN l * 256 + c.toNat := by simp [valN]
theorem valS_small (z : Nat) (c : UInt8) (h : z * 256 + 255 < 9223372036854775808) : valS (z : Int) c = ((z * 256 + c.toNat : Nat) : Int) := by
  have hc : c.toNat < 256 := c.toNat_lt
  unfold valS
  rw [show wrap64 ((z : Int) * 256) = (z : Int) * 256 by unfold wrap64; omega, show wrap64 (c.toNat : Int) = (c.toNat : Int) by unfold wrap64; omega]
  rw [bits_join .i64 63 (by decide) (fun n h0 h1 => by rw [IntKind.wrap_i64]; omega) 8 _ _ (by omega) (by omega) (by omega) (by omega) (by omega) (by omega)]
  omega
theorem valI_len : ∀ (k : Nat) (l : List UInt8), l.length = k → valN l < 9223372036854775808 → valI l = (valN l : Int)
  | 0, l, hl, _ => by rw [List.length_eq_zero_iff.1 hl]; rfl
  | k + 1, l, hl, h => by
    rcases l.eq_nil_or_concat with rfl | ⟨t, c, rfl⟩
    · simp at hl
    · rw [List.concat_eq_append] at h hl ⊢
      rw [valN_snoc] at h
      have ht : t.length = k := by simpa using hl
      rw [valI_snoc, valI_len k t ht (by omega), valS_small _ _ (by omega), valN_snoc]
theorem valI_small (l : List UInt8) (h : valN l < 9223372036854775808) : valI l = (valN l : Int) := valI_len _ l rfl h
theorem highL_succ (n : Int) (k : Nat) : highL n (k + 1) = highL (n / 256) k ++ [UInt8.ofNat (n % 256).toNat] := by
  unfold highL
  rw [List.range_succ, List.map_append]
  congr 1
  · apply List.map_congr_left
    intro j hj
    have hj := List.mem_range.1 hj
    unfold hB
    rw [show k + 1 - 1 - j = (k - 1 - j) + 1 by omega, Nat.mul_add, Int.pow_add, Int.mul_comm, ← Int.ediv_ediv_of_nonneg (by decide)]
    rfl
  · simp [hB]
theorem val_high : ∀ (k : Nat) (n : Int), 0 ≤ n → n < 256 ^ k → valN (highL n k) = n.toNat
  | 0, n, h0, h1 => by
    have : n = 0 := by simp at h1; omega
    subst this; rfl
  | k + 1, n, h0, h1 => by
    rw [highL_succ, valN_snoc, val_high k (n / 256) (by omega) (by rw [Int.pow_succ] at h1; omega)]
    simp only [UInt8.toNat_ofNat']
    omega

set_option maxRecDepth 100000 in
set_option maxHeartbeats 1000000 in
theorem value_any (s : ByteArray) (w : World) (hs : s.size ≤ 9223372036854775807) :
    Calls Try.prog 73 #[.string s] w fun e w' => e = .returned (.int .i64 (valI s.data.toList)) ∧ Kept (fun _ => False) w w' := by
  obtain ⟨cap, V1, hcv, hcell, hk⟩ := bytes_of s w
  have HCELL := Lib.hid hcell
  have HK := Lib.hid hk
  clear hcell hk
  go_enter Try.func73, Try.ntmps73
  go_wp2_with fail
  go_loop [3, 9] (fun n i => ∃ k : Nat, k ≤ s.size ∧ i = .int .i64 k ∧ n = .int .i64 (valI (s.data.toList.take k))) (fun _ i => s.size - (Go.RowKit.intOf i).toNat)
  case atStart => exact ⟨0, Nat.zero_le _, rfl, rfl⟩
  case round =>
    obtain ⟨k, hk, rfl, rfl⟩ := hrel
    by_cases hlt : k < s.size
    · have hc := HCELL.out k hlt
      have HS : Hid (valI (s.data.toList.take (k + 1)) = valS (valI (s.data.toList.take k)) s[k]) := Lib.hid (by rw [wtake_snoc s k hlt, valI_snoc])
      generalize s[k] = c at hc HS
      go_wp2
      go_round
      case rel => exact ⟨k + 1, by omega, by go_num, by rw [HS.out]; rfl⟩
      case measure => simp [Go.RowKit.intOf]; omega
    · go_wp2
      go_ret
      exact ⟨ret_int (by rw [List.take_of_length_le (by simp; omega)]), HK.out⟩
end Go.Proofs.Ytmfngbgdmlnlcaa
