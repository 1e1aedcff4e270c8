/- The small functions of package wal: tooLong, blank, high, value, Sum, size. -/
import Derived.Test.YtmfngbgdmlnlcaaDn0
import Derived.Test.YtmfngbgdmlnlcaaJb
import Derived.Outline
import Derived.IntWalk
namespace Go.Proofs.Ytmfngbgdmlnlcaa
open Go.ChangeShapes Go.WideShapes Go.ChangeAt Go.RowKit
set_option linter.unusedVariables false
set_option linter.unusedSimpArgs false

theorem keptB {w w' : World} (h : Below w.heap.size w w') : Kept (fun _ => False) w w' := ⟨h.os, h.tape, h.output, h.size, fun k hk _ => h.block k hk⟩
theorem toolong_any (s : ByteArray) (w : World) : Calls Try.prog 35 #[.string s] w fun e w' => e = .returned (.bool (decide (4000 < s.size))) ∧ w = w' := by
  by_cases h : 4000 < s.size
  · go_enter Try.func35, Try.ntmps35
    go_wp2
    go_ret
    exact ⟨ret_bool (decide_eq_decide.2 (by omega)), rfl⟩
  · go_enter Try.func35, Try.ntmps35
    go_wp2
    go_ret
    exact ⟨ret_bool (decide_eq_decide.2 (by omega)), rfl⟩

/-! ### numbers of some bytes, the highest first -/
theorem made_zeros (k : Nat) : madeCells #[Value.int .u8 0] k = (secL (List.replicate k 0)).toArray := by
  apply Array.ext_getElem?
  intro j
  rw [List.getElem?_toArray]
  by_cases h : j < k
  · simp [madeCells, secL, List.getElem?_replicate, h, Nat.mod_one, bcell]
  · simp [madeCells, secL, List.getElem?_replicate, h]
theorem make_bytes (w : World) (k : Nat) (hk : k ≤ 4096) : Sem.run Try.prog (Instr.makeSlice 31 (.int .i64 k) (.int .i64 k)) w = .ok (.slice (some ⟨w.heap.size, 0, none⟩) k k) (w.alloc (.cells (secL (List.replicate k 0)).toArray 5)) := by
  obtain ⟨i0, hi, hz0, hz1, hz2⟩ := info_parts info_byte
  have := run_makeSlice (P := Try.prog) w 31 5 i0 (.int .u8 0) Try.underlying31 hi hz0 .i64 .i64 k k (by omega) (by omega) (by rw [hz1]; omega) (by rw [hz2]; omega) (by omega)
  rw [hz1] at this
  rw [this]
  simp only [Int.toNat_natCast, Nat.mul_one]
  rw [show (Value.int IntKind.u8 0).cells = #[Value.int .u8 0] from rfl, made_zeros]
def hB (n : Int) (i : Nat) : Int := n / 2 ^ (8 * i) % 256
def highL (n : Int) (k : Nat) : List UInt8 := (List.range k).map fun j => UInt8.ofNat (hB n (k - 1 - j)).toNat
theorem highL_len (n : Int) (k : Nat) : (highL n k).length = k := by simp [highL]
theorem highL_get (n : Int) {k j : Nat} (hj : j < k) : (secL (highL n k))[j]? = some (.int .u8 (hB n (k - 1 - j))) := by
  have h0 : 0 ≤ hB n (k - 1 - j) ∧ hB n (k - 1 - j) < 256 := by unfold hB; omega
  have : (highL n k)[j]? = some (UInt8.ofNat (hB n (k - 1 - j)).toNat) := by
    simp only [highL, List.getElem?_map]
    rw [List.getElem?_range hj]; rfl
  simp only [secL, List.getElem?_map, this, Option.map_some, bcell, UInt8.toNat_ofNat']
  congr 2
  omega
structure HiRel (n : Int) (k : Nat) (w : World) (iv : Value) (wr : World) : Prop where
  ex : ∃ i : Nat, i ≤ k ∧ iv = .int .i64 i ∧ ∃ cs : List Value, cs.length = k ∧ wr.heap[w.heap.size]? = some (.cells cs.toArray 5 (0, 0)) ∧ (∀ j, j < i → cs[k - 1 - j]? = some (.int .u8 (hB n j))) ∧ Kept (fun _ => False) w wr

set_option maxHeartbeats 1000000 in
theorem high_any (n : Int) (k : Nat) (w : World) (h1 : -9223372036854775808 ≤ n) (h2 : n ≤ 9223372036854775807) (hk8 : k ≤ 8) :
    Calls Try.prog 54 #[.int .i64 n, .int .i64 k] w fun e w' => e = .returned (.string ⟨(highL n k).toArray⟩) ∧ Kept (fun _ => False) w w' := by
  have hmk := make_bytes w k (by omega)
  go_enter Try.func54, Try.ntmps54
  go_wp2_with fail
  go_loopw [11] (fun iv wr => HiRel n k w iv wr) (fun iv _ => k - (Go.RowKit.intOf iv).toNat)
  case atStart => exact ⟨0, by omega, rfl, secL (List.replicate k 0), by simp [secL], heap_alloc_last w _, fun j hj => by omega, (Kept.refl _ w).alloc _⟩
  case round =>
    obtain ⟨i, hi, rfl, cs, hcl, hh, hcs, hk⟩ := hrel.ex
    clear hrel
    have HCS := Lib.hid hcs
    have HH := Lib.hid hh
    have HCL := Lib.hid hcl
    clear hcs hcl
    by_cases hlt : i < k
    · obtain ⟨m, hm⟩ : ∃ m : Nat, (k : Int) - 1 - (i : Int) = (m : Int) := ⟨k - 1 - i, by omega⟩
      have hmk2 : m < k := by omega
      have hcell : wr.cell? ⟨w.heap.size, m, none⟩ = some (cs[m]'(by rw [HCL.out]; exact hmk2)) := by
        rw [cell_of_row wr w.heap.size m _ _ (0, 0) hh, List.getElem?_toArray, List.getElem?_eq_getElem]
      have hfz : wr.frozen? ⟨w.heap.size, m, none⟩ = false := by simp [World.frozen?, hh]
      clear hh
      generalize cs[m]'(by rw [HCL.out]; exact hmk2) = x at hcell
      go_wp2
      refine ⟨⟨i + 1, by omega, by go_num, cs.set m (.int .u8 (hB n i)), by rw [List.length_set]; exact HCL.out, heap_set _ HH.out, ?_, ?_⟩, by simp [Go.RowKit.intOf]; omega⟩
      · intro j hj
        by_cases e : j = i
        · subst e
          rw [show k - 1 - j = m by omega, List.getElem?_set_self (by rw [HCL.out]; exact hmk2)]
        · rw [List.getElem?_set_ne (by omega)]; exact HCS.out j (by omega)
      · exact hk.setCell (.inr (Nat.le_refl _)) _
    · obtain rfl : i = k := by omega
      have e : cs = secL (highL n i) := by
        apply List.ext_getElem?
        intro j
        by_cases hj : j < i
        · rw [highL_get n hj]
          have h9 := HCS.out (i - 1 - j) (by omega)
          rw [show i - 1 - (i - 1 - j) = j by omega] at h9
          exact h9
        · rw [List.getElem?_eq_none (by rw [HCL.out]; omega), List.getElem?_eq_none (by simp [secL, highL_len]; omega)]
      have hc := run_convert_bytes_back (P := Try.prog) wr 31 9 5 ⟨w.heap.size, 0, none⟩ i (highL n i) Try.underlying31 Try.underlying5 Try.underlying9 (fun j hj => by
        rw [Addr.add_mid, cell_of_row wr w.heap.size (0 + j) _ _ (0, 0) hh, List.getElem?_toArray, e]
        rw [Nat.zero_add, secL, List.getElem?_map, List.getElem?_eq_getElem hj]; rfl)
      rw [highL_len] at hc
      clear hh e
      go_wp2
      go_ret
      exact ⟨rfl, hk⟩

/-! ### the sum -/
def wsumStep (h : Int) (b : UInt8) : Int := bits BinOp.xor IntKind.u32 h ((b.toNat : Int) % 4294967296) * 16777619 % 4294967296
def wsum (l : List UInt8) : Int := l.foldl wsumStep 2166136261
theorem wsum_snoc (l : List UInt8) (b : UInt8) : wsum (l ++ [b]) = wsumStep (wsum l) b := by simp [wsum]
theorem wtake_snoc (s : ByteArray) (k : Nat) (h : k < s.size) : s.data.toList.take (k + 1) = s.data.toList.take k ++ [s[k]] := by
  rw [List.take_succ_eq_append_getElem (by simpa using h)]; rfl
theorem wsum_lt (l : List UInt8) : 0 ≤ wsum l ∧ wsum l < 4294967296 := by
  rcases l.eq_nil_or_concat with rfl | ⟨t, b, rfl⟩
  · decide
  · rw [List.concat_eq_append, wsum_snoc]; unfold wsumStep; omega
set_option maxHeartbeats 400000 in
theorem wsum_any (s : ByteArray) (w : World) (hs : s.size ≤ 9223372036854775807) :
    Calls Try.prog 56 #[.string s] w fun e w' => e = .returned (.int .u32 (wsum s.data.toList)) ∧ w = w' := by
  go_enter Try.func56, Try.ntmps56
  go_wp2
  go_loop [3, 7] (fun h i => ∃ k : Nat, k ≤ s.size ∧ i = .int .i64 k ∧ h = .int .u32 (wsum (s.data.toList.take k))) (fun _ i => s.size - (Go.RowKit.intOf i).toNat)
  case atStart => exact ⟨0, Nat.zero_le _, rfl, rfl⟩
  case round =>
    obtain ⟨k, hk, rfl, rfl⟩ := hrel
    by_cases hlt : k < s.size
    · have hsn : Hid (wsum (s.data.toList.take (k + 1)) = wsumStep (wsum (s.data.toList.take k)) s[k]) := by
        rw [wtake_snoc s k hlt, wsum_snoc]; exact rfl
      go_wp2
      go_round
      case rel => exact ⟨k + 1, by omega, by go_num, by rw [hsn.out]; rfl⟩
      case measure => simp [Go.RowKit.intOf]; omega
    · go_wp2
      go_ret
      exact ⟨ret_int (by rw [List.take_of_length_le (by simp; omega)]), rfl⟩

/-! ### blank -/
theorem blank_any (k : Nat) (w : World) (hk : k ≤ 4096) : Calls Try.prog 32 #[.int .i64 k] w fun e w' => e = .returned (.string ⟨(List.replicate k 0).toArray⟩) ∧ Kept (fun _ => False) w w' := by
  have HR := Lib.hid (Try.strings_Repeat ⟨#[0]⟩ k w (by omega) (by show 1 * k ≤ _; omega))
  go_enter Try.func32, Try.ntmps32
  go_wp2_with (go_at_call 50; refine HR.out.mono ?_; rintro e w' ⟨rfl, hb⟩)
  go_ret
  refine ⟨?_, keptB hb⟩
  show Ending.returned (.string ⟨(Lib.repeatL (List.replicate 1 0) k).toArray⟩) = _
  rw [Lib.repeatL_replicate, Nat.mul_one]

/-! ### texts in memory, and how many bytes their records are -/
structure TsAt (w : World) (ok : Nat → Prop) (v : Value) (l : List ByteArray) : Prop where
  ex : ∃ a cap, v = .slice a l.length cap ∧ ∀ (i : Nat) (h : i < l.length), ∃ g off, a = some ⟨g, off, none⟩ ∧ ok g ∧ w.cell? ⟨g, off + i, none⟩ = some (.string l[i])
theorem TsAt.kept {X ok : Nat → Prop} {w w' : World} {v : Value} {l : List ByteArray} (h : TsAt w ok v l) (hk : Kept X w w') (hx : ∀ k, ok k → ¬ X k) : TsAt w' ok v l := by
  obtain ⟨a, cap, hv, hc⟩ := h.ex
  refine ⟨⟨a, cap, hv, fun i hi => ?_⟩⟩
  obtain ⟨g, off, ha, hg, hcell⟩ := hc i hi
  have hb := World.block_lt_of_cell? w _ hcell
  exact ⟨g, off, ha, hg, by rw [World.cell?_of_block (w := w) (hk.block g hb (hx g hg))]; exact hcell⟩
def sizeN (l : List ByteArray) : Nat := (l.map fun s => 6 + s.size).sum
theorem sizeN_snoc (l : List ByteArray) (s : ByteArray) : sizeN (l ++ [s]) = sizeN l + (6 + s.size) := by simp [sizeN]
theorem sizeN_take (l : List ByteArray) (i : Nat) (h : i < l.length) : sizeN (l.take (i + 1)) = sizeN (l.take i) + (6 + l[i].size) := by
  rw [List.take_succ_eq_append_getElem h, sizeN_snoc]
theorem sizeN_mono (l : List ByteArray) (i : Nat) : sizeN (l.take i) ≤ sizeN l := by
  have : sizeN l = sizeN (l.take i) + sizeN (l.drop i) := by
    unfold sizeN
    rw [← List.sum_append, ← List.map_append, List.take_append_drop]
  omega

set_option maxHeartbeats 1000000 in
theorem wsize_any {ok : Nat → Prop} {v : Value} {l : List ByteArray} {w : World} (h : TsAt w ok v l) (hl : l.length ≤ 9223372036854775807) (hs : sizeN l ≤ 9223372036854775807) :
    Calls Try.prog 36 #[v] w fun e w' => e = .returned (.int .i64 (sizeN l)) ∧ w = w' := by
  obtain ⟨a, cap, rfl, hc⟩ := h.ex
  go_enter Try.func36, Try.ntmps36
  go_wp2
  go_loop [3, 8] (fun n i => ∃ k : Nat, k ≤ l.length ∧ i = .int .i64 k ∧ n = .int .i64 (sizeN (l.take k))) (fun _ i => l.length - (Go.RowKit.intOf i).toNat)
  case atStart => exact ⟨0, Nat.zero_le _, rfl, rfl⟩
  case round =>
    obtain ⟨k, hk, rfl, rfl⟩ := hrel
    by_cases hlt : k < l.length
    · obtain ⟨g, off, rfl, _, hcell⟩ := hc k hlt
      have h1 := sizeN_take l k hlt
      have h2 := sizeN_mono l (k + 1)
      have HS : Hid (((sizeN (l.take (k + 1)) : Nat) : Int) = (sizeN (l.take k) : Int) + (6 + (l[k].size : Int))) := Lib.hid (by rw [h1]; push_cast; rfl)
      generalize l[k] = s at hcell h1 HS
      go_wp2
      go_round
      case rel => exact ⟨k + 1, by omega, by go_num, by rw [HS.out]⟩
      case measure => simp [Go.RowKit.intOf]; omega
    · go_wp2
      go_ret
      exact ⟨ret_int (by rw [List.take_of_length_le (by omega)]), rfl⟩
end Go.Proofs.Ytmfngbgdmlnlcaa
