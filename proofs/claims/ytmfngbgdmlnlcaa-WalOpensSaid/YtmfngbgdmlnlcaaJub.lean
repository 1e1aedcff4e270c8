/- The small functions of the document's own log: Sum, small, big, Record, half, size. -/
import Derived.Test.YtmfngbgdmlnlcaaJua
import Derived.Test.YtmfngbgdmlnlcaaDew
namespace Go.Proofs.Ytmfngbgdmlnlcaa
open Go.ChangeShapes Go.WideShapes Go.ChangeAt Go.RowKit
set_option linter.unusedVariables false
set_option linter.unusedSimpArgs false
set_option maxHeartbeats 400000 in
theorem xsum_any (s : ByteArray) (w : World) (hs : s.size ≤ 9223372036854775807) :
    Calls Try.prog 74 #[.string s] w fun e w' => e = .returned (.int .u32 (wsum s.data.toList)) ∧ w = w' := by
  go_enter Try.func74, Try.ntmps74
  go_wp2
  go_loop [3, 4] (fun h i => ∃ k : Nat, k ≤ s.size ∧ i = .int .i64 k ∧ h = .int .u32 (wsum (s.data.toList.take k))) (fun _ i => s.size - (Go.RowKit.intOf i).toNat)
  case atStart => exact ⟨0, Nat.zero_le _, rfl, rfl⟩
  case round =>
    obtain ⟨k, hk, rfl, rfl⟩ := hrel
    by_cases hlt : k < s.size
    · have hsn : Hid (wsum (s.data.toList.take (k + 1)) = wsumStep (wsum (s.data.toList.take k)) s[k]) := by
        rw [wtake_snoc s k hlt, wsum_snoc]; exact rfl
      go_wp2
      go_round
      case rel => exact ⟨k + 1, by omega, by go_num, by rw [hsn.out]; rfl⟩
      case measure => simp [Go.RowKit.intOf]; omega
    · go_wp2
      go_ret
      exact ⟨ret_int (by rw [List.take_of_length_le (by simp; omega)]), rfl⟩
theorem valN_app_le : ∀ (b a : List UInt8), valN a ≤ valN (a ++ b)
  | [], a => by simp
  | c :: b, a => by
    have := valN_app_le b (a ++ [c])
    rw [valN_snoc, List.append_assoc] at this
    simp only [List.singleton_append] at this
    omega
theorem valN_take_le (l : List UInt8) (k : Nat) : valN (l.take k) ≤ valN l := by
  have := valN_app_le (l.drop k) (l.take k)
  rwa [List.take_append_drop] at this
set_option maxHeartbeats 400000 in
theorem small_any (s : ByteArray) (w : World) {v : Nat} (hv : valN s.data.toList = v) (h63 : v < 9223372036854775808) (hs : s.size ≤ 140737488355328) :
    Calls Try.prog 46 #[.string s] w fun e w' => e = .returned (.int .i64 v) ∧ w = w' := by
  have HV := Lib.hid hv
  clear hv
  go_enter Try.func46, Try.ntmps46
  go_wp2
  go_loop [3, 4] (fun n i => ∃ k : Nat, k ≤ s.size ∧ i = .int .i64 k ∧ n = .int .i64 (valN (s.data.toList.take k) : Nat)) (fun _ i => s.size - (Go.RowKit.intOf i).toNat)
  case atStart => exact ⟨0, Nat.zero_le _, rfl, rfl⟩
  case round =>
    obtain ⟨k, hk, rfl, rfl⟩ := hrel
    by_cases hlt : k < s.size
    · have hsn : valN (s.data.toList.take (k + 1)) = valN (s.data.toList.take k) * 256 + (s[k]).toNat := by rw [wtake_snoc s k hlt, valN_snoc]
      have hle : valN (s.data.toList.take (k + 1)) ≤ v := by rw [← HV.out]; exact valN_take_le _ _
      obtain ⟨n, hn⟩ : ∃ n, valN (s.data.toList.take k) = n := ⟨_, rfl⟩
      rw [hn] at hsn ⊢
      have hc := (s[k]).toNat_lt
      have HS := Lib.hid hsn
      have h1 : 256 * (n : Int) ≤ 9223372036854775807 := by omega
      have h2 : 256 * (n : Int) + ((s[k]).toNat : Int) ≤ 9223372036854775807 := by omega
      clear hsn hle hn
      go_wp2
      go_round
      case rel => exact ⟨k + 1, by omega, by go_num, by rw [HS.out]; exact congrArg (Value.int .i64) (by omega)⟩
      case measure => simp [Go.RowKit.intOf]; omega
    · go_wp2
      go_ret
      exact ⟨ret_int (by rw [List.take_of_length_le (by simp; omega), HV.out]), rfl⟩
structure BgRel (n0 : Int) (k : Nat) (w : World) (nv iv : Value) (wr : World) : Prop where
  ex : ∃ (j : Nat) (m q : Int), q + 1 + (j : Int) = (k : Int) ∧ -1 ≤ q ∧ nv = .int .i64 m ∧ 0 ≤ m ∧ m ≤ 4611686018427387904 ∧ iv = .int .i64 q ∧ (∀ t, hB n0 (j + t) = hB m t) ∧ ∃ cs : List Value, cs.length = k ∧ wr.heap[w.heap.size]? = some (.cells cs.toArray 5 (0, 0)) ∧ (∀ t, t < j → cs[k - 1 - t]? = some (.int .u8 (hB n0 t))) ∧ Kept (fun _ => False) w wr
theorem hB_next (m : Int) (t : Nat) : hB m (t + 1) = hB (m / 256) t := by
  unfold hB
  rw [Nat.mul_add, Int.pow_add, Int.mul_comm, ← Int.ediv_ediv_of_nonneg (by decide)]
  rfl
set_option maxHeartbeats 1000000 in
theorem big_any (n0 : Int) (k : Nat) (w : World) (h1 : 0 ≤ n0) (h2 : n0 ≤ 4611686018427387904) (hk8 : k ≤ 8) :
    Calls Try.prog 62 #[.int .i64 n0, .int .i64 k] w fun e w' => e = .returned (.string ⟨(highL n0 k).toArray⟩) ∧ Kept (fun _ => False) w w' := by
  have hmk := make_bytes w k (by omega)
  go_enter Try.func62, Try.ntmps62
  go_wp2_with fail
  go_loopw [0, 6] (fun nv iv wr => BgRel n0 k w nv iv wr) (fun _ iv _ => (Go.RowKit.intOf iv + 1).toNat)
  case atStart => exact ⟨0, n0, (k : Int) - 1, by omega, by omega, rfl, h1, h2, rfl, fun t => by rw [Nat.zero_add], secL (List.replicate k 0), by simp [secL], heap_alloc_last w _, fun t ht => by omega, (Kept.refl _ w).alloc _⟩
  case round =>
    obtain ⟨j, m, q, hq, hq1, rfl, hm0, hm1, rfl, hhb, cs, hcl, hh, hcs, hk⟩ := hrel.ex
    clear hrel h1 h2
    have HCS := Lib.hid hcs
    have HH := Lib.hid hh
    have HCL := Lib.hid hcl
    have HHB := Lib.hid hhb
    have HQ := Lib.hid hq
    clear hcs hcl hhb
    by_cases hlt : 0 ≤ q
    · obtain ⟨a, rfl⟩ := Int.eq_ofNat_of_zero_le hlt
      have hak : a < k := by omega
      have hcell : wr.cell? ⟨w.heap.size, a, none⟩ = some (cs[a]'(by rw [HCL.out]; exact hak)) := by
        rw [cell_of_row wr w.heap.size a _ _ (0, 0) hh, List.getElem?_toArray, List.getElem?_eq_getElem]
      have hfz : wr.frozen? ⟨w.heap.size, a, none⟩ = false := by simp [World.frozen?, hh]
      have HB0 : Hid (hB n0 j = m % 256) := Lib.hid (by have := HHB.out 0; rw [Nat.add_zero] at this; rw [this]; simp [hB])
      clear hh hq
      generalize cs[a]'(by rw [HCL.out]; exact hak) = x at hcell
      go_wp2
      refine ⟨⟨j + 1, m / 256, (a : Int) - 1, by have := HQ.out; omega, by omega, rfl, by omega, by omega, rfl, fun t => ?_, cs.set a (.int .u8 (m % 256)), by rw [List.length_set]; exact HCL.out, heap_set _ HH.out, ?_, ?_⟩, by simp [Go.RowKit.intOf]⟩
      · rw [show j + 1 + t = j + (t + 1) by omega, HHB.out, hB_next]
      · intro t ht
        by_cases e : t = j
        · subst e
          rw [show k - 1 - t = a by have := HQ.out; omega, List.getElem?_set_self (by rw [HCL.out]; exact hak), HB0.out]
        · rw [List.getElem?_set_ne (by have := HQ.out; omega)]; exact HCS.out t (by omega)
      · exact hk.setCell (.inr (Nat.le_refl _)) _
    · obtain rfl : j = k := by omega
      have e : cs = secL (highL n0 j) := by
        apply List.ext_getElem?
        intro t
        by_cases ht : t < j
        · rw [highL_get n0 ht]
          have h9 := HCS.out (j - 1 - t) (by omega)
          rw [show j - 1 - (j - 1 - t) = t by omega] at h9
          exact h9
        · rw [List.getElem?_eq_none (by rw [HCL.out]; omega), List.getElem?_eq_none (by simp [secL, highL_len]; omega)]
      have hc := run_convert_bytes_back (P := Try.prog) wr 31 9 5 ⟨w.heap.size, 0, none⟩ j (highL n0 j) Try.underlying31 Try.underlying5 Try.underlying9 (fun t ht => by
        rw [Addr.add_mid, cell_of_row wr w.heap.size (0 + t) _ _ (0, 0) hh, List.getElem?_toArray, e]
        rw [Nat.zero_add, secL, List.getElem?_map, List.getElem?_eq_getElem ht]; rfl)
      rw [highL_len] at hc
      clear hh e hq
      go_wp2
      go_ret
      exact ⟨rfl, hk⟩
def strOfL (l : List UInt8) : ByteArray := ⟨l.toArray⟩
set_option maxHeartbeats 1000000 in
theorem record_any (s : ByteArray) (w : World) (hs : s.size ≤ 4000) : Calls Try.prog 63 #[.string s] w fun e w' => e = .returned (.string (strOfL (recLL s.data.toList))) ∧ Kept (fun _ => False) w w' := by
  obtain ⟨t, ht⟩ : ∃ t : ByteArray, (⟨(highL (s.size : Int) 2).toArray⟩ : ByteArray) ++ s = t := ⟨_, rfl⟩
  have htl : t.data.toList = highL (s.size : Int) 2 ++ s.data.toList := by rw [← ht, ByteArray.data_append, Array.toList_append]
  have hts : t.size = 2 + s.size := by rw [← list_size, htl, List.length_append, highL_len, list_size]
  have hcat1 : ∀ W, Sem.run Try.prog (Op.stringOp .add (⟨(highL (s.size : Int) 2).toArray⟩ : ByteArray) s) W = .ok (.string t) W := fun W => by
    rw [run_string_add_sum W _ _ (by show (highL (s.size : Int) 2).length + s.size ≤ _; rw [highL_len]; omega), ht]
  have hzb := wsum_lt t.data.toList
  obtain ⟨z, hz⟩ : ∃ z, wsum t.data.toList = z := ⟨_, rfl⟩
  rw [hz] at hzb
  obtain ⟨z0, z1⟩ := hzb
  obtain ⟨u, hu⟩ : ∃ u : ByteArray, t ++ (⟨(highL z 4).toArray⟩ : ByteArray) = u := ⟨_, rfl⟩
  have hcat2 : ∀ W, Sem.run Try.prog (Op.stringOp .add t (⟨(highL z 4).toArray⟩ : ByteArray)) W = .ok (.string u) W := fun W => by
    rw [run_string_add_sum W _ _ (by show t.size + (highL z 4).length ≤ _; rw [highL_len]; omega), hu]
  have HU : Hid (u = strOfL (recLL s.data.toList)) := Lib.hid (by
    rw [← hu]
    apply ByteArray.ext; apply Array.ext'
    rw [ByteArray.data_append, Array.toList_append, htl]
    unfold strOfL recLL
    simp only []
    rw [list_size, ← htl, hz])
  have HSM : Hid (∀ V, Calls Try.prog 74 #[.string t] V fun e w' => e = .returned (.int .u32 z) ∧ V = w') := Lib.hid (fun V => by
    have := xsum_any t V (by omega)
    rw [hz] at this; exact this)
  clear htl hts hz hu ht
  go_enter Try.func63, Try.ntmps63
  go_wp2_with fail
  refine (big_any (s.size : Int) 2 _ (by omega) (by omega) (by omega)).mono ?_
  rintro e w1 ⟨rfl, hk1⟩
  have HK1 := Lib.hid hk1
  clear hk1
  go_wp2_with fail
  refine (HSM.out _).mono ?_
  rintro e w2 ⟨rfl, rfl⟩
  go_wp2_with fail
  refine (big_any z 4 _ (by omega) (by omega) (by omega)).mono ?_
  rintro e w2 ⟨rfl, hk2⟩
  have HK2 := Lib.hid (HK1.out.trans hk2)
  clear hk2
  go_wp2_with fail
  go_ret
  rw [HU.out]
  exact ⟨rfl, HK2.out⟩
theorem half_any {w : World} {q : RB4} {d : RSt} (h : RfAt w q d) (h2 : 2 ≤ d.n) : Calls Try.prog 47 #[.pointer (some ⟨q.x, 0, none⟩)] w fun e w' => e = .returned (.int .i64 (((d.n - 2) / 2 : Nat) : Int)) ∧ w = w' := by
  obtain ⟨c0, c1, c2, c3, c4, c5, f⟩ := h.six
  have hhi := h.hi
  have HE : Hid (((d.n : Int) - 2) / 2 = (((d.n - 2) / 2 : Nat) : Int)) := Lib.hid (by omega)
  clear h c1 c2 c3 c4 c5 f
  generalize d.n = n at c0 hhi HE h2 ⊢
  go_enter Try.func47, Try.ntmps47
  go_wp2_with fail
  go_ret
  exact ⟨ret_int HE.out, rfl⟩
end Go.Proofs.Ytmfngbgdmlnlcaa
