/- Ten digits; path.Numbered and the document's own. -/
import Derived.Test.YtkmmkgooohpbcaaDoorQc
import Derived.Lib.LaidTab
import Derived.Sort.Grow
import Derived.Laws.IdiomStrings
import Derived.Laws.MakeOwn
namespace Go.Proofs.YtkmmkgooohpbcaaDoor
open Go.Sort Go.ChangeShapes Go.WideShapes Go.ChangeAt Go.RowKit
set_option linter.unusedVariables false
set_option linter.unusedSimpArgs false

def digs (n : Nat) : List UInt8 := (List.range 10).map fun t => Lib.dg n (9 - t)

theorem digs_mod (n : Nat) : digs (n % 10000000000) = digs n := by
  simp only [digs, List.range, List.range.loop, List.map_cons, List.map_nil, Lib.dg, Nat.sub_zero, Nat.reduceSub, Nat.reducePow]
  have h (a b : Nat) (h : a = b) : UInt8.ofNat (48 + a) = UInt8.ofNat (48 + b) := by rw [h]
  congr 1
  · apply h; omega
  congr 1
  · apply h; omega
  congr 1
  · apply h; omega
  congr 1
  · apply h; omega
  congr 1
  · apply h; omega
  congr 1
  · apply h; omega
  congr 1
  · apply h; omega
  congr 1
  · apply h; omega
  congr 1
  · apply h; omega
  congr 1
  · apply h; omega

theorem repeatL_get (c : Nat) : Lib.repeatL [48] c = List.replicate c 48 := by
  induction c with
  | zero => rfl
  | succ c ih => rw [Lib.repeatL, ih]; rfl

theorem nDigits_le {n : Nat} (h : n < 10000000000) : Lib.nDigits n ≤ 10 := by
  rcases Nat.lt_or_ge 10 (Lib.nDigits n) with hk | hk
  · exfalso
    have e : Lib.nDigits n = (Lib.nDigits n - 1) + 1 := by omega
    by_cases h10 : n < 10
    · rw [Lib.nDigits_small h10] at hk; omega
    · have hpos : ∀ (k u : Nat), Lib.nDigits u = k + 1 → 10 ^ k ≤ u ∨ k = 0 := by
        intro k
        induction k with
        | zero => intro u _; exact .inr rfl
        | succ k ih =>
          intro u hu
          have hb : ¬ u < 10 := fun h => by rw [Lib.nDigits_small h] at hu; omega
          rw [Lib.nDigits_big hb] at hu
          rcases ih (u / 10) (by omega) with h | h
          · left; rw [Nat.pow_succ]; omega
          · subst h; left; omega
      rcases hpos _ n e with h1 | h1
      · have : 10 ^ 10 ≤ 10 ^ (Lib.nDigits n - 1) := Nat.pow_le_pow_right (by decide) (by omega)
        omega
      · omega
  · exact hk

theorem decDigits_len (n : Nat) : (Lib.decDigits n).length = Lib.nDigits n := by
  rw [Lib.decDigits_eq]; simp

/-- noughts ahead: ten digits -/
theorem digs_pad {n : Nat} (h : n < 10000000000) : Lib.repeatL [48] (10 - (Lib.decDigits n).length) ++ Lib.decDigits n = digs n := by
  have hk := nDigits_le h
  have hlt := Lib.lt_pow_nDigits n
  rw [decDigits_len, repeatL_get, Lib.decDigits_eq, digs]
  generalize Lib.nDigits n = k at hk hlt
  apply List.ext_getElem
  · simp; omega
  · intro i h1 h2
    simp only [List.length_map, List.length_range] at h2
    simp only [List.getElem_map, List.getElem_range]
    by_cases hi : i < 10 - k
    · rw [List.getElem_append_left (by simpa using hi)]
      simp only [List.getElem_replicate]
      have : n / 10 ^ (9 - i) = 0 := by
        apply Nat.div_eq_of_lt
        exact Nat.lt_of_lt_of_le hlt (Nat.pow_le_pow_right (by decide) (by omega))
      simp [Lib.dg, this]
    · rw [List.getElem_append_right (by simpa using hi)]
      simp only [List.length_replicate, List.getElem_map, List.getElem_range]
      congr 1; omega

theorem digs_length (n : Nat) : (digs n).length = 10 := by simp [digs]

def numS (p : ByteArray) (n : Nat) : ByteArray := p ++ ⟨(digs n).toArray⟩

abbrev TabOk (w : World) : Prop := Lib.TabIs Tryd.prog w "internal/strconv.uint64pow10" .u64 Lib.pow10Tab

theorem tab_below {w w' : World} (h : TabOk w) (hb : Below w.heap.size w w') : TabOk w' := by
  unfold TabOk Lib.TabIs World.var? at h ⊢
  generalize Tryd.prog.globalNamed "internal/strconv.uint64pow10" = og at h ⊢
  cases og with
  | none => simp at h
  | some g =>
    simp only [Option.bind_some] at h ⊢
    by_cases hg : g < w.heap.size
    · rw [hb.block g hg]; exact h
    · rw [Array.getElem?_eq_none (by omega)] at h; simp at h

set_option maxHeartbeats 400000 in
theorem refSlash_any (s : ByteArray) (w : World) (hs : s.size ≤ 140737488355328) :
    Calls Tryd.prog 24 #[.string s] w fun e w' => e = .returned (.int .i64 (lastS s)) ∧ w = w' := by
  have HL : Hid (lastS s = Lib.lastIdx s 47 s.size) := Lib.hid rfl
  generalize lastS s = L at HL
  go_enter Tryd.func24, Tryd.ntmps24
  go_wp2
  go_loop [3] (fun i => ∃ k : Int, -1 ≤ k ∧ k < s.size ∧ i = .int .i64 k ∧ L = Lib.lastIdx s 47 (k + 1).toNat) (fun i => (intOf i + 1).toNat)
  case atStart => exact ⟨(s.size : Int) - 1, by omega, by omega, rfl, by rw [HL.out]; congr 1; omega⟩
  case round =>
    obtain ⟨k, hk1, hk2, rfl, hk⟩ := hrel
    have HK := Lib.hid hk; clear hk
    by_cases h0 : 0 ≤ k
    · obtain ⟨j, rfl⟩ := Int.eq_ofNat_of_zero_le h0
      have hj : j < s.size := by omega
      have hg : s.data[j]! = s[j] := Go.Proofs.LastIndex.byteBang s j hj
      have HI : Hid (L = if (s[j].toNat : Int) = 47 then (j : Int) else Lib.lastIdx s 47 j) := Lib.hid (by
        rw [HK.out, show ((j : Int) + 1).toNat = j + 1 by omega]
        rw [Lib.lastIdx, hg])
      clear hg
      by_cases h47 : s[j].toNat = 47
      · have HF : Hid (L = (j : Int)) := Lib.hid (by rw [HI.out, if_pos (by omega)])
        have e : s[j].toNat = 47 := h47
        clear h47
        have h1 : ((s[j].toNat : Int) == 47) = true := by rw [e]; rfl
        go_wp2
        go_ret
        exact ⟨ret_int HF.out.symm, rfl⟩
      · have HF : Hid (L = Lib.lastIdx s 47 j) := Lib.hid (by rw [HI.out, if_neg (by omega)])
        have h1 : ((s[j].toNat : Int) == 47) = false := by simp; omega
        clear h47
        go_wp2
        go_round
        case rel => exact ⟨(j : Int) - 1, by omega, by omega, rfl, by rw [HF.out]; congr 1; omega⟩
        case measure => simp [intOf]
    · obtain rfl : k = -1 := by omega
      have HF : Hid (L = -1) := Lib.hid (by rw [HK.out]; rfl)
      go_wp2
      go_ret
      exact ⟨ret_int HF.out.symm, rfl⟩

theorem below_grow (w : World) (k : Nat) (os : Array Obj) : Below w.heap.size w (grow (w.drewN k) os) := by
  refine Below.trans (b := w.drewN k) (by induction k with
    | zero => exact Below.refl _ _
    | succ k ih => exact ih.drew) ⟨rfl, rfl, rfl, ?_, ?_⟩
  · simp [grow]
  · intro i hi
    simp only [grow]
    rw [Array.getElem?_append_left (by simpa using hi)]

set_option maxHeartbeats 400000 in
theorem numbered_any (p : ByteArray) (n : Int) (w : World) (hp : p.size ≤ 140737488355328) (hn : n ≤ 9223372036854775807) (hn0 : -9223372036854775808 ≤ n) (ht : TabOk w) :
    Calls Tryd.prog 19 #[.string p, .int .i64 n] w fun e w' => e = .returned (.string (numS p n.toNat)) ∧ Below w.heap.size w w' := by
  obtain ⟨m, hm⟩ : ∃ m : Nat, n.toNat % 10000000000 = m := ⟨_, rfl⟩
  have hm1 : m < 10000000000 := by omega
  have HM : Hid ((max n 0) % 10000000000 = (m : Int)) := Lib.hid (by omega)
  have HD : Hid (Lib.repeatL [48] (10 - (Lib.decDigits m).length) ++ Lib.decDigits m = digs n.toNat) := Lib.hid (by rw [digs_pad hm1, ← hm, digs_mod])
  have hlen : (Lib.decDigits m).length ≤ 10 := by rw [decDigits_len]; exact nDigits_le hm1
  have HI : Hid (Lib.itoa (m : Int) = Lib.decDigits m) := Lib.hid (by rw [Lib.itoa, if_neg (by omega)]; rfl)
  clear hm
  go_enter Tryd.func19, Tryd.ntmps19
  have hl1 : (Lib.itoa (m : Int)).length ≤ 10 := by rw [HI.out]; exact hlen
  have HI2 : Hid (Lib.itoa (m : Int) = Lib.decDigits m) := HI
  obtain ⟨t, htt⟩ : ∃ t : ByteArray, t = ⟨(Lib.itoa (m : Int)).toArray⟩ := ⟨_, rfl⟩
  have htl : t.data.toList = Lib.decDigits m := by rw [htt]; exact HI.out
  have htz : t.size = (Lib.decDigits m).length := by rw [← size_toList, htl]
  have HT := Lib.hid htt
  have htz1 : t.size ≤ 10 := by omega
  have HC : Hid ((10 : Int) - (t.size : Int) = ((10 - t.size : Nat) : Int)) := Lib.hid (by omega)
  have HS : Hid (∀ r : ByteArray, r.data.toList = Lib.repeatL [48] (10 - t.size) → p ++ r ++ t = numS p n.toNat) := Lib.hid (by
    intro r hr
    apply ByteArray.ext
    rw [numS]
    simp only [ByteArray.data_append]
    apply Array.ext'
    simp only [Array.toList_append, hr, htl, List.append_assoc, ← HD.out]
    rw [htz])
  have hrs : ∀ r : ByteArray, r.data.toList = Lib.repeatL [48] (10 - t.size) → r.size ≤ 10 := fun r hr => by
    rw [← size_toList, hr, repeatL_get]; simp
  have HRS := Lib.hid hrs
  clear hl1 htt htl htz hrs hlen
  go_wp2_with fail
  rw [HM.out]
  refine (Tryd.strconv_Itoa (m : Int) (by omega) (by omega) _ ht).mono ?_
  rintro e w1 ⟨rfl, k, os, rfl⟩
  rw [← HT.out]
  have hb1 : Below w.heap.size w (grow (w.drewN k) os) := below_grow w k os
  generalize grow (w.drewN k) os = w1 at hb1
  go_wp2_with fail
  rw [HC.out]
  refine (Tryd.strings_Repeat ⟨#[48]⟩ (10 - t.size) _ (by omega) (by rw [show (ByteArray.mk #[48]).size = 1 from rfl]; omega)).mono ?_
  rintro e w2 ⟨rfl, hb2⟩
  obtain ⟨r, hr⟩ : ∃ r : ByteArray, r = ⟨(Lib.repeatL (ByteArray.mk #[48]).data.toList (10 - t.size)).toArray⟩ := ⟨_, rfl⟩
  have hrl : r.data.toList = Lib.repeatL [48] (10 - t.size) := by rw [hr]
  have hrz := HRS.out r hrl
  have HR := Lib.hid (HS.out r hrl)
  rw [← hr]
  clear hr hrl
  go_wp2_with fail
  go_ret
  exact ⟨ret_val (congrArg Value.string HR.out), hb1.trans (hb2.mono hb1.size)⟩

def cellsAt (N j : Nat) : Array Value := ((List.range 10).map fun t => if 9 - t < j then Value.int .u8 ((Lib.dg N (9 - t)).toNat : Int) else .int .u8 0).toArray

theorem info_u8 : (Tryd.prog.info? 5).map (fun i => (i.zero, i.size, i.bytes)) = some (some (.int .u8 0), 1, 1) := by kernel_rfl

theorem make_ten (w : World) : Sem.run Tryd.prog (Instr.makeSlice 40 (.int .i64 10) (.int .i64 10)) w = .ok (.slice (some ⟨w.heap.size, 0, none⟩) 10 10) (w.alloc (.cells (cellsAt 0 0) 5)) := by
  obtain ⟨i0, hi, hz0, hz1, hz2⟩ := info_parts info_u8
  have := run_makeSlice (P := Tryd.prog) w 40 5 i0 (.int .u8 0) Tryd.underlying40 hi hz0 .i64 .i64 10 10 (by decide) (by decide) (by rw [hz1]; decide) (by rw [hz2]; decide) (by decide)
  rw [hz1] at this
  rw [this, show madeCells (Value.int .u8 0).cells (Int.toNat 10 * 1) = cellsAt 0 0 by kernel_rfl]
  rfl

theorem dig_val {N j m : Nat} (h : N / 10 ^ j = m) : 48 + (m : Int) % 10 = ((Lib.dg N j).toNat : Int) := by
  have e : Lib.dg N j = UInt8.ofNat (48 + m % 10) := by rw [Lib.dg, h]
  have e2 : (UInt8.ofNat (48 + m % 10)).toNat = 48 + m % 10 := by
    rw [UInt8.toNat_ofNat']; omega
  rw [e, e2]; omega
theorem next_val {N j m : Nat} (h : N / 10 ^ j = m) : (m : Int) / 10 = ((N / 10 ^ (j + 1) : Nat) : Int) := by
  rw [Nat.pow_succ, ← Nat.div_div_eq_div_mul, h]; rfl

/-- how far the digits are laid -/
structure NumRel (N : Nat) (w : World) (nv iv : Value) (w' : World) : Prop where
  ex : ∃ j : Nat, j ≤ 10 ∧ iv = .int .i64 (9 - (j : Int)) ∧ nv = .int .i64 ((N / 10 ^ j : Nat) : Int) ∧ w' = w.alloc (.cells (cellsAt N j) 5)

theorem conv_ten (N : Nat) (W : World) (cs : Array Value) (hcs : cs = cellsAt N 10) :
    Sem.run Tryd.prog (convert 40 9 (.slice (some ⟨W.heap.size, 0, none⟩) 10 10)) (W.alloc (.cells cs 5)) = .ok (.string ⟨(digs N).toArray⟩) (W.alloc (.cells cs 5)) := by
  subst hcs
  refine run_convert_bytes_back (P := Tryd.prog) _ 40 9 5 ⟨W.heap.size, 0, none⟩ 10 (digs N) Tryd.underlying40 Tryd.underlying5 Tryd.underlying9 (fun j hj => ?_)
  have hj10 : j < 10 := by simpa [digs_length] using hj
  rw [show (Addr.add ⟨W.heap.size, 0, none⟩ j) = ⟨W.heap.size, j, none⟩ by simp [Addr.add]; intro h; omega, World.cell?_alloc_at _ _ _ _ rfl]
  simp only [cellsAt, digs, List.getElem?_toArray, List.getElem?_map, List.getElem_map, List.getElem_range]
  rw [List.getElem?_range hj10]
  simp only [Option.map_some]
  rw [if_pos (by omega)]

set_option maxHeartbeats 1000000 in
theorem refNumbered_any (p : ByteArray) (n : Int) (w : World) (hp : p.size ≤ 140737488355328) (hn : n ≤ 9223372036854775807) (hn0 : -9223372036854775808 ≤ n) :
    Calls Tryd.prog 20 #[.string p, .int .i64 n] w fun e w' => e = .returned (.string (numS p n.toNat)) ∧ Below w.heap.size w w' := by
  obtain ⟨N, hN⟩ : ∃ N : Nat, n.toNat = N := ⟨_, rfl⟩
  have HM : Hid (max n 0 = (N : Int)) := Lib.hid (by omega)
  have hN1 : N ≤ 9223372036854775807 := by omega
  rw [hN]
  clear hN
  have hmk := make_ten w
  go_enter Tryd.func20, Tryd.ntmps20
  go_wp2_with fail
  rw [HM.out]
  go_loopw [1, 6] (fun nv iv w' => NumRel N w nv iv w') (fun _ iv _ => (intOf iv + 1).toNat)
  case atStart => exact ⟨0, by omega, rfl, by simp, rfl⟩
  case round =>
    obtain ⟨j, hj, rfl, rfl, rfl⟩ := hrel.ex
    clear hrel
    rcases (show j = 0 ∨ j = 1 ∨ j = 2 ∨ j = 3 ∨ j = 4 ∨ j = 5 ∨ j = 6 ∨ j = 7 ∨ j = 8 ∨ j = 9 ∨ j = 10 by omega) with rfl | rfl | rfl | rfl | rfl | rfl | rfl | rfl | rfl | rfl | rfl
    · obtain ⟨m, hm⟩ : ∃ m : Nat, N / 10 ^ 0 = m := ⟨_, rfl⟩
      have hm1 : m ≤ 9223372036854775807 := by rw [← hm]; exact Nat.le_trans (Nat.div_le_self _ _) hN1
      have HMM := Lib.hid hm
      rw [hm]
      clear hm
      simp only [cellsAt, List.range, List.range.loop, List.map_cons, List.map_nil, Nat.sub_zero, Nat.reduceSub, Nat.reduceLT, Nat.not_lt_zero, if_true, if_false]
      go_wp2
      refine ⟨⟨1, by omega, rfl, congrArg (Value.int .i64) (next_val HMM.out), by rw [dig_val HMM.out]; rfl⟩, by simp [intOf]⟩
    · obtain ⟨m, hm⟩ : ∃ m : Nat, N / 10 ^ 1 = m := ⟨_, rfl⟩
      have hm1 : m ≤ 9223372036854775807 := by rw [← hm]; exact Nat.le_trans (Nat.div_le_self _ _) hN1
      have HMM := Lib.hid hm
      rw [hm]
      clear hm
      simp only [cellsAt, List.range, List.range.loop, List.map_cons, List.map_nil, Nat.sub_zero, Nat.reduceSub, Nat.reduceLT, Nat.not_lt_zero, if_true, if_false]
      go_wp2
      refine ⟨⟨2, by omega, rfl, congrArg (Value.int .i64) (next_val HMM.out), by rw [dig_val HMM.out]; rfl⟩, by simp [intOf]⟩
    · obtain ⟨m, hm⟩ : ∃ m : Nat, N / 10 ^ 2 = m := ⟨_, rfl⟩
      have hm1 : m ≤ 9223372036854775807 := by rw [← hm]; exact Nat.le_trans (Nat.div_le_self _ _) hN1
      have HMM := Lib.hid hm
      rw [hm]
      clear hm
      simp only [cellsAt, List.range, List.range.loop, List.map_cons, List.map_nil, Nat.sub_zero, Nat.reduceSub, Nat.reduceLT, Nat.not_lt_zero, if_true, if_false]
      go_wp2
      refine ⟨⟨3, by omega, rfl, congrArg (Value.int .i64) (next_val HMM.out), by rw [dig_val HMM.out]; rfl⟩, by simp [intOf]⟩
    · obtain ⟨m, hm⟩ : ∃ m : Nat, N / 10 ^ 3 = m := ⟨_, rfl⟩
      have hm1 : m ≤ 9223372036854775807 := by rw [← hm]; exact Nat.le_trans (Nat.div_le_self _ _) hN1
      have HMM := Lib.hid hm
      rw [hm]
      clear hm
      simp only [cellsAt, List.range, List.range.loop, List.map_cons, List.map_nil, Nat.sub_zero, Nat.reduceSub, Nat.reduceLT, Nat.not_lt_zero, if_true, if_false]
      go_wp2
      refine ⟨⟨4, by omega, rfl, congrArg (Value.int .i64) (next_val HMM.out), by rw [dig_val HMM.out]; rfl⟩, by simp [intOf]⟩
    · obtain ⟨m, hm⟩ : ∃ m : Nat, N / 10 ^ 4 = m := ⟨_, rfl⟩
      have hm1 : m ≤ 9223372036854775807 := by rw [← hm]; exact Nat.le_trans (Nat.div_le_self _ _) hN1
      have HMM := Lib.hid hm
      rw [hm]
      clear hm
      simp only [cellsAt, List.range, List.range.loop, List.map_cons, List.map_nil, Nat.sub_zero, Nat.reduceSub, Nat.reduceLT, Nat.not_lt_zero, if_true, if_false]
      go_wp2
      refine ⟨⟨5, by omega, rfl, congrArg (Value.int .i64) (next_val HMM.out), by rw [dig_val HMM.out]; rfl⟩, by simp [intOf]⟩
    · obtain ⟨m, hm⟩ : ∃ m : Nat, N / 10 ^ 5 = m := ⟨_, rfl⟩
      have hm1 : m ≤ 9223372036854775807 := by rw [← hm]; exact Nat.le_trans (Nat.div_le_self _ _) hN1
      have HMM := Lib.hid hm
      rw [hm]
      clear hm
      simp only [cellsAt, List.range, List.range.loop, List.map_cons, List.map_nil, Nat.sub_zero, Nat.reduceSub, Nat.reduceLT, Nat.not_lt_zero, if_true, if_false]
      go_wp2
      refine ⟨⟨6, by omega, rfl, congrArg (Value.int .i64) (next_val HMM.out), by rw [dig_val HMM.out]; rfl⟩, by simp [intOf]⟩
    · obtain ⟨m, hm⟩ : ∃ m : Nat, N / 10 ^ 6 = m := ⟨_, rfl⟩
      have hm1 : m ≤ 9223372036854775807 := by rw [← hm]; exact Nat.le_trans (Nat.div_le_self _ _) hN1
      have HMM := Lib.hid hm
      rw [hm]
      clear hm
      simp only [cellsAt, List.range, List.range.loop, List.map_cons, List.map_nil, Nat.sub_zero, Nat.reduceSub, Nat.reduceLT, Nat.not_lt_zero, if_true, if_false]
      go_wp2
      refine ⟨⟨7, by omega, rfl, congrArg (Value.int .i64) (next_val HMM.out), by rw [dig_val HMM.out]; rfl⟩, by simp [intOf]⟩
    · obtain ⟨m, hm⟩ : ∃ m : Nat, N / 10 ^ 7 = m := ⟨_, rfl⟩
      have hm1 : m ≤ 9223372036854775807 := by rw [← hm]; exact Nat.le_trans (Nat.div_le_self _ _) hN1
      have HMM := Lib.hid hm
      rw [hm]
      clear hm
      simp only [cellsAt, List.range, List.range.loop, List.map_cons, List.map_nil, Nat.sub_zero, Nat.reduceSub, Nat.reduceLT, Nat.not_lt_zero, if_true, if_false]
      go_wp2
      refine ⟨⟨8, by omega, rfl, congrArg (Value.int .i64) (next_val HMM.out), by rw [dig_val HMM.out]; rfl⟩, by simp [intOf]⟩
    · obtain ⟨m, hm⟩ : ∃ m : Nat, N / 10 ^ 8 = m := ⟨_, rfl⟩
      have hm1 : m ≤ 9223372036854775807 := by rw [← hm]; exact Nat.le_trans (Nat.div_le_self _ _) hN1
      have HMM := Lib.hid hm
      rw [hm]
      clear hm
      simp only [cellsAt, List.range, List.range.loop, List.map_cons, List.map_nil, Nat.sub_zero, Nat.reduceSub, Nat.reduceLT, Nat.not_lt_zero, if_true, if_false]
      go_wp2
      refine ⟨⟨9, by omega, rfl, congrArg (Value.int .i64) (next_val HMM.out), by rw [dig_val HMM.out]; rfl⟩, by simp [intOf]⟩
    · obtain ⟨m, hm⟩ : ∃ m : Nat, N / 10 ^ 9 = m := ⟨_, rfl⟩
      have hm1 : m ≤ 9223372036854775807 := by rw [← hm]; exact Nat.le_trans (Nat.div_le_self _ _) hN1
      have HMM := Lib.hid hm
      rw [hm]
      clear hm
      simp only [cellsAt, List.range, List.range.loop, List.map_cons, List.map_nil, Nat.sub_zero, Nat.reduceSub, Nat.reduceLT, Nat.not_lt_zero, if_true, if_false]
      go_wp2
      refine ⟨⟨10, by omega, rfl, congrArg (Value.int .i64) (next_val HMM.out), by rw [dig_val HMM.out]; rfl⟩, by simp [intOf]⟩
    · have hcv := conv_ten N w
      have hdz : (ByteArray.mk (digs N).toArray).size = 10 := by rw [← size_toList]; exact digs_length N
      have hcv := hcv _ rfl
      generalize cellsAt N 10 = cs at hcv
      go_wp2
      go_ret
      exact ⟨rfl, (Below.refl _ _).alloc (Nat.le_refl _) _⟩
end Go.Proofs.YtkmmkgooohpbcaaDoor
