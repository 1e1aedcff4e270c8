/- The first bytes of an area. -/
import Derived.Test.YtmfngbgdmlnlcaaJkd
import Derived.Test.YtmfngbgdmlnlcaaJx
namespace Go.Proofs.Ytmfngbgdmlnlcaa
open Go.ChangeShapes Go.WideShapes Go.ChangeAt Go.RowKit
set_option linter.unusedVariables false
set_option linter.unusedSimpArgs false
def areaL (S : Nat → List UInt8) (st k : Nat) : List UInt8 := (List.range k).flatMap fun i => S (st + i)
theorem areaL_succ (S : Nat → List UInt8) (st k : Nat) : areaL S st (k + 1) = areaL S st k ++ S (st + k) := by simp [areaL, List.range_succ]
theorem areaL_len {S : Nat → List UInt8} {st k : Nat} (h : ∀ i, i < k → (S (st + i)).length = 64) : (areaL S st k).length = 64 * k := by
  induction k with
  | zero => rfl
  | succ k ih => rw [areaL_succ, List.length_append, ih (fun i hi => h i (by omega)), h k (by omega)]; omega
theorem areaL_get {S : Nat → List UInt8} {st k : Nat} (h : ∀ i, i < k → (S (st + i)).length = 64) {p : Nat} (hp : p < 64 * k) : (areaL S st k)[p]? = byteS S st p := by
  induction k with
  | zero => omega
  | succ k ih =>
    have hl := areaL_len (S := S) (st := st) (k := k) (fun i hi => h i (by omega))
    rw [areaL_succ]
    by_cases hlt : p < 64 * k
    · rw [List.getElem?_append_left (by omega)]
      exact ih (fun i hi => h i (by omega)) hlt
    · rw [List.getElem?_append_right (by omega), hl]
      unfold byteS
      rw [show p / 64 = k by omega, show p - 64 * k = p % 64 by omega]
theorem areaL_take {S : Nat → List UInt8} {st k m n : Nat} (h : ∀ i, i < m → (S (st + i)).length = 64) (hk : k ≤ m) (hn : n ≤ 64 * k) : (areaL S st k).take n = (areaL S st m).take n := by
  apply List.ext_getElem?
  intro p
  rw [List.getElem?_take, List.getElem?_take]
  split
  · rw [areaL_get (fun i hi => h i (by omega)) (by omega), areaL_get h (by omega)]
  · rfl
structure ByRel (w : World) (S : Nat → List UInt8) (st length : Nat) (nv : Value) (wr : World) : Prop where
  ex : ∃ k : Nat, 64 * k ≤ length + 63 ∧ nv = .int .i64 ((st + k : Nat) : Int) ∧ IsB w.heap.size w.heap.size (Lib.byteCells (areaL S st k)) wr ∧ Below w.heap.size w wr
section
variable {Z : Nat → Prop} {w w' : World} {lb db sb mb nn : Nat} {g : LSt} {d : DSt}
theorem Wl.lens (h : Wl Z w lb db g d) : ∀ i, i < d.n → (d.S i).length = 64 := by
  obtain ⟨sb, mb, nn, rv, hD, _⟩ := h.ex
  exact hD.sec.len
set_option maxRecDepth 100000 in
set_option maxHeartbeats 4000000 in
theorem bytes_any (h : Wl Z w lb db g d) (hd : d.dead = false) (ar length : Nat) (har : ar ≤ 1) (hlen : length ≤ spaceN d) : Calls Try.prog 60 #[.pointer (some ⟨lb, 0, none⟩), .int .i64 ar, .int .i64 length] w fun e w' =>
    e = .returned (.tuple #[.string ⟨((areaL d.S (startN d ar) (secN d)).take length).toArray⟩, .int .i64 0]) ∧ Kept (fun _ => False) w w' := by
  have hsec := h.sec_hi
  have hst := startN_hi h.hi.1 har
  have hlens := h.lens
  have hll : ∀ i, i < secN d → (d.S (startN d ar + i)).length = 64 := fun i hi => hlens _ (by omega)
  have HLL := Lib.hid hll
  have hsp : length ≤ 64 * secN d := by unfold spaceN at hlen; omega
  have HST := Lib.hid (start_any (h.kept0 ((Kept.refl _ w).alloc (.cells #[.pointer none, .slice none 0 0] 95))) ar har)
  have HB := Lib.hid (Lib.fresh_isBuilder 95 5 w)
  have HW : Hid (Below w.heap.size w (w.alloc (.cells #[.pointer none, .slice none 0 0] 95))) := Lib.hid ((Below.refl _ _).alloc (Nat.le_refl _) _)
  have HH := Lib.hid h
  have HD := Lib.hid hd
  have hn := h.hi
  obtain ⟨st, hste⟩ : ∃ st, startN d ar = st := ⟨_, rfl⟩
  rw [hste] at hst HST HLL ⊢
  obtain ⟨sec, hsece⟩ : ∃ sec, secN d = sec := ⟨_, rfl⟩
  rw [hsece] at hst hsp hsec HLL ⊢
  have HE : Hid (∀ k, k ≤ sec → length ≤ 64 * k → (⟨((areaL d.S st k).take length).toArray⟩ : ByteArray) = ⟨((areaL d.S st sec).take length).toArray⟩) := Lib.hid (fun k hk hl => by rw [areaL_take HLL.out hk hl])
  clear h hd hlens hll hste hsece hlen
  go_enter Try.func60, Try.ntmps60
  go_wp2_with fail
  refine HST.out.mono ?_
  rintro e w1 ⟨rfl, rfl⟩
  go_wp2_with fail
  go_loopw [9] (fun nv wr => ByRel w d.S st length nv wr) (fun nv _ => (st + length + 64) - (Go.RowKit.intOf nv).toNat)
  case atStart => exact ⟨0, by omega, rfl, HB.out, HW.out⟩
  case round =>
    obtain ⟨k, hk, rfl, hb, hbw⟩ := hrel.ex
    clear hrel HB HW
    have HB := Lib.hid hb
    have HW := Lib.hid hbw
    have hks : k ≤ sec := by omega
    have HAL : Hid ((areaL d.S st k).length = 64 * k) := Lib.hid (areaL_len (fun i hi => HLL.out i (by omega)))
    have hkeep : Kept (fun _ => False) w wr := keptB hbw
    obtain ⟨L, hL⟩ : ∃ L, areaL d.S st k = L := ⟨_, rfl⟩
    have hw := HH.out.kept0 hkeep
    clear hb hbw hkeep
    have HLE := Lib.hid (Try.Builder_Len _ _ _ _ HB.out)
    rw [Lib.byteCells_length, HAL.out] at HLE
    by_cases hlt : 64 * k < length
    · have c0 : wr.cell? ⟨lb, 0, none⟩ = some (.pointer (some ⟨db, 0, none⟩)) := by obtain ⟨sb, mb, nn, rv, hD, hL, _, _⟩ := hw.ex; exact hL.cell 0
      have hkn : st + k < d.n := by omega
      have hrd := readD_in hkn HD.out
      obtain ⟨s, hs⟩ : ∃ s : ByteArray, (⟨(d.S (st + k)).toArray⟩ : ByteArray) = s := ⟨_, rfl⟩
      have hsl : s.data.toList = d.S (st + k) := by rw [← hs]
      have hs64 : s.size = 64 := by rw [← list_size, hsl]; exact HLL.out k (by omega)
      have HRD := Lib.hid (wl_read hw ((st + k : Nat) : Int) (s := s) (v := 0) (by rw [hrd]; exact hs) (by rw [hrd]))
      have HNX : Hid (Lib.byteCells (areaL d.S st (k + 1)) = Lib.byteCells (areaL d.S st k) ++ Lib.strCells s) := Lib.hid (by
        rw [areaL_succ, Lib.strCells_eq, hsl]; simp [Lib.byteCells])
      clear hw hrd hs hsl hL
      go_wp2_with fail
      refine HLE.out.mono ?_
      rintro e w1 ⟨rfl, rfl⟩
      go_wp2_with fail
      refine HRD.out.mono ?_
      rintro e w2 ⟨rfl, rfl⟩
      clear HLE c0 HRD
      go_wp2_with fail
      refine (bwrite_any s HB.out (by rw [Lib.byteCells_length, HAL.out, hs64]; omega) HW.out.size).mono ?_
      rintro e w3 ⟨rfl, hb3, hw3⟩
      have HB3 : Hid (IsB w.heap.size w.heap.size (Lib.byteCells (areaL d.S st (k + 1))) w3) := Lib.hid (by rw [HNX.out]; exact hb3)
      have HW3 := Lib.hid (HW.out.trans hw3)
      clear hb3 hw3 HB HW
      go_wp2_with fail
      go_roundw
      case rel => exact ⟨k + 1, by omega, by go_num, HB3.out, HW3.out⟩
      case measure => simp [Go.RowKit.intOf]; omega
    · have hge : length ≤ 64 * k := by omega
      have hcut0 := fun V => cut_run V (⟨(areaL d.S st k).toArray⟩ : ByteArray) (c := length) (by show length ≤ (areaL d.S st k).length; rw [HAL.out]; exact hge)
      have hext : (⟨(areaL d.S st k).toArray⟩ : ByteArray).extract 0 length = ⟨((areaL d.S st sec).take length).toArray⟩ := by
        rw [← HE.out k hks hge, ByteArray.extract_mk, List.drop_zero, Nat.sub_zero]
      have hcut : ∀ V, Sem.run Try.prog (Instr.slice 9 (.string ⟨(areaL d.S st k).toArray⟩) none (some (.int .i64 (length : Int))) none) V = .ok (.string ⟨((areaL d.S st sec).take length).toArray⟩) V := fun V => by
        have := hcut0 V
        rw [hext] at this; exact this
      clear hcut0 hext hw hL
      go_wp2_with fail
      refine HLE.out.mono ?_
      rintro e w1 ⟨rfl, rfl⟩
      have HCUT := Lib.hid hcut
      clear hcut HLE
      go_wp2_with fail
      refine (Try.Builder_String_any _ _ _ _ HB.out HW.out.size).mono ?_
      rintro e w2 ⟨rfl, hw2⟩
      have hcut := HCUT.out
      go_wp2_with fail
      go_ret2
      exact ⟨rfl, keptB (HW.out.trans hw2)⟩
end
end Go.Proofs.Ytmfngbgdmlnlcaa
