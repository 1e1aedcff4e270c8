/- Records laid one behind the other. -/
import Derived.Test.YtmfngbgdmlnlcaaJk
namespace Go.Proofs.Ytmfngbgdmlnlcaa
open Go.ChangeShapes Go.WideShapes Go.ChangeAt Go.RowKit
set_option linter.unusedVariables false
set_option linter.unusedSimpArgs false

def sumdL (s : ByteArray) : List UInt8 := highL s.size 2 ++ s.data.toList
def recL (s : ByteArray) : List UInt8 := sumdL s ++ highL (wsum (sumdL s)) 4
def laidL (l : List ByteArray) : List UInt8 := l.flatMap recL
theorem recL_len (s : ByteArray) : (recL s).length = 6 + s.size := by simp [recL, sumdL, highL_len]; omega
theorem laidL_len (l : List ByteArray) : (laidL l).length = sizeN l := by
  induction l with
  | nil => rfl
  | cons s l ih => simp only [laidL, sizeN, List.flatMap_cons, List.length_append, List.map_cons, List.sum_cons, recL_len] at ih ⊢; rw [ih]
theorem laidL_take (l : List ByteArray) (i : Nat) (h : i < l.length) : laidL (l.take (i + 1)) = laidL (l.take i) ++ recL l[i] := by
  unfold laidL
  rw [List.take_succ_eq_append_getElem h, List.flatMap_append]; simp
theorem IsB.kept {B b : Nat} {w w' : World} {l : List Value} {Y : Nat → Prop} (h : IsB B b l w) (hk : Kept Y w w') (hY : ∀ k, B ≤ k → ¬ Y k) : IsB B b l w' := by
  have key : ∀ p, Lib.BuilderAt 95 5 B b p l w → Lib.BuilderAt 95 5 B b p l w' := by
    rintro p ⟨h1, v, h2, h3, h4⟩
    exact ⟨h1, v, by rw [hk.block b (lt_of_block0 h2) (hY b h1)]; exact h2, rowKept h3 hk hY, h4⟩
  exact h.imp (key _) (key _)
theorem IsB.lt {B b : Nat} {w : World} {l : List Value} (h : IsB B b l w) : b < w.heap.size := h.elim (fun h => h.lt) (fun h => h.lt)

theorem keptAt {B : Nat} {w w' : World} (h : Below B w w') : Kept (fun k => B ≤ k) w w' := ⟨h.os, h.tape, h.output, h.size, fun k hk hn => h.block k (by omega)⟩
structure LdRel (w : World) (ok : Nat → Prop) (v : Value) (l : List ByteArray) (iv : Value) (wr : World) : Prop where
  ex : ∃ k : Nat, k ≤ l.length ∧ iv = .int .i64 k ∧ IsB w.heap.size w.heap.size (Lib.byteCells (laidL (l.take k))) wr ∧ TsAt wr ok v l ∧ Below w.heap.size w wr

set_option maxRecDepth 100000 in
set_option maxHeartbeats 4000000 in
theorem laid_any {ok : Nat → Prop} {v : Value} {l : List ByteArray} {w : World} (h : TsAt w ok v l) (hok : ∀ k, ok k → k < w.heap.size) (hl : sizeN l ≤ 140000000000000) :
    Calls Try.prog 38 #[v] w fun e w' => e = .returned (.string ⟨(laidL l).toArray⟩) ∧ Kept (fun _ => False) w w' := by
  obtain ⟨a, cap, rfl, hc⟩ := h.ex
  have hll : l.length ≤ 140000000000000 := by
    have : l.length ≤ sizeN l := by
      clear hl hc h
      induction l with
      | nil => simp
      | cons s l ih => simp only [sizeN, List.map_cons, List.sum_cons, List.length_cons] at ih ⊢; omega
    omega
  have HB := Lib.hid (Lib.fresh_isBuilder 95 5 w)
  have HT := Lib.hid (h.kept ((Kept.refl (fun _ => False) w).alloc (.cells #[.pointer none, .slice none 0 0] 95)) (fun _ _ f => f))
  have HW : Hid (Below w.heap.size w (w.alloc (.cells #[.pointer none, .slice none 0 0] 95))) := Lib.hid ((Below.refl _ _).alloc (Nat.le_refl _) _)
  have HOK := Lib.hid hok
  have HL := Lib.hid hl
  clear h hc hok hl
  go_enter Try.func38, Try.ntmps38
  go_wp2_with fail
  go_loopw [9] (fun iv wr => LdRel w ok (.slice a l.length cap) l iv wr) (fun iv _ => l.length - (Go.RowKit.intOf iv).toNat)
  case atStart => exact ⟨0, Nat.zero_le _, rfl, HB.out, HT.out, HW.out⟩
  case round =>
    obtain ⟨k, hk, rfl, hb, ht, hbw⟩ := hrel.ex
    clear hrel HB HT HW
    have HB := Lib.hid hb
    have HT := Lib.hid ht
    have HW := Lib.hid hbw
    clear hb ht hbw
    by_cases hlt : k < l.length
    · obtain ⟨a', cap', he, hc⟩ := HT.out.ex
      obtain ⟨rfl, rfl⟩ : a = a' ∧ cap = cap' := by injection he with h1 _ h3; exact ⟨h1, h3⟩
      obtain ⟨g, off, rfl, _, hcell⟩ := hc k hlt
      have HTK := Lib.hid (laidL_take l k hlt)
      have h1 := sizeN_take l k hlt
      have h2 := sizeN_mono l (k + 1)
      have HLN := Lib.hid (laidL_len (l.take k))
      obtain ⟨s, hs⟩ : ∃ s, l[k] = s := ⟨_, rfl⟩
      rw [hs] at hcell h1 HTK
      have hsz : s.size ≤ 140000000000000 := by have := HL.out; omega
      clear hc he hs
      have HSZ : Hid ((laidL (l.take k)).length + (6 + s.size) ≤ 140000000000000) := Lib.hid (by have := HL.out; have := HLN.out; omega)
      clear h1 h2
      go_wp2_with fail
      refine (highZ _ _ _ (by omega) (by omega) (by decide)).mono ?_
      rintro e w2 ⟨rfl, hk2⟩
      have HB2 := Lib.hid (HB.out.kept hk2 (fun _ _ f => f))
      have HT2 := Lib.hid (HT.out.kept hk2 (fun _ _ f => f))
      have HW2 := Lib.hid (HW.out.trans (hk2.below (fun _ f => f.elim) HW.out.size))
      obtain ⟨sm, hsm⟩ : ∃ sm, hbz (s.size : Int) 2 ++ s = sm := ⟨_, rfl⟩
      have hz2 : (hbz (s.size : Int) 2).size = 2 := hb_size _ _
      have hcat : ∀ W, Sem.run Try.prog (Op.stringOp .add (hbz (s.size : Int) 2) s) W = .ok (.string sm) W := fun W => by rw [run_string_add_sum W _ _ (by omega), hsm]
      have hsms : sm.size = 2 + s.size := by rw [← hsm, ByteArray.size_append, hz2]
      have HSM : Hid (sm.data.toList = sumdL s) := Lib.hid (by rw [← hsm]; simp [hbz, hb, sumdL, ByteArray.data_append])
      clear hsm hz2 hk2 HB HT HW
      go_wp2_with fail
      clear hcat
      refine (bwrite_any sm HB2.out (by rw [Lib.byteCells_length]; have := HSZ.out; omega) HW2.out.size).mono ?_
      rintro e w3 ⟨rfl, hb3, hw3⟩
      have HB3 := Lib.hid hb3
      have HT3 := Lib.hid (HT2.out.kept (keptAt hw3) (fun k hk hn => by have := HOK.out k hk; omega))
      have HW3 := Lib.hid (HW2.out.trans hw3)
      clear hb3 hw3 HB2 HT2 HW2
      go_wp2_with fail
      refine (wsum_any sm _ (by omega)).mono ?_
      rw [HSM.out]
      rintro e w4 ⟨rfl, rfl⟩
      have hws := wsum_lt (sumdL s)
      obtain ⟨z, hz⟩ : ∃ z, wsum (sumdL s) = z := ⟨_, rfl⟩
      have HZ := Lib.hid hz
      rw [hz] at hws ⊢
      clear hz
      obtain ⟨z0, z1⟩ := hws
      go_wp2_with fail
      refine (highZ _ _ _ (by omega) (by omega) (by decide)).mono ?_
      rintro e w5 ⟨rfl, hk5⟩
      have HB5 := Lib.hid (HB3.out.kept hk5 (fun _ _ f => f))
      have HT5 := Lib.hid (HT3.out.kept hk5 (fun _ _ f => f))
      have HW5 := Lib.hid (HW3.out.trans (hk5.below (fun _ f => f.elim) HW3.out.size))
      have hz4 : (hbz z 4).size = 4 := hb_size _ _
      have HZ4 := Lib.hid hz4
      clear hk5 HB3 HT3 HW3 hz4
      go_wp2_with fail
      refine (bwrite_any _ HB5.out (by rw [List.length_append, Lib.byteCells_length, Lib.strCells_length, HZ4.out]; have := HSZ.out; omega) HW5.out.size).mono ?_
      rintro e w6 ⟨rfl, hb6, hw6⟩
      have HB6 : Hid (IsB w.heap.size w.heap.size (Lib.byteCells (laidL (l.take (k + 1)))) w6) := Lib.hid (by
        rw [HTK.out]
        have e1 : Lib.byteCells (laidL (l.take k) ++ recL s) = Lib.byteCells (laidL (l.take k)) ++ Lib.strCells sm ++ Lib.strCells (hbz z 4) := by
          rw [Lib.strCells_eq, Lib.strCells_eq, HSM.out, ← HZ.out]
          simp [Lib.byteCells, recL, hbz, hb]
        rw [e1]; exact hb6)
      have HT6 := Lib.hid (HT5.out.kept (keptAt hw6) (fun k hk hn => by have := HOK.out k hk; omega))
      have HW6 := Lib.hid (HW5.out.trans hw6)
      clear hb6 hw6 HB5 HT5 HW5 z0 z1
      go_wp2_with fail
      go_roundw
      case rel => exact ⟨k + 1, by omega, by go_num, HB6.out, HT6.out, HW6.out⟩
      case measure => simp [Go.RowKit.intOf]; omega
    · have e1 : l.take k = l := List.take_of_length_le (by omega)
      have HB2 : Hid (IsB w.heap.size w.heap.size (Lib.byteCells (laidL l)) wr) := Lib.hid (by have := HB.out; rw [e1] at this; exact this)
      clear e1 HB
      go_wp2_with fail
      refine (Try.Builder_String_any _ _ _ _ HB2.out HW.out.size).mono ?_
      rintro e w2 ⟨rfl, hw2⟩
      go_wp2_with fail
      go_ret
      exact ⟨rfl, keptB (HW.out.trans hw2)⟩
end Go.Proofs.Ytmfngbgdmlnlcaa
