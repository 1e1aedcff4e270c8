/- The document's own answers of layer 2: texts, laid. -/
import Derived.Test.YtngcfnffbggniaaRlist
namespace Go.Proofs.Ytngcfnffbggniaa
open Go.ChangeShapes Go.WideShapes Go.ChangeAt Go.RowKit
set_option linter.unusedVariables false

/-- one step of a walk: a name of its own, so that a chain of steps is found again -/
structure Stp (w w' : World) : Prop where
  old : Old w w'
theorem Old.carry {w w' : World} (h : Old w w') {g : Nat} {o : Obj} (hb : w.heap[g]? = some o) : w'.heap[g]? = some o := by
  rw [h.block g (Array.getElem?_eq_some_iff.1 hb).1 id]; exact hb
theorem Stp.carry {w w' : World} (h : Stp w w') {g : Nat} {o : Obj} (hb : w.heap[g]? = some o) : w'.heap[g]? = some o := Old.carry h.old hb
theorem carry_alloc {w : World} {o' : Obj} {g : Nat} {o : Obj} (hb : w.heap[g]? = some o) : (w.alloc o').drew.heap[g]? = some o :=
  Old.carry (((Old.refl w).make o').drew) hb
theorem new_drew (w : World) (o : Obj) : (w.alloc o).drew.heap[w.heap.size]? = some o := heap_alloc_new w o
theorem Old.undrew {w w' : World} (h : Old w w'.drew) : Old w w' := ⟨h.os, h.tape, h.output, h.size, h.block⟩
theorem carry_make {w : World} {o' : Obj} {g : Nat} {o : Obj} (hb : w.heap[g]? = some o) : (w.alloc o').heap[g]? = some o := Old.carry ((Old.refl w).make o') hb
theorem new_drew2 (w : World) (a o : Obj) : ((w.alloc a).alloc o).drew.heap[w.heap.size + 1]? = some o := by
  have h := heap_alloc_new (w.alloc a) o
  rwa [show (w.alloc a).heap.size = w.heap.size + 1 from by simp] at h
theorem new_make2 (w : World) (a o : Obj) : ((w.alloc a).alloc o).heap[w.heap.size + 1]? = some o := new_drew2 w a o
theorem carry_drew {w : World} {g : Nat} {o : Obj} (hb : w.heap[g]? = some o) : w.drew.heap[g]? = some o := hb

set_option maxRecDepth 100000 in
set_option maxHeartbeats 600000 in
theorem reftexts_any (xs : List ByteArray) (sv : Value) (ok : Nat → Prop) (w : World) (hL : ListR textE w ok 1 sv xs) (hl : ((listF (textF 4096)).lay xs).length ≤ 1000000000000000) :
    Calls Try.prog 90 #[sv] w (OldStr w ((listF (textF 4096)).lay xs)) := by
  obtain ⟨rows, ⟨A, c, rfl, hlc, hm, hat⟩, hlen, hel⟩ := hL
  unfold maxLen at hm
  have hlay : (listF (textF 4096)).lay xs = sev rows.length ++ layN (textF 4096) xs := by rw [hlen]; rfl
  rw [hlay] at hl ⊢
  rw [List.length_append] at hl
  have hlen1 : rows.length ≤ xs.length := by omega
  have hlen2 : xs.length ≤ rows.length := by omega
  clear hlen hlay
  have hst : ∀ W, Old w W → LaidRel (textF 4096) (sev rows.length) w xs (.string ⟨(sev rows.length).toArray⟩) (.int .i64 0) W := fun W h => ⟨0, rfl, Nat.zero_le _, by rw [layN_zero], h⟩
  have HST := Lib.hid hst; clear hst
  go_enter Try.func90, Try.ntmps90
  go_wp2_with fail
  refine (refcount_any rows.length _ (by unfold I64; omega)).mono ?_
  rintro e w0 ⟨rfl, hO0⟩
  rw [Int.toNat_natCast]
  have HO0 := Lib.hid hO0; clear hO0
  go_wp2_with fail
  go_loopw [3, 4] (fun sv iv wr => LaidRel (textF 4096) (sev rows.length) w xs sv iv wr) (fun _ iv _ => xs.length - (intOf iv).toNat)
  case atStart => exact HST.out _ HO0.out
  case round =>
    obtain ⟨k, rfl, hk, rfl, hO⟩ := hrel.ex
    clear hrel HST HO0
    by_cases hlt : k < xs.length
    · have hkr : k < rows.length := by omega
      rcases hat with h0 | ⟨g, off, rfl, hok, hg, hc⟩
      · subst h0; simp at hkr
      have hE := textE_ok.keep (hel k hlt hkr) hO (disj_none _)
      have hcell : ∀ j (hj : j < rows[k].length), wr.cell? ⟨g, off + k * 1 + j, none⟩ = some rows[k][j] := fun j hj => by
        rw [← (hc k hkr).2 j hj]; exact World.cell?_of_block (hO.block g hg id)
      have hle := layN_le (f := textF 4096) hlt
      have HTK := Lib.hid (layN_take (f := textF 4096) hlt)
      generalize rows[k] = cs at hcell hE
      generalize xs[k] = x at hle hE HTK
      clear hc hel
      obtain ⟨rfl, h1⟩ := hE
      have c0 : wr.cell? ⟨g, off + k, none⟩ = some (.string x) := by have := hcell 0 (by simp); simpa using this
      clear hcell
      have t1 : x.size ≤ 9223372036854775000 := by unfold Str at h1; omega
      clear h1
      have hkl : (k : Int) < (rows.length : Int) := by omega
      have hlx : (textF 4096).lay x = sev x.size ++ x.data.toList := rfl
      obtain ⟨D, hD⟩ : ∃ D, sev rows.length ++ layN (textF 4096) (xs.take k) = D := ⟨_, rfl⟩
      have hDl : D.length + ((sev x.size).length + x.data.toList.length) ≤ 1000000000000000 := by
        rw [hlx] at hle
        simp only [List.length_append] at hle
        rw [← hD, List.length_append]; omega
      have hfin : D ++ (sev x.size ++ x.data.toList) = sev rows.length ++ layN (textF 4096) (xs.take (k + 1)) := by
        rw [← hD, HTK.out, List.append_assoc, ← hlx]
      rw [hD]
      have HF := Lib.hid hfin
      clear hD hlx hle HTK hfin
      have q1 : ∀ W, Sem.run Try.prog (Op.stringOp .add ⟨D.toArray⟩ ⟨(sev x.size ++ x.data.toList).toArray⟩) W = .ok (.string ⟨(D ++ (sev x.size ++ x.data.toList)).toArray⟩) W := fun W => by
        rw [add_str _ _ _ (by simp only [List.length_append]; omega) W]
      clear hDl
      go_wp2_with (go_at_call 43; refine (reftext_any _ _ t1).mono ?_; rintro e w9 ⟨rfl, hO9⟩; have HP := Lib.hid (hO.none hO9); clear hO9)
      go_roundw
      case rel => exact ⟨k + 1, by go_num, hlt, by rw [HF.out], HP.out⟩
      case measure => simp [intOf]; omega
    · have hkl : ¬ (k : Int) < (rows.length : Int) := by omega
      obtain rfl : k = xs.length := by omega
      have ht : xs.take xs.length = xs := List.take_length
      rw [ht]
      go_wp2_with fail
      go_ret
      exact ⟨rfl, hO⟩
end Go.Proofs.Ytngcfnffbggniaa
