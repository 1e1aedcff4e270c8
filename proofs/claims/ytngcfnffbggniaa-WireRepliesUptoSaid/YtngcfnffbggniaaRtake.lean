/- The document's own answers of layer 2: take, several numbers. -/
import Derived.Test.YtngcfnffbggniaaRput
import Derived.Test.YtngcfnffbggniaaThm
namespace Go.Proofs.Ytngcfnffbggniaa
open Go.ChangeShapes Go.WideShapes Go.ChangeAt Go.RowKit
set_option linter.unusedVariables false

def intsOf (l : List Int) : List Value := l.map (Value.int .i64)
def numsN (n : Nat) (l : List UInt8) (p e : Nat) : List Int × Nat × Nat := getN numF.get n l p e

structure RTakeRel (w : World) (b : Nat) (s : ByteArray) (n pos e : Nat) (iv : Value) (wr : World) : Prop where
  ex : ∃ k p', iv = .int .i64 (k : Nat) ∧ k ≤ n ∧ wr.heap[w.heap.size]? = some (.cells (intsOf (numsN k s.data.toList pos e).1 ++ List.replicate (n - k) (Value.int .i64 0)).toArray 3 (0, 0)) ∧
    FAt wr b s p' (numsN k s.data.toList pos e).2.2 ∧ ((numsN k s.data.toList pos e).2.2 = 0 → p' = (numsN k s.data.toList pos e).2.1) ∧ Kept (RS b) w wr

def TkPost (w : World) (b : Nat) (s : ByteArray) (n pos e : Nat) (en : Ending) (w' : World) : Prop :=
  ∃ g p', en = .returned (.slice (some ⟨g, 0, none⟩) n n) ∧ w'.heap[g]? = some (.cells (intsOf (numsN n s.data.toList pos e).1).toArray 3 (0, 0)) ∧ w.heap.size ≤ g ∧
    FAt w' b s p' (numsN n s.data.toList pos e).2.2 ∧ ((numsN n s.data.toList pos e).2.2 = 0 → p' = (numsN n s.data.toList pos e).2.1) ∧ Kept (RS b) w w'

theorem set_next {α : Type} (A : List α) (n k : Nat) (z v : α) (hA : A.length = k) (hk : k < n) : (A ++ List.replicate (n - k) z).set k v = (A ++ [v]) ++ List.replicate (n - (k + 1)) z := by
  subst hA
  rw [show n - A.length = (n - (A.length + 1)) + 1 from by omega, List.replicate_succ]
  simp

theorem info_int : (Try.prog.info? 3).map (fun i => (i.zero, i.size, i.bytes)) = some (some (.int .i64 0), 1, 8) := by kernel_rfl
theorem made_ints (n : Nat) : madeCells #[Value.int .i64 0] n = (List.replicate n (Value.int .i64 0)).toArray := by
  unfold madeCells
  apply Array.ext
  · simp
  · intro i h1 h2
    simp [Nat.mod_one]

set_option maxRecDepth 100000 in
theorem reftake_any (n : Nat) (hn : n ≤ 100000) (w : World) (b : Nat) (s : ByteArray) (p pos e : Nat) (hF : FAt w b s p e) (hp : e = 0 → p = pos) :
    Calls Try.prog 103 #[.pointer (some ⟨b, 0, none⟩), .int .i64 n] w (TkPost w b s n pos e) := by
  obtain ⟨i0, hi, hz0, hz1, hz2⟩ := info_parts info_int
  have hmk : ∀ u : World, (Instr.makeSlice 59 (.int .i64 (n : Int)) (.int .i64 (n : Int))).run Try.prog u =
      .ok (.slice (some ⟨u.heap.size, 0, none⟩) n n) (u.alloc (.cells (List.replicate n (Value.int .i64 0)).toArray 3)) := fun u => by
    have h := run_make (P := Try.prog) u 59 3 i0 (.int .i64 0) Try.underlying59 hi hz0 .i64 .i64 (n : Int) (n : Int) (by omega) (Int.le_refl _) (by rw [hz2]; omega) (by omega)
    rw [← made_ints]
    simpa [hz1, Value.cells] using h
  have hb := lt_of_block hF.at_
  have hst : RTakeRel w b s n pos e (.int .i64 0) (w.alloc (.cells (List.replicate n (Value.int .i64 0)).toArray 3)) :=
    ⟨0, p, rfl, Nat.zero_le _, heap_alloc_new w _, hF.keep ((Kept.refl (fun _ => False) w).alloc _) id, hp, (Kept.refl _ w).alloc _⟩
  have HST := Lib.hid hst; clear hst
  have HSZ := Lib.hid (show (Try.prog.info? 3).map (·.size) = some 1 by kernel_rfl)
  clear hi hz0 hz1 hz2 hp
  go_enter Try.func103, Try.ntmps103
  go_wp2_with fail
  go_loopw [6] (fun i wr => RTakeRel w b s n pos e i wr) (fun i _ => n - (intOf i).toNat)
  case atStart => exact HST.out
  case round =>
    obtain ⟨k, p', rfl, hk, hblk, hF', hp', hK⟩ := hrel.ex
    clear hrel
    by_cases hlt : k < n
    · have HB := Lib.hid hblk
      have HK := Lib.hid hK
      have HP := Lib.hid hp'
      have hlen : (intsOf (numsN k s.data.toList pos e).1).length = k := by simp [intsOf, numsN, getN_len]
      have HN := Lib.hid (getN_snoc numF.get k s.data.toList pos e)
      have HSET := Lib.hid (fun v => set_next (intsOf (numsN k s.data.toList pos e).1) n k (Value.int .i64 0) v hlen hlt)
      have HLEN := Lib.hid (show k < (intsOf (numsN k s.data.toList pos e).1 ++ List.replicate (n - k) (Value.int .i64 0)).length by simp [hlen]; omega)
      clear hblk hK hp' hlen
      go_wp2_with (first
        | (go_at_call 101; refine (fnum_any _ b s p' _ _ hF' HP.out).mono ?_; rintro en w1 ⟨p1, rfl, hF1, hp1, hk1⟩
           have HB1 := Lib.hid ((hk1.block _ (lt_of_block HB.out) (fun h => by have h' : w.heap.size = b := h; omega)).trans HB.out))
        | (refine wpList_store_at rfl 3 _ _ rfl w.heap.size k _ rfl rfl rfl _ 3 HB1.out HLEN.out HSZ.out ?_))
      go_roundw
      case rel =>
        refine ⟨k + 1, p1, by go_num, hlt, ?_, ?_, ?_, ?_⟩
        · rw [setRow_heap _ _ _ _ _ _ HB1.out, HSET.out]
          have hn1 : numsN (k + 1) s.data.toList pos e = _ := HN.out
          rw [hn1]
          simp only [intsOf, List.map_append, List.map_cons, List.map_nil]
          rfl
        · have hn1 : numsN (k + 1) s.data.toList pos e = _ := HN.out
          rw [hn1]
          exact hF1.keep (setRow_kept _ _ _) (fun h => by omega)
        · have hn1 : numsN (k + 1) s.data.toList pos e = _ := HN.out
          rw [hn1]
          exact hp1
        · exact Kept.trans' (Kept.trans' HK.out hk1 (fun _ _ h => h)) (setRow_kept _ _ _) (fun k hk h => by omega)
      case measure => simp [intOf]; omega
    · obtain rfl : k = n := by omega
      have HB := Lib.hid hblk
      clear hblk
      go_wp2_with fail
      go_ret
      refine ⟨w.heap.size, p', rfl, ?_, Nat.le_refl _, hF', hp', hK⟩
      rw [HB.out, Nat.sub_self, List.replicate_zero, List.append_nil]
end Go.Proofs.Ytngcfnffbggniaa
