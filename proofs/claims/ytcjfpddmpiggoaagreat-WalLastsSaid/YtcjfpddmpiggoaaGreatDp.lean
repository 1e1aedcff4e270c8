/- Pending: the numbers of the sectors that are, rising. -/
import Derived.Test.YtcjfpddmpiggoaaGreatDw
import Derived.Test.YtcjfpddmpiggoaaGreatShelf
import Derived.Shelf.SlIterI.Nil
import Derived.Shelf.SlIterI.Sorted
import Derived.Shelf.SortM.Plain
import Derived.Shelf.SortM.SortNone
import Derived.Lib.SlKeysI
namespace Go.Proofs.YtcjfpddmpiggoaaGreat
open Go.ChangeShapes Go.WideShapes Go.ChangeAt Go.RowKit
open Go.Maps Go.Sort Go.Shelf Go.Proofs
set_option linter.unusedVariables false
set_option linter.unusedSimpArgs false

theorem sorts_any (m : Nat) : AnyZI.SortsIn Tryz.prog Tryz.sortedA_ren Fence.wide m :=
  ⟨fun blk off cap ss W hH hblk hsz => callsIn_wide.2 (AnyM.slices_Sort_int Tryz.sortA blk off cap ss W hH hblk hsz),
   fun p cap W => callsIn_wide.2 (AnyM.slices_Sort_int_none Tryz.sortA p cap W)⟩

def numsZ (L : List Nat) : List Int := L.map fun (k : Nat) => (k : Int)

theorem pend_sorted (n : Nat) (O : Nat → Option (List UInt8)) : (numsZ (pendL n O)).Pairwise (fun a b => leI a b = true) := by
  unfold numsZ pendL
  refine List.pairwise_map.2 ?_
  refine (List.Pairwise.filter _ (List.pairwise_lt_range (n := n))).imp ?_
  intro a b h
  simp only [leI, decide_eq_true_eq]; omega
theorem pend_nodup (n : Nat) (O : Nat → Option (List UInt8)) : (numsZ (pendL n O)).Nodup := by
  unfold numsZ pendL
  refine List.pairwise_map.2 ?_
  refine (List.Pairwise.filter _ (List.pairwise_lt_range (n := n))).imp ?_
  intro a b h e
  omega
theorem pend_mem (n : Nat) (O : Nat → Option (List UInt8)) (k : Nat) : k ∈ pendL n O ↔ k < n ∧ (O k).isSome = true := by
  simp [pendL]

theorem keys_pend {w : World} {mb nn n : Nat} {O : Nat → Option (List UInt8)} {D : DataW Unit} (hown : w.ownsMap Tryz.prog 3 RB mb nn D)
    (hhas : ∀ k : Int, Maps.has D (kI k) = true ↔ 0 ≤ k ∧ (O k.toNat).isSome = true) (sup : ∀ k l, O k = some l → k < n ∧ l.length = 64) {ss : List Int} (h : ss.Perm (intKeys D)) :
    ss.mergeSort leI = numsZ (pendL n O) := by
  have K : Keyed Tryz.prog 3 := Maps.int_keyed Tryz.underlying3
  obtain ⟨es, rfl, hp⟩ := hown.tidy K
  obtain ⟨es', he, hk⟩ := hown.keysOf
  obtain rfl : es = es' := by simpa using he
  have hk' : ∀ p ∈ es, ∃ x, p.1 = .int .i64 x := by
    intro p hp
    obtain ⟨key, hkey⟩ := hk p hp
    obtain ⟨x, _, h2, _⟩ := Maps.keyOf_i64 Tryz.underlying3 hkey
    exact ⟨x, h2⟩
  have h2 : (numsZ (pendL n O)).Perm (intKeys (.map es)) := perm_intKeys hp hk' (pend_nodup n O) (fun x => by
    have := hhas x
    rw [show (Lit.int .i64 x) = kI x from rfl, this]
    simp only [numsZ, List.mem_map, pend_mem]
    constructor
    · rintro ⟨k, ⟨h1, h2⟩, rfl⟩
      exact ⟨by omega, by simpa using h2⟩
    · rintro ⟨h1, h2⟩
      obtain ⟨l, hl⟩ := Option.isSome_iff_exists.1 h2
      exact ⟨x.toNat, ⟨(sup _ _ hl).1, h2⟩, by omega⟩)
  rw [mergeSort_of_perm_i (h.trans h2.symm)]
  have tr : ∀ a b c : Int, leI a b = true → leI b c = true → leI a c = true := fun a b c h1 h2 => by simp only [leI, decide_eq_true_eq] at *; exact Int.le_trans h1 h2
  have tot : ∀ a b : Int, (leI a b || leI b a) = true := fun a b => by simp only [leI, Bool.or_eq_true, decide_eq_true_eq]; exact Int.le_total a b
  refine List.Perm.eq_of_pairwise (le := fun a b => leI a b = true) (fun a b _ _ h1 h2 => ?_) (List.pairwise_mergeSort tr tot _) (pend_sorted n O) (List.mergeSort_perm _ leI)
  simp only [leI, decide_eq_true_eq] at h1 h2
  exact Int.le_antisymm h1 h2

def PendPost (w : World) (L : List Nat) (e : Ending) (w' : World) : Prop :=
  ∃ v, e = .returned v ∧ w'.ownsRow w.heap.size 3 1 v L.length ((numsZ L).map encZ) ∧ (v = .slice none 0 0 ↔ L = []) ∧ Below w.heap.size w w'

set_option maxHeartbeats 1000000 in
theorem pending_any {w : World} {b sb mb nn : Nat} {d : DSt} (h : DAt w b sb mb nn d) : Calls Tryz.prog 34 #[.pointer (some ⟨b, 0, none⟩)] w (PendPost w (pendL d.n d.O)) := by
  obtain ⟨c0, c1, c2, c3, c4, f⟩ := h.five
  obtain ⟨D0, hown, hhas, hat⟩ := h.old.ex
  have HK := Lib.hid (fun (ss : List Int) (hS : ss.Perm (intKeys D0)) => keys_pend hown hhas h.sup hS)
  have hmax : Maps.size D0 ≤ maxLen := by
    have h1 := hown.size_le
    have h2 := h.few
    have h3 := pend_le d.n d.O
    have h4 := h.hi
    unfold maxLen; omega
  have hbytes : Maps.size D0 * 8 ≤ 140737488355328 := by
    have h1 := hown.size_le
    have h2 := h.few
    have h3 := pend_le d.n d.O
    have h4 := h.hi
    omega
  refine (callsIn_wide (n := 6)).1 ?_
  have hbl := hown.lt
  have hseq : SeqGives Fence.wide 2 Tryz.prog 71 #[.pointer (some ⟨w.heap.size, 0, none⟩)] encZ (fun ss => ss.Perm (intKeys D0)) (Maps.size D0) (w.alloc (.cells #[.map (some mb)] 55)) :=
    AnyZI.keys_gives (ρ := Tryz.keysA_ren) { Tryz.keysA with } Fence.wide _ trivial rfl (by omega) w.heap.size mb nn D0 _ (by simp) (by simp) (by
      obtain ⟨es, clock, hb, Ft, hs, hD⟩ := hown
      exact ⟨es, clock, (Below.heap_alloc _ _ mb hbl).trans hb, Ft, hs, hD⟩)
  have cK : ∀ mb' W, CallsIn Fence.wide 5 Tryz.prog 54 #[.map mb'] W fun e w' => e = .returned (.func (.func 71) #[] #[.pointer (some ⟨W.heap.size, 0, none⟩)]) ∧ w' = W.alloc (.cells #[.map mb'] 55) := fun mb' W => AnyZI.keys_in Tryz.keysA Fence.wide 5 trivial rfl mb' W
  have cS := AnyZI.sorted_in Tryz.sortedA Fence.wide 5 trivial trivial trivial trivial rfl (by omega) (sorts_any _) (enters_of Tryz.func70 (by kernel_rfl) rfl) 71 #[.pointer (some ⟨w.heap.size, 0, none⟩)] trivial (enters_of Tryz.func71 (by kernel_rfl) rfl) _ _ hmax hbytes _ hseq
  change CallsIn _ _ Tryz.prog 53 _ _ _ at cS
  have hfK : Fence.wide.fn 54 := trivial
  have hfS : Fence.wide.fn 53 := trivial
  clear h hown hhas hat hmax hbytes hseq c0 c2 c3 c4 f
  refine callsIn_of_wp Tryz.func34 rfl trivial ?_ rfl
  simp only [Tryz.ntmps34, List.size_toArray, List.length_cons, List.length_nil, Nat.reduceAdd, Nat.reduceSub, Array.replicate_succ, Array.replicate_zero, List.push_toArray, List.append_toArray, List.nil_append, List.cons_append]
  gi_wp2_with (first
    | (gi_at_call 54; refine (cK _ _).mono ?_; rintro e w' ⟨rfl, rfl⟩)
    | (gi_at_call 53; refine cS.mono ?_; rintro e w' ⟨v, ss, rfl, hS, hrow, hnil, hb⟩))
  go_ret
  have hk := HK.out ss hS
  have hlen : ss.length = (pendL d.n d.O).length := by
    have := congrArg List.length hk
    rw [List.length_mergeSort] at this
    rw [this]; simp [numsZ]
  have hrow1 : w'.ownsRow (w.alloc (.cells #[.map (some mb)] 55)).heap.size 3 1 v ss.length ((ss.mergeSort (fun x y => decide (x ≤ y))).map encZ) := hrow
  have hrow' : w'.ownsRow w.heap.size 3 1 v ss.length ((ss.mergeSort (fun x y => decide (x ≤ y))).map encZ) := ownsRow_base_a hrow1 (by simp)
  rw [show (ss.mergeSort (fun x y => decide (x ≤ y))) = numsZ (pendL d.n d.O) from hk, hlen] at hrow'
  refine ⟨v, rfl, hrow', ?_, ((Below.refl _ w).alloc (Nat.le_refl _) _).trans (hb.mono (by simp))⟩
  rw [hnil]
  constructor
  · intro e
    rw [e] at hlen
    exact List.eq_nil_of_length_eq_zero hlen.symm
  · intro e
    rw [e] at hlen
    exact List.eq_nil_of_length_eq_zero hlen
end Go.Proofs.YtcjfpddmpiggoaaGreat
