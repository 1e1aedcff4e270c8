/- The contracts of maps.Keys, slices.Sorted and slices.Sort at strings, laid over this program by the kit (no walk). slices.Sort of texts; sorted texts are one list. Paths, Owned, Session. -/
import Derived.Shelf.SlGeneric
import Derived.Shelf.SlIter.Nil
import Derived.Shelf.SortM.Plain
import Derived.Shelf.SortM.SortNone
import Derived.Test.YtenbdoceaabecaaGreatProg
import Derived.Test.YtenbdoceaabecaaGreatP08
import Derived.Test.YtenbdoceaabecaaGreatP34
import Derived.Test.YtenbdoceaabecaaGreatP10
namespace Go.Proofs
open Go.Shelf
def Tryz.keysT_ren : Go.Shelf.Ren := ⟨fun | 7 => 85 | 10 => 111 | n => n, fun | 23 => 83 | 26 => 9 | 3 => 98 | 28 => 168 | 0 => 0 | 27 => 167 | 33 => 188 | 4 => 4 | n => n, fun | n => n⟩
theorem Tryz.keysT : Go.Proofs.SlLaysZ.n7 Tryz.prog Tryz.keysT_ren := {
  mixed := by kernel_rfl
  f7 := ⟨Tryz.f85.name, by decide, Tryz.func85.trans (congrArg some (by kernel_rfl))⟩
  f10 := ⟨Tryz.f111.name, by decide, Tryz.func111.trans (congrArg some (by kernel_rfl))⟩
  t0 := Tryz.underlying0
  a0 := Tryz.isAgg0
  z0 := Tryz.sizeOf0
  v0 := Tryz.zeroValue0
  t4 := Tryz.underlying4
  a4 := Tryz.isAgg4
  z4 := Tryz.sizeOf4
  v4 := Tryz.zeroValue4
  t23 := Tryz.underlying83
  a23 := Tryz.isAgg83
  z23 := Tryz.sizeOf83
  v23 := Tryz.zeroValue83
  t26 := Tryz.underlying9
  a26 := Tryz.isAgg9
  z26 := Tryz.sizeOf9
  v26 := Tryz.zeroValue9
  t27 := Tryz.underlying167
  a27 := Tryz.isAgg167
  z27 := Tryz.sizeOf167
  v27 := Tryz.zeroValue167
  t28 := Tryz.underlying168
  a28 := Tryz.isAgg168
  z28 := Tryz.sizeOf168
  v28 := Tryz.zeroValue168
  t33 := Tryz.underlying188
  a33 := Tryz.isAgg188
  z33 := Tryz.sizeOf188
  v33 := Tryz.zeroValue188 }
def Tryz.sortedT_ren : Go.Shelf.Ren := ⟨fun | 6 => 84 | 8 => 110 | 9 => 81 | 11 => 143 | 13 => 108 | 12 => 107 | 23 => 141 | 24 => 142 | 14 => 132 | 15 => 133 | 16 => 134 | 17 => 135 | 18 => 136 | 19 => 137 | 20 => 138 | 21 => 139 | 22 => 140 | 25 => 160 | 26 => 161 | 27 => 162 | 28 => 163 | 29 => 164 | 30 => 165 | 31 => 175 | n => n, fun | 26 => 9 | 28 => 168 | 24 => 102 | 0 => 0 | 3 => 3 | 37 => 187 | 48 => 214 | 50 => 216 | 4 => 4 | 40 => 208 | 39 => 207 | 45 => 183 | 5 => 5 | 9 => 9 | 51 => 227 | 55 => 231 | 57 => 238 | 58 => 157 | 33 => 188 | n => n, fun | n => n⟩
theorem Tryz.sortedT : Go.Proofs.SlLaysZ.n6 Tryz.prog Tryz.sortedT_ren := {
  mixed := by kernel_rfl
  f6 := ⟨Tryz.f84.name, by decide, Tryz.func84.trans (congrArg some (by kernel_rfl))⟩
  f8 := ⟨Tryz.f110.name, by decide, Tryz.func110.trans (congrArg some (by kernel_rfl))⟩
  f11 := ⟨Tryz.f143.name, by decide, Tryz.func143.trans (congrArg some (by kernel_rfl))⟩
  t0 := Tryz.underlying0
  a0 := Tryz.isAgg0
  z0 := Tryz.sizeOf0
  v0 := Tryz.zeroValue0
  t24 := Tryz.underlying102
  a24 := Tryz.isAgg102
  z24 := Tryz.sizeOf102
  v24 := Tryz.zeroValue102
  t26 := Tryz.underlying9
  a26 := Tryz.isAgg9
  z26 := Tryz.sizeOf9
  v26 := Tryz.zeroValue9
  t28 := Tryz.underlying168
  a28 := Tryz.isAgg168
  z28 := Tryz.sizeOf168
  v28 := Tryz.zeroValue168
  i26 := by kernel_rfl }
def Tryz.sortT_ren : Go.Shelf.Ren := ⟨fun | 6 => 81 | 8 => 108 | 9 => 107 | 19 => 141 | 20 => 142 | 21 => 132 | 22 => 133 | 23 => 134 | 24 => 135 | 25 => 136 | 26 => 137 | 27 => 138 | 28 => 139 | 29 => 140 | 36 => 160 | 31 => 161 | 32 => 162 | 37 => 163 | 38 => 164 | 39 => 165 | 41 => 175 | n => n, fun | 27 => 102 | 29 => 9 | 3 => 3 | 32 => 187 | 26 => 102 | 0 => 0 | 44 => 214 | 46 => 216 | 4 => 4 | 36 => 208 | 35 => 207 | 41 => 183 | 5 => 5 | 9 => 9 | 53 => 227 | 57 => 231 | 63 => 238 | 64 => 157 | n => n, fun | n => n⟩
theorem Tryz.sortT : Go.Proofs.SlLaysM.n6 Tryz.prog Tryz.sortT_ren := {
  mixed := by kernel_rfl
  f6 := ⟨Tryz.f81.name, by decide, Tryz.func81.trans (congrArg some (by kernel_rfl))⟩
  f8 := Tryz.func108.trans (congrArg some (by kernel_rfl))
  f9 := ⟨Tryz.f107.name, by decide, Tryz.func107.trans (congrArg some (by kernel_rfl))⟩
  f19 := Tryz.func141.trans (congrArg some (by kernel_rfl))
  f20 := Tryz.func142.trans (congrArg some (by kernel_rfl))
  f21 := ⟨Tryz.f132.name, by decide, Tryz.func132.trans (congrArg some (by kernel_rfl))⟩
  f22 := ⟨Tryz.f133.name, by decide, Tryz.func133.trans (congrArg some (by kernel_rfl))⟩
  f23 := ⟨Tryz.f134.name, by decide, Tryz.func134.trans (congrArg some (by kernel_rfl))⟩
  f24 := ⟨Tryz.f135.name, by decide, Tryz.func135.trans (congrArg some (by kernel_rfl))⟩
  f25 := ⟨Tryz.f136.name, by decide, Tryz.func136.trans (congrArg some (by kernel_rfl))⟩
  f26 := ⟨Tryz.f137.name, by decide, Tryz.func137.trans (congrArg some (by kernel_rfl))⟩
  f27 := ⟨Tryz.f138.name, by decide, Tryz.func138.trans (congrArg some (by kernel_rfl))⟩
  f28 := ⟨Tryz.f139.name, by decide, Tryz.func139.trans (congrArg some (by kernel_rfl))⟩
  f29 := ⟨Tryz.f140.name, by decide, Tryz.func140.trans (congrArg some (by kernel_rfl))⟩
  f31 := Tryz.func161.trans (congrArg some (by kernel_rfl))
  f32 := Tryz.func162.trans (congrArg some (by kernel_rfl))
  f36 := ⟨Tryz.f160.name, by decide, Tryz.func160.trans (congrArg some (by kernel_rfl))⟩
  f37 := ⟨Tryz.f163.name, by decide, Tryz.func163.trans (congrArg some (by kernel_rfl))⟩
  f38 := ⟨Tryz.f164.name, by decide, Tryz.func164.trans (congrArg some (by kernel_rfl))⟩
  f39 := ⟨Tryz.f165.name, by decide, Tryz.func165.trans (congrArg some (by kernel_rfl))⟩
  f41 := ⟨Tryz.f175.name, by decide, Tryz.func175.trans (congrArg some (by kernel_rfl))⟩
  t0 := Tryz.underlying0
  a0 := Tryz.isAgg0
  z0 := Tryz.sizeOf0
  v0 := Tryz.zeroValue0
  t3 := Tryz.underlying3
  a3 := Tryz.isAgg3
  z3 := Tryz.sizeOf3
  v3 := Tryz.zeroValue3
  t4 := Tryz.underlying4
  a4 := Tryz.isAgg4
  z4 := Tryz.sizeOf4
  v4 := Tryz.zeroValue4
  t5 := Tryz.underlying5
  a5 := Tryz.isAgg5
  z5 := Tryz.sizeOf5
  v5 := Tryz.zeroValue5
  t9 := Tryz.underlying9
  a9 := Tryz.isAgg9
  z9 := Tryz.sizeOf9
  v9 := Tryz.zeroValue9
  t26 := Tryz.underlying102
  a26 := Tryz.isAgg102
  z26 := Tryz.sizeOf102
  v26 := Tryz.zeroValue102
  t27 := Tryz.underlying102
  a27 := Tryz.isAgg102
  z27 := Tryz.sizeOf102
  v27 := Tryz.zeroValue102
  t29 := Tryz.underlying9
  a29 := Tryz.isAgg9
  z29 := Tryz.sizeOf9
  v29 := Tryz.zeroValue9
  t32 := Tryz.underlying187
  a32 := Tryz.isAgg187
  z32 := Tryz.sizeOf187
  v32 := Tryz.zeroValue187
  t35 := Tryz.underlying207
  a35 := Tryz.isAgg207
  z35 := Tryz.sizeOf207
  v35 := Tryz.zeroValue207
  t36 := Tryz.underlying208
  a36 := Tryz.isAgg208
  z36 := Tryz.sizeOf208
  v36 := Tryz.zeroValue208
  t41 := Tryz.underlying183
  a41 := Tryz.isAgg183
  z41 := Tryz.sizeOf183
  v41 := Tryz.zeroValue183
  t44 := Tryz.underlying214
  a44 := Tryz.isAgg214
  z44 := Tryz.sizeOf214
  v44 := Tryz.zeroValue214
  t46 := Tryz.underlying216
  a46 := Tryz.isAgg216
  z46 := Tryz.sizeOf216
  v46 := Tryz.zeroValue216
  t53 := Tryz.underlying227
  a53 := Tryz.isAgg227
  z53 := Tryz.sizeOf227
  v53 := Tryz.zeroValue227
  t57 := Tryz.underlying231
  a57 := Tryz.isAgg231
  z57 := Tryz.sizeOf231
  v57 := Tryz.zeroValue231
  t63 := Tryz.underlying238
  a63 := Tryz.isAgg238
  z63 := Tryz.sizeOf238
  v63 := Tryz.zeroValue238
  t64 := Tryz.underlying157
  a64 := Tryz.isAgg157
  z64 := Tryz.sizeOf157
  v64 := Tryz.zeroValue157 }
end Go.Proofs

namespace Go.Proofs.YtenbdoceaabecaaGreat
open Go.ChangeShapes Go.WideShapes Go.ChangeAt Go.RowKit Go.Maps Go.Sort Go.Shelf Go.Proofs
set_option linter.unusedVariables false
set_option linter.unusedSimpArgs false
def mkB (k : List UInt8) : ByteArray := ⟨k.toArray⟩
theorem key_mkB (k : List UInt8) : keyB (mkB k) = k := rfl
theorem mk_keyB (p : ByteArray) : mkB (keyB p) = p := ba_mk p
def sortB (l : List ByteArray) : List ByteArray := ((l.map keyB).mergeSort leB).map mkB
theorem strC_mk (ss : List (List UInt8)) : strC (ss.map mkB) = ss.map encStr := by unfold strC; rw [List.map_map]; rfl
theorem strC_key (l : List ByteArray) : strC l = (l.map keyB).map encStr := by
  unfold strC; rw [List.map_map]
  exact List.map_congr_left fun p _ => by show Value.string p = Value.string (mkB (keyB p)); rw [mk_keyB]
theorem leB_tr : ∀ a b c : List UInt8, leB a b = true → leB b c = true → leB a c = true := fun a b c h1 h2 => by
  simp only [leB, decide_eq_true_eq] at *; exact List.le_trans h1 h2
theorem leB_tot : ∀ a b : List UInt8, (leB a b || leB b a) = true := fun a b => by
  simp only [leB, Bool.or_eq_true, decide_eq_true_eq]; exact List.le_total a b
theorem nodup_keyB {l : List ByteArray} (h : l.Nodup) : (l.map keyB).Nodup := by
  rw [List.Nodup, List.pairwise_map]
  exact h.imp fun {a b} hab e => hab (keyB_inj e)
theorem sortB_sorted {l : List ByteArray} (h : l.Nodup) : (sortB l).Pairwise ltP := by
  unfold sortB
  rw [List.pairwise_map]
  have h1 := List.pairwise_mergeSort leB_tr leB_tot (l.map keyB)
  have hn : ((l.map keyB).mergeSort leB).Nodup := ((List.mergeSort_perm _ leB).nodup_iff).2 (nodup_keyB h)
  refine (List.Pairwise.and h1 hn).imp fun {a b} hab => ?_
  show keyB (mkB a) < keyB (mkB b)
  rw [key_mkB, key_mkB]
  have := hab.1
  simp only [leB, decide_eq_true_eq] at this
  exact Decidable.byContradiction fun hc => hab.2 (List.le_antisymm this (List.not_lt.1 hc))
theorem sortB_mem {l : List ByteArray} (x : ByteArray) : x ∈ sortB l ↔ x ∈ l := by
  unfold sortB
  rw [List.mem_map]
  constructor
  · rintro ⟨k, hk, rfl⟩
    rw [(List.mergeSort_perm _ leB).mem_iff, List.mem_map] at hk
    obtain ⟨p, hp, rfl⟩ := hk
    rw [mk_keyB]; exact hp
  · intro hx
    exact ⟨keyB x, (List.mergeSort_perm _ leB).mem_iff.2 (List.mem_map.2 ⟨x, hx, rfl⟩), mk_keyB x⟩
theorem srt_nodup {l : List ByteArray} (h : l.Pairwise ltP) : l.Nodup := by
  refine List.Pairwise.imp (fun {a b} hab => ?_) h
  intro e
  exact ltP_irrefl a (by rw [← e] at hab; exact hab)
theorem srt_ext {l m : List ByteArray} (hl : l.Pairwise ltP) (hm : m.Pairwise ltP) (h : ∀ x, x ∈ l ↔ x ∈ m) : l = m :=
  List.Perm.eq_of_pairwise (le := ltP) (fun a b _ _ h1 h2 => absurd (ltP_trans h1 h2) (ltP_irrefl a)) hl hm ((List.perm_ext_iff_of_nodup (srt_nodup hl) (srt_nodup hm)).2 h)
theorem sortS_call {B : Nat} {W : World} {v : Value} {l : List ByteArray} (h : StrAt B W v l) (hl : l.length ≤ 4000000000000) :
    Calls Tryz.prog 81 #[v] W fun e w' => e = .returned (.tuple #[]) ∧ StrAt B w' v (sortB l) ∧ W.grownBy w' v.ownBlock := by
  have hlen : (sortB l).length = l.length := by unfold sortB; simp
  rcases h.2 with ⟨rfl, hz⟩ | ⟨gb, cap, cur, rfl, hbase, hgb, r1, r2, r3, r4⟩
  · have hss : l = [] := List.eq_nil_of_length_eq_zero hz
    subst hss
    refine (AnyM.slices_Sort_string_none Tryz.sortT none 0 W).mono ?_
    rintro e w' ⟨rfl, rfl⟩
    exact ⟨rfl, by rw [show sortB [] = [] by unfold sortB; simp]; exact h, World.grownBy.refl _ _⟩
  · rw [strC_key, ← List.length_map (f := keyB)] at r4
    have hH : Holds encStr W gb 0 (l.map keyB).toArray := holds_of_block hgb (by simpa using r4)
    have hgl : gb < W.heap.size := (Array.getElem?_eq_some_iff.1 hgb).1
    have hc := AnyM.slices_Sort_string Tryz.sortT gb 0 cap (l.map keyB) W hH hgl (by simp; omega)
    rw [List.length_map] at hc
    refine hc.mono ?_
    rintro e w' ⟨rfl, nn, os, rfl⟩
    refine ⟨rfl, ?_, grownBy_sorted _⟩
    have := ownsRow_sorted (w := W) (n := nn) (os := os) (ss := l.map keyB) (ts := (l.map keyB).mergeSort leB) (e := 9) (List.length_mergeSort ..) hbase hgb (by simpa using r1) r2 r3
    unfold StrAt
    rw [hlen]
    unfold sortB
    rw [strC_mk]
    rw [List.length_map] at this
    exact this
end Go.Proofs.YtenbdoceaabecaaGreat

namespace Go.Proofs.YtenbdoceaabecaaGreat
open Go.ChangeShapes Go.WideShapes Go.ChangeAt Go.RowKit Go.Maps Go.Sort Go.Shelf Go.Proofs
set_option linter.unusedVariables false
set_option linter.unusedSimpArgs false
/-- rising texts, told in a new row -/
def TextsPost (w : World) (P : ByteArray → Prop) (e : Ending) (w' : World) : Prop := ∃ v l, e = .returned v ∧ l.Pairwise ltP ∧ (∀ x, x ∈ l ↔ P x) ∧ StrAt w.heap.size w' v l ∧ Kept (fun _ => False) w w'
section
variable {Z : Nat → Prop} {w w' : World} {q : TB} {M : TM} {c : Nat} {D E : DV}
theorem keys_texts {k : Nat} {E0 : DV} (hown : w.ownsMap Tryz.prog 9 tok k c E0) {ss : List (List UInt8)} (h : ss.Perm (strKeys E0)) : ss.Nodup ∧ ∀ x, x ∈ ss ↔ (lookV E0 (.string x)).isSome = true := by
  obtain ⟨es, rfl, hp⟩ := hown.tidy keyS
  obtain ⟨es', he, hk⟩ := hown.keysOf
  obtain rfl : es = es' := by simpa using he
  have hk' : ∀ p ∈ es, ∃ x, p.1 = .string x := by
    intro p hp
    obtain ⟨key, hkey⟩ := hk p hp
    obtain ⟨x, _, h2, _⟩ := keyOf_string_inv hkey
    exact ⟨_, h2⟩
  have hnd : (strKeys (.map es : DV)).Nodup := by
    show (es.map fun p => strOf p.1).Nodup
    refine List.pairwise_map.2 (hp.imp_of_mem fun {p q} hp' hq' hne e => hne ?_)
    obtain ⟨a, ha⟩ := hk' p hp'
    obtain ⟨b, hb⟩ := hk' q hq'
    rw [ha, hb] at e ⊢
    exact congrArg _ e
  refine ⟨h.nodup_iff.2 hnd, fun x => ?_⟩
  rw [h.mem_iff, lookV_isSome, has_eq, List.any_eq_true]
  show x ∈ (es.map fun p => strOf p.1) ↔ _
  rw [List.mem_map]
  constructor
  · rintro ⟨p, hp', rfl⟩
    obtain ⟨a, ha⟩ := hk' p hp'
    exact ⟨p, hp', by rw [ha]; exact WideAt.sameKey_self trivial⟩
  · rintro ⟨p, hp', hs⟩
    obtain ⟨a, ha⟩ := hk' p hp'
    rw [ha] at hs
    have := WideAt.sameKey_eq hs
    injection this with this
    exact ⟨p, hp', by rw [ha]; exact this⟩
theorem keysT_call (mb : Nat) (W : World) : Calls Tryz.prog 85 #[.map (some mb)] W fun e w' => e = .returned (.func (.func 111) #[] #[.pointer (some ⟨W.heap.size, 0, none⟩)]) ∧ w' = W.alloc (.cells #[.map (some mb)] 83) :=
  (callsIn_wide (n := 6)).1 (AnyZ.keys_in Tryz.keysT Fence.wide 6 trivial rfl (some mb) W)
theorem sortsT (m : Nat) : AnyZ.SortsIn Tryz.prog Tryz.sortedT_ren Fence.wide m :=
  ⟨fun blk off cap ss W hH hblk hsz => callsIn_wide.2 (AnyM.slices_Sort_string Tryz.sortT blk off cap ss W hH hblk hsz),
   fun p cap W => callsIn_wide.2 (AnyM.slices_Sort_string_none Tryz.sortT p cap W)⟩
set_option maxHeartbeats 1000000 in
theorem sortedT_call {W : World} {k : Nat} {E0 : DV} (hown : W.ownsMap Tryz.prog 9 tok k c E0) (hN : size E0 ≤ 4000000000000) :
    Calls Tryz.prog 84 #[.func (.func 111) #[] #[.pointer (some ⟨W.heap.size, 0, none⟩)]] (W.alloc (.cells #[.map (some k)] 83)) (TextsPost (W.alloc (.cells #[.map (some k)] 83)) (fun x => (lookV E0 (.string (keyB x))).isSome = true)) := by
  have hseq : SeqGives Fence.wide 2 Tryz.prog 111 #[.pointer (some ⟨W.heap.size, 0, none⟩)] encStr (fun ss => ss.Perm (strKeys E0)) (size E0) (W.alloc (.cells #[.map (some k)] 83)) :=
    AnyZ.keys_gives (ρ := Tryz.keysT_ren) { Tryz.keysT with } Fence.wide _ trivial rfl (by omega) W.heap.size k c E0 _ (by simp) (by simp) (hown.alloc _)
  have h := AnyZ.sorted_in Tryz.sortedT Fence.wide 5 trivial trivial trivial trivial rfl (by omega) (sortsT _) (enters_of Tryz.func81 (by kernel_rfl) rfl) 111 #[.pointer (some ⟨W.heap.size, 0, none⟩)] trivial (enters_of Tryz.func111 (by kernel_rfl) rfl) _ _ (by unfold maxLen; omega) (by omega) _ hseq
  refine ((callsIn_wide (n := 5)).1 h).mono ?_
  rintro e w' ⟨v, ss, rfl, hS, hrow, _, hb⟩
  obtain ⟨hnd, hmem⟩ := keys_texts hown hS
  have hs1 : sortB (ss.map mkB) = (ss.mergeSort leB).map mkB := by
    unfold sortB
    rw [List.map_map, show keyB ∘ mkB = id from rfl, List.map_id]
  have hnd' : (ss.map mkB).Nodup := by
    rw [List.Nodup, List.pairwise_map]
    exact hnd.imp fun {a b} hab e => hab (by have := congrArg keyB e; exact this)
  refine ⟨v, sortB (ss.map mkB), rfl, sortB_sorted hnd', fun x => ?_, ?_, ?_⟩
  · rw [sortB_mem, List.mem_map]
    show _ ↔ (lookV E0 (.string (keyB x))).isSome = true
    rw [← hmem]
    constructor
    · rintro ⟨y, hy, rfl⟩; exact hy
    · intro hx; exact ⟨keyB x, hx, mk_keyB x⟩
  · rw [hs1]
    unfold StrAt
    rw [strC_mk, List.length_map, List.length_mergeSort]
    exact hrow
  · exact ⟨hb.os, hb.tape, hb.output, hb.size, fun k hk _ => hb.block k hk⟩
set_option maxRecDepth 100000 in
set_option maxHeartbeats 1000000 in
theorem paths_any (h : TAt Z w q M c) (hc : c ≤ 4000000000000) :
    Calls Tryz.prog 45 #[.pointer (some ⟨q.t, 0, none⟩)] w (TextsPost w (fun x => (M.N (keyB x)).isSome = true)) := by
  obtain ⟨D, E, h⟩ := h
  obtain ⟨c0, c1, c2, f⟩ := h.three
  have HD := Lib.hid h
  have HK := Lib.hid (keysT_call q.n w)
  have HS := Lib.hid (sortedT_call h.n (Nat.le_trans h.n.size_le hc))
  clear h
  go_enter Tryz.func45, Tryz.ntmps45
  go_wp2_with fail
  refine HK.out.mono ?_
  rintro e w1 ⟨rfl, rfl⟩
  go_wp2_with fail
  refine HS.out.mono ?_
  rintro e w2 ⟨v, l, rfl, hs, hm, hv, hk⟩
  have HK2 := Lib.hid (((Kept.refl _ w).alloc _).trans hk)
  have HV := Lib.hid (row_mono hv (show w.heap.size ≤ _ by simp))
  clear hk hv
  go_wp2_with fail
  go_ret
  exact ⟨v, l, rfl, hs, fun x => by rw [hm x, (HD.out.N _).same], HV.out, HK2.out⟩
def SessPost (w : World) (M : TM) (s : Int) (e : Ending) (w' : World) : Prop := ∃ t p, e = .returned (.tuple #[.int .i64 t, .string p, .bool (M.S s).isSome]) ∧ (M.S s = some (t, p) ∨ M.S s = none) ∧ Kept (fun _ => False) w w'
set_option maxRecDepth 100000 in
set_option maxHeartbeats 1000000 in
theorem session_any (h : TAt Z w q M c) (s : Int) (hs : -9223372036854775808 ≤ s ∧ s ≤ 9223372036854775807) :
    Calls Tryz.prog 44 #[.pointer (some ⟨q.t, 0, none⟩), .int .i64 s] w (SessPost w M s) := by
  obtain ⟨D, E, h⟩ := h
  obtain ⟨c0, c1, c2, f⟩ := h.three
  have hrun := h.lookSess s (by simp [Lit.wf, IntKind.min, IntKind.max, IntKind.bits, IntKind.signed]; omega)
  rw [h.S s] at hrun
  clear h
  cases hM : M.S s with
  | none =>
    rw [hM] at hrun
    simp only [Option.map_none, Option.getD_none, Option.isSome_none, sess0] at hrun
    go_enter Tryz.func44, Tryz.ntmps44
    go_wp2_with fail
    go_quiet (fail)
    go_wp2_with fail
    go_ret3
    exact ⟨_, _, by rw [hM]; rfl, .inr hM, ((Kept.refl _ w).alloc _).drewN _⟩
  | some tp =>
    obtain ⟨t, p⟩ := tp
    rw [hM] at hrun
    simp only [Option.map_some, Option.getD_some, Option.isSome_some, sessV] at hrun
    go_enter Tryz.func44, Tryz.ntmps44
    go_wp2_with fail
    go_quiet (fail)
    go_wp2_with fail
    go_ret3
    exact ⟨_, _, by rw [hM]; rfl, .inl hM, ((Kept.refl _ w).alloc _).drewN _⟩
/-- nobody owns nothing -/
theorem owned_zero (h : TAt Z w q M c) : Calls Tryz.prog 42 #[.pointer (some ⟨q.t, 0, none⟩), .int .i64 0] w fun e w' => e = .returned (.slice none 0 0) ∧ w' = w := by
  go_enter Tryz.func42, Tryz.ntmps42
  go_wp2_with fail
  go_ret
  exact ⟨rfl, rfl⟩
end
end Go.Proofs.YtenbdoceaabecaaGreat
