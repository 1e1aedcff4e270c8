/- slices.Sort of texts; sorted texts are one list. Paths, Owned, Session. Owned. -/
import Derived.Test.YtjlffmkiiphfcaaP11
import Derived.Test.YtjlffmkiiphfcaaP35
import Derived.Test.YtjlffmkiiphfcaaP49
import Derived.Shelf.SlIter.Nil
import Derived.Shelf.SortM.Plain
import Derived.Shelf.SortM.SortNone
import Derived.Test.YtjlffmkiiphfcaaP18
namespace Go.Proofs.Ytjlffmkiiphfcaa
open Go.ChangeShapes Go.WideShapes Go.ChangeAt Go.RowKit Go.Maps Go.Sort Go.Shelf Go.Proofs
set_option linter.unusedVariables false
set_option linter.unusedSimpArgs false
def mkB (k : List UInt8) : ByteArray := ⟨k.toArray⟩
theorem key_mkB (k : List UInt8) : keyB (mkB k) = k := rfl
theorem mk_keyB (p : ByteArray) : mkB (keyB p) = p := ba_mk p
def sortB (l : List ByteArray) : List ByteArray := ((l.map keyB).mergeSort leB).map mkB
theorem strC_mk (ss : List (List UInt8)) : strC (ss.map mkB) = ss.map encStr := by unfold strC; rw [List.map_map]; rfl
theorem strC_key (l : List ByteArray) : strC l = (l.map keyB).map encStr := by
  unfold strC; rw [List.map_map]
  exact List.map_congr_left fun p _ => by show Value.string p = Value.string (mkB (keyB p)); rw [mk_keyB]
theorem leB_tr : ∀ a b c : List UInt8, leB a b = true → leB b c = true → leB a c = true := fun a b c h1 h2 => by
  simp only [leB, decide_eq_true_eq] at *; exact List.le_trans h1 h2
theorem leB_tot : ∀ a b : List UInt8, (leB a b || leB b a) = true := fun a b => by
  simp only [leB, Bool.or_eq_true, decide_eq_true_eq]; exact List.le_total a b
theorem nodup_keyB {l : List ByteArray} (h : l.Nodup) : (l.map keyB).Nodup := by
  rw [List.Nodup, List.pairwise_map]
  exact h.imp fun {a b} hab e => hab (keyB_inj e)
theorem sortB_sorted {l : List ByteArray} (h : l.Nodup) : (sortB l).Pairwise ltP := by
  unfold sortB
  rw [List.pairwise_map]
  have h1 := List.pairwise_mergeSort leB_tr leB_tot (l.map keyB)
  have hn : ((l.map keyB).mergeSort leB).Nodup := ((List.mergeSort_perm _ leB).nodup_iff).2 (nodup_keyB h)
  refine (List.Pairwise.and h1 hn).imp fun {a b} hab => ?_
  show keyB (mkB a) < keyB (mkB b)
  rw [key_mkB, key_mkB]
  have := hab.1
  simp only [leB, decide_eq_true_eq] at this
  exact Decidable.byContradiction fun hc => hab.2 (List.le_antisymm this (List.not_lt.1 hc))
theorem sortB_mem {l : List ByteArray} (x : ByteArray) : x ∈ sortB l ↔ x ∈ l := by
  unfold sortB
  rw [List.mem_map]
  constructor
  · rintro ⟨k, hk, rfl⟩
    rw [(List.mergeSort_perm _ leB).mem_iff, List.mem_map] at hk
    obtain ⟨p, hp, rfl⟩ := hk
    rw [mk_keyB]; exact hp
  · intro hx
    exact ⟨keyB x, (List.mergeSort_perm _ leB).mem_iff.2 (List.mem_map.2 ⟨x, hx, rfl⟩), mk_keyB x⟩
theorem srt_nodup {l : List ByteArray} (h : l.Pairwise ltP) : l.Nodup := by
  refine List.Pairwise.imp (fun {a b} hab => ?_) h
  intro e
  exact ltP_irrefl a (by rw [← e] at hab; exact hab)
theorem srt_ext {l m : List ByteArray} (hl : l.Pairwise ltP) (hm : m.Pairwise ltP) (h : ∀ x, x ∈ l ↔ x ∈ m) : l = m :=
  List.Perm.eq_of_pairwise (le := ltP) (fun a b _ _ h1 h2 => absurd (ltP_trans h1 h2) (ltP_irrefl a)) hl hm ((List.perm_ext_iff_of_nodup (srt_nodup hl) (srt_nodup hm)).2 h)
theorem sortS_call {B : Nat} {W : World} {v : Value} {l : List ByteArray} (h : StrAt B W v l) (hl : l.length ≤ 4000000000000) :
    Calls Try.prog 48 #[v] W fun e w' => e = .returned (.tuple #[]) ∧ StrAt B w' v (sortB l) ∧ W.grownBy w' v.ownBlock := by
  have hlen : (sortB l).length = l.length := by unfold sortB; simp
  rcases h.2 with ⟨rfl, hz⟩ | ⟨gb, cap, cur, rfl, hbase, hgb, r1, r2, r3, r4⟩
  · have hss : l = [] := List.eq_nil_of_length_eq_zero hz
    subst hss
    refine (AnyM.slices_Sort_string_none Try.sortT none 0 W).mono ?_
    rintro e w' ⟨rfl, rfl⟩
    exact ⟨rfl, by rw [show sortB [] = [] by unfold sortB; simp]; exact h, World.grownBy.refl _ _⟩
  · rw [strC_key, ← List.length_map (f := keyB)] at r4
    have hH : Holds encStr W gb 0 (l.map keyB).toArray := holds_of_block hgb (by simpa using r4)
    have hgl : gb < W.heap.size := (Array.getElem?_eq_some_iff.1 hgb).1
    have hc := AnyM.slices_Sort_string Try.sortT gb 0 cap (l.map keyB) W hH hgl (by simp; omega)
    rw [List.length_map] at hc
    refine hc.mono ?_
    rintro e w' ⟨rfl, nn, os, rfl⟩
    refine ⟨rfl, ?_, grownBy_sorted _⟩
    have := ownsRow_sorted (w := W) (n := nn) (os := os) (ss := l.map keyB) (ts := (l.map keyB).mergeSort leB) (e := 9) (List.length_mergeSort ..) hbase hgb (by simpa using r1) r2 r3
    unfold StrAt
    rw [hlen]
    unfold sortB
    rw [strC_mk]
    rw [List.length_map] at this
    exact this
end Go.Proofs.Ytjlffmkiiphfcaa

namespace Go.Proofs.Ytjlffmkiiphfcaa
open Go.ChangeShapes Go.WideShapes Go.ChangeAt Go.RowKit Go.Maps Go.Sort Go.Shelf Go.Proofs
set_option linter.unusedVariables false
set_option linter.unusedSimpArgs false
/-- rising texts, told in a new row -/
def TextsPost (w : World) (P : ByteArray → Prop) (e : Ending) (w' : World) : Prop := ∃ v l, e = .returned v ∧ l.Pairwise ltP ∧ (∀ x, x ∈ l ↔ P x) ∧ StrAt w.heap.size w' v l ∧ Kept (fun _ => False) w w'
section
variable {Z : Nat → Prop} {w w' : World} {q : TB} {M : TM} {c : Nat} {D E : DV}
theorem keys_texts {k : Nat} {E0 : DV} (hown : w.ownsMap Try.prog 9 tok k c E0) {ss : List (List UInt8)} (h : ss.Perm (strKeys E0)) : ss.Nodup ∧ ∀ x, x ∈ ss ↔ (lookV E0 (.string x)).isSome = true := by
  obtain ⟨es, rfl, hp⟩ := hown.tidy keyS
  obtain ⟨es', he, hk⟩ := hown.keysOf
  obtain rfl : es = es' := by simpa using he
  have hk' : ∀ p ∈ es, ∃ x, p.1 = .string x := by
    intro p hp
    obtain ⟨key, hkey⟩ := hk p hp
    obtain ⟨x, _, h2, _⟩ := keyOf_string_inv hkey
    exact ⟨_, h2⟩
  have hnd : (strKeys (.map es : DV)).Nodup := by
    show (es.map fun p => strOf p.1).Nodup
    refine List.pairwise_map.2 (hp.imp_of_mem fun {p q} hp' hq' hne e => hne ?_)
    obtain ⟨a, ha⟩ := hk' p hp'
    obtain ⟨b, hb⟩ := hk' q hq'
    rw [ha, hb] at e ⊢
    exact congrArg _ e
  refine ⟨h.nodup_iff.2 hnd, fun x => ?_⟩
  rw [h.mem_iff, lookV_isSome, has_eq, List.any_eq_true]
  show x ∈ (es.map fun p => strOf p.1) ↔ _
  rw [List.mem_map]
  constructor
  · rintro ⟨p, hp', rfl⟩
    obtain ⟨a, ha⟩ := hk' p hp'
    exact ⟨p, hp', by rw [ha]; exact WideAt.sameKey_self trivial⟩
  · rintro ⟨p, hp', hs⟩
    obtain ⟨a, ha⟩ := hk' p hp'
    rw [ha] at hs
    have := WideAt.sameKey_eq hs
    injection this with this
    exact ⟨p, hp', by rw [ha]; exact this⟩
theorem keysT_call (mb : Nat) (W : World) : Calls Try.prog 53 #[.map (some mb)] W fun e w' => e = .returned (.func (.func 77) #[] #[.pointer (some ⟨W.heap.size, 0, none⟩)]) ∧ w' = W.alloc (.cells #[.map (some mb)] 89) :=
  (callsIn_wide (n := 6)).1 (AnyZ.keys_in Try.keysT Fence.wide 6 trivial rfl (some mb) W)
theorem sortsT (m : Nat) : AnyZ.SortsIn Try.prog Try.sortedT_ren Fence.wide m :=
  ⟨fun blk off cap ss W hH hblk hsz => callsIn_wide.2 (AnyM.slices_Sort_string Try.sortT blk off cap ss W hH hblk hsz),
   fun p cap W => callsIn_wide.2 (AnyM.slices_Sort_string_none Try.sortT p cap W)⟩
set_option maxHeartbeats 1000000 in
theorem sortedT_call {W : World} {k : Nat} {E0 : DV} (hown : W.ownsMap Try.prog 9 tok k c E0) (hN : size E0 ≤ 4000000000000) :
    Calls Try.prog 52 #[.func (.func 77) #[] #[.pointer (some ⟨W.heap.size, 0, none⟩)]] (W.alloc (.cells #[.map (some k)] 89)) (TextsPost (W.alloc (.cells #[.map (some k)] 89)) (fun x => (lookV E0 (.string (keyB x))).isSome = true)) := by
  have hseq : SeqGives Fence.wide 2 Try.prog 77 #[.pointer (some ⟨W.heap.size, 0, none⟩)] encStr (fun ss => ss.Perm (strKeys E0)) (size E0) (W.alloc (.cells #[.map (some k)] 89)) :=
    AnyZ.keys_gives (ρ := Try.keysT_ren) { Try.keysT with } Fence.wide _ trivial rfl (by omega) W.heap.size k c E0 _ (by simp) (by simp) (hown.alloc _)
  have h := AnyZ.sorted_in Try.sortedT Fence.wide 5 trivial trivial trivial trivial rfl (by omega) (sortsT _) (enters_of Try.func48 (by kernel_rfl) rfl) 77 #[.pointer (some ⟨W.heap.size, 0, none⟩)] trivial (enters_of Try.func77 (by kernel_rfl) rfl) _ _ (by unfold maxLen; omega) (by omega) _ hseq
  refine ((callsIn_wide (n := 5)).1 h).mono ?_
  rintro e w' ⟨v, ss, rfl, hS, hrow, _, hb⟩
  obtain ⟨hnd, hmem⟩ := keys_texts hown hS
  have hs1 : sortB (ss.map mkB) = (ss.mergeSort leB).map mkB := by
    unfold sortB
    rw [List.map_map, show keyB ∘ mkB = id from rfl, List.map_id]
  have hnd' : (ss.map mkB).Nodup := by
    rw [List.Nodup, List.pairwise_map]
    exact hnd.imp fun {a b} hab e => hab (by have := congrArg keyB e; exact this)
  refine ⟨v, sortB (ss.map mkB), rfl, sortB_sorted hnd', fun x => ?_, ?_, ?_⟩
  · rw [sortB_mem, List.mem_map]
    show _ ↔ (lookV E0 (.string (keyB x))).isSome = true
    rw [← hmem]
    constructor
    · rintro ⟨y, hy, rfl⟩; exact hy
    · intro hx; exact ⟨keyB x, hx, mk_keyB x⟩
  · rw [hs1]
    unfold StrAt
    rw [strC_mk, List.length_map, List.length_mergeSort]
    exact hrow
  · exact ⟨hb.os, hb.tape, hb.output, hb.size, fun k hk _ => hb.block k hk⟩
set_option maxRecDepth 100000 in
set_option maxHeartbeats 1000000 in
theorem paths_any (h : TAt Z w q M c) (hc : c ≤ 4000000000000) :
    Calls Try.prog 24 #[.pointer (some ⟨q.t, 0, none⟩)] w (TextsPost w (fun x => (M.N (keyB x)).isSome = true)) := by
  obtain ⟨D, E, h⟩ := h
  obtain ⟨c0, c1, c2, f⟩ := h.three
  have HD := Lib.hid h
  have HK := Lib.hid (keysT_call q.n w)
  have HS := Lib.hid (sortedT_call h.n (Nat.le_trans h.n.size_le hc))
  clear h
  go_enter Try.func24, Try.ntmps24
  go_wp2_with fail
  refine HK.out.mono ?_
  rintro e w1 ⟨rfl, rfl⟩
  go_wp2_with fail
  refine HS.out.mono ?_
  rintro e w2 ⟨v, l, rfl, hs, hm, hv, hk⟩
  have HK2 := Lib.hid (((Kept.refl _ w).alloc _).trans hk)
  have HV := Lib.hid (row_mono hv (show w.heap.size ≤ _ by simp))
  clear hk hv
  go_wp2_with fail
  go_ret
  exact ⟨v, l, rfl, hs, fun x => by rw [hm x, (HD.out.N _).same], HV.out, HK2.out⟩
def SessPost (w : World) (M : TM) (s : Int) (e : Ending) (w' : World) : Prop := ∃ t p, e = .returned (.tuple #[.int .i64 t, .string p, .bool (M.S s).isSome]) ∧ (M.S s = some (t, p) ∨ M.S s = none) ∧ Kept (fun _ => False) w w'
set_option maxRecDepth 100000 in
set_option maxHeartbeats 1000000 in
theorem session_any (h : TAt Z w q M c) (s : Int) (hs : -9223372036854775808 ≤ s ∧ s ≤ 9223372036854775807) :
    Calls Try.prog 19 #[.pointer (some ⟨q.t, 0, none⟩), .int .i64 s] w (SessPost w M s) := by
  obtain ⟨D, E, h⟩ := h
  obtain ⟨c0, c1, c2, f⟩ := h.three
  have hrun := h.lookSess s (by simp [Lit.wf, IntKind.min, IntKind.max, IntKind.bits, IntKind.signed]; omega)
  rw [h.S s] at hrun
  clear h
  cases hM : M.S s with
  | none =>
    rw [hM] at hrun
    simp only [Option.map_none, Option.getD_none, Option.isSome_none, sess0] at hrun
    go_enter Try.func19, Try.ntmps19
    go_wp2_with fail
    go_quiet (fail)
    go_wp2_with fail
    go_ret3
    exact ⟨_, _, by rw [hM]; rfl, .inr hM, ((Kept.refl _ w).alloc _).drewN _⟩
  | some tp =>
    obtain ⟨t, p⟩ := tp
    rw [hM] at hrun
    simp only [Option.map_some, Option.getD_some, Option.isSome_some, sessV] at hrun
    go_enter Try.func19, Try.ntmps19
    go_wp2_with fail
    go_quiet (fail)
    go_wp2_with fail
    go_ret3
    exact ⟨_, _, by rw [hM]; rfl, .inl hM, ((Kept.refl _ w).alloc _).drewN _⟩
/-- nobody owns nothing -/
theorem owned_zero (h : TAt Z w q M c) : Calls Try.prog 18 #[.pointer (some ⟨q.t, 0, none⟩), .int .i64 0] w fun e w' => e = .returned (.slice none 0 0) ∧ w' = w := by
  go_enter Try.func18, Try.ntmps18
  go_wp2_with fail
  go_ret
  exact ⟨rfl, rfl⟩
end
end Go.Proofs.Ytjlffmkiiphfcaa

namespace Go.Proofs.Ytjlffmkiiphfcaa
open Go.ChangeShapes Go.WideShapes Go.ChangeAt Go.RowKit Go.Maps
set_option linter.unusedVariables false
set_option linter.unusedSimpArgs false
section
variable {Z : Nat → Prop} {w w' : World} {q : TB} {M : TM} {c : Nat} {D E : DV}
def OwnedBy (M : TM) (s : Int) (x : ByteArray) : Prop := ∃ nd, M.N (keyB x) = some nd ∧ nd.st.owner = s
set_option maxRecDepth 100000 in
set_option maxHeartbeats 2000000 in
theorem owned_any (h : TAt Z w q M c) (s : Int) (hs0 : s ≠ 0) (hc : c ≤ 4000000000000) :
    Calls Try.prog 18 #[.pointer (some ⟨q.t, 0, none⟩), .int .i64 s] w (TextsPost w (OwnedBy M s)) := by
  obtain ⟨D, E, h⟩ := h
  obtain ⟨c0, c1, c2, f⟩ := h.three
  have HD := Lib.hid h
  have hlt := h.lt _ (.inl rfl)
  have hown := h.n
  have hsz := h.n.size_le
  have hnt := h.nt.1
  have hb0 : (s == 0) = false := by simpa using hs0
  clear h hs0
  go_enter Try.func18, Try.ntmps18
  go_wp2_with (first
    | (at_range; refine wpList_range_own _ rfl _ 89 rfl 9 99 keyS Try.underlying89 _ q.n c _ rfl hown ?_; intro w0 hrg0 hg0 hs0')
    | go_in)
  go_frame
  go_loopw [5, 6] (fun v5 _ wr => ∃ (left : Lit → Bool) (cnt : Nat) (l : List ByteArray), wr.ranges Try.prog 9 tok q.n w.heap.size c D left cnt ∧ Kept (fun _ => False) w wr ∧ StrAt (w.heap.size + 1) wr v5 l ∧ l.length + cnt ≤ c ∧ l.Nodup ∧
      (∀ x : ByteArray, x ∈ l ↔ OwnedBy M s x ∧ left (.string (keyB x)) = false) ∧ (∀ k, left (.string k) = true → (lookV D (.string k)).isSome = true))
    (fun _ _ wr => wr.rangeLeft q.n w.heap.size)
  case atStart =>
    refine ⟨_, _, [], hrg0, (Kept.of_grownBy hg0).mono (fun k _ e => by simp at e), strAt_nil _, by simpa using hsz, List.nodup_nil, fun x => ?_, fun k hk => by rw [lookV_isSome]; exact hk⟩
    constructor
    · intro hx; cases hx
    · rintro ⟨⟨nd, h1, _⟩, h3⟩
      have h9 := (HD.out.N (keyB x)).same
      rw [h1, lookV_isSome] at h9
      have h3 : has D (.string (keyB x)) = false := h3
      rw [h3] at h9; cases h9
  case round =>
    obtain ⟨left, cnt, l, hrg, hkw, hvs, hln, hnd, hI, hJ⟩ := hrel
    have HI := Lib.hid hI
    have HJ := Lib.hid hJ
    have HV := Lib.hid hvs
    have HKW := Lib.hid hkw
    have HL := Lib.hid hln
    have HND := Lib.hid hnd
    clear hI hJ hvs hkw hln hnd
    go_wp2_with (first
      | (at_next; refine wpList_next_ranges _ rfl _ rfl 9 keyS tok (fun x : ByteArray => Value.string x) id (fun key kl hkey => by obtain ⟨x, rfl, _⟩ := keyOf_string_inv hkey; exact ⟨x, rfl⟩) (fun v _ _ => ⟨v, rfl⟩) q.n w.heap.size c _ _ _ rfl hrg ?_ ?_)
      | go_in)
    · intro _ hl0
      have HSO := Lib.hid (sortS_call HV.out (by have := HL.out; omega))
      obtain ⟨a5, c5, rfl⟩ := own_shape HV.out
      go_wp2_with fail
      refine HSO.out.mono ?_
      rintro e w5 ⟨rfl, hv5, hg5⟩
      have HV5 := Lib.hid hv5
      have HK5 : Hid (Kept (fun _ => False) w w5) := Lib.hid (HKW.out.trans' (Kept.of_grownBy hg5) (fun k hk e => by have := (own_lo HV.out e.symm).1; omega))
      have HLN : Hid ((sortB l).length = l.length) := Lib.hid (by unfold sortB; simp)
      clear hv5 hg5
      go_wp2_with fail
      go_ret
      refine ⟨_, sortB l, rfl, sortB_sorted HND.out, fun x => ?_, row_mono HV5.out (Nat.le_succ _), HK5.out⟩
      rw [sortB_mem, HI.out x, hl0]; simp
    · intro x v kl yd yp w1 cnt1 hkey hlx hv hat hrg1 hlt1 hg1 hs1 hen
      obtain ⟨x', ex, rfl, hx⟩ := keyOf_string_inv hkey
      cases ex
      obtain ⟨rfl, _⟩ := tok_inj hv
      have hlv : lookV D (.string x.data.toList) = some v := lookV_some hat
      obtain ⟨nd, av, hMs, rfl, ha⟩ : ∃ nd av, M.N x.data.toList = some nd ∧ v = nodeV nd av ∧ AclAt w Z av nd.acl := by
        rcases HD.out.look x.data.toList with ⟨nd, av, h1, h2, h3⟩ | ⟨h1, h2⟩
        · rw [hlv] at h2; injection h2 with h2; exact ⟨nd, av, h1, h2, h3⟩
        · rw [hlv] at h2; cases h2
      obtain ⟨va, vn, vc, rfl⟩ := ha.shape
      have hkr : Kept (fun k => k = w.heap.size) _ w1 := kept_grown hg1 rfl
      have hkw1 : Kept (fun _ => False) w w1 := HKW.out.trans' hkr (fun k hk e => by omega)
      have HV1 := Lib.hid ((HV.out.kept hkr (own_ne HV.out (Nat.lt_succ_self _))).kept ((Kept.refl (fun _ => False) w1).alloc (nodeO nd.data va vn vc nd.st)) (fun _ _ f => f))
      have HVN := Lib.hid (own_ne HV.out (Nat.lt_succ_self w.heap.size))
      have HVM := Lib.hid (own_ne HV.out (b := q.n) (Nat.lt_succ_of_lt (HD.out.lt _ (.inr (.inl rfl)))))
      have HK1 := Lib.hid hkw1
      have hbig : w.heap.size + 1 ≤ (w1.alloc (nodeO nd.data va vn vc nd.st)).heap.size := Nat.le_trans hrg1.lt (by simp)
      have HIx : ∀ k, (Lit.string k).sameKey (.string x.data.toList) = true → k = x.data.toList := fun k e => by
        have := WideAt.sameKey_eq e; injection this
      have HXs : (Lit.string x.data.toList).sameKey (.string x.data.toList) = true := WideAt.sameKey_self trivial
      have HNK := Lib.hid (fun (y : ByteArray) (hy : y ≠ x) => show (Lit.string y.data.toList).sameKey (.string x.data.toList) = false from by
        cases hh : (Lit.string y.data.toList).sameKey (.string x.data.toList) with
        | false => rfl
        | true => exact absurd (ba_inj (HIx _ hh)) hy)
      have hlen := HL.out
      have hll : l.length ≤ 4000000000000 := by omega
      have HLL := Lib.hid hll
      have hln1 : l.length + 1 + cnt1 ≤ c := by omega
      have HLN := Lib.hid hln1
      have HMS := Lib.hid hMs
      have hrg2 := hrg1.alloc (nodeO nd.data va vn vc nd.st)
      have HRG2 := Lib.hid hrg2
      clear hkr hkw1 hlen hll hln1 hsz hc HL hs1 hv hat hlv ha hMs
      unfold nodeV at hen
      by_cases hox : nd.st.owner = s
      · subst hox
        go_wp2_with (first
          | (at_builtin; go_loud (refine wpList_strs1 rfl _ _ rfl (w.heap.size + 1) _ l rfl HV1.out x (by first | rfl | (show Value.slice (some ⟨w1.heap.size + 1, 0, none⟩) 1 1 = Value.slice (some ⟨(w1.alloc _).heap.size, 0, none⟩) 1 1; simp)) HLL.out hbig (fun v2 w2 hv2 hg2 => ?_)); have HV2 := Lib.hid hv2; have HG2 := Lib.hid hg2; clear hv2 hg2)
          | go_in)
        have hkk : Kept (fun _ => False) w w2 := ((HK1.out.alloc _).alloc _).trans' (Kept.of_grownBy HG2.out) (fun k hk e => by have h9 := own_ge HV1.out e.symm; omega)
        have hr2 := (HRG2.out.alloc (.cells #[.string x] 9)).kept HG2.out (fun e => HVM.out _ e.symm rfl) (fun e => HVN.out _ e.symm rfl)
        go_roundw
        case rel =>
          refine ⟨_, cnt1, l ++ [x], hr2, hkk, HV2.out, by rw [List.length_append]; exact HLN.out, ?_, fun y => ?_, fun k hk => HJ.out k (by simp at hk; exact hk.1)⟩
          · refine List.nodup_append.2 ⟨HND.out, by simp, fun a ha b hb e => ?_⟩
            simp only [List.mem_singleton] at hb
            subst hb; subst e
            have := ((HI.out _).1 ha).2
            rw [hlx] at this; cases this
          · by_cases e : y = x
            · subst e
              have ho : OwnedBy M nd.st.owner y := ⟨nd, HMS.out, rfl⟩
              simp [ho, HXs]
            · have h9 := HNK.out y e
              rw [List.mem_append, List.mem_singleton, HI.out y, h9]
              simp [e]
        case measure => rw [hr2.left_eq, hrg.left_eq]; exact hlt1
      · go_wp2_with fail
        go_roundw
        case rel =>
          refine ⟨_, cnt1, l, HRG2.out, HK1.out.alloc _, HV1.out, by have := HLN.out; omega, HND.out, fun y => ?_, fun k hk => HJ.out k (by simp at hk; exact hk.1)⟩
          by_cases e : y = x
          · subst e
            rw [HI.out y]
            have ho : ¬ OwnedBy M s y := by
              rintro ⟨nd', h1, h2⟩
              have h3 : M.N (keyB y) = some nd := HMS.out
              rw [h3] at h1; injection h1 with h1
              exact hox (h1 ▸ h2)
            simp [ho]
          · have h9 := HNK.out y e
            rw [HI.out y, h9]; simp
        case measure => rw [HRG2.out.left_eq, hrg.left_eq]; exact hlt1
end
end Go.Proofs.Ytjlffmkiiphfcaa
