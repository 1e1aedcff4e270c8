/- Expired, All. -/
import Derived.Test.YtlfcccckghnffaaSb
import Derived.Test.YtlfcccckghnffaaSq
import Derived.Test.YtlfcccckghnffaaShelf
import Derived.Shelf.SortM.Plain
import Derived.Shelf.SortM.SortNone
import Derived.Lib.SlKeysI
namespace Go.Proofs.Ytlfcccckghnffaa
open Go.ChangeShapes Go.WideShapes Go.ChangeAt Go.RowKit Go.Maps Go.Sort Go.Shelf Go.Proofs
set_option linter.unusedVariables false
set_option linter.unusedSimpArgs false
abbrev ZRow (B : Nat) (w : World) (v : Value) (l : List Int) : Prop := w.ownsRow B 3 1 v l.length (l.map encZ)
section
variable {w w' : World} {q : SQ} {L : SL} {c : Nat} {D : DV} {E : Int → DV}
/-- the numbers in a bucket, whatever order -/
theorem keys_bucket {k : Nat} {E0 : DV} (hown : w.ownsMap Try.prog 3 tok k c E0) {ss : List Int} (h : ss.Perm (intKeys E0)) : ss.Nodup ∧ ∀ x, x ∈ ss ↔ (lookV E0 (.int .i64 x)).isSome = true := by
  obtain ⟨es, rfl, hp⟩ := hown.tidy keyI
  obtain ⟨es', he, hk⟩ := hown.keysOf
  obtain rfl : es = es' := by simpa using he
  have hk' : ∀ p ∈ es, ∃ x, p.1 = .int .i64 x := by
    intro p hp
    obtain ⟨key, hkey⟩ := hk p hp
    obtain ⟨x, _, h2, _⟩ := keyOf_i64 Try.underlying3 hkey
    exact ⟨x, h2⟩
  have hnd : (intKeys (.map es : DV)).Nodup := by
    show (es.map fun p => Go.intOf p.1).Nodup
    refine List.pairwise_map.2 (hp.imp_of_mem fun {p q} hp' hq' hne e => hne ?_)
    obtain ⟨a, ha⟩ := hk' p hp'
    obtain ⟨b, hb⟩ := hk' q hq'
    rw [ha, hb] at e ⊢
    exact congrArg _ e
  refine ⟨h.nodup_iff.2 hnd, fun x => ?_⟩
  rw [h.mem_iff, lookV_isSome, has_eq, List.any_eq_true]
  show x ∈ (es.map fun p => Go.intOf p.1) ↔ _
  rw [List.mem_map]
  constructor
  · rintro ⟨p, hp', rfl⟩
    obtain ⟨a, ha⟩ := hk' p hp'
    exact ⟨p, hp', by rw [ha]; simp [Lit.sameKey, Go.intOf]⟩
  · rintro ⟨p, hp', hs⟩
    obtain ⟨a, ha⟩ := hk' p hp'
    rw [ha] at hs
    exact ⟨p, hp', by rw [ha]; simpa [Lit.sameKey, Go.intOf] using hs⟩
/-- maps.Keys of a bucket, and slices.AppendSeq -/
theorem keys_call (mb : Nat) (W : World) : Calls Try.prog 26 #[.map (some mb)] W fun e w' => e = .returned (.func (.func 33) #[] #[.pointer (some ⟨W.heap.size, 0, none⟩)]) ∧ w' = W.alloc (.cells #[.map (some mb)] 53) :=
  (callsIn_wide (n := 6)).1 (AnyZI.keys_in Try.keysA Fence.wide 6 trivial rfl (some mb) W)
theorem append_call {W : World} {k : Nat} {E0 : DV} (hown : W.ownsMap Try.prog 3 tok k c E0) (B0 : Nat) (s0 : Value) (l0 : List Int) (hB0 : B0 ≤ W.heap.size) (hs : ZRow B0 W s0 l0) (hN : l0.length + size E0 ≤ 1000000) :
    Calls Try.prog 25 #[s0, .func (.func 33) #[] #[.pointer (some ⟨W.heap.size, 0, none⟩)]] (W.alloc (.cells #[.map (some k)] 53)) fun e w' =>
      ∃ (v : Value) (ss : List Int), e = .returned v ∧ ss.Perm (intKeys E0) ∧ ZRow B0 w' v (l0 ++ ss) ∧ (∀ j, v.ownBlock = some j → s0.ownBlock = some j ∨ W.heap.size < j) ∧ (W.alloc (.cells #[.map (some k)] 53)).grownBy w' s0.ownBlock := by
  have hbl := hown.lt
  have hseq : SeqGives Fence.wide 5 Try.prog 33 #[.pointer (some ⟨W.heap.size, 0, none⟩)] encZ (fun ss => ss.Perm (intKeys E0)) (size E0) (W.alloc (.cells #[.map (some k)] 53)) :=
    AnyZI.keys_gives (ρ := Try.keysA_ren) { Try.keysA with } Fence.wide 5 trivial rfl (by omega) W.heap.size k c E0 _ (by simp) (by simp) (hown.alloc _)
  refine ((callsIn_wide (n := 6)).1 (appendSeq_on (ρ := Try.appA_ren) Try.appA Fence.wide 6 trivial rfl (by omega) 33 #[.pointer (some ⟨W.heap.size, 0, none⟩)] trivial (enters_of Try.func33 (by kernel_rfl) rfl) _ _ _ hseq s0 B0 l0 (by simp; omega) (hs.alloc _) (by unfold maxLen; omega) (by omega))).mono ?_
  rintro e w' ⟨v, ss, rfl, hS, hrow, hvb, hg⟩
  refine ⟨v, ss, rfl, hS, hrow, fun j hj => ?_, hg⟩
  rcases hvb j hj with h | h
  · exact .inl h
  · right; simp at h; omega
theorem sort_call {B : Nat} {W : World} {v : Value} {l : List Int} (h : ZRow B W v l) (hl : l.length ≤ 1000000) :
    Calls Try.prog 27 #[v] W fun e w' => e = .returned (.tuple #[]) ∧ ZRow B w' v (l.mergeSort leI) ∧ W.grownBy w' v.ownBlock := by
  rcases h.2 with ⟨rfl, hz⟩ | ⟨gb, cap, cur, rfl, hbase, hgb, r1, r2, r3, r4⟩
  · have hss : l = [] := List.eq_nil_of_length_eq_zero hz
    subst hss
    refine (AnyM.slices_Sort_int_none Try.sortA none 0 W).mono ?_
    rintro e w' ⟨rfl, rfl⟩
    exact ⟨rfl, by simpa using h, World.grownBy.refl _ _⟩
  · have hH : Holds encZ W gb 0 l.toArray := holds_of_block_i hgb (by simpa using r4)
    have hgl : gb < W.heap.size := (Array.getElem?_eq_some_iff.1 hgb).1
    refine (AnyM.slices_Sort_int Try.sortA gb 0 cap l W hH hgl (by omega)).mono ?_
    rintro e w' ⟨rfl, nn, os, rfl⟩
    refine ⟨rfl, ?_, grownBy_sorted_i _⟩
    have := ownsRow_sorted_i (w := W) (n := nn) (os := os) (ss := l) (ts := l.mergeSort leI) (e := 3) (List.length_mergeSort ..) hbase hgb r1 r2 r3
    unfold ZRow
    rw [List.length_mergeSort]
    exact this
theorem own_lt {B : Nat} {v : Value} {l : List Int} (h : ZRow B w v l) {k : Nat} (e : v.ownBlock = some k) : B ≤ k ∧ k < w.heap.size := h.lt k e
theorem zrow_kept {X : Nat → Prop} {B : Nat} {v : Value} {l : List Int} (h : ZRow B w v l) (hk : Kept X w w') (hx : ∀ k, v.ownBlock = some k → ¬ X k) : ZRow B w' v l := by
  refine ⟨h.1, ?_⟩
  rcases h.2 with h2 | ⟨g, cap, cur, rfl, hb, hh, r⟩
  · exact .inl h2
  · exact .inr ⟨g, cap, cur, rfl, hb, by rw [hk.block g (lt_of_block hh) (hx g rfl)]; exact hh, r⟩
theorem few_of {l : List Int} (hn : l.Nodup) (hL : SlOk L) (h : ∀ x ∈ l, ∃ s, getL L x = some s) : l.length ≤ 16 := by
  have := sub_len l (allL L) hn (fun x hx => by
    obtain ⟨s, hs⟩ := h x hx
    exact List.mem_map.2 ⟨s, getL_mem hs, getL_id hs⟩)
  rw [length_all] at this
  have := hL.few
  omega
theorem exp_sorted {l : List Int} (hL : SlOk L) {now : Int} (hn : l.Nodup) (h : ∀ x, x ∈ l ↔ ∃ s, getL L x = some s ∧ s.dl ≤ now) : l.mergeSort leI = expL L now := by
  have hp := exp_pairwise hL.up now
  have h2 : l.Perm (expL L now) := (List.perm_ext_iff_of_nodup hn (hp.imp (fun h => by omega))).2 fun x => by
    rw [h, mem_exp]
    constructor
    · rintro ⟨s, h1, h2⟩; exact ⟨s, getL_mem h1, h2, getL_id h1⟩
    · rintro ⟨s, h1, h2, rfl⟩; exact ⟨s, getL_of_mem hL.up h1, h2⟩
  rw [mergeSort_of_perm_i h2]
  have tr : ∀ a b c : Int, leI a b = true → leI b c = true → leI a c = true := fun a b c h1 h2 => by simp only [leI, decide_eq_true_eq] at *; exact Int.le_trans h1 h2
  have tot : ∀ a b : Int, (leI a b || leI b a) = true := fun a b => by simp only [leI, Bool.or_eq_true, decide_eq_true_eq]; exact Int.le_total a b
  refine List.Perm.eq_of_pairwise (le := fun a b => leI a b = true) (fun a b _ _ h1 h2 => ?_) (List.pairwise_mergeSort tr tot _) (hp.imp (fun h => by simp only [leI, decide_eq_true_eq]; omega)) (List.mergeSort_perm _ leI)
  simp only [leI, decide_eq_true_eq] at h1 h2
  exact Int.le_antisymm h1 h2
def RowPost (w : World) (l : List Int) (e : Ending) (w' : World) : Prop := ∃ v, e = .returned v ∧ ZRow w.heap.size w' v l ∧ Kept (fun _ => False) w w'
set_option maxRecDepth 100000 in
set_option maxHeartbeats 2000000 in
theorem exp_any (h : SAt w q L c) (now : Int) (hi : I64 now) :
    Calls Try.prog 13 #[.pointer (some ⟨q.t, 0, none⟩), .int .i64 now] w (RowPost w (expL L now)) := by
  obtain ⟨D, E, h⟩ := h
  obtain ⟨c0, f⟩ := h.two
  have HD := Lib.hid h
  have hlt := h.lt _ (.inl rfl)
  have hown := h.m
  have hmt := h.mt
  clear h
  go_enter Try.func13, Try.ntmps13
  go_wp2_with (first
    | (at_range; refine wpList_range_own _ rfl _ 46 rfl 3 53 keyI Try.underlying46 _ q.m c _ rfl hown ?_; intro w0 hrg0 hg0 hs0)
    | go_in)
  go_frame
  go_loopw [5] (fun v5 wr => ∃ (left : Lit → Bool) (cnt : Nat) (l : List Int), wr.ranges Try.prog 3 tok q.m w.heap.size c D left cnt ∧ Kept (fun _ => False) w wr ∧ ZRow (w.heap.size + 1) wr v5 l ∧ l.Nodup ∧
      (∀ x, x ∈ l ↔ ∃ s, getL L x = some s ∧ s.dl ≤ now ∧ left (.int .i64 s.dl) = false))
    (fun _ wr => wr.rangeLeft q.m w.heap.size)
  case atStart =>
    refine ⟨_, _, [], hrg0, (Kept.of_grownBy hg0).mono (fun k _ e => by simp at e), World.ownsRow_nil _ _ _ _, List.nodup_nil, fun x => ?_⟩
    constructor
    · intro hx; cases hx
    · rintro ⟨s, hs, h1, h2⟩
      obtain ⟨k, hk, _⟩ := HD.out.find hs
      have h3 := lookV_isSome D (.int .i64 s.dl)
      rw [HD.out.D, hk, h2] at h3; cases h3
  case round =>
    obtain ⟨left, cnt, l, hrg, hkw, hv, hnd, hI⟩ := hrel
    have HI := Lib.hid hI
    have HK := Lib.hid hkw
    have HV := Lib.hid hv
    have HN := Lib.hid hnd
    have HF := Lib.hid (few_of hnd HD.out.ok (fun x hx => by obtain ⟨s, hs, _⟩ := (hI x).1 hx; exact ⟨s, hs⟩))
    clear hI hkw hv hnd
    go_wp2_with (first
      | (at_next; refine wpList_next_ranges _ rfl _ rfl 3 keyI tok (fun x : Int => Value.int .i64 x) id (fun key kl hkey => by obtain ⟨x, rfl, _⟩ := keyOf_int_inv Try.underlying3 hkey; exact ⟨x, rfl⟩) (fun v _ _ => ⟨v, rfl⟩) q.m w.heap.size c _ _ _ rfl hrg ?_ ?_)
      | go_in)
    · intro _ hl0
      have hmem : ∀ x, x ∈ l ↔ ∃ s, getL L x = some s ∧ s.dl ≤ now := fun x => by
        rw [HI.out x]
        constructor
        · rintro ⟨s, h1, h2, _⟩; exact ⟨s, h1, h2⟩
        · rintro ⟨s, h1, h2⟩; exact ⟨s, h1, h2, hl0 _⟩
      have HS := Lib.hid (exp_sorted HD.out.ok HN.out hmem)
      clear hmem hl0
      go_wp2_with (first
        | (go_at_call 27; refine (sort_call HV.out (by have := HF.out; omega)).mono ?_; rintro e w2 ⟨rfl, hr2, hg2⟩; have HR2 := Lib.hid hr2; have HG2 := Lib.hid hg2; clear hr2 hg2)
        | go_in)
      go_ret
      refine ⟨_, rfl, ?_, HK.out.trans' (Kept.of_grownBy HG2.out) (fun k hk e => by have := own_lt HV.out e.symm; omega)⟩
      have hr := HR2.out
      rw [HS.out] at hr
      exact ⟨hr.1, hr.2.imp id (fun ⟨g, cap, cur, e1, e2, e3⟩ => ⟨g, cap, cur, e1, by omega, e3⟩)⟩
    · intro x v kl yd yp w1 cnt1 hkey hlx hv hat hrg1 hlt1 hg1 hs1 hen
      obtain ⟨x', ex, rfl, hx⟩ := keyOf_int_inv Try.underlying3 hkey
      cases ex
      obtain ⟨rfl, rfl⟩ := tok_inj hv
      have hlook := lookV_some hat
      rw [HD.out.D] at hlook
      obtain ⟨k, hk, rfl⟩ : ∃ k, q.B x = some k ∧ v = .map (some k) := by
        cases hb : q.B x with
        | none => rw [hb] at hlook; cases hlook
        | some k => rw [hb] at hlook; injection hlook with e; exact ⟨k, rfl, e.symm⟩
      have hkr : Kept (fun k => k = w.heap.size) _ w1 := kept_grown hg1 rfl
      have hkw1 : Kept (fun _ => False) w w1 := HK.out.trans' hkr (fun k hk e => by omega)
      have HK1 := Lib.hid hkw1
      have HX := Lib.hid hk
      have HV1 := Lib.hid (zrow_kept HV.out hkr (fun k hk e => by have := own_lt HV.out hk; omega))
      have HOW := Lib.hid ((HD.out.kept0 hkw1).b _ _ hk)
      have HIx : Hid (∀ k, (Lit.int .i64 k).sameKey (.int .i64 x) = true → k = x) := Lib.hid (fun k e => by
        have := WideAt.sameKey_eq e; injection this)
      have HXs : Hid ((Lit.int .i64 x).sameKey (.int .i64 x) = true) := Lib.hid (WideAt.sameKey_self (by simp [WideAt.IsKeyLit]))
      have hbig : w.heap.size + 1 ≤ w1.heap.size := hrg1.lt
      clear hkr hkw1 hlook hs1 hk
      by_cases hle : x ≤ now
      · have hkb := fun (ss : List Int) (hS : ss.Perm (intKeys (E x))) => keys_bucket HOW.out hS
        have HKB := Lib.hid hkb
        have hsz : size (E x) ≤ 16 := by
          obtain ⟨es, hE, hp⟩ := HOW.out.tidy keyI
          have h1 := hkb (intKeys (E x)) (List.Perm.refl _)
          have h2 := few_of h1.1 HD.out.ok (fun y hy => by
            have h3 := (h1.2 y).1 hy
            rw [HD.out.E _ _ HX.out] at h3
            unfold inB at h3
            cases hg : getL L y with
            | none => rw [hg] at h3; cases h3
            | some s => exact ⟨s, rfl⟩)
          rw [hE] at h2 ⊢
          simpa [intKeys, size] using h2
        have HSZ := Lib.hid hsz
        clear hkb hsz
        go_wp2_with (first
          | (go_at_call 26; refine (keys_call _ _).mono ?_; rintro e w2 ⟨rfl, rfl⟩)
          | (go_at_call 25; refine (append_call HOW.out (w.heap.size + 1) _ l hbig HV1.out (by have := HF.out; have := HSZ.out; omega)).mono ?_; rintro e w3 ⟨v3, ss, rfl, hS, hr3, hvb, hg3⟩; have HS3 := Lib.hid hS; have HR3 := Lib.hid hr3; have HVB := Lib.hid hvb; have HG3 := Lib.hid hg3; clear hS hr3 hvb hg3)
          | go_in)
        have hkk : Kept (fun _ => False) w w3 := (HK1.out.alloc _).trans' (Kept.of_grownBy HG3.out) (fun j hj e => by have := own_lt HV1.out e.symm; omega)
        have hr3 := (hrg1.alloc (.cells #[.map (some k)] 53)).kept HG3.out (fun e => by have := own_lt HV1.out e.symm; have := HD.out.m.lt; omega) (fun e => by have := own_lt HV1.out e.symm; omega)
        go_roundw
        case rel =>
          obtain ⟨hn2, hm2⟩ := HKB.out ss HS3.out
          refine ⟨_, cnt1, l ++ ss, hr3, hkk, HR3.out, ?_, fun y => ?_⟩
          · refine List.nodup_append.2 ⟨HN.out, hn2, fun a ha b hb e => ?_⟩
            subst e
            obtain ⟨s, hs, _, hl⟩ := (HI.out a).1 ha
            have h3 := (hm2 a).1 hb
            rw [HD.out.E _ _ HX.out, inB, hs] at h3
            simp only at h3
            split at h3
            · rename_i e; rw [e, hlx] at hl; cases hl
            · cases h3
          · rw [List.mem_append, HI.out y, hm2 y, HD.out.E _ _ HX.out]
            constructor
            · rintro (⟨s, hs, h1, h2⟩ | h3)
              · exact ⟨s, hs, h1, by rw [h2]; rfl⟩
              · unfold inB at h3
                cases hg : getL L y with
                | none => rw [hg] at h3; cases h3
                | some s =>
                  rw [hg] at h3
                  simp only at h3
                  split at h3
                  · rename_i e; exact ⟨s, rfl, by omega, by rw [e, HXs.out]; simp⟩
                  · cases h3
            · rintro ⟨s, hs, h1, h2⟩
              by_cases e : s.dl = x
              · right; unfold inB; rw [hs]; simp [e]
              · left
                refine ⟨s, hs, h1, ?_⟩
                have : (Lit.int .i64 s.dl).sameKey (.int .i64 x) = false := by
                  cases hh : (Lit.int .i64 s.dl).sameKey (.int .i64 x) with
                  | false => rfl
                  | true => exact absurd (HIx.out _ hh) e
                rw [this] at h2; simpa using h2
        case measure => rw [hr3.left_eq, hrg.left_eq]; exact hlt1
      · have b1 : decide (x ≤ now) = false := by simpa using hle
        go_wp2
        go_roundw
        case rel =>
          refine ⟨_, cnt1, l, hrg1, HK1.out, HV1.out, HN.out, fun y => ?_⟩
          rw [HI.out y]
          constructor
          · rintro ⟨s, hs, h1, h2⟩; exact ⟨s, hs, h1, by rw [h2]; rfl⟩
          · rintro ⟨s, hs, h1, h2⟩
            refine ⟨s, hs, h1, ?_⟩
            have : (Lit.int .i64 s.dl).sameKey (.int .i64 x) = false := by
              cases hh : (Lit.int .i64 s.dl).sameKey (.int .i64 x) with
              | false => rfl
              | true => have := HIx.out _ hh; omega
            rw [this] at h2; simpa using h2
        case measure => rw [hrg1.left_eq, hrg.left_eq]; exact hlt1
theorem all_any (h : SAt w q L c) : Calls Try.prog 14 #[.pointer (some ⟨q.t, 0, none⟩)] w (RowPost w (allL L)) := by
  have HE := Lib.hid (exp_any h 9223372036854775807 (by unfold I64; omega))
  have HL := Lib.hid (exp_all h.ok (now := 9223372036854775807) (by omega))
  clear h
  go_enter Try.func14, Try.ntmps14
  go_wp2_with (go_at_call 13; refine HE.out.mono ?_; rintro e w2 ⟨v, rfl, hr, hk⟩)
  go_ret
  rw [HL.out] at hr
  exact ⟨_, rfl, hr, hk⟩
end
end Go.Proofs.Ytlfcccckghnffaa
