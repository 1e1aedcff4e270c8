/- kids. -/
import Derived.Test.YtccoeccibokecaaNo
namespace Go.Proofs.Ytccoeccibokecaa
open Go.ChangeShapes Go.WideShapes Go.ChangeAt Go.RowKit Go.Maps
set_option linter.unusedVariables false
set_option linter.unusedSimpArgs false
def strC (l : List ByteArray) : List Value := l.map Value.string
def StrAt (B : Nat) (w : World) (v : Value) (l : List ByteArray) : Prop := w.ownsRow B 9 1 v l.length (strC l)
theorem str_info : (Try.prog.info? 9).map (fun i => (i.zero, i.size, i.bytes)) = some (some (.string ByteArray.empty), 1, 16) := by kernel_rfl
theorem strAt_nil {w : World} (B : Nat) : StrAt B w (.slice none 0 0) [] := World.ownsRow_nil _ _ _ _
theorem StrAt.kept {w w' : World} {B : Nat} {v : Value} {l : List ByteArray} (h : StrAt B w v l) {X : Nat → Prop} (hk : Kept X w w') (hx : ∀ k, v.ownBlock = some k → ¬ X k) : StrAt B w' v l := ownKept h hk hx
theorem wpList_strs1 {w : World} {ops : Array Oper} {rest : List Oper} {o : Oper} {a : Act} {Q : Exit → Act → World → Prop} (hgd : o.guard = none) (s x : Operand)
    (ho : o.op = .call { callee := .builtin .append, args := #[s, x], argTypes := #[43, 43] }) (B : Nat) (v : Value) (l : List ByteArray) (hs : a.eval s = v) (hown : StrAt B w v l)
    (p : ByteArray) (hx : a.eval x = .slice (some ⟨w.heap.size, 0, none⟩) 1 1) (hb : l.length ≤ 4000000000000) (hB : B ≤ w.heap.size)
    (h : ∀ v' w', StrAt B w' v' (l ++ [p]) → (w.alloc (.cells #[.string p] 9)).grownBy w' v.ownBlock → wpList Try.prog ops Q rest (a.put o.dst v') w') : wpList Try.prog ops Q (o :: rest) a (w.alloc (.cells #[.string p] 9)) := by
  obtain ⟨i0, hi, hz0, hz1, hz2⟩ := info_parts str_info
  refine wpList_append_own _ hgd s x 43 ho B 9 i0 _ 1 16 Try.underlying43 hi hz0 hz1 hz2 rfl (by decide) v l.length (strC l) hs (ownKept hown ((Kept.refl (fun _ => False) w).alloc _) (fun _ _ f => f)) ⟨w.heap.size, 0, none⟩ 1 1 [.string p] hx rfl (fun j u hj => ?_) (fun u hu => by simp at hu; subst hu; rfl) (by unfold maxLen; omega) (by omega) (by simp; omega) ?_
  · rw [show (⟨w.heap.size, 0, none⟩ : Addr).add j = ⟨w.heap.size, j, none⟩ by cases j <;> simp [Addr.add]]
    rw [cell_of_row _ w.heap.size j _ _ (0, 0) (heap_alloc_new w _), ← Array.getElem?_toList]; exact hj
  · intro v' w' h1 h2 _
    refine h v' w' ?_ h2
    unfold StrAt strC
    rw [List.length_append, List.map_append]; exact h1
section
variable {Z : Nat → Prop} {w w' : World} {q : TB} {M : TM} {c : Nat} {D E : DV}
theorem row_mono {B B' n m : Nat} {e : TypeId} {v : Value} {xs : List Value} (h : w.ownsRow B e n v m xs) (hB : B' ≤ B) : w.ownsRow B' e n v m xs := by
  refine ⟨h.1, ?_⟩
  rcases h.2 with h0 | ⟨g, cap, cur, rfl, hb, r⟩
  · exact .inl h0
  · exact .inr ⟨g, cap, cur, rfl, Nat.le_trans hB hb, r⟩
/-- those below p, each once -/
structure Below1 (M : TM) (p : ByteArray) (l : List ByteArray) : Prop where
  one : l.Nodup
  mem : ∀ x, x ∈ l ↔ (M.N x.data.toList).isSome = true ∧ parS x = p
def KidsPost (B : Nat) (w : World) (M : TM) (p : ByteArray) (e : Ending) (w' : World) : Prop := ∃ v l, e = .returned v ∧ Below1 M p l ∧ StrAt B w' v (l.map baseS) ∧ Kept (fun _ => False) w w'
theorem NdAt.same {o : Option Value} {m : Option Nd} (h : NdAt w Z o m) : o.isSome = m.isSome := by
  cases o <;> cases m <;> first | rfl | exact h.elim
theorem ba_inj {x y : ByteArray} (h : x.data.toList = y.data.toList) : x = y := by
  rw [← ba_mk x, ← ba_mk y, h]
theorem str_ne {x y : ByteArray} (h : ¬ x = y) : (x.toList == y.toList) = false := by
  rw [Lib.toList_data, Lib.toList_data]
  exact beq_false_of_ne (fun e => h (ba_inj e))
theorem kept_false {w0 : World} {b : Nat} (h : Kept (fun _ => False) w0 w) (hg : w.grownBy w' (some b)) (hb : w0.heap.size ≤ b) : Kept (fun _ => False) w0 w' := h.trans' (Kept.of_grownBy hg) (fun k hk e => by injection e with e; omega)
set_option maxRecDepth 100000 in
set_option maxHeartbeats 1000000 in
theorem kids_any (h : TAt Z w q M c) (p : ByteArray) (hp : p.size ≤ 140737488355328) (hc : c ≤ 4000000000000) :
    Calls Try.prog 44 #[.pointer (some ⟨q.t, 0, none⟩), .string p] w (KidsPost w.heap.size w M p) := by
  obtain ⟨D, E, h⟩ := h
  obtain ⟨c0, c1, c2, f⟩ := h.three
  have HD := Lib.hid h
  have hlt := h.lt _ (.inl rfl)
  have hown := h.n
  have hsz := h.n.size_le
  have hnt := h.nt.1
  clear h
  go_enter Try.func44, Try.ntmps44
  go_wp2_with (first
    | (at_range; refine wpList_range_own _ rfl _ 75 rfl 9 85 keyS Try.underlying75 _ q.n c _ rfl hown ?_; intro w0 hrg0 hg0 hs0)
    | go_in)
  go_frame
  go_loopw [5, 6] (fun v5 _ wr => ∃ (left : Lit → Bool) (cnt : Nat) (l : List ByteArray), wr.ranges Try.prog 9 tok q.n w.heap.size c D left cnt ∧ Kept (fun _ => False) w wr ∧ StrAt (w.heap.size + 1) wr v5 (l.map baseS) ∧ l.length + cnt ≤ c ∧ l.Nodup ∧
      (∀ x : ByteArray, x ∈ l ↔ (lookV D (.string x.data.toList)).isSome = true ∧ parS x = p ∧ left (.string x.data.toList) = false) ∧ (∀ k, left (.string k) = true → (lookV D (.string k)).isSome = true))
    (fun _ _ wr => wr.rangeLeft q.n w.heap.size)
  case atStart =>
    refine ⟨_, _, [], hrg0, (Kept.of_grownBy hg0).mono (fun k _ e => by simp at e), strAt_nil _, by simpa using hsz, List.nodup_nil, fun x => ?_, fun k hk => by rw [lookV_isSome]; exact hk⟩
    rw [lookV_isSome]
    constructor
    · intro hx; cases hx
    · rintro ⟨h1, _, h3⟩; rw [h1] at h3; cases h3
  case round =>
    obtain ⟨left, cnt, l, hrg, hkw, hvs, hln, hnd, hI, hJ⟩ := hrel
    have HI := Lib.hid hI
    have HJ := Lib.hid hJ
    have HV := Lib.hid hvs
    have HKW := Lib.hid hkw
    have HL := Lib.hid hln
    clear hI hJ hvs hkw hln
    go_wp2_with (first
      | (at_next; refine wpList_next_ranges _ rfl _ rfl 9 keyS tok (fun x : ByteArray => Value.string x) id (fun key kl hkey => by obtain ⟨x, rfl, _⟩ := keyOf_string_inv hkey; exact ⟨x, rfl⟩) (fun v _ _ => ⟨v, rfl⟩) q.n w.heap.size c _ _ _ rfl hrg ?_ ?_)
      | go_in)
    · intro _ hl0
      go_wp2
      go_ret
      refine ⟨_, l, rfl, ⟨hnd, fun x => ?_⟩, ?_, HKW.out⟩
      · rw [HI.out x, hl0, (HD.out.N _).same]; simp
      · exact row_mono HV.out (Nat.le_succ _)
    · intro x v kl yd yp w1 cnt1 hkey hlx hv hat hrg1 hlt1 hg1 hs1 hen
      obtain ⟨x', ex, rfl, hx⟩ := keyOf_string_inv hkey
      cases ex
      have hsome := HJ.out _ hlx
      have hxl : x.data.toList.length ≤ 60 := by
        have h2 := (HD.out.N x.data.toList).same
        apply HD.out.okk
        intro e
        rw [e, hsome] at h2; cases h2
      have hxs : x.size ≤ 140737488355328 := by
        have : x.size = x.data.toList.length := (Array.length_toList (xs := x.data)).symm
        omega
      have hkr : Kept (fun k => k = w.heap.size) _ w1 := kept_grown hg1 rfl
      have hkw1 : Kept (fun _ => False) w w1 := HKW.out.trans' hkr (fun k hk e => by omega)
      have HV1 := Lib.hid (HV.out.kept hkr (own_ne HV.out (Nat.lt_succ_self _)))
      have HVN := Lib.hid (own_ne HV.out (Nat.lt_succ_self w.heap.size))
      have HVM := Lib.hid (own_ne HV.out (b := q.n) (Nat.lt_succ_of_lt (HD.out.lt _ (.inr (.inl rfl)))))
      have HK1 := Lib.hid hkw1
      have hbig : w.heap.size + 1 ≤ w1.heap.size := hrg1.lt
      have HPA := Lib.hid (parent_any x w1 hxs)
      have HBA := Lib.hid (base_any x w1 hxs)
      have HIx : ∀ k, (Lit.string k).sameKey (.string x.data.toList) = true → k = x.data.toList := fun k e => by
        have := WideAt.sameKey_eq e; injection this
      have HXs : (Lit.string x.data.toList).sameKey (.string x.data.toList) = true := WideAt.sameKey_self trivial
      have HNK := Lib.hid (fun (y : ByteArray) (hy : y ≠ x) => show (Lit.string y.data.toList).sameKey (.string x.data.toList) = false from by
        cases hh : (Lit.string y.data.toList).sameKey (.string x.data.toList) with
        | false => rfl
        | true => exact absurd (ba_inj (HIx _ hh)) hy)
      have hlen := HL.out
      have hll : l.length ≤ 4000000000000 := by omega
      have HLL := Lib.hid (show (l.map baseS).length ≤ 4000000000000 by rw [List.length_map]; exact hll)
      have hln1 : l.length + 1 + cnt1 ≤ c := by omega
      have HLN := Lib.hid hln1
      clear hkr hkw1 hlen hll hln1 hsz hc HL hs1
      by_cases hpx : parS x = p
      · subst hpx
        go_wp2_with (first
          | (go_at_call 65; refine HPA.out.mono ?_; rintro e w2 ⟨rfl, rfl⟩)
          | (go_at_call 66; refine HBA.out.mono ?_; rintro e w2 ⟨rfl, rfl⟩)
          | (at_builtin; refine wpList_strs1 rfl _ _ rfl (w.heap.size + 1) _ (l.map baseS) rfl HV1.out (baseS x) rfl HLL.out hbig (fun v2 w2 hv2 hg2 => ?_); have HV2 := Lib.hid hv2; have HG2 := Lib.hid hg2; clear hv2 hg2)
          | go_in)
        have hkk : Kept (fun _ => False) w w2 := (HK1.out.alloc _).trans' (Kept.of_grownBy HG2.out) (fun k hk e => by have h9 := own_ge HV1.out e.symm; omega)
        have hr2 := (hrg1.alloc (.cells #[.string (baseS x)] 9)).kept HG2.out (fun e => HVM.out _ e.symm rfl) (fun e => HVN.out _ e.symm rfl)
        go_roundw
        case rel =>
          refine ⟨_, cnt1, l ++ [x], hr2, hkk, by rw [List.map_append]; exact HV2.out, by rw [List.length_append]; exact HLN.out, ?_, fun y => ?_, fun k hk => HJ.out k (by simp at hk; exact hk.1)⟩
          · refine List.nodup_append.2 ⟨hnd, by simp, fun a ha b hb e => ?_⟩
            simp only [List.mem_singleton] at hb
            subst hb; subst e
            have := ((HI.out _).1 ha).2.2
            rw [hlx] at this; cases this
          · by_cases e : y = x
            · subst e
              simp [hsome, HXs]
            · have h9 := HNK.out y e
              rw [List.mem_append, List.mem_singleton, HI.out y, h9]
              simp [e]
        case measure => rw [hr2.left_eq, hrg.left_eq]; exact hlt1
      · have b1 : ((parS x).toList == p.toList) = false := str_ne hpx
        go_wp2_with fail
        refine HPA.out.mono ?_
        rintro e w2 ⟨rfl, rfl⟩
        go_wp2_with fail
        go_roundw
        case rel =>
          refine ⟨_, cnt1, l, hrg1, HK1.out, HV1.out, by have := HLN.out; omega, hnd, fun y => ?_, fun k hk => HJ.out k (by simp at hk; exact hk.1)⟩
          by_cases e : y = x
          · subst e
            rw [HI.out y]
            simp [hpx]
          · have h9 := HNK.out y e
            rw [HI.out y, h9]; simp
        case measure => rw [hrg1.left_eq, hrg.left_eq]; exact hlt1
end
end Go.Proofs.Ytccoeccibokecaa
