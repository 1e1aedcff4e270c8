/- removeUnder; New. set, setAcl. Ten digits; path.Numbered and the document's own. -/
import Derived.Test.YtjlffmkiiphfcaaP05
import Derived.Maps.RangeWalk
import Derived.Test.YtjlffmkiiphfcaaP02
import Derived.Lib.LaidTab
import Derived.Sort.Grow
import Derived.Laws.IdiomStrings
import Derived.Laws.MakeOwn
namespace Go.Proofs.Ytjlffmkiiphfcaa
open Go.ChangeShapes Go.WideShapes Go.ChangeAt Go.RowKit Go.Maps
set_option linter.unusedVariables false
set_option linter.unusedSimpArgs false
theorem keyOf_string_inv {key : Value} {kl : Lit} (h : keyOf Try.prog 9 key = some kl) : ∃ x : ByteArray, key = .string x ∧ kl = .string x.data.toList ∧ x.size ≤ maxLen := by
  cases key <;> simp [keyOf, Try.underlying9, mapKey] at h
  rename_i s
  refine ⟨s, rfl, ?_⟩
  rcases h with ⟨h1, h2⟩
  exact ⟨h2.symm, by simpa [Lit.wf] using h1⟩
section
variable {Z : Nat → Prop} {w w' : World} {q : TB} {M : TM} {c : Nat} {D E : DV}
theorem TD.cut (h : TD Z w q M c D E) {D' : DV} {N' : List UInt8 → Option Nd} (hown : w'.ownsMap Try.prog 9 tok q.n c D') (hk : Kept (fun j => j = q.n) w w')
    (hL : ∀ k, (lookV D' (.string k) = lookV D (.string k) ∧ N' k = M.N k) ∨ (lookV D' (.string k) = none ∧ N' k = none)) : TD Z w' q { M with N := N' } c D' E := by
  have hnt := h.nt
  have hk2 : Kept (TBs q) w w' := hk.mono (fun j _ e => .inr (.inl e))
  refine ⟨?_, hown, fun x => ?_, ownsMap_kept h.s hk (fun e => h.ns e.symm), h.S, h.ns, fun x hx => ?_, h.inZ, fun j hj => h.new j (Nat.le_trans hk.size hj)⟩
  · rw [hk.block q.t (h.lt _ (.inl rfl)) (fun e => hnt.1 e.symm)]; exact h.at_
  · rcases hL x with ⟨h1, h2⟩ | ⟨h1, h2⟩
    · show NdAt w' Z _ (N' x)
      rw [h1, h2]
      exact (h.N x).kept hk2 (fun b cur hb _ => h.noAcl b cur hb)
    · show NdAt w' Z _ (N' x)
      rw [h1, h2]; exact True.intro
  · rcases hL x with ⟨_, h2⟩ | ⟨_, h2⟩
    · exact h.okk x (by rw [← h2]; exact hx)
    · exact absurd h2 hx
def underM (M : TM) (p : ByteArray) : TM := { M with N := fun k => if underL k p = true then none else M.N k }
theorem ba_mk (x : ByteArray) : (⟨x.data.toList.toArray⟩ : ByteArray) = x := by
  cases x; simp
theorem kept_grown {row : Option Nat} (h : w.grownBy w' row) {b : Nat} (e : row = some b) : Kept (fun j => j = b) w w' := (Kept.of_grownBy h).mono (fun k _ e' => by rw [e] at e'; injection e')
set_option maxRecDepth 100000 in
set_option maxHeartbeats 1000000 in
theorem removeUnder_any (h : TAt Z w q M c) (p : ByteArray) (hp : p.size ≤ 140737488355328) :
    Calls Try.prog 91 #[.pointer (some ⟨q.t, 0, none⟩), .string p] w fun e w' => e = .returned (.tuple #[]) ∧ TAt Z w' q (underM M p) c ∧ Kept (TBs q) w w' := by
  obtain ⟨D, E, h⟩ := h
  obtain ⟨c0, c1, c2, f⟩ := h.three
  have HD := Lib.hid h
  have hlt := h.lt _ (.inl rfl)
  have hown := h.n
  have hnt := h.nt.1
  clear h
  go_enter Try.func91, Try.ntmps91
  go_wp2_with (first
    | (at_range; refine wpList_range_own _ rfl _ 89 rfl 9 99 keyS Try.underlying89 _ q.n c _ rfl hown ?_; intro w0 hrg0 hg0 hs0)
    | go_in)
  go_frame
  go_loopw [4] (fun _ wr => ∃ (D' : DV) (left : Lit → Bool) (cnt : Nat), wr.ranges Try.prog 9 tok q.n w.heap.size c D' left cnt ∧ w.grownBy wr (some q.n) ∧
      (∀ k, lookV D' (.string k) = if underL k p = true ∧ left (.string k) = false then none else lookV D (.string k)) ∧ (∀ k, left (.string k) = true → (lookV D (.string k)).isSome = true))
    (fun _ wr => wr.rangeLeft q.n w.heap.size)
  case atStart =>
    refine ⟨_, _, _, hrg0, hg0.but _, fun k => ?_, fun k hk => by rw [lookV_isSome]; exact hk⟩
    split
    · rename_i hh
      have := lookV_isSome D (.string k)
      rw [hh.2] at this
      cases hl : lookV D (.string k) with
      | none => rfl
      | some v => rw [hl] at this; cases this
    · rfl
  case round =>
    obtain ⟨D', left, cnt, hrg, hgw, hI, hJ⟩ := hrel
    have HI := Lib.hid hI
    have HJ := Lib.hid hJ
    clear hI hJ
    go_wp2_with (first
      | (at_next; refine wpList_next_ranges _ rfl _ rfl 9 keyS tok (fun x : ByteArray => Value.string x) id (fun key kl hkey => by obtain ⟨x, rfl, _⟩ := keyOf_string_inv hkey; exact ⟨x, rfl⟩) (fun v _ _ => ⟨v, rfl⟩) q.n w.heap.size c _ _ _ rfl hrg ?_ ?_)
      | go_in)
    · intro _ hl0
      go_wp2
      go_end0
      refine ⟨rfl, ⟨D', E, HD.out.cut hrg.owns (kept_grown hgw rfl) (fun k => ?_)⟩, (kept_grown hgw rfl).mono (fun j _ e => .inr (.inl e))⟩
      rw [HI.out k, hl0]
      by_cases hu : underL k p = true
      · right; simp [hu]
      · left; simp [hu]
    · intro x v kl yd yp w1 cnt1 hkey hlx hv hat hrg1 hlt1 hg1 hs1 hen
      obtain ⟨x', ex, rfl, hx⟩ := keyOf_string_inv hkey
      cases ex
      have hxl : x.data.toList.length ≤ 60 := by
        have h1 := HJ.out _ hlx
        have h2 := HD.out.N x.data.toList
        apply HD.out.okk
        intro e
        rw [e] at h2
        cases hl : lookV D (.string x.data.toList) with
        | none => rw [hl] at h1; cases h1
        | some v => rw [hl] at h2; exact h2
      have hxs : x.size ≤ 140737488355328 := by
        have : x.size = x.data.toList.length := (Array.length_toList (xs := x.data)).symm
        omega
      have hgw1 := hgw.andThen hg1 (fun j hj => by cases hj; exact Or.inl (Nat.le_refl _))
      have e0 : w1.cell? ⟨q.t, 0, none⟩ = some (.map (some q.n)) := by
        rw [World.cell?_of_block (w := w) ((kept_grown hgw1 rfl).block q.t hlt (fun e => hnt e.symm))]; exact c0
      have HU := Lib.hid (under_any x p w1 hxs hp)
      have HUL : Hid (underL x.data.toList p = underS x p) := Lib.hid (by unfold underL; rw [ba_mk])
      have HIx : ∀ k, (Lit.string k).sameKey (.string x.data.toList) = true → k = x.data.toList := fun k e => by
        have := WideAt.sameKey_eq e; injection this
      have HXs : (Lit.string x.data.toList).sameKey (.string x.data.toList) = true := WideAt.sameKey_self trivial
      by_cases hu : underS x p = true
      · rw [hu] at HU
        go_wp2_with (first
          | (go_at_call 118; refine HU.out.mono ?_; rintro e w2 ⟨rfl, rfl⟩)
          | (at_delete; refine wpList_delete_ranges _ rfl _ _ 89 9 rfl 99 keyS Try.underlying89 _ q.n w.heap.size c _ _ _ rfl hrg1 _ _ rfl hkey ?_; intro w3 cnt3 hrg3 hle hturn; go_frame)
          | go_in)
        rw [strike_twice] at hrg3
        go_roundw
        case rel =>
          refine ⟨_, _, cnt3, hrg3, hgw1.andThen hturn.grown (fun j hj => by cases hj; exact Or.inr rfl), fun k => ?_, fun k hk => HJ.out k (by simp at hk; exact hk.1)⟩
          by_cases e : k = x.data.toList
          · subst e
            rw [lookV_del_same, if_pos ⟨by rw [HUL.out]; exact hu, by rw [HXs]; simp⟩]
          · have hs : (Lit.string k).sameKey (.string x.data.toList) = false := by
              cases hh : (Lit.string k).sameKey (.string x.data.toList) with
              | false => rfl
              | true => exact absurd (HIx k hh) e
            rw [lookV_del_other (fun e' => e (by injection e')), HI.out k, hs]; simp
        case measure => rw [hrg3.left_eq, hrg.left_eq]; omega
      · have hu : underS x p = false := by simpa using hu
        rw [hu] at HU
        go_wp2_with (first
          | (go_at_call 118; refine HU.out.mono ?_; rintro e w2 ⟨rfl, rfl⟩)
          | go_in)
        go_roundw
        case rel =>
          refine ⟨_, _, cnt1, hrg1, hgw1, fun k => ?_, fun k hk => HJ.out k (by simp at hk; exact hk.1)⟩
          by_cases e : k = x.data.toList
          · subst e
            rw [HI.out, if_neg (by rw [HUL.out, hu]; simp), if_neg (by rw [HUL.out, hu]; simp)]
          · have hs : (Lit.string k).sameKey (.string x.data.toList) = false := by
              cases hh : (Lit.string k).sameKey (.string x.data.toList) with
              | false => rfl
              | true => exact absurd (HIx k hh) e
            rw [HI.out k, hs]; simp
        case measure => rw [hrg1.left_eq, hrg.left_eq]; exact hlt1
end
end Go.Proofs.Ytjlffmkiiphfcaa

namespace Go.Proofs.Ytjlffmkiiphfcaa
open Go.ChangeShapes Go.WideShapes Go.ChangeAt Go.RowKit Go.Maps
set_option linter.unusedVariables false
set_option linter.unusedSimpArgs false
/-- a transaction as a value: its ACL's slice, its error, its parts' slice -/
structure TX where
  aa : Option Addr
  an : Nat
  ac : Nat
  err : Int
  sa : Option Addr
  sn : Nat
  sc : Nat
def txnL (x : T1) (y : TX) : List Value := [.int .i64 x.kind, .string x.path, .string x.data, .slice y.aa y.an y.ac, .int .i64 x.owner, .int .i64 x.number, .int .i64 y.err, .slice y.sa y.sn y.sc]
def txnV (x : T1) (y : TX) : Value := .agg (txnL x y).toArray
def evsC (l : List Ev) : List Value := l.flatMap fun e => [.int .i64 e.kind, .string e.path, .int .i64 e.zx]
/-- the events that a call answers: a new row -/
def EvsAt (B : Nat) (w : World) (v : Value) (l : List Ev) : Prop := w.ownsRow B 70 3 v l.length (evsC l)
section
variable {Z : Nat → Prop} {w w' : World} {q : TB} {M : TM} {c : Nat} {D E : DV}
theorem one_le : 1 ≤ maxLen := by unfold maxLen; decide
theorem two_le : 2 ≤ maxLen := by unfold maxLen; decide
theorem evsAt_nil (B : Nat) : EvsAt B w (.slice none 0 0) [] := World.ownsRow_nil _ _ _ _
theorem evsC_len (l : List Ev) : (evsC l).length = l.length * 3 := by
  induction l with
  | nil => rfl
  | cons a l ih => simp [evsC] at ih ⊢; omega
theorem evsAt_new {B : Nat} {l : List Ev} (hB : B ≤ w.heap.size) (hm : l.length ≤ maxLen) : EvsAt B (w.alloc (.cells (evsC l).toArray 70)) (.slice (some ⟨w.heap.size, 0, none⟩) l.length l.length) l := by
  have hl := evsC_len l
  refine ⟨by rw [hl], .inr ⟨w.heap.size, l.length, (evsC l).toArray, rfl, hB, heap_alloc_new w _, Nat.le_refl _, ?_, ?_, ?_⟩⟩
  · exact hm
  · rw [List.size_toArray, hl]
  · exact List.take_of_length_le (Nat.le_of_eq hl)
abbrev txnO (x : T1) (y : TX) : Obj := .cells #[.int .i64 x.kind, .string x.path, .string x.data, .slice y.aa y.an y.ac, .int .i64 x.owner, .int .i64 x.number, .int .i64 y.err, .slice y.sa y.sn y.sc] 38
abbrev nodeO (d : ByteArray) (va : Option Addr) (vn vc : Nat) (s : St) : Obj := .cells #[.string d, .slice va vn vc, .int .i64 s.cz, .int .i64 s.mz, .int .i64 s.pz, .int .i64 s.ver, .int .i64 s.cver, .int .i64 s.aver, .int .i64 s.owner, .int .i64 0, .int .i64 0] 99
theorem empty_eq : ByteArray.empty = ⟨#[]⟩ := rfl
theorem World.heap_drew (w : World) : w.drew.heap = w.heap := rfl
theorem cell_kept {X : Nat → Prop} {c : Array Value} {b : Nat} {T : TypeId} (hk : Kept X w w') (h : w.heap[b]? = some (.cells c T (0, 0))) (hx : ¬ X b) (i : Nat) {v : Value} (hv : c[i]? = some v) : w'.cell? ⟨b, i, none⟩ = some v := by
  rw [cell_of_row w' b i _ _ (0, 0) ((hk.block b (lt_of_block h) hx).trans h)]; exact hv
def CallPost (Z : Nat → Prop) (q : TB) (c : Nat) (w : World) (r : TM × List Ev) (e : Ending) (w' : World) : Prop := ∃ v, e = .returned v ∧ EvsAt w.heap.size w' v r.2 ∧ TAt Z w' q r.1 c ∧ Kept (TBs q) w w'
set_option maxRecDepth 100000 in
set_option maxHeartbeats 1000000 in
theorem set_any (h : TAt Z w q M c) (x : T1) (y : TX) (zx : Int) (hp : x.path.size ≤ 140737488355328) (hc : c < 4611686018427387904) :
    Calls Try.prog 94 #[.pointer (some ⟨q.t, 0, none⟩), txnV x y, .int .i64 zx] w (CallPost Z q (c + 1) w (setM M x zx)) := by
  obtain ⟨D, E, h⟩ := h
  unfold txnV txnL
  have HD := Lib.hid h
  have hlt := h.lt _ (.inl rfl)
  obtain ⟨c0, c1, c2, f⟩ := h.three
  have hk1 : Kept (fun _ => False) w (w.alloc (txnO x y)).drew := ((Kept.refl _ w).alloc _).drew
  have hk2 : Kept (fun _ => False) w ((w.alloc (txnO x y)).alloc (nodeO ⟨#[]⟩ none 0 0 ⟨0, 0, 0, 0, 0, 0, 0⟩)).drew := (((Kept.refl _ w).alloc _).alloc _).drew
  rcases h.look x.path.data.toList with ⟨nd, av, hM, hL, ha⟩ | ⟨hM, hL⟩
  · obtain ⟨va, vn, vc, rfl⟩ := ha.shape
    have hrun := (h.kept0 hk1).lookNode x.path hp
    have hrun' := (h.kept0 hk2).lookNode x.path hp
    rw [hL] at hrun hrun'
    simp only [Option.getD_some, Option.isSome_some, nodeV] at hrun hrun'
    have hk3 : Kept (fun _ => False) w (((w.alloc (txnO x y)).alloc (nodeO x.data va vn vc { nd.st with ver := x.number, mz := zx })).drew.drew.drew) := (((Kept.refl _ w).alloc _).alloc _).drew.drew.drew
    obtain ⟨W, hst, hT, hK⟩ := (h.kept0 hk3).storeN x.path hp (h.okk _ (by rw [hM]; exact fun e => nomatch e)) hc (nd := { nd with data := x.data, st := { nd.st with ver := x.number, mz := zx } }) (ha.kept0 hk3)
    simp only [nodeV] at hst
    have HE : Hid (setM M x zx = ({ M with N := updN M.N x.path.data.toList (some { nd with data := x.data, st := { nd.st with ver := x.number, mz := zx } }) }, [⟨3, x.path, zx⟩])) := Lib.hid (by unfold setM; rw [hM])
    have h3 : (((w.alloc (txnO x y)).alloc (nodeO x.data va vn vc { nd.st with ver := x.number, mz := zx })).drew.drew.drew).heap[w.heap.size]? = some (txnO x y) := (Below.heap_alloc _ _ _ (by simp)).trans (heap_alloc_new w _)
    have e1 : W.cell? ⟨w.heap.size, 1, none⟩ = some (.string x.path) := cell_kept hK h3 (fun e => Nat.lt_irrefl _ (h.lt _ e)) 1 rfl
    clear h3
    have HT := Lib.hid hT
    have HK := Lib.hid (hk3.mono (T := TBs q) (fun _ _ f => f.elim) |>.trans hK)
    clear h hL hT hK hk1 hk2 hk3 ha hM
    go_enter Try.func94, Try.ntmps94
    go_wp2
    go_region
    all_goals (
      go_wp2
      go_region
      all_goals (
        go_wp2
        go_region
        all_goals (
          go_wp2
          go_ret
          rw [HE.out]
          have hsz := HK.out.size
          have hT2 := HT.out.kept0 ((Kept.refl _ W).alloc (.cells #[.int .i64 3, .string x.path, .int .i64 zx] 70))
          have hK2 := HK.out.alloc (.cells #[.int .i64 3, .string x.path, .int .i64 zx] 70)
          refine ⟨_, rfl, ?_, hT2, hK2⟩
          exact evsAt_new (l := [⟨3, x.path, zx⟩]) hsz one_le)))
  · have hrun := (h.kept0 hk1).lookNode x.path hp
    have hrun' := (h.kept0 hk2).lookNode x.path hp
    rw [hL] at hrun hrun'
    simp only [Option.getD_none, Option.isSome_none, node0, empty_eq] at hrun hrun'
    have HE : Hid (setM M x zx = (M, [])) := Lib.hid (by unfold setM; rw [hM])
    clear h hL hk1 hk2 hM
    go_enter Try.func94, Try.ntmps94
    go_wp2
    go_region
    all_goals go_wp2
    all_goals go_ret
    all_goals rw [HE.out]
    all_goals refine ⟨_, rfl, evsAt_nil _, TAt.mono ⟨_, _, HD.out.kept0 (((Kept.refl _ w).alloc _).alloc _).drew⟩ (Nat.le_succ _), (((Kept.refl _ w).alloc _).alloc _).drew⟩
end
end Go.Proofs.Ytjlffmkiiphfcaa

namespace Go.Proofs.Ytjlffmkiiphfcaa
open Go.Sort Go.ChangeShapes Go.WideShapes Go.ChangeAt Go.RowKit
set_option linter.unusedVariables false
set_option linter.unusedSimpArgs false

def digs (n : Nat) : List UInt8 := (List.range 10).map fun t => Lib.dg n (9 - t)

theorem digs_mod (n : Nat) : digs (n % 10000000000) = digs n := by
  simp only [digs, List.range, List.range.loop, List.map_cons, List.map_nil, Lib.dg, Nat.sub_zero, Nat.reduceSub, Nat.reducePow]
  have h (a b : Nat) (h : a = b) : UInt8.ofNat (48 + a) = UInt8.ofNat (48 + b) := by rw [h]
  congr 1
  · apply h; omega
  congr 1
  · apply h; omega
  congr 1
  · apply h; omega
  congr 1
  · apply h; omega
  congr 1
  · apply h; omega
  congr 1
  · apply h; omega
  congr 1
  · apply h; omega
  congr 1
  · apply h; omega
  congr 1
  · apply h; omega
  congr 1
  · apply h; omega

theorem repeatL_get (c : Nat) : Lib.repeatL [48] c = List.replicate c 48 := by
  induction c with
  | zero => rfl
  | succ c ih => rw [Lib.repeatL, ih]; rfl

theorem nDigits_le {n : Nat} (h : n < 10000000000) : Lib.nDigits n ≤ 10 := by
  rcases Nat.lt_or_ge 10 (Lib.nDigits n) with hk | hk
  · exfalso
    have e : Lib.nDigits n = (Lib.nDigits n - 1) + 1 := by omega
    by_cases h10 : n < 10
    · rw [Lib.nDigits_small h10] at hk; omega
    · have hpos : ∀ (k u : Nat), Lib.nDigits u = k + 1 → 10 ^ k ≤ u ∨ k = 0 := by
        intro k
        induction k with
        | zero => intro u _; exact .inr rfl
        | succ k ih =>
          intro u hu
          have hb : ¬ u < 10 := fun h => by rw [Lib.nDigits_small h] at hu; omega
          rw [Lib.nDigits_big hb] at hu
          rcases ih (u / 10) (by omega) with h | h
          · left; rw [Nat.pow_succ]; omega
          · subst h; left; omega
      rcases hpos _ n e with h1 | h1
      · have : 10 ^ 10 ≤ 10 ^ (Lib.nDigits n - 1) := Nat.pow_le_pow_right (by decide) (by omega)
        omega
      · omega
  · exact hk

theorem decDigits_len (n : Nat) : (Lib.decDigits n).length = Lib.nDigits n := by
  rw [Lib.decDigits_eq]; simp

/-- noughts ahead: ten digits -/
theorem digs_pad {n : Nat} (h : n < 10000000000) : Lib.repeatL [48] (10 - (Lib.decDigits n).length) ++ Lib.decDigits n = digs n := by
  have hk := nDigits_le h
  have hlt := Lib.lt_pow_nDigits n
  rw [decDigits_len, repeatL_get, Lib.decDigits_eq, digs]
  generalize Lib.nDigits n = k at hk hlt
  apply List.ext_getElem
  · simp; omega
  · intro i h1 h2
    simp only [List.length_map, List.length_range] at h2
    simp only [List.getElem_map, List.getElem_range]
    by_cases hi : i < 10 - k
    · rw [List.getElem_append_left (by simpa using hi)]
      simp only [List.getElem_replicate]
      have : n / 10 ^ (9 - i) = 0 := by
        apply Nat.div_eq_of_lt
        exact Nat.lt_of_lt_of_le hlt (Nat.pow_le_pow_right (by decide) (by omega))
      simp [Lib.dg, this]
    · rw [List.getElem_append_right (by simpa using hi)]
      simp only [List.length_replicate, List.getElem_map, List.getElem_range]
      congr 1; omega

theorem digs_length (n : Nat) : (digs n).length = 10 := by simp [digs]

def numS (p : ByteArray) (n : Nat) : ByteArray := p ++ ⟨(digs n).toArray⟩

abbrev TabOk (w : World) : Prop := Lib.TabIs Try.prog w "internal/strconv.uint64pow10" .u64 Lib.pow10Tab

theorem tab_below {w w' : World} (h : TabOk w) (hb : Below w.heap.size w w') : TabOk w' := by
  unfold TabOk Lib.TabIs World.var? at h ⊢
  generalize Try.prog.globalNamed "internal/strconv.uint64pow10" = og at h ⊢
  cases og with
  | none => simp at h
  | some g =>
    simp only [Option.bind_some] at h ⊢
    by_cases hg : g < w.heap.size
    · rw [hb.block g hg]; exact h
    · rw [Array.getElem?_eq_none (by omega)] at h; simp at h

set_option maxHeartbeats 400000 in
theorem refSlash_any (s : ByteArray) (w : World) (hs : s.size ≤ 140737488355328) :
    Calls Try.prog 75 #[.string s] w fun e w' => e = .returned (.int .i64 (lastS s)) ∧ w = w' := by
  have HL : Hid (lastS s = Lib.lastIdx s 47 s.size) := Lib.hid rfl
  generalize lastS s = L at HL
  go_enter Try.func75, Try.ntmps75
  go_wp2
  go_loop [3] (fun i => ∃ k : Int, -1 ≤ k ∧ k < s.size ∧ i = .int .i64 k ∧ L = Lib.lastIdx s 47 (k + 1).toNat) (fun i => (intOf i + 1).toNat)
  case atStart => exact ⟨(s.size : Int) - 1, by omega, by omega, rfl, by rw [HL.out]; congr 1; omega⟩
  case round =>
    obtain ⟨k, hk1, hk2, rfl, hk⟩ := hrel
    have HK := Lib.hid hk; clear hk
    by_cases h0 : 0 ≤ k
    · obtain ⟨j, rfl⟩ := Int.eq_ofNat_of_zero_le h0
      have hj : j < s.size := by omega
      have hg : s.data[j]! = s[j] := Go.Proofs.LastIndex.byteBang s j hj
      have HI : Hid (L = if (s[j].toNat : Int) = 47 then (j : Int) else Lib.lastIdx s 47 j) := Lib.hid (by
        rw [HK.out, show ((j : Int) + 1).toNat = j + 1 by omega]
        rw [Lib.lastIdx, hg])
      clear hg
      by_cases h47 : s[j].toNat = 47
      · have HF : Hid (L = (j : Int)) := Lib.hid (by rw [HI.out, if_pos (by omega)])
        have e : s[j].toNat = 47 := h47
        clear h47
        have h1 : ((s[j].toNat : Int) == 47) = true := by rw [e]; rfl
        go_wp2
        go_ret
        exact ⟨ret_int HF.out.symm, rfl⟩
      · have HF : Hid (L = Lib.lastIdx s 47 j) := Lib.hid (by rw [HI.out, if_neg (by omega)])
        have h1 : ((s[j].toNat : Int) == 47) = false := by simp; omega
        clear h47
        go_wp2
        go_round
        case rel => exact ⟨(j : Int) - 1, by omega, by omega, rfl, by rw [HF.out]; congr 1; omega⟩
        case measure => simp [intOf]
    · obtain rfl : k = -1 := by omega
      have HF : Hid (L = -1) := Lib.hid (by rw [HK.out]; rfl)
      go_wp2
      go_ret
      exact ⟨ret_int HF.out.symm, rfl⟩

theorem below_grow (w : World) (k : Nat) (os : Array Obj) : Below w.heap.size w (grow (w.drewN k) os) := by
  refine Below.trans (b := w.drewN k) (by induction k with
    | zero => exact Below.refl _ _
    | succ k ih => exact ih.drew) ⟨rfl, rfl, rfl, ?_, ?_⟩
  · simp [grow]
  · intro i hi
    simp only [grow]
    rw [Array.getElem?_append_left (by simpa using hi)]

def cellsAt (N j : Nat) : Array Value := ((List.range 10).map fun t => if 9 - t < j then Value.int .u8 ((Lib.dg N (9 - t)).toNat : Int) else .int .u8 0).toArray

theorem info_u8 : (Try.prog.info? 5).map (fun i => (i.zero, i.size, i.bytes)) = some (some (.int .u8 0), 1, 1) := by kernel_rfl

theorem dig_val {N j m : Nat} (h : N / 10 ^ j = m) : 48 + (m : Int) % 10 = ((Lib.dg N j).toNat : Int) := by
  have e : Lib.dg N j = UInt8.ofNat (48 + m % 10) := by rw [Lib.dg, h]
  have e2 : (UInt8.ofNat (48 + m % 10)).toNat = 48 + m % 10 := by
    rw [UInt8.toNat_ofNat']; omega
  rw [e, e2]; omega
theorem next_val {N j m : Nat} (h : N / 10 ^ j = m) : (m : Int) / 10 = ((N / 10 ^ (j + 1) : Nat) : Int) := by
  rw [Nat.pow_succ, ← Nat.div_div_eq_div_mul, h]; rfl

/-- how far the digits are laid -/
structure NumRel (N : Nat) (w : World) (nv iv : Value) (w' : World) : Prop where
  ex : ∃ j : Nat, j ≤ 10 ∧ iv = .int .i64 (9 - (j : Int)) ∧ nv = .int .i64 ((N / 10 ^ j : Nat) : Int) ∧ w' = w.alloc (.cells (cellsAt N j) 5)

end Go.Proofs.Ytjlffmkiiphfcaa
