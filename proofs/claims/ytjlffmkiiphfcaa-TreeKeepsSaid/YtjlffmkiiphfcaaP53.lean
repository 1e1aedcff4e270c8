/- Kids; how the nodes hang together, counted. Kids. A variable of api.Stat's type. stands: a tree holds together. TreeKeeps: the walk. -/
import Derived.Test.YtjlffmkiiphfcaaP51
import Derived.Test.YtjlffmkiiphfcaaP11
import Derived.Test.YtjlffmkiiphfcaaP44
import Derived.Test.YtjlffmkiiphfcaaP52
import Derived.Test.YtjlffmkiiphfcaaP28
import Derived.Test.YtjlffmkiiphfcaaP07
import Derived.BigQuiet
import Derived.Deep.QuietTactic
import Derived.Deep.RegionHeld3
import Derived.Test.YtjlffmkiiphfcaaP49
namespace Go.Proofs.Ytjlffmkiiphfcaa
open Go.ChangeShapes Go.WideShapes Go.ChangeAt Go.RowKit Go.Maps
set_option linter.unusedVariables false
set_option linter.unusedSimpArgs false
theorem kid_base {q : ByteArray} (h : checkS q = 0) (hr : keyB q ≠ [47]) : kidS (parS q) (baseS q) = q := by
  obtain ⟨ns, n, hn, rfl⟩ := ok_names h hr
  rw [par_path hn, base_path (hn n (by simp)), kid_snoc (fun m hm => hn m (by simp [hm]))]
theorem par_root : parS slashS = ⟨#[]⟩ := by decide +kernel
theorem check_none : checkS ⟨#[]⟩ ≠ 0 := by decide +kernel
theorem root_of {q : ByteArray} (h : keyB q = [47]) : q = slashS := keyB_inj (q := slashS) h
structure StOk (M : TM) : Prop where
  cl : Closed M
  own : OwnM M
  few : ∀ P : List ByteArray, P.Pairwise ltP → (∀ x, x ∈ P ↔ (M.N (keyB x)).isSome = true) → P.length ≤ 2000
  path : ∀ p nd, M.N (keyB p) = some nd → p.size ≤ 60
section
variable {M : TM} {P l l' : List ByteArray} {p : ByteArray}
theorem node_of (h : (M.N (keyB p)).isSome = true) : M.N (keyB p) ≠ none := fun e => by rw [e] at h; cases h
theorem below_names (hc : Closed M) (hp : (M.N (keyB p)).isSome = true) (hb : Below1 M p l) : ∀ x ∈ l, kidS p (baseS x) = x := by
  intro x hx
  obtain ⟨h1, h2⟩ := (hb.mem x).1 hx
  have hk := hc.ok x (node_of h1)
  by_cases hr : keyB x = [47]
  · have := root_of hr
    subst this
    rw [par_root] at h2
    have := hc.ok p (node_of hp)
    rw [← h2] at this
    exact absurd this check_none
  · rw [← h2]; exact kid_base hk hr
theorem names_nodup (hc : Closed M) (hp : (M.N (keyB p)).isSome = true) (hb : Below1 M p l) : (l.map baseS).Nodup := by
  rw [List.Nodup, List.pairwise_map]
  refine hb.one.imp_of_mem fun {a b} ha hb' hne e => hne ?_
  rw [← below_names hc hp hb a ha, ← below_names hc hp hb b hb', e]
theorem below_len (hb : Below1 M p l) (hP : P.Nodup) (hm : ∀ x, x ∈ P ↔ (M.N (keyB x)).isSome = true) : l.length = (P.filter fun x => decide (parS x = p)).length :=
  ((List.perm_ext_iff_of_nodup hb.one (hP.filter _)).2 (fun x => by
    rw [hb.mem, List.mem_filter, hm]; simp)).length_eq
theorem below_two (hb : Below1 M p l) (hb' : Below1 M p l') : l.length = l'.length :=
  ((List.perm_ext_iff_of_nodup hb.one hb'.one).2 (fun x => by rw [hb.mem, hb'.mem])).length_eq
/-- those whose parent is one of these -/
def inL (L : List ByteArray) (x : ByteArray) : Bool := L.any fun y => decide (y = x)
theorem inL_iff {L : List ByteArray} {x : ByteArray} : inL L x = true ↔ x ∈ L := by
  unfold inL; rw [List.any_eq_true]
  constructor
  · rintro ⟨y, hy, e⟩; simp at e; exact e ▸ hy
  · intro h; exact ⟨x, h, by simp⟩
theorem inL_not {L : List ByteArray} {x : ByteArray} (h : x ∉ L) : inL L x = false := by
  cases e : inL L x with
  | false => rfl
  | true => exact absurd (inL_iff.1 e) h
def kidsIn (L P : List ByteArray) : Nat := (P.filter fun x => inL L (parS x)).length
def nonRoot (L : List ByteArray) : Nat := (L.filter fun x => decide (keyB x ≠ [47])).length
theorem kidsIn_snoc {L : List ByteArray} (h : p ∉ L) : ∀ P : List ByteArray, kidsIn (L ++ [p]) P = kidsIn L P + (P.filter fun x => decide (parS x = p)).length
  | [] => rfl
  | x :: P => by
    have ih := kidsIn_snoc h P
    unfold kidsIn at *
    rw [List.filter_cons, List.filter_cons, List.filter_cons]
    by_cases e : parS x = p
    · have h2 : parS x ∉ L := by rw [e]; exact h
      rw [if_pos (inL_iff.2 (by simp [e])), if_neg (by rw [inL_not h2]; decide), if_pos (by simp [e])]
      simp only [List.length_cons]; omega
    · by_cases h2 : parS x ∈ L
      · rw [if_pos (inL_iff.2 (by simp [h2])), if_pos (inL_iff.2 h2), if_neg (by simpa using e)]
        simp only [List.length_cons]; omega
      · rw [if_neg (by rw [inL_not (by simp [h2, e])]; decide), if_neg (by rw [inL_not h2]; decide), if_neg (by simpa using e)]
        exact ih
theorem kidsIn_take {i : Nat} (hP : P.Nodup) (hp : P[i]? = some p) : kidsIn (P.take (i + 1)) P = kidsIn (P.take i) P + (P.filter fun x => decide (parS x = p)).length := by
  obtain ⟨hi, rfl⟩ := List.getElem?_eq_some_iff.1 hp
  rw [List.take_succ_eq_append_getElem hi]
  refine kidsIn_snoc (fun hm => ?_) P
  obtain ⟨j, hj, he⟩ := List.mem_take_iff_getElem.1 hm
  have h1 : j < i := by omega
  exact absurd ((List.getElem_inj hP).1 he) (by omega)
theorem nonRoot_take {i : Nat} (hp : P[i]? = some p) : nonRoot (P.take (i + 1)) = nonRoot (P.take i) + (if keyB p ≠ [47] then 1 else 0) := by
  obtain ⟨hi, rfl⟩ := List.getElem?_eq_some_iff.1 hp
  unfold nonRoot
  rw [List.take_succ_eq_append_getElem hi, List.filter_append, List.length_append, List.filter_cons, List.filter_nil]
  by_cases e : keyB P[i] = [47]
  · rw [if_neg (by simp [e]), if_neg (by simp [e])]; rfl
  · rw [if_pos (by simp [e]), if_pos e]; rfl
theorem kidsIn_all (hc : Closed M) (hm : ∀ x, x ∈ P ↔ (M.N (keyB x)).isSome = true) : kidsIn P P = nonRoot P := by
  unfold kidsIn nonRoot
  congr 1
  refine List.filter_congr fun x hx => ?_
  have h1 := node_of ((hm x).1 hx)
  by_cases e : keyB x = [47]
  · have := root_of e
    subst this
    have h2 : parS slashS ∉ P := fun h => by
      have := hc.ok _ (node_of ((hm _).1 h))
      rw [par_root] at this
      exact check_none this
    rw [inL_not h2]; simp [e]
  · have h2 : parS x ∈ P := (hm _).2 (by
      have := hc.up x h1 e
      cases h : M.N (keyB (parS x)) with
      | none => exact absurd h this
      | some _ => rfl)
    rw [inL_iff.2 h2]; simp [e]
theorem nonRoot_all (hc : Closed M) (hP : P.Nodup) (hm : ∀ x, x ∈ P ↔ (M.N (keyB x)).isSome = true) : P.length = nonRoot P + 1 := by
  have hroot : slashS ∈ P := (hm _).2 (by
    have h0 := hc.root
    cases h : M.N (keyB slashS) with
    | none => exact absurd h h0
    | some _ => rfl)
  have : P.Perm (slashS :: P.filter fun x => decide (keyB x ≠ [47])) := (List.perm_ext_iff_of_nodup hP (List.nodup_cons.2 ⟨by
      rw [List.mem_filter]
      rintro ⟨_, h⟩
      simp at h
      exact h rfl, hP.filter _⟩)).2 (fun x => by
    rw [List.mem_cons, List.mem_filter]
    constructor
    · intro hx
      by_cases e : keyB x = [47]
      · exact .inl (root_of e)
      · exact .inr ⟨hx, by simpa using e⟩
    · rintro (rfl | ⟨h, _⟩)
      · exact hroot
      · exact h)
  rw [this.length_eq]; rfl
end
theorem stOk_hist {fr : Int} {H : List HE} {R : RT} (h : Hist fr H R) (hl : H.length ≤ 150) : StOk (toM R) := by
  have hI := h.inv
  refine ⟨hI.cl, h.own, fun P h1 h2 => ?_, fun p nd hp => ?_⟩
  · have : P.Perm (R.N.map RN.path) := (List.perm_ext_iff_of_nodup (srt_nodup h1) hI.uq.n).2 (fun x => by
      rw [h2, Option.isSome_iff_exists, List.mem_map]
      constructor
      · rintro ⟨nd, h⟩
        obtain ⟨n, hn, hk, _⟩ := (node_iff (k := keyB x) hI.uq.n).1 h
        exact ⟨n, hn, keyB_inj hk⟩
      · rintro ⟨n, hn, rfl⟩
        exact ⟨_, (node_iff (k := keyB n.path) hI.uq.n).2 ⟨n, hn, rfl, rfl⟩⟩)
    rw [this.length_eq, List.length_map]
    have := hI.N; omega
  · obtain ⟨n, hn, hk, _⟩ := (node_iff (k := keyB p) hI.uq.n).1 hp
    rw [← keyB_inj hk]; exact hI.path n hn
theorem baseS_size (x : ByteArray) : (baseS x).size ≤ x.size := by
  unfold baseS
  rw [ByteArray.size_extract]; omega
structure Names (M : TM) (p : ByteArray) (ns : List ByteArray) : Prop where
  srt : ns.Pairwise ltP
  there : ∀ n ∈ ns, (M.N (keyB (kidS p n))).isSome = true ∧ n.size ≤ 60
  len : ∀ l, Below1 M p l → l.length = ns.length
theorem names_of {M : TM} (h : StOk M) {p : ByteArray} (hp : (M.N (keyB p)).isSome = true) {l : List ByteArray} (hb : Below1 M p l) : Names M p (sortB (l.map baseS)) := by
  refine ⟨sortB_sorted (names_nodup h.cl hp hb), fun n hn => ?_, fun l' hb' => ?_⟩
  · rw [sortB_mem, List.mem_map] at hn
    obtain ⟨x, hx, rfl⟩ := hn
    have h1 := ((hb.mem x).1 hx).1
    refine ⟨by rw [below_names h.cl hp hb x hx]; exact h1, ?_⟩
    obtain ⟨nd, hnd⟩ := Option.isSome_iff_exists.1 h1
    have := h.path x nd hnd
    have := baseS_size x
    omega
  · rw [below_two hb' hb]; unfold sortB; simp
end Go.Proofs.Ytjlffmkiiphfcaa

namespace Go.Proofs.Ytjlffmkiiphfcaa
open Go.ChangeShapes Go.WideShapes Go.ChangeAt Go.RowKit Go.Maps
set_option linter.unusedVariables false
set_option linter.unusedSimpArgs false
section
variable {Z : Nat → Prop} {w w' : World} {q : TB} {M : TM} {c : Nat} {D E : DV}
def KNamesPost (w : World) (M : TM) (p : ByteArray) (e : Ending) (w' : World) : Prop := ∃ v ns, e = .returned (.tuple #[v, .int .i64 0]) ∧ Names M p ns ∧ StrAt w.heap.size w' v ns ∧ Kept (fun _ => False) w w'
set_option maxRecDepth 100000 in
set_option maxHeartbeats 1000000 in
theorem names_any (h : TAt Z w q M c) (hs : StOk M) (p : ByteArray) (hn : (M.N (keyB p)).isSome = true) (hp : p.size ≤ 140737488355328) (hc : c ≤ 4000000000000) (hf : ∀ l, Below1 M p l → l.length ≤ 2000) :
    Calls Try.prog 49 #[.pointer (some ⟨q.t, 0, none⟩), .string p] w (KNamesPost w M p) := by
  have HT := Lib.hid h
  obtain ⟨D, E, h⟩ := h
  obtain ⟨c0, c1, c2, f⟩ := h.three
  have HSO := Lib.hid hs
  have HN := Lib.hid hn
  have HF := Lib.hid hf
  obtain ⟨nd, av, hM, hL, ha⟩ : ∃ nd av, M.N p.data.toList = some nd ∧ lookV D (.string p.data.toList) = some (nodeV nd av) ∧ AclAt w Z av nd.acl := by
    rcases h.look p.data.toList with ⟨nd, av, hM, hL, ha⟩ | ⟨hM, hL⟩
    · exact ⟨nd, av, hM, hL, ha⟩
    · exact absurd hM (node_of hn)
  obtain ⟨va, vn, vc, rfl⟩ := ha.shape
  have hrun := h.lookNode p hp
  rw [hL] at hrun
  simp only [Option.getD_some, Option.isSome_some, nodeV] at hrun
  have HK := Lib.hid (fun (W : World) (hk : Kept (fun _ => False) w W) => kids_any (HT.out.kept0 hk) p hp hc)
  clear h hL ha hM hs hn hf
  go_enter Try.func49, Try.ntmps49
  go_wp2_with fail
  refine (HK.out _ ?_).mono ?_
  · exact (Kept.refl _ w).alloc _
  rintro e w5 ⟨v, l, rfl, hb, hv, hk⟩
  have HB := Lib.hid hb
  have HK5 : Hid (Kept (fun _ => False) w w5) := Lib.hid (((Kept.refl _ w).alloc _).trans hk)
  have HV := Lib.hid (row_mono hv (show w.heap.size ≤ _ by simp))
  have HSR := Lib.hid (sortS_call HV.out (by rw [List.length_map]; have := HF.out l hb; omega))
  obtain ⟨a5, c5, hvv⟩ := own_shape hv
  rw [List.length_map] at hvv
  subst hvv
  clear hb hv hk HK
  go_wp2_with fail
  refine HSR.out.mono ?_
  rintro e w6 ⟨rfl, hv6, hg6⟩
  have HV6 := Lib.hid hv6
  have HK6 : Hid (Kept (fun _ => False) w w6) := Lib.hid (HK5.out.trans' (Kept.of_grownBy hg6) (fun k hk e => by have := (own_lo HV.out e.symm).1; omega))
  clear hv6 hg6
  go_wp2_with fail
  go_ret2
  have hnm := names_of HSO.out HN.out HB.out
  have hv9 := HV6.out
  have hk9 := HK6.out
  refine ⟨.slice a5 l.length c5, sortB (l.map baseS), ?_, hnm, hv9, hk9⟩
  rfl
end
end Go.Proofs.Ytjlffmkiiphfcaa

namespace Go.Proofs.Ytjlffmkiiphfcaa
open Go.ChangeShapes Go.WideShapes Go.ChangeAt Go.RowKit Go.Maps
set_option linter.unusedVariables false
set_option linter.unusedSimpArgs false
/-- a variable of api.Stat's type, whatever it holds -/
def StatRow (w : World) (g : Nat) : Prop := ∃ c : Array Value, w.heap[g]? = some (.cells c 56 (0, 0)) ∧ c.size = 9
theorem StatRow.drew {w : World} {g : Nat} (h : StatRow w g) : StatRow w.drew g := h
theorem StatRow.kept0 {w w1 : World} {g : Nat} (h : StatRow w g) (hk : Kept (fun _ => False) w w1) : StatRow w1 g := by
  obtain ⟨c, hc, hs⟩ := h
  exact ⟨c, box_kept0 hc hk, hs⟩
theorem StatRow.new (w : World) (c0 c1 c2 c3 c4 c5 c6 c7 c8 : Value) : StatRow (w.alloc (.cells #[c0, c1, c2, c3, c4, c5, c6, c7, c8] 56)) w.heap.size := ⟨_, heap_alloc_new w _, rfl⟩
theorem StatRow.open {w : World} {g : Nat} (h : StatRow w g) : ∃ c0 c1 c2 c3 c4 c5 c6 c7 c8, w.heap[g]? = some (.cells #[c0, c1, c2, c3, c4, c5, c6, c7, c8] 56 (0, 0)) := by
  obtain ⟨⟨l⟩, hc, hs⟩ := h
  obtain _ | ⟨c0, _ | ⟨c1, _ | ⟨c2, _ | ⟨c3, _ | ⟨c4, _ | ⟨c5, _ | ⟨c6, _ | ⟨c7, _ | ⟨c8, _ | ⟨c9, l⟩⟩⟩⟩⟩⟩⟩⟩⟩⟩ := l <;> simp at hs
  exact ⟨c0, c1, c2, c3, c4, c5, c6, c7, c8, hc⟩
theorem StatRow.cells {w : World} {g : Nat} (h : StatRow w g) : ∃ c0 c1 c2 c3 c4 c5 c6 c7 c8, w.cell? ⟨g, 0, none⟩ = some c0 ∧ w.cell? ⟨g, 1, none⟩ = some c1 ∧ w.cell? ⟨g, 2, none⟩ = some c2 ∧ w.cell? ⟨g, 3, none⟩ = some c3 ∧ w.cell? ⟨g, 4, none⟩ = some c4 ∧ w.cell? ⟨g, 5, none⟩ = some c5 ∧ w.cell? ⟨g, 6, none⟩ = some c6 ∧ w.cell? ⟨g, 7, none⟩ = some c7 ∧ w.cell? ⟨g, 8, none⟩ = some c8 ∧ ∀ j, w.frozen? ⟨g, j, none⟩ = false := by
  obtain ⟨c0, c1, c2, c3, c4, c5, c6, c7, c8, hg⟩ := h.open
  have c : ∀ i, w.cell? ⟨g, i, none⟩ = ([c0, c1, c2, c3, c4, c5, c6, c7, c8] : List Value)[i]? := fun i => by
    rw [cell_of_row w g i _ _ (0, 0) hg, ← Array.getElem?_toList]
  exact ⟨c0, c1, c2, c3, c4, c5, c6, c7, c8, c 0, c 1, c 2, c 3, c 4, c 5, c 6, c 7, c 8, fun j => by simp [World.frozen?, hg]⟩
theorem kept9 {W : World} {g : Nat} (v0 v1 v2 v3 v4 v5 v6 v7 v8 : Value) : Kept (fun k => k = g) W (((((((((W.setCell ⟨g, 0, none⟩ v0).setCell ⟨g, 1, none⟩ v1).setCell ⟨g, 2, none⟩ v2).setCell ⟨g, 3, none⟩ v3).setCell ⟨g, 4, none⟩ v4).setCell ⟨g, 5, none⟩ v5).setCell ⟨g, 6, none⟩ v6).setCell ⟨g, 7, none⟩ v7).setCell ⟨g, 8, none⟩ v8) := by
  have e0 := Kept.refl (fun k => k = g) W
  have e1 := e0.setCell (a := ⟨g, 0, none⟩) (.inl (show (⟨g, 0, none⟩ : Addr).block = g from rfl)) v0
  have e2 := e1.setCell (a := ⟨g, 1, none⟩) (.inl (show (⟨g, 1, none⟩ : Addr).block = g from rfl)) v1
  have e3 := e2.setCell (a := ⟨g, 2, none⟩) (.inl (show (⟨g, 2, none⟩ : Addr).block = g from rfl)) v2
  have e4 := e3.setCell (a := ⟨g, 3, none⟩) (.inl (show (⟨g, 3, none⟩ : Addr).block = g from rfl)) v3
  have e5 := e4.setCell (a := ⟨g, 4, none⟩) (.inl (show (⟨g, 4, none⟩ : Addr).block = g from rfl)) v4
  have e6 := e5.setCell (a := ⟨g, 5, none⟩) (.inl (show (⟨g, 5, none⟩ : Addr).block = g from rfl)) v5
  have e7 := e6.setCell (a := ⟨g, 6, none⟩) (.inl (show (⟨g, 6, none⟩ : Addr).block = g from rfl)) v6
  have e8 := e7.setCell (a := ⟨g, 7, none⟩) (.inl (show (⟨g, 7, none⟩ : Addr).block = g from rfl)) v7
  have e9 := e8.setCell (a := ⟨g, 8, none⟩) (.inl (show (⟨g, 8, none⟩ : Addr).block = g from rfl)) v8
  exact e9
theorem kept9_in {wr W : World} {g : Nat} (hk : Kept (fun _ => False) wr W) (hg : wr.heap.size ≤ g) (v0 v1 v2 v3 v4 v5 v6 v7 v8 : Value) : Kept (fun _ => False) wr (((((((((W.setCell ⟨g, 0, none⟩ v0).setCell ⟨g, 1, none⟩ v1).setCell ⟨g, 2, none⟩ v2).setCell ⟨g, 3, none⟩ v3).setCell ⟨g, 4, none⟩ v4).setCell ⟨g, 5, none⟩ v5).setCell ⟨g, 6, none⟩ v6).setCell ⟨g, 7, none⟩ v7).setCell ⟨g, 8, none⟩ v8) := kept_in (kept9 v0 v1 v2 v3 v4 v5 v6 v7 v8) hk hg
end Go.Proofs.Ytjlffmkiiphfcaa

namespace Go.Proofs.Ytjlffmkiiphfcaa
open Go.ChangeShapes Go.WideShapes Go.ChangeAt Go.RowKit Go.Maps
set_option linter.unusedVariables false
set_option linter.unusedSimpArgs false
def ThereP (w : World) (e : Ending) (w' : World) : Prop := ∃ n0 n1 n2 n3 n4 n5 n6 n7 n8 : Int, e = .returned (.tuple #[.agg #[.int .i64 n0, .int .i64 n1, .int .i64 n2, .int .i64 n3, .int .i64 n4, .int .i64 n5, .int .i64 n6, .int .i64 n7, .int .i64 n8], .bool true]) ∧ Kept (fun _ => False) w w'
theorem TAt.drewN {Z : Nat → Prop} {w : World} {q : TB} {M : TM} {c : Nat} (h : TAt Z w q M c) (n : Nat) : TAt Z (w.drewN n) q M c := h.kept0 ((Kept.refl _ w).drewN n)
theorem stat_there {Z : Nat → Prop} {w : World} {q : TB} {M : TM} {c : Nat} (h : TAt Z w q M c) {p : ByteArray} {nd : Nd} (hn : M.N (keyB p) = some nd) (hp : p.size ≤ 140737488355328) (hc : c ≤ 4000000000000) : Calls Try.prog 25 #[.pointer (some ⟨q.t, 0, none⟩), .string p] w (ThereP w) := by
  refine (stat_any h p hp hc).mono ?_
  rintro e w' ⟨hk, ⟨h0, _⟩ | ⟨nd', l, _, _, rfl⟩⟩
  · exact absurd (h0.symm.trans hn) (by simp)
  · exact ⟨_, _, _, _, _, _, _, _, _, rfl, hk⟩
structure StL (w : World) (Z : Nat → Prop) (q : TB) (M : TM) (c : Nat) (pv : Value) (P : List ByteArray) (kv tv iv : Value) (wr : World) : Prop where
  ex : ∃ i : Nat, iv = .int .i64 i ∧ i ≤ P.length ∧ kv = .int .i64 (nonRoot (P.take i)) ∧ tv = .int .i64 (kidsIn (P.take i) P) ∧ TAt Z wr q M c ∧ StrAt w.heap.size wr pv P ∧ Kept (fun _ => False) w wr
structure StK (w : World) (Z : Nat → Prop) (q : TB) (M : TM) (c : Nat) (pv : Value) (P : List ByteArray) (nv : Value) (ns : List ByteArray) (kv : Value) (wr : World) : Prop where
  ex : ∃ k : Nat, kv = .int .i64 k ∧ k ≤ ns.length ∧ TAt Z wr q M c ∧ StrAt w.heap.size wr pv P ∧ StrAt w.heap.size wr nv ns ∧ Kept (fun _ => False) w wr
set_option maxRecDepth 100000 in
set_option maxHeartbeats 8000000 in
theorem stands_any {Z : Nat → Prop} {w : World} {q : TB} {M : TM} {c : Nat} (h : TAt Z w q M c) (hs : StOk M) (hc : c ≤ 4000000000000) :
    Calls Try.prog 20 #[.pointer (some ⟨q.t, 0, none⟩)] w (QPost true w) := by
  have HT := Lib.hid h
  have HSO := Lib.hid hs
  have HP := Lib.hid (paths_any h hc)
  clear h hs
  go_enter Try.func20, Try.ntmps20
  go_wp2_with fail
  refine HP.out.mono ?_
  rintro e w5 ⟨pv, P, rfl, hsrt, hmem, hrow, hk⟩
  have HSRT := Lib.hid hsrt
  have HMEM := Lib.hid hmem
  have HPL : Hid (P.length ≤ 2000) := Lib.hid (HSO.out.few P hsrt hmem)
  have HPR := Lib.hid hrow
  have HT5 := Lib.hid (HT.out.kept0 hk)
  have HK5 := Lib.hid hk
  obtain ⟨pa, pc, rfl⟩ := own_shape hrow
  clear hsrt hmem hrow hk HP HT
  go_wp2_with fail
  go_loopw [4, 5, 6] (fun kv tv iv wr => StL w Z q M c (.slice pa P.length pc) P kv tv iv wr) (fun _ _ iv _ => P.length - (Go.RowKit.intOf iv).toNat)
  case atStart => exact ⟨0, rfl, Nat.zero_le _, rfl, by rw [List.take_zero]; unfold kidsIn inL; rw [List.filter_eq_nil_iff.2 (fun x _ => by simp)]; rfl, HT5.out, HPR.out, HK5.out⟩
  case round =>
    obtain ⟨i, rfl, hi, rfl, rfl, ht, hpr, hk⟩ := hrel.ex
    have HT := Lib.hid ht
    have HPR := Lib.hid hpr
    have HK := Lib.hid hk
    have hpl := HPL.out
    clear hrel ht hpr hk
    obtain ⟨a, ha⟩ : ∃ a, nonRoot (P.take i) = a := ⟨_, rfl⟩
    obtain ⟨t, hT⟩ : ∃ t, kidsIn (P.take i) P = t := ⟨_, rfl⟩
    have hal : a ≤ 2000 := by rw [← ha]; exact Nat.le_trans (List.length_filter_le _ _) (by rw [List.length_take]; omega)
    have htl : t ≤ 2000 := by rw [← hT]; exact Nat.le_trans (List.length_filter_le _ _) hpl
    rw [ha, hT]
    have HA := Lib.hid ha
    have HTT := Lib.hid hT
    clear ha hT
    by_cases hlt : i < P.length
    · obtain ⟨p, hp⟩ : ∃ p, P[i]? = some p := ⟨_, List.getElem?_eq_getElem hlt⟩
      have HP := Lib.hid hp
      have hps := (HMEM.out p).1 (List.mem_of_getElem? hp)
      obtain ⟨nd, hnd⟩ : ∃ nd, M.N (keyB p) = some nd := Option.isSome_iff_exists.1 hps
      have hpz := HSO.out.path p nd hnd
      obtain ⟨g, rfl, hc0⟩ := HPR.out.at_ (W := w) hp
      have HFEW : Hid (∀ l, Below1 M p l → l.length ≤ 2000) := Lib.hid (fun l hb => by rw [below_len hb (srt_nodup HSRT.out) HMEM.out]; exact Nat.le_trans (List.length_filter_le _ _) HPL.out)
      have HST := Lib.hid (stat_any HT.out p (by omega) hc)
      have HKN := Lib.hid (fun (W : World) (hk : Kept (fun _ => False) wr W) => names_any (HT.out.kept0 hk) HSO.out p hps (by omega) hc HFEW.out)
      have HND := Lib.hid hnd
      have HPS := Lib.hid hps
      clear hp hnd hps
      go_wp2_with fail
      refine HST.out.mono ?_
      rintro e w6 ⟨hk6, hst⟩
      rcases hst with ⟨hn, _⟩ | ⟨nd', l', hn, hbl, rfl⟩
      · exact absurd (hn.symm.trans HND.out) (by simp)
      have HBL := Lib.hid hbl
      have HK6 := Lib.hid hk6
      clear hk6 hn HST hc0 hbl
      obtain ⟨d9, a9, ⟨z1, z2, z3, z4, z5, z6, z7⟩⟩ := nd'
      obtain ⟨dl, hdl⟩ : ∃ dl : Int, (d9.size : Int) = dl := ⟨_, rfl⟩
      obtain ⟨kl, hkl⟩ : ∃ kl : Nat, l'.length = kl := ⟨_, rfl⟩
      rw [hdl, hkl]
      have HKL := Lib.hid hkl
      clear hdl hkl
      unfold statV
      have hk7 : Kept (fun _ => False) wr (w6.alloc (statO ⟨z1, z2, z3, z4, z5, z6, z7⟩ dl kl)) := HK6.out.alloc _
      have HB7 : Hid ((w6.alloc (statO ⟨z1, z2, z3, z4, z5, z6, z7⟩ dl kl)).heap[w6.heap.size]? = some (statO ⟨z1, z2, z3, z4, z5, z6, z7⟩ dl kl)) := Lib.hid (heap_alloc_new w6 _)
      have HK7 := Lib.hid hk7
      have c7 : (w6.alloc (statO ⟨z1, z2, z3, z4, z5, z6, z7⟩ dl kl)).cell? ⟨g, i, none⟩ = some (.string p) := by
        obtain ⟨g', e, hcc⟩ := (HPR.out.kept hk7 (fun _ _ f => f)).at_ (W := w) HP.out
        injection e with e; injection e with e; subst e; exact hcc
      clear hk7
      go_wp2_with fail
      refine (HKN.out _ HK7.out).mono ?_
      rintro e w8 ⟨nv, ns, rfl, hnm, hnr, hk8⟩
      have HNM := Lib.hid hnm
      have hlen : kl = ns.length := by rw [← HKL.out]; exact hnm.len l' HBL.out
      subst hlen
      have HK8 := Lib.hid (HK7.out.trans hk8)
      have HNR : Hid (StrAt w.heap.size w8 nv ns) := Lib.hid (row_mono hnr (show w.heap.size ≤ _ from Nat.le_trans HK.out.size HK7.out.size))
      have HB8 := Lib.hid (box_kept0 HB7.out hk8)
      have HPR8 := Lib.hid (HPR.out.kept HK8.out (fun _ _ f => f))
      have HT8 := Lib.hid (HT.out.kept0 HK8.out)
      obtain ⟨na, nc, rfl⟩ := own_shape hnr
      have hnl : ns.length ≤ 2000 := by rw [← HKL.out]; exact HFEW.out l' HBL.out
      clear hnm hnr hk8 c7 HKN HB7
      have x8 : w8.cell? ⟨w6.heap.size, 8, none⟩ = some (.int .i64 ns.length) := by
        rw [cell_of_row w8 w6.heap.size 8 _ _ (0, 0) HB8.out]; rfl
      obtain ⟨b7, hb7⟩ : ∃ b7, w6.heap.size = b7 := ⟨_, rfl⟩
      rw [hb7] at x8 HB8
      rw [hb7]
      have c8 : w8.cell? ⟨g, i, none⟩ = some (.string p) := by
        obtain ⟨g', e, hcc⟩ := HPR8.out.at_ (W := w) HP.out
        injection e with e; injection e with e; subst e; exact hcc
      clear hb7
      have i0 : (0 : Int) ≤ (i : Int) := by omega
      have i1 : (i : Int) < (P.length : Int) := by omega
      go_wp2_with fail
      go_cut [70] (fun v wx => v = .bool false ∧ Kept (fun _ => False) w8 wx)
      case first =>
        by_cases hi0 : 0 < i
        · obtain ⟨j, hj⟩ : ∃ j, i - 1 = j := ⟨_, rfl⟩
          obtain ⟨p', hp'⟩ : ∃ p', P[j]? = some p' := ⟨_, List.getElem?_eq_getElem (by omega)⟩
          have hltp : ltP p' p := by
            obtain ⟨ha, rfl⟩ := List.getElem?_eq_some_iff.1 hp'
            obtain ⟨hb, rfl⟩ := List.getElem?_eq_some_iff.1 HP.out
            exact (List.pairwise_iff_getElem.1 HSRT.out) j i ha hb (by omega)
          have e1 : (i : Int) - 1 = (j : Int) := by omega
          have j0 : (0 : Int) ≤ (j : Int) := by omega
          have j1 : (j : Int) < (P.length : Int) := by omega
          have cj : w8.cell? ⟨g, j, none⟩ = some (.string p') := by
            obtain ⟨g', e, hcc⟩ := HPR8.out.at_ (W := w) hp'
            injection e with e; injection e with e; subst e; exact hcc
          have hl1 : Op.bytesLess p.toList p'.toList = false := by rw [less_iff]; exact decide_eq_false (fun h => ltP_irrefl p (ltP_trans h hltp))
          have hl2 : (p.toList == p'.toList) = false := str_ne (fun e => ltP_irrefl p (by rw [← e] at hltp; exact hltp))
          clear hp' hj
          go_wp2_with fail
          go_quiet (fail)
          go_wp2_with fail
          go_meet
          exact ⟨rfl, (Kept.refl _ w8).drewN _⟩
        · go_wp2_with fail
          go_quiet (fail)
          go_wp2_with fail
          go_meet
          exact ⟨rfl, (Kept.refl _ w8).drewN _⟩
      case rest =>
        obtain ⟨rfl, hkc⟩ := hcut
        have HK9 := Lib.hid (HK8.out.trans hkc)
        have HT9 := Lib.hid (HT8.out.kept0 hkc)
        have HPR9 := Lib.hid (HPR8.out.kept hkc (fun _ _ f => f))
        have HNR9 := Lib.hid (HNR.out.kept hkc (fun _ _ f => f))
        have HB9 := Lib.hid (box_kept0 HB8.out hkc)
        have KP : Hid (∀ W, Kept (fun _ => False) wc W → W.cell? ⟨g, i, none⟩ = some (.string p)) := Lib.hid (fun W hW => by
          obtain ⟨g', e, hcc⟩ := (HPR9.out.kept hW (fun _ _ f => f)).at_ (W := w) HP.out
          injection e with e; injection e with e; subst e; exact hcc)
        have x9 : wc.cell? ⟨b7, 8, none⟩ = some (.int .i64 ns.length) := by
          rw [cell_of_row wc b7 8 _ _ (0, 0) HB9.out]; rfl
        have c9 := KP.out wc (Kept.refl _ _)
        have HTN : Hid (t + ns.length = kidsIn (P.take (i + 1)) P) := Lib.hid (by
          rw [kidsIn_take (srt_nodup HSRT.out) HP.out, HTT.out, ← below_len HBL.out (srt_nodup HSRT.out) HMEM.out, HKL.out])
        have HAN := Lib.hid (nonRoot_take HP.out)
        rw [HA.out] at HAN
        clear x8 c8 hkc HB8 HNR HPR8 HT8 HK7 HK6 HB9
        by_cases hr : keyB p = [47]
        · have b0 : (p.toList == [47]) = true := by rw [Lib.toList_data]; show (keyB p == [47]) = true; rw [hr]; rfl
          have hroot : nonRoot (P.take (i + 1)) = a := by rw [HAN.out, if_neg (by simp [hr])]; rfl
          have HTi := HT9
          have HPRi := HPR9
          have HNRi := HNR9
          have HKi : Hid (Kept (fun _ => False) w wc) := Lib.hid (HK.out.trans HK9.out)
          go_wp2_with fail
          go_loopw [13] (fun kv wr => StK w Z q M c (.slice (some ⟨g, 0, none⟩) P.length pc) P (.slice na ns.length nc) ns kv wr) (fun kv _ => ns.length - (Go.RowKit.intOf kv).toNat)
          case atStart => exact ⟨0, rfl, Nat.zero_le _, HTi.out, HPRi.out, HNRi.out, HKi.out⟩
          case round =>
            obtain ⟨k, rfl, hk, ht, hpr, hnr, hkk⟩ := hrel.ex
            have HTk := Lib.hid ht
            have HPRk := Lib.hid hpr
            have HNRk := Lib.hid hnr
            have HKk := Lib.hid hkk
            clear hrel ht hpr hnr hkk
            by_cases hlk : k < ns.length
            · obtain ⟨n, hn⟩ : ∃ n, ns[k]? = some n := ⟨_, List.getElem?_eq_getElem hlk⟩
              have HN := Lib.hid hn
              obtain ⟨hth, hnz⟩ := HNM.out.there n (List.mem_of_getElem? hn)
              obtain ⟨nk, hnk⟩ : ∃ nk, M.N (keyB (kidS p n)) = some nk := Option.isSome_iff_exists.1 hth
              have hkz := HSO.out.path _ nk hnk
              have KQ : Hid (∀ W, Kept (fun _ => False) wr W → W.cell? ⟨g, i, none⟩ = some (.string p)) := Lib.hid (fun W hW => by
                obtain ⟨g', e, hcc⟩ := (HPRk.out.kept hW (fun _ _ f => f)).at_ (W := w) HP.out
                injection e with e; injection e with e; subst e; exact hcc)
              obtain ⟨gn, rfl, hcn⟩ := HNRk.out.at_ (W := w) hn
              have KN : Hid (∀ W, Kept (fun _ => False) wr W → ∀ m' n', ns[m']? = some n' → W.cell? ⟨gn, m', none⟩ = some (.string n')) := Lib.hid (fun W hW m' n' hm => by
                obtain ⟨g', e, hcc⟩ := (HNRk.out.kept hW (fun _ _ f => f)).at_ (W := w) hm
                injection e with e; injection e with e; subst e; exact hcc)
              have HKD := Lib.hid (fun W => refKid_any p n W (by omega) (by omega))
              have HSK : Hid (∀ W : World, Kept (fun _ => False) wr W → Calls Try.prog 25 #[.pointer (some ⟨q.t, 0, none⟩), .string (kidS p n)] W (ThereP W)) := Lib.hid (fun (W : World) (hW : Kept (fun _ => False) wr W) => stat_there (HTk.out.kept0 hW) hnk (by omega) hc)
              have HNK := Lib.hid hnk
              have KS : Hid (∀ W, Kept (fun _ => False) wr W → W.cell? ⟨g, i, none⟩ = some (.string p) ∧ W.cell? ⟨gn, k, none⟩ = some (.string n)) := Lib.hid (fun W hW => ⟨KQ.out W hW, KN.out W hW k n HN.out⟩)
              have q1 := KQ.out wr (Kept.refl _ _)
              have q2 := KN.out wr (Kept.refl _ _) k n hn
              have k0 : (0 : Int) ≤ (k : Int) := by omega
              have k1 : (k : Int) < (ns.length : Int) := by omega
              clear hn hth hnk hcn
              go_wp2_with fail
              go_cut [15] (fun v wx => v = .bool true ∧ Kept (fun _ => False) wr wx)
              case first =>
                go_region_held3 (fun W => W.cell? ⟨g, i, none⟩ = some (.string p) ∧ W.cell? ⟨gn, k, none⟩ = some (.string n))
                  (first
                    | with_reducible assumption
                    | (refine KS.out _ ?_
                       repeat' first
                         | with_reducible assumption
                         | with_reducible exact Kept.refl _ _
                         | with_reducible refine Kept.drew ?_
                         | with_reducible refine Kept.alloc ?_ _
                         | with_reducible refine Kept.thru ?_ (by with_reducible assumption)
                         | with_reducible exact Nat.le_refl _
                         | with_reducible refine kept9_in ?_ ?_ _ _ _ _ _ _ _ _ _))
                  (first
                    | (go_at_call 51; with_reducible refine (HKD.out _).mono ?_; rintro ee w11 ⟨rfl, rfl⟩)
                    | (go_at_call 25
                       with_reducible refine (HSK.out _ ?_).mono ?_
                       · repeat' first
                           | with_reducible exact Kept.refl _ _
                           | with_reducible refine Kept.drew ?_
                           | with_reducible refine Kept.alloc ?_ _
                       rintro ee w11 ⟨n0, n1, n2, n3, n4, n5, n6, n7, n8, rfl, hk11⟩
                       first
                         | with_reducible (have he3 := StatRow.kept0 (hk := hk11) (StatRow.new _ _ _ _ _ _ _ _ _ _))
                         | with_reducible (have he3 := StatRow.kept0 (hk := hk11) (StatRow.drew (StatRow.new _ _ _ _ _ _ _ _ _ _)))
                         | skip)
                    | (with_reducible refine upon_pass ?_; (try go_split_ands); obtain ⟨z0, z1, z2, z3, z4, z5, z6, z7, z8, e0, e1, e2, e3, e4, e5, e6, e7, e8, ef⟩ := StatRow.cells (by with_reducible assumption); go_simp)
                    | fail)
                all_goals go_wp2_with fail
                all_goals go_meet
                all_goals
                  refine ⟨rfl, ?_⟩
                  repeat' first
                    | with_reducible assumption
                    | with_reducible exact Kept.refl _ _
                    | with_reducible refine Kept.drew ?_
                    | with_reducible refine Kept.alloc ?_ _
                    | with_reducible refine Kept.thru ?_ (by with_reducible assumption)
                    | with_reducible exact Nat.le_refl _
                    | with_reducible refine kept9_in ?_ ?_ _ _ _ _ _ _ _ _ _
              case rest =>
                obtain ⟨rfl, hkc2⟩ := hcut
                have HKC2 := Lib.hid hkc2
                have HTn := Lib.hid (HTk.out.kept0 hkc2)
                have HPRn := Lib.hid (HPRk.out.kept hkc2 (fun _ _ f => f))
                have HNRn := Lib.hid (HNRk.out.kept hkc2 (fun _ _ f => f))
                have HKn : Hid (Kept (fun _ => False) w _) := Lib.hid (HKk.out.trans hkc2)
                have q3 := KN.out wc hkc2 k n HN.out
                clear hkc2 q1 q2 KS
                by_cases hk0 : 0 < k
                · obtain ⟨j2, hj2⟩ : ∃ j, k - 1 = j := ⟨_, rfl⟩
                  obtain ⟨n', hn'⟩ : ∃ n', ns[j2]? = some n' := ⟨_, List.getElem?_eq_getElem (by omega)⟩
                  have hltn : ltP n' n := by
                    obtain ⟨ha, rfl⟩ := List.getElem?_eq_some_iff.1 hn'
                    obtain ⟨hb, hb2⟩ := List.getElem?_eq_some_iff.1 HN.out
                    rw [← hb2]
                    exact (List.pairwise_iff_getElem.1 HNM.out.srt) j2 k ha hb (by omega)
                  have e1 : (k : Int) - 1 = (j2 : Int) := by omega
                  have j0 : (0 : Int) ≤ (j2 : Int) := by omega
                  have j1 : (j2 : Int) < (ns.length : Int) := by omega
                  have cj := KN.out wc HKC2.out j2 n' hn'
                  have hl1 : Op.bytesLess n.toList n'.toList = false := by rw [less_iff]; exact decide_eq_false (fun h => ltP_irrefl n (ltP_trans h hltn))
                  have hl2 : (n.toList == n'.toList) = false := str_ne (fun e => ltP_irrefl n (by rw [← e] at hltn; exact hltn))
                  clear hn' hj2 hltn
                  go_wp2_with fail
                  go_quiet (fail)
                  go_wp2_with fail
                  refine ⟨⟨k + 1, by go_num, hlk, HTn.out.drewN _, HPRn.out.kept ((Kept.refl (fun _ => False) _).drewN _) (fun _ _ f => f), HNRn.out.kept ((Kept.refl (fun _ => False) _).drewN _) (fun _ _ f => f), HKn.out.drewN _⟩, ?_⟩
                  show ns.length - ((k : Int) + 1).toNat < ns.length - (k : Int).toNat
                  omega
                · go_wp2_with fail
                  go_quiet (fail)
                  go_wp2_with fail
                  refine ⟨⟨k + 1, by go_num, hlk, HTn.out.drewN _, HPRn.out.kept ((Kept.refl (fun _ => False) _).drewN _) (fun _ _ f => f), HNRn.out.kept ((Kept.refl (fun _ => False) _).drewN _) (fun _ _ f => f), HKn.out.drewN _⟩, ?_⟩
                  show ns.length - ((k : Int) + 1).toNat < ns.length - (k : Int).toNat
                  omega
            · have hkn : k = ns.length := by omega
              go_wp2_with fail
              refine ⟨⟨i + 1, by go_num, hlt, ?_, ?_, HTk.out, HPRk.out, HKk.out⟩, ?_⟩
              · (rw [hroot]; try rfl)
              · rw [← HTN.out]; rfl
              · show P.length - ((i : Int) + 1).toNat < P.length - (i : Int).toNat
                omega
        · have b0 : (p.toList == [47]) = false := by rw [Lib.toList_data]; show (keyB p == [47]) = false; exact beq_false_of_ne hr
          have hroot : nonRoot (P.take (i + 1)) = a + 1 := by rw [HAN.out, if_pos hr]
          have hup : M.N (keyB (parS p)) ≠ none := HSO.out.cl.up p (node_of HPS.out) hr
          obtain ⟨nu, hnu⟩ : ∃ nu, M.N (keyB (parS p)) = some nu := Option.ne_none_iff_exists'.1 hup
          have HPA := Lib.hid (refParent_any p wc (by omega))
          have HSU := Lib.hid (stat_any HT9.out (parS p) (by have := HSO.out.path _ _ hnu; omega) hc)
          have HNU := Lib.hid hnu
          clear hup hnu
          go_wp2_with fail
          refine HPA.out.mono ?_
          rintro e w10 ⟨rfl, rfl⟩
          go_wp2_with fail
          refine HSU.out.mono ?_
          rintro e w10 ⟨hk10, hst⟩
          rcases hst with ⟨hn, _⟩ | ⟨nu', lu, hn, _, rfl⟩
          · exact absurd (hn.symm.trans HNU.out) (by simp)
          have HK10 := Lib.hid hk10
          clear hk10 hn HSU HPA
          obtain ⟨d8, a8, ⟨v1, v2, v3, v4, v5, v6, v7⟩⟩ := nu'
          obtain ⟨dl2, hdl2⟩ : ∃ dl2 : Int, (d8.size : Int) = dl2 := ⟨_, rfl⟩
          obtain ⟨kl2, hkl2⟩ : ∃ kl2 : Int, (lu.length : Int) = kl2 := ⟨_, rfl⟩
          rw [hdl2, hkl2]
          clear hdl2 hkl2
          unfold statV
          have hk12 : Kept (fun _ => False) wc (w10.alloc (statO ⟨v1, v2, v3, v4, v5, v6, v7⟩ dl2 kl2)) := HK10.out.alloc _
          have HTi := Lib.hid (HT9.out.kept0 hk12)
          have HPRi := Lib.hid (HPR9.out.kept hk12 (fun _ _ f => f))
          have HNRi := Lib.hid (HNR9.out.kept hk12 (fun _ _ f => f))
          have HKi : Hid (Kept (fun _ => False) w _) := Lib.hid ((HK.out.trans HK9.out).trans hk12)
          clear hk12
          go_wp2_with fail
          go_loopw [13] (fun kv wr => StK w Z q M c (.slice (some ⟨g, 0, none⟩) P.length pc) P (.slice na ns.length nc) ns kv wr) (fun kv _ => ns.length - (Go.RowKit.intOf kv).toNat)
          case atStart => exact ⟨0, rfl, Nat.zero_le _, HTi.out, HPRi.out, HNRi.out, HKi.out⟩
          case round =>
            obtain ⟨k, rfl, hk, ht, hpr, hnr, hkk⟩ := hrel.ex
            have HTk := Lib.hid ht
            have HPRk := Lib.hid hpr
            have HNRk := Lib.hid hnr
            have HKk := Lib.hid hkk
            clear hrel ht hpr hnr hkk
            by_cases hlk : k < ns.length
            · obtain ⟨n, hn⟩ : ∃ n, ns[k]? = some n := ⟨_, List.getElem?_eq_getElem hlk⟩
              have HN := Lib.hid hn
              obtain ⟨hth, hnz⟩ := HNM.out.there n (List.mem_of_getElem? hn)
              obtain ⟨nk, hnk⟩ : ∃ nk, M.N (keyB (kidS p n)) = some nk := Option.isSome_iff_exists.1 hth
              have hkz := HSO.out.path _ nk hnk
              have KQ : Hid (∀ W, Kept (fun _ => False) wr W → W.cell? ⟨g, i, none⟩ = some (.string p)) := Lib.hid (fun W hW => by
                obtain ⟨g', e, hcc⟩ := (HPRk.out.kept hW (fun _ _ f => f)).at_ (W := w) HP.out
                injection e with e; injection e with e; subst e; exact hcc)
              obtain ⟨gn, rfl, hcn⟩ := HNRk.out.at_ (W := w) hn
              have KN : Hid (∀ W, Kept (fun _ => False) wr W → ∀ m' n', ns[m']? = some n' → W.cell? ⟨gn, m', none⟩ = some (.string n')) := Lib.hid (fun W hW m' n' hm => by
                obtain ⟨g', e, hcc⟩ := (HNRk.out.kept hW (fun _ _ f => f)).at_ (W := w) hm
                injection e with e; injection e with e; subst e; exact hcc)
              have HKD := Lib.hid (fun W => refKid_any p n W (by omega) (by omega))
              have HSK : Hid (∀ W : World, Kept (fun _ => False) wr W → Calls Try.prog 25 #[.pointer (some ⟨q.t, 0, none⟩), .string (kidS p n)] W (ThereP W)) := Lib.hid (fun (W : World) (hW : Kept (fun _ => False) wr W) => stat_there (HTk.out.kept0 hW) hnk (by omega) hc)
              have HNK := Lib.hid hnk
              have KS : Hid (∀ W, Kept (fun _ => False) wr W → W.cell? ⟨g, i, none⟩ = some (.string p) ∧ W.cell? ⟨gn, k, none⟩ = some (.string n)) := Lib.hid (fun W hW => ⟨KQ.out W hW, KN.out W hW k n HN.out⟩)
              have q1 := KQ.out wr (Kept.refl _ _)
              have q2 := KN.out wr (Kept.refl _ _) k n hn
              have k0 : (0 : Int) ≤ (k : Int) := by omega
              have k1 : (k : Int) < (ns.length : Int) := by omega
              clear hn hth hnk hcn
              go_wp2_with fail
              go_cut [15] (fun v wx => v = .bool true ∧ Kept (fun _ => False) wr wx)
              case first =>
                go_region_held3 (fun W => W.cell? ⟨g, i, none⟩ = some (.string p) ∧ W.cell? ⟨gn, k, none⟩ = some (.string n))
                  (first
                    | with_reducible assumption
                    | (refine KS.out _ ?_
                       repeat' first
                         | with_reducible assumption
                         | with_reducible exact Kept.refl _ _
                         | with_reducible refine Kept.drew ?_
                         | with_reducible refine Kept.alloc ?_ _
                         | with_reducible refine Kept.thru ?_ (by with_reducible assumption)
                         | with_reducible exact Nat.le_refl _
                         | with_reducible refine kept9_in ?_ ?_ _ _ _ _ _ _ _ _ _))
                  (first
                    | (go_at_call 51; with_reducible refine (HKD.out _).mono ?_; rintro ee w11 ⟨rfl, rfl⟩)
                    | (go_at_call 25
                       with_reducible refine (HSK.out _ ?_).mono ?_
                       · repeat' first
                           | with_reducible exact Kept.refl _ _
                           | with_reducible refine Kept.drew ?_
                           | with_reducible refine Kept.alloc ?_ _
                       rintro ee w11 ⟨n0, n1, n2, n3, n4, n5, n6, n7, n8, rfl, hk11⟩
                       first
                         | with_reducible (have he3 := StatRow.kept0 (hk := hk11) (StatRow.new _ _ _ _ _ _ _ _ _ _))
                         | with_reducible (have he3 := StatRow.kept0 (hk := hk11) (StatRow.drew (StatRow.new _ _ _ _ _ _ _ _ _ _)))
                         | skip)
                    | (with_reducible refine upon_pass ?_; (try go_split_ands); obtain ⟨z0, z1, z2, z3, z4, z5, z6, z7, z8, e0, e1, e2, e3, e4, e5, e6, e7, e8, ef⟩ := StatRow.cells (by with_reducible assumption); go_simp)
                    | fail)
                all_goals go_wp2_with fail
                all_goals go_meet
                all_goals
                  refine ⟨rfl, ?_⟩
                  repeat' first
                    | with_reducible assumption
                    | with_reducible exact Kept.refl _ _
                    | with_reducible refine Kept.drew ?_
                    | with_reducible refine Kept.alloc ?_ _
                    | with_reducible refine Kept.thru ?_ (by with_reducible assumption)
                    | with_reducible exact Nat.le_refl _
                    | with_reducible refine kept9_in ?_ ?_ _ _ _ _ _ _ _ _ _
              case rest =>
                obtain ⟨rfl, hkc2⟩ := hcut
                have HKC2 := Lib.hid hkc2
                have HTn := Lib.hid (HTk.out.kept0 hkc2)
                have HPRn := Lib.hid (HPRk.out.kept hkc2 (fun _ _ f => f))
                have HNRn := Lib.hid (HNRk.out.kept hkc2 (fun _ _ f => f))
                have HKn : Hid (Kept (fun _ => False) w _) := Lib.hid (HKk.out.trans hkc2)
                have q3 := KN.out wc hkc2 k n HN.out
                clear hkc2 q1 q2 KS
                by_cases hk0 : 0 < k
                · obtain ⟨j2, hj2⟩ : ∃ j, k - 1 = j := ⟨_, rfl⟩
                  obtain ⟨n', hn'⟩ : ∃ n', ns[j2]? = some n' := ⟨_, List.getElem?_eq_getElem (by omega)⟩
                  have hltn : ltP n' n := by
                    obtain ⟨ha, rfl⟩ := List.getElem?_eq_some_iff.1 hn'
                    obtain ⟨hb, hb2⟩ := List.getElem?_eq_some_iff.1 HN.out
                    rw [← hb2]
                    exact (List.pairwise_iff_getElem.1 HNM.out.srt) j2 k ha hb (by omega)
                  have e1 : (k : Int) - 1 = (j2 : Int) := by omega
                  have j0 : (0 : Int) ≤ (j2 : Int) := by omega
                  have j1 : (j2 : Int) < (ns.length : Int) := by omega
                  have cj := KN.out wc HKC2.out j2 n' hn'
                  have hl1 : Op.bytesLess n.toList n'.toList = false := by rw [less_iff]; exact decide_eq_false (fun h => ltP_irrefl n (ltP_trans h hltn))
                  have hl2 : (n.toList == n'.toList) = false := str_ne (fun e => ltP_irrefl n (by rw [← e] at hltn; exact hltn))
                  clear hn' hj2 hltn
                  go_wp2_with fail
                  go_quiet (fail)
                  go_wp2_with fail
                  refine ⟨⟨k + 1, by go_num, hlk, HTn.out.drewN _, HPRn.out.kept ((Kept.refl (fun _ => False) _).drewN _) (fun _ _ f => f), HNRn.out.kept ((Kept.refl (fun _ => False) _).drewN _) (fun _ _ f => f), HKn.out.drewN _⟩, ?_⟩
                  show ns.length - ((k : Int) + 1).toNat < ns.length - (k : Int).toNat
                  omega
                · go_wp2_with fail
                  go_quiet (fail)
                  go_wp2_with fail
                  refine ⟨⟨k + 1, by go_num, hlk, HTn.out.drewN _, HPRn.out.kept ((Kept.refl (fun _ => False) _).drewN _) (fun _ _ f => f), HNRn.out.kept ((Kept.refl (fun _ => False) _).drewN _) (fun _ _ f => f), HKn.out.drewN _⟩, ?_⟩
                  show ns.length - ((k : Int) + 1).toNat < ns.length - (k : Int).toNat
                  omega
            · have hkn : k = ns.length := by omega
              go_wp2_with fail
              refine ⟨⟨i + 1, by go_num, hlt, ?_, ?_, HTk.out, HPRk.out, HKk.out⟩, ?_⟩
              · (rw [hroot]; try rfl)
              · rw [← HTN.out]; rfl
              · show P.length - ((i : Int) + 1).toNat < P.length - (i : Int).toNat
                omega
    · have hip : i = P.length := by omega
      have ha9 := HA.out
      have ht9 := HTT.out
      rw [hip, List.take_length] at ha9 ht9
      have hat : a = t := by rw [← ha9, ← ht9]; exact (kidsIn_all HSO.out.cl HMEM.out).symm
      have hlen : P.length = a + 1 := by rw [← ha9]; exact nonRoot_all HSO.out.cl (srt_nodup HSRT.out) HMEM.out
      subst hat
      have hl1 : (P.length : Int) = (a : Int) + 1 := by omega
      clear ha9 ht9 hip hlen
      go_wp2_with fail
      go_ret
      exact ⟨rfl, HK.out⟩
end Go.Proofs.Ytjlffmkiiphfcaa

namespace Go.Proofs.Ytjlffmkiiphfcaa
open Go.ChangeShapes Go.WideShapes Go.ChangeAt Go.RowKit Go.Maps
set_option linter.unusedVariables false
set_option linter.unusedSimpArgs false
/-- what is closed owns nothing -/
theorem closed_none {M : TM} (h : OwnM M) {s : Int} (hs : s ≠ 0) (hn : M.S s = none) (x : ByteArray) : ¬ OwnedBy M s x := by
  rintro ⟨nd, h1, h2⟩
  rcases h _ nd h1 with h0 | ⟨_, _, h3⟩
  · exact hs (h2.symm.trans h0)
  · rw [h2, hn] at h3; cases h3
theorem stOk_new : StOk newM := by
  have := stOk_hist (Hist.nil (fr := 1)) (by simp)
  rw [toM_new] at this; exact this
theorem stOk_take {fr : Int} {H : List HE} {R : RT} (h : Hist fr H R) (hl : H.length ≤ 150) (i : Nat) : StOk (runH newM (H.take i)) := by
  obtain ⟨R0, h0, _⟩ := h.tail i
  rw [(runH_hist h0).1]
  exact stOk_hist h0 (by rw [List.length_take]; omega)
/-- behind a close there is no such session -/
theorem close_gone {H : List HE} {i : Nat} {E : HE} (h : H[i]? = some E) (h6 : E.x.kind = 6) : (runH newM (H.take (i + 1))).S E.x.owner = none := by
  obtain ⟨hi, rfl⟩ := List.getElem?_eq_some_iff.1 h
  rw [List.take_succ_eq_append_getElem hi, runH_snoc, apply_SO]
  unfold sessO
  rw [if_neg (by show ¬ H[i].x.kind = 5; omega), if_pos (show H[i].tx.t.kind = 6 from h6)]
  exact updN_same _ _ _
structure KeL (w : World) (B : Nat) (v : Value) (H : List HE) (q : TB) (iv : Value) (wr : World) : Prop where
  ex : ∃ i : Nat, iv = .int .i64 i ∧ i ≤ H.length ∧ HsN w B v H [(q, runH newM (H.take i))] (1 + 2000002 * i) wr
set_option maxRecDepth 100000 in
set_option maxHeartbeats 8000000 in
theorem ke_walk (w : World) (a0 : Option Addr) (cap0 : Nat) (l0 : List ActD) (h0 : ActsD w a0 l0) :
    Calls Try.prog 4 #[.slice a0 l0.length cap0] w (QPost true w) := by
  have H0 := Lib.hid h0
  clear h0
  go_enter Try.func4, Try.ntmps4
  go_wp2_with fail
  refine (tawake_any w).mono ?_
  rintro e w1 ⟨rfl, hk1⟩
  have HK1 := Lib.hid hk1
  have HHI := Lib.hid (hist_any a0 cap0 l0 (H0.out.kept0 hk1) 1 (by decide) (by decide))
  clear hk1
  go_wp2_with fail
  refine HHI.out.mono ?_
  rintro e w2 ⟨v, b, H, R, rfl, hat, hhi, _, hlen, _, _, hk2⟩
  have hk2' := HK1.out.trans hk2
  have HLEN := Lib.hid hlen
  have HSE := Lib.hid hhi.sess
  have HSOK := Lib.hid (stOk_take hhi hlen)
  have HS0 : Hid (HsN w w2.heap.size v H [] 1 w2) := Lib.hid ⟨fun p hp => (List.not_mem_nil hp).elim, .nil, hat.low HK1.out.size, fun p hp => (List.not_mem_nil hp).elim, hk2'⟩
  obtain ⟨av, cv, rfl⟩ := own_shape hat.own
  obtain ⟨B, HB⟩ : ∃ B, Hid (w2.heap.size = B) := ⟨_, Lib.hid rfl⟩
  have HN1 := Lib.hid (tnew_any w2 (B := B) (Nat.le_of_eq HB.out.symm))
  rw [HB.out] at HS0
  clear hat hhi hlen hk2 hk2' HHI HK1
  go_wp2_with fail
  refine HN1.out.mono ?_
  rintro e w3 ⟨q, rfl, hT, hk3, hq⟩
  have HS : Hid (HsN w B _ H [(q, newM)] 1 w3) := Lib.hid (HS0.out.more HS0.out.less hT hk3 hq)
  clear hT hk3 hq HN1 HS0 HB
  go_wp2_with fail
  go_loopw [7] (fun iv wr => KeL w B (.slice av H.length cv) H q iv wr) (fun iv _ => H.length - (intOf iv).toNat)
  case atStart => exact ⟨0, rfl, Nat.zero_le _, HS.out⟩
  case round =>
    obtain ⟨i, rfl, hi, hs⟩ := hrel.ex
    have HS := Lib.hid hs
    have hlen := HLEN.out
    clear hrel hs
    by_cases hlt : i < H.length
    · obtain ⟨E, hE⟩ : ∃ E, H[i]? = some E := ⟨_, List.getElem?_eq_getElem hlt⟩
      have HE' := Lib.hid hE
      have HSE1 := Lib.hid (HSE.out E (List.mem_of_getElem? hE))
      obtain ⟨g, rfl⟩ := HS.out.blk hE
      have HA1 := Lib.hid (hs_apply HS.out (i := 0) (q := q) (M := runH newM (H.take i)) rfl hE (by omega))
      obtain ⟨x0, x1, x2, x3, x4, x5, x6, x7, x8, x9, x10⟩ := HS.out.ent hE
      clear hE
      unfold entV at HA1
      go_wp2_with fail
      refine HA1.out.mono ?_
      rintro e w5 ⟨va, vm, rfl, hs⟩
      obtain ⟨M1, hM1⟩ : ∃ M1, runH newM (H.take (i + 1)) = M1 := ⟨_, rfl⟩
      have hs1 : HsN w B (.slice (some ⟨g, 0, none⟩) H.length cv) H [(q, runH newM (H.take (i + 1)))] (1 + 2000002 * i + 2000002) w5 := by
        have h9 : (applyM (runH newM (H.take i)) E.tx E.e.zx).1 = runH newM (H.take (i + 1)) := by
          obtain ⟨hi', rfl⟩ := List.getElem?_eq_some_iff.1 HE'.out
          rw [List.take_succ_eq_append_getElem hi', runH_snoc]
        rw [← h9]; exact hs
      rw [hM1] at hs1
      have HS1 := Lib.hid hs1
      have HSO : Hid (StOk M1) := Lib.hid (hM1 ▸ HSOK.out (i + 1))
      have HGO : Hid (E.x.kind = 6 → M1.S E.x.owner = none) := Lib.hid (fun h6 => hM1 ▸ close_gone HE'.out h6)
      have HM1 := Lib.hid hM1
      clear hs HA1 x0 x1 x2 x3 x4 x5 x6 x7 x8 x9 x10 hs1 hM1
      obtain ⟨x0, x1, x2, x3, x4, x5, x6, x7, x8, x9, x10⟩ := HS1.out.ent HE'.out
      have HEND : Hid (∀ W, HsN w B (.slice (some ⟨g, 0, none⟩) H.length cv) H [(q, M1)] (1 + 2000002 * i + 2000002) W → KeL w B (.slice (some ⟨g, 0, none⟩) H.length cv) H q (.int .i64 ((i : Int) + 1)) W) := Lib.hid (fun W h => ⟨i + 1, by go_num, by omega, by rw [HM1.out]; exact h.to (by omega)⟩)
      have i0 : (0 : Int) ≤ (i : Int) := by omega
      have i1 : (i : Int) < (H.length : Int) := by omega
      by_cases h6 : E.x.kind = 6
      · obtain ⟨ho1, ho2⟩ := HSE1.out (.inr h6)
        have ho1 : 1 ≤ E.x.owner := ho1
        have ho2 : E.x.owner ≤ 5 := ho2
        have hgo := HGO.out h6
        obtain ⟨o, ho⟩ : ∃ o, E.x.owner = o := ⟨_, rfl⟩
        rw [ho] at ho1 ho2 hgo x7
        have HO := Lib.hid ho
        have HOW := Lib.hid (owned_any (HS1.out.t (q, M1) (by simp)) o (by omega) (by omega))
        have hx3 : E.x.kind = 6 := h6
        rw [hx3] at x3
        have HX3 := Lib.hid hx3
        clear ho h6 hx3
        go_wp2_with fail
        refine HOW.out.mono ?_
        rintro e w6 ⟨ov, l, rfl, _, hlm, hor, hk6⟩
        have hl0 : l = [] := List.eq_nil_iff_forall_not_mem.2 (fun x hx => closed_none HSO.out.own (by omega) hgo x ((hlm x).1 hx))
        subst hl0
        obtain ⟨oa, oc, rfl⟩ := own_shape hor
        have HS6 := Lib.hid (HS1.out.kept0 hk6)
        have HSS := Lib.hid (session_any (HS6.out.t (q, M1) (by simp)) o (by omega))
        clear hlm hor hk6 HOW x0 x1 x2 x3 x4 x5 x6 x7 x8 x9 x10
        obtain ⟨x0, x1, x2, x3, x4, x5, x6, x7, x8, x9, x10⟩ := HS6.out.ent HE'.out
        rw [HO.out] at x7
        rw [HX3.out] at x3
        go_wp2_with fail
        refine HSS.out.mono ?_
        rintro e w7 ⟨t7, p7, rfl, _, hk7⟩
        have HSX := Lib.hid (HS6.out.kept0 hk7)
        rw [hgo]
        clear hk7 HSS x0 x1 x2 x3 x4 x5 x6 x7 x8 x9 x10
        have ht9 : (i : Int).tmod 10 = ((i % 10 : Nat) : Int) := (Int.ofNat_tmod i 10).symm
        by_cases h10 : i % 10 = 0
        · have ht8 : (i : Int).tmod 10 = 0 := by rw [ht9, h10]; rfl
          clear ht9 h10
          have HSD := Lib.hid (stands_any (HSX.out.t (q, M1) (by simp)) HSO.out (by omega))
          go_wp2_with fail
          refine HSD.out.mono ?_
          rintro e w9 ⟨rfl, hks⟩
          have HSY := Lib.hid (HSX.out.kept0 hks)
          clear hks HSD
          go_wp2_with fail
          refine ⟨HEND.out _ HSY.out, ?_⟩
          show H.length - ((i : Int) + 1).toNat < H.length - (i : Int).toNat
          omega
        · have ht8 : ¬ (i : Int).tmod 10 = 0 := by rw [ht9]; omega
          clear ht9 h10
          by_cases hll : i + 1 = H.length
          · have hl8 : (i : Int) = (H.length : Int) - 1 := by omega
            have HSD := Lib.hid (stands_any (HSX.out.t (q, M1) (by simp)) HSO.out (by omega))
            have hlx : ((i : Int) == (H.length : Int) - 1) = true := by simp [hl8]
            clear hl8 hll
            go_wp2_with fail
            refine HSD.out.mono ?_
            rintro e w9 ⟨rfl, hks⟩
            have HSY := Lib.hid (HSX.out.kept0 hks)
            clear hks HSD
            go_wp2_with fail
            refine ⟨HEND.out _ HSY.out, ?_⟩
            show H.length - ((i : Int) + 1).toNat < H.length - (i : Int).toNat
            omega
          · have hlx : ((i : Int) == (H.length : Int) - 1) = false := by simp; omega
            clear hll
            go_wp2_with fail
            refine ⟨HEND.out _ HSX.out, ?_⟩
            show H.length - ((i : Int) + 1).toNat < H.length - (i : Int).toNat
            omega
      · clear HGO HSE1
        have HSX := HS1
        have ht9 : (i : Int).tmod 10 = ((i % 10 : Nat) : Int) := (Int.ofNat_tmod i 10).symm
        by_cases h10 : i % 10 = 0
        · have ht8 : (i : Int).tmod 10 = 0 := by rw [ht9, h10]; rfl
          clear ht9 h10
          have HSD := Lib.hid (stands_any (HSX.out.t (q, M1) (by simp)) HSO.out (by omega))
          go_wp2_with fail
          refine HSD.out.mono ?_
          rintro e w9 ⟨rfl, hks⟩
          have HSY := Lib.hid (HSX.out.kept0 hks)
          clear hks HSD
          go_wp2_with fail
          refine ⟨HEND.out _ HSY.out, ?_⟩
          show H.length - ((i : Int) + 1).toNat < H.length - (i : Int).toNat
          omega
        · have ht8 : ¬ (i : Int).tmod 10 = 0 := by rw [ht9]; omega
          clear ht9 h10
          by_cases hll : i + 1 = H.length
          · have hl8 : (i : Int) = (H.length : Int) - 1 := by omega
            have HSD := Lib.hid (stands_any (HSX.out.t (q, M1) (by simp)) HSO.out (by omega))
            have hlx : ((i : Int) == (H.length : Int) - 1) = true := by simp [hl8]
            clear hl8 hll
            go_wp2_with fail
            refine HSD.out.mono ?_
            rintro e w9 ⟨rfl, hks⟩
            have HSY := Lib.hid (HSX.out.kept0 hks)
            clear hks HSD
            go_wp2_with fail
            refine ⟨HEND.out _ HSY.out, ?_⟩
            show H.length - ((i : Int) + 1).toNat < H.length - (i : Int).toNat
            omega
          · have hlx : ((i : Int) == (H.length : Int) - 1) = false := by simp; omega
            clear hll
            go_wp2_with fail
            refine ⟨HEND.out _ HSX.out, ?_⟩
            show H.length - ((i : Int) + 1).toNat < H.length - (i : Int).toNat
            omega
    · have hkn : i = H.length := by omega
      obtain ⟨M1, hM1⟩ : ∃ M1, runH newM (H.take i) = M1 := ⟨_, rfl⟩
      have HSO : Hid (StOk M1) := Lib.hid (hM1 ▸ HSOK.out i)
      have hs9 := HS.out
      rw [hM1] at hs9
      have HS9 := Lib.hid hs9
      clear hs9 hM1
      have HSD := Lib.hid (stands_any (HS9.out.t (q, M1) (by simp)) HSO.out (by omega))
      go_wp2_with fail
      refine HSD.out.mono ?_
      rintro e w6 ⟨rfl, hks⟩
      have HKF := Lib.hid (HS9.out.kept.trans hks)
      clear hks HSD
      go_wp2_with fail
      go_ret
      exact ⟨rfl, HKF.out⟩
end Go.Proofs.Ytjlffmkiiphfcaa
