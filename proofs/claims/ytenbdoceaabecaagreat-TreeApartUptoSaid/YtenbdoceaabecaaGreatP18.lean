/- What a path is made of: Parent, Base, Kid, Under and Check of names. The document's own tree, plainly and in memory. -/
import Derived.Test.YtenbdoceaabecaaGreatP17
import Derived.Test.YtenbdoceaabecaaGreatP13
import Derived.Test.YtenbdoceaabecaaGreatP05
import Derived.WalkLawsBesides
namespace Go.Proofs.YtenbdoceaabecaaGreat
open Go.ChangeShapes Go.WideShapes Go.ChangeAt Go.RowKit
set_option linter.unusedVariables false
set_option linter.unusedSimpArgs false

theorem eq_of_list {a b : ByteArray} (h : a.data.toList = b.data.toList) : a = b := ByteArray.ext (Array.ext' h)
def pathL (ns : List (List UInt8)) : List UInt8 := if ns = [] then [47] else joinN ns
def pathS (ns : List (List UInt8)) : ByteArray := ⟨(pathL ns).toArray⟩
theorem pathS_list (ns : List (List UInt8)) : (pathS ns).data.toList = pathL ns := rfl
def AllOk (ns : List (List UInt8)) : Prop := ∀ n ∈ ns, okName n = true

theorem okName_ne {n : List UInt8} (h : okName n = true) : n ≠ [] := by
  intro e; subst e; revert h; decide
theorem okName_pos {n : List UInt8} (h : okName n = true) : 0 < n.length := List.length_pos_iff.2 (okName_ne h)

theorem joinN_append (a b : List (List UInt8)) : joinN (a ++ b) = joinN a ++ joinN b := by
  induction a with
  | nil => rfl
  | cons n a ih => simp [joinN, ih]
theorem joinN_snoc (a : List (List UInt8)) (n : List UInt8) : joinN (a ++ [n]) = joinN a ++ 47 :: n := by
  rw [joinN_append]; simp [joinN]
theorem joinN_len {ns : List (List UInt8)} (h : AllOk ns) : 2 * ns.length ≤ (joinN ns).length := by
  induction ns with
  | nil => simp [joinN]
  | cons n r ih =>
    have := ih (fun m hm => h m (by simp [hm]))
    have := okName_pos (h n (by simp))
    simp [joinN]; omega
theorem joinN_ne_slash {ns : List (List UInt8)} (h : AllOk ns) : joinN ns ≠ [47] := by
  intro e
  have := joinN_len h
  rw [e] at this
  cases ns with
  | nil => cases e
  | cons n r => simp at this; omega

theorem pathL_cons (n : List UInt8) (r : List (List UInt8)) : pathL (n :: r) = joinN (n :: r) := by simp [pathL]
theorem pathL_snoc (r : List (List UInt8)) (n : List UInt8) : pathL (r ++ [n]) = joinN r ++ 47 :: n := by
  rw [pathL, if_neg (by simp), joinN_snoc]
theorem pathL_slash {ns : List (List UInt8)} (h : AllOk ns) : pathL ns = [47] ↔ ns = [] := by
  unfold pathL
  by_cases e : ns = []
  · simp [e]
  · simp [e, joinN_ne_slash h]

/-- OK: a path -/
theorem check_ok (s : ByteArray) : checkS s = 0 ↔ ∃ ns, AllOk ns ∧ s = pathS ns ∧ ns.length ≤ 6 ∧ s.size ≤ 60 := by
  constructor
  · intro h
    unfold checkS at h
    by_cases e : s.data.toList = [47]
    · have hz : s.size = 1 := by rw [← size_toList, e]; rfl
      exact ⟨[], fun n hn => absurd hn (by simp), eq_of_list (by rw [e]; rfl), by simp, by omega⟩
    · rw [if_neg e] at h
      cases hp : parse s.data.toList with
      | none => rw [hp] at h; simp [lens, checkO] at h
      | some ns =>
        rw [hp] at h
        obtain ⟨h1, h2, h3⟩ := (parse_iff _ _).1 hp
        simp only [lens, Option.map_some, checkO] at h
        by_cases hl : 60 < s.size ∨ 6 < ns.length
        · rw [if_pos hl] at h; cases h
        · exact ⟨ns, h2, eq_of_list (by rw [h3, pathS_list, pathL, if_neg h1]), by omega, by omega⟩
  · rintro ⟨ns, h1, rfl, h3, h4⟩
    unfold checkS
    rw [pathS_list]
    by_cases e : ns = []
    · subst e; rfl
    · rw [if_neg (by rw [pathL_slash h1]; exact e)]
      have : parse (pathL ns) = some ns := (parse_iff _ _).2 ⟨e, h1, by rw [pathL, if_neg e]⟩
      rw [this]
      simp only [lens, Option.map_some, checkO]
      rw [if_neg (by omega)]

/-- the last slash -/
theorem last_at (s : ByteArray) (a n : List UInt8) (h : s.data.toList = a ++ 47 :: n) (hn : ∀ b ∈ n, (b != 47) = true) : lastS s = a.length := by
  have hz : s.size = a.length + 1 + n.length := by rw [← size_toList, h]; simp; omega
  have hget : ∀ j (hj : j < s.size), s.data[j]! = (a ++ 47 :: n)[j]'(by simp; omega) := by
    intro j hj
    rw [Go.Proofs.LastIndex.byteBang s j hj]
    have : s[j] = s.data.toList[j]'(by rw [size_toList]; exact hj) := rfl
    rw [this]
    simp only [h]
  rcases Lib.lastIdx_spec s 47 s.size with ⟨_, h2⟩ | ⟨i, hi, h1, h2, h3⟩
  · exfalso
    have := h2 a.length (by omega)
    rw [hget _ (by omega)] at this
    simp at this
  · have e : lastS s = i := h1
    rw [e]
    congr 1
    rcases Nat.lt_trichotomy i a.length with hlt | heq | hgt
    · exfalso
      have := h3 a.length hlt (by omega)
      rw [hget _ (by omega)] at this
      simp at this
    · exact heq
    · exfalso
      rw [hget _ hi, List.getElem_append_right (by omega)] at h2
      obtain ⟨k, hk⟩ : ∃ k, i - a.length = k + 1 := ⟨i - a.length - 1, by omega⟩
      simp only [hk, List.getElem_cons_succ] at h2
      have := hn _ (List.getElem_mem (l := n) (n := k) (by omega))
      rw [bne_iff_ne] at this
      apply this
      exact UInt8.toNat_inj.1 (by have : n[k].toNat = 47 := by omega
                                  rw [this]; rfl)

theorem last_path (ns : List (List UInt8)) (n : List UInt8) (hn : okName n = true) : lastS (pathS (ns ++ [n])) = (joinN ns).length :=
  last_at _ _ n (by rw [pathS_list, pathL_snoc]) (all_ne (okName_parts hn).2)

theorem par_path {ns : List (List UInt8)} {n : List UInt8} (h : AllOk (ns ++ [n])) : parS (pathS (ns ++ [n])) = pathS ns := by
  have hn := h n (by simp)
  have hl := last_path ns n hn
  unfold parS
  rw [hl]
  by_cases e : ns = []
  · subst e
    have hne : pathS ([] ++ [n]) ≠ slashS := by
      intro e
      have := (pathL_slash h).1 (by rw [← pathS_list, e]; rfl)
      simp at this
    rw [if_pos ⟨rfl, hne⟩]
    exact eq_of_list rfl
  · have hpos : 0 < (joinN ns).length := by
      cases ns with
      | nil => exact absurd rfl e
      | cons m r => simp [joinN]
    rw [if_neg (by omega)]
    apply eq_of_list
    rw [Lib.extract_data, pathS_list, pathL_snoc, pathS_list, pathL, if_neg e]
    simp

theorem base_path {ns : List (List UInt8)} {n : List UInt8} (h : okName n = true) : baseS (pathS (ns ++ [n])) = ⟨n.toArray⟩ := by
  have hl := last_path ns n h
  unfold baseS
  rw [hl]
  apply eq_of_list
  rw [Lib.extract_data, pathS_list, pathL_snoc]
  have : (((joinN ns).length : Int) + 1).toNat = (joinN ns ++ [47]).length := by simp; try omega
  rw [this, show joinN ns ++ 47 :: n = (joinN ns ++ [47]) ++ n by simp, List.drop_left]
  rw [List.take_of_length_le]
  rw [← size_toList, pathS_list, pathL_snoc]; simp; omega

theorem kid_path {ns : List (List UInt8)} (h : AllOk ns) (s : ByteArray) : kidS (pathS ns) s = ⟨(joinN ns ++ 47 :: s.data.toList).toArray⟩ := by
  apply eq_of_list
  unfold kidS
  rw [pathS_list]
  by_cases e : ns = []
  · subst e
    rw [if_pos (show pathL [] = [47] from rfl)]
    simp [pathS_list, pathL, joinN]
  · rw [if_neg (by rw [pathL_slash h]; exact e)]
    simp [pathS_list, pathL, e, slashS]

theorem kid_snoc {ns : List (List UInt8)} {n : List UInt8} (h : AllOk ns) : kidS (pathS ns) ⟨n.toArray⟩ = pathS (ns ++ [n]) := by
  rw [kid_path h]
  apply eq_of_list
  rw [pathS_list, pathL_snoc]

theorem prefix_names : ∀ (ms ns : List (List UInt8)), AllOk ms → AllOk ns → ((joinN ms ++ [47]) <+: joinN ns ↔ ∃ m r, ns = ms ++ m :: r)
  | [], ns, _, hn => by
    cases ns with
    | nil => simp [joinN]
    | cons n r => simp [joinN]
  | m :: ms, [], _, _ => by simp [joinN]
  | m :: ms, n :: r, hm, hn => by
    have hm1 := all_ne (okName_parts (hm m (by simp))).2
    have hn1 := all_ne (okName_parts (hn n (by simp))).2
    have ih := prefix_names ms r (fun k hk => hm k (by simp [hk])) (fun k hk => hn k (by simp [hk]))
    have e1 : (n ++ joinN r).takeWhile (· != 47) = n := by
      rw [List.takeWhile_append_of_pos hn1, (joinN_head r).1, List.append_nil]
    obtain ⟨t, ht⟩ : ∃ t, joinN ms ++ [47] = 47 :: t := by
      cases ms with
      | nil => exact ⟨[], rfl⟩
      | cons a b => exact ⟨_, by rw [joinN]; rfl⟩
    simp only [joinN, List.cons_append, List.append_assoc, List.cons_prefix_cons, true_and]
    constructor
    · rintro ⟨q, hq⟩
      have e2 : (m ++ (joinN ms ++ [47]) ++ q).takeWhile (· != 47) = m := by
        rw [ht, List.append_assoc, List.takeWhile_append_of_pos hm1]
        simp
      rw [hq, e1] at e2
      subst e2
      rw [List.append_assoc] at hq
      obtain ⟨k, r', rfl⟩ := ih.1 ⟨q, List.append_cancel_left hq⟩
      exact ⟨k, r', rfl⟩
    · rintro ⟨k, r', e⟩
      simp only [List.cons.injEq] at e
      obtain ⟨rfl, rfl⟩ := e
      obtain ⟨q, hq⟩ := ih.2 ⟨k, r', rfl⟩
      exact ⟨q, by rw [List.append_assoc, hq]⟩

theorem under_path {ns ms : List (List UInt8)} (hn : AllOk ns) (hm : AllOk ms) : underS (pathS ns) (pathS ms) = true ↔ ∃ m r, ns = ms ++ m :: r := by
  have hk : (kidS (pathS ms) ⟨#[]⟩).data.toList = joinN ms ++ [47] := by rw [kid_path hm]
  unfold underS
  rw [hk, ← size_toList, ← size_toList, hk, Bool.and_eq_true, decide_eq_true_iff, Lib.hasPrefix, List.isPrefixOf_iff_prefix, pathS_list]
  by_cases e : ns = []
  · subst e
    simp [pathL]
  · rw [pathL, if_neg e, prefix_names ms ns hm hn]
    constructor
    · exact fun h => h.2
    · rintro ⟨m, r, rfl⟩
      refine ⟨?_, m, r, rfl⟩
      have := okName_pos (hn m (by simp))
      rw [joinN_append, joinN]
      simp
      omega

theorem count_names {ns : List (List UInt8)} (h : AllOk ns) : (joinN ns).countP (· == 47) = ns.length := by
  induction ns with
  | nil => rfl
  | cons n r ih =>
    have h0 : n.countP (· == 47) = 0 := by
      rw [List.countP_eq_zero]
      intro b hb
      have := all_ne (okName_parts (h n (by simp))).2 b hb
      simpa using this
    simp [joinN, List.countP_append, h0, ih (fun m hm => h m (by simp [hm]))]
theorem size_path (ns : List (List UInt8)) : (pathS ns).size = (pathL ns).length := rfl
theorem size_le {a r : List (List UInt8)} (h : AllOk (a ++ r)) : (pathS a).size ≤ (pathS (a ++ r)).size := by
  rw [size_path, size_path]
  by_cases e : a = []
  · subst e
    by_cases e2 : r = []
    · subst e2; simp
    · rw [List.nil_append, pathL, if_pos rfl, pathL, if_neg e2]
      have := joinN_len (ns := r) (fun n hn => h n (by simp [hn]))
      have := List.length_pos_iff.2 e2
      simp; omega
  · rw [pathL, if_neg e, pathL, if_neg (by simp [e]), joinN_append]
    simp
end Go.Proofs.YtenbdoceaabecaaGreat

namespace Go.Proofs.YtenbdoceaabecaaGreat
open Go.ChangeShapes Go.WideShapes Go.ChangeAt Go.RowKit Go.Maps
set_option linter.unusedVariables false
set_option linter.unusedSimpArgs false
structure RN where
  path : ByteArray
  data : ByteArray
  acl : List AR
  st : St
structure RS where
  id : Int
  timeout : Int
  secret : ByteArray
structure RT where
  N : List RN
  S : List RS
  z : Int
/-! rows of structs -/
section
variable {α : Type} {f : α → List Value} {c : Nat}
theorem flat_len (hc : ∀ a, (f a).length = c) : ∀ (l : List α), (l.flatMap f).length = l.length * c
  | [] => by simp
  | a :: l => by rw [List.flatMap_cons, List.length_append, hc, flat_len hc l, List.length_cons, Nat.add_mul, Nat.one_mul, Nat.add_comm]
theorem flat_at (hc : ∀ a, (f a).length = c) : ∀ (l : List α) (i : Nat) (hi : i < l.length) (j : Nat) (u : Value), (f l[i])[j]? = some u → (l.flatMap f)[i * c + j]? = some u
  | [], i, hi, _, _, _ => absurd hi (by simp)
  | a :: l, 0, _, j, u, h => by
    have hj : j < c := by have := (List.getElem?_eq_some_iff.1 h).1; rw [hc] at this; exact this
    rw [List.flatMap_cons, Nat.zero_mul, Nat.zero_add, List.getElem?_append_left (by rw [hc]; exact hj)]; exact h
  | a :: l, i + 1, hi, j, u, h => by
    rw [List.flatMap_cons, List.getElem?_append_right (by rw [hc, Nat.add_mul, Nat.one_mul]; omega), hc, show (i + 1) * c + j - c = i * c + j by rw [Nat.add_mul, Nat.one_mul]; omega]
    exact flat_at hc l i (by simpa using hi) j u h
theorem flat_set (hc : ∀ a, (f a).length = c) {j : Nat} {u : Value} {g : α → α} (hj : j < c) (hg : ∀ a, f (g a) = (f a).set j u) : ∀ (l : List α) (i : Nat), i < l.length → (l.flatMap f).set (i * c + j) u = (l.modify i g).flatMap f
  | [], i, hi => absurd hi (by simp)
  | a :: l, 0, _ => by
    rw [List.flatMap_cons, Nat.zero_mul, Nat.zero_add, List.set_append_left _ _ (by rw [hc]; exact hj), List.modify_zero_cons, List.flatMap_cons, hg]
  | a :: l, i + 1, hi => by
    rw [List.flatMap_cons, List.set_append_right _ _ (by rw [hc, Nat.add_mul, Nat.one_mul]; omega), hc, show (i + 1) * c + j - c = i * c + j by rw [Nat.add_mul, Nat.one_mul]; omega,
      flat_set hc hj hg l i (by simpa using hi), List.modify_succ_cons, List.flatMap_cons]
theorem flat_one (h : ∀ a, ∀ u ∈ f a, u.oneCell' = true) (l : List α) : ∀ u ∈ l.flatMap f, u.oneCell' = true := by
  intro u hu
  obtain ⟨a, _, ha⟩ := List.mem_flatMap.1 hu
  exact h a u ha
end
theorem own_set {w : World} {B size n cap g j : Nat} {e : TypeId} {xs : List Value} (h : w.ownsRow B e size (.slice (some ⟨g, 0, none⟩) n cap) n xs) (hj : j < xs.length) (u : Value) :
    (w.setCell ⟨g, j, none⟩ u).ownsRow B e size (.slice (some ⟨g, 0, none⟩) n cap) n (xs.set j u) := by
  have hl := h.1
  rcases h.2 with ⟨h1, _⟩ | ⟨g', cap', cur, hv, hb, hh, hnc, hcm, hcs, htake⟩
  · cases h1
  · injection hv with h1 h2 h3
    injection h1 with h1
    injection h1 with h1
    subst h1 h3
    refine ⟨by rw [List.length_set]; exact hl, .inr ⟨g, cap, (cur.toList.set j u).toArray, rfl, hb, heap_set u (c := cur.toList) (by simpa using hh), hnc, hcm, by simp [hcs], ?_⟩⟩
    rw [List.toList_toArray, List.take_set, htake]
/-! memory -/
structure AclW (w : World) (av : Value) (l : List AR) : Prop where
  own : w.ownsRow 0 89 2 av l.length (aclC l)
  room : l.length * 24 ≤ 140737488355328
def ndL (p : RN × Value) : List Value := [.string p.1.path, .string p.1.data, p.2, .int .i64 p.1.st.cz, .int .i64 p.1.st.mz, .int .i64 p.1.st.pz, .int .i64 p.1.st.ver, .int .i64 p.1.st.cver, .int .i64 p.1.st.aver, .int .i64 p.1.st.owner, .int .i64 0, .int .i64 0]
def ndC (L : List (RN × Value)) : List Value := L.flatMap ndL
def ssL (s : RS) : List Value := [.int .i64 s.id, .int .i64 s.timeout, .string s.secret]
def ssC (l : List RS) : List Value := l.flatMap ssL
theorem ndL_len (p : RN × Value) : (ndL p).length = 12 := rfl
theorem ssL_len (p : RS) : (ssL p).length = 3 := rfl
structure RD (w : World) (b : Nat) (R : RT) (L : List (RN × Value)) (nv sv : Value) : Prop where
  at_ : w.heap[b]? = some (.cells #[nv, sv, .int .i64 R.z] 95 (0, 0))
  n : w.ownsRow 0 91 12 nv L.length (ndC L)
  eq : L.map (·.1) = R.N
  acl : ∀ p ∈ L, AclW w p.2 p.1.acl
  s : w.ownsRow 0 113 3 sv R.S.length (ssC R.S)
def RAt (w : World) (b : Nat) (R : RT) : Prop := ∃ L nv sv, RD w b R L nv sv
/-- a tree's own blocks, as it stands -/
def RBs (w : World) (b k : Nat) : Prop := k = b ∨ ∃ nv sv zv, w.heap[b]? = some (.cells #[nv, sv, zv] 95 (0, 0)) ∧ (nv.ownBlock = some k ∨ sv.ownBlock = some k)
/-- what a call that changes a tree leaves -/
structure RStep (w : World) (b : Nat) (w' : World) : Prop where
  kept : Kept (RBs w b) w w'
  bs : ∀ k, RBs w' b k → RBs w b k ∨ w.heap.size ≤ k
section
variable {w w' : World} {b : Nat} {R : RT} {L : List (RN × Value)} {nv sv : Value}
theorem RD.bs (h : RD w b R L nv sv) (k : Nat) : RBs w b k ↔ k = b ∨ nv.ownBlock = some k ∨ sv.ownBlock = some k := by
  constructor
  · rintro (e | ⟨nv', sv', zv', hb, hk⟩)
    · exact .inl e
    · rw [h.at_] at hb
      injection hb with hb
      injection hb with hb
      simp only [Array.mk.injEq, List.cons.injEq] at hb
      obtain ⟨rfl, rfl, _⟩ := hb
      exact .inr hk
  · rintro (e | hk)
    · exact .inl e
    · exact .inr ⟨_, _, _, h.at_, hk⟩
theorem RD.types (h : RD w b R L nv sv) {k : Nat} (hk : RBs w b k) : ∃ cur e, w.heap[k]? = some (.cells cur e (0, 0)) ∧ (e = 95 ∨ e = 91 ∨ e = 113) := by
  rcases (h.bs k).1 hk with rfl | hk | hk
  · exact ⟨_, _, h.at_, .inl rfl⟩
  · obtain ⟨_, _, cur, hc⟩ := own_lo h.n hk
    exact ⟨_, _, hc, .inr (.inl rfl)⟩
  · obtain ⟨_, _, cur, hc⟩ := own_lo h.s hk
    exact ⟨_, _, hc, .inr (.inr rfl)⟩
theorem RD.lt (h : RD w b R L nv sv) {k : Nat} (hk : RBs w b k) : k < w.heap.size := by
  obtain ⟨_, _, hc, _⟩ := h.types hk
  exact lt_of_block hc
/-- blocks of other types are not the tree's -/
theorem RD.other (h : RD w b R L nv sv) {k : Nat} {cur : Array Value} {e : TypeId} (hk : w.heap[k]? = some (.cells cur e (0, 0))) (h1 : e ≠ 95) (h2 : e ≠ 91) (h3 : e ≠ 113) : ¬ RBs w b k := by
  intro hb
  obtain ⟨_, e', hc, he⟩ := h.types hb
  rw [hc] at hk
  injection hk with hk
  injection hk with _ hk
  subst hk
  rcases he with he | he | he
  · exact h1 he
  · exact h2 he
  · exact h3 he
theorem RAt.other (h : RAt w b R) {k : Nat} {cur : Array Value} {e : TypeId} (hk : w.heap[k]? = some (.cells cur e (0, 0))) (h1 : e ≠ 95) (h2 : e ≠ 91) (h3 : e ≠ 113) : ¬ RBs w b k := by
  obtain ⟨L, nv, sv, h⟩ := h; exact h.other hk h1 h2 h3
theorem RAt.lt (h : RAt w b R) {k : Nat} (hk : RBs w b k) : k < w.heap.size := by
  obtain ⟨L, nv, sv, h⟩ := h; exact h.lt hk
/-- what is written elsewhere, and not to an ACL -/
theorem RD.kept {X : Nat → Prop} (h : RD w b R L nv sv) (hk : Kept X w w') (hx : ∀ k, RBs w b k → ¬ X k) (ha : ∀ k cur, w.heap[k]? = some (.cells cur 89 (0, 0)) → ¬ X k) : RD w' b R L nv sv := by
  refine ⟨?_, ownKept h.n hk (fun k e => hx k ((h.bs k).2 (.inr (.inl e)))), h.eq, fun p hp => ?_, ownKept h.s hk (fun k e => hx k ((h.bs k).2 (.inr (.inr e))))⟩
  · rw [hk.block b (lt_of_block h.at_) (hx b ((h.bs b).2 (.inl rfl)))]; exact h.at_
  · refine ⟨ownKept (h.acl p hp).own hk (fun k e => ?_), (h.acl p hp).room⟩
    obtain ⟨_, _, cur, hc⟩ := own_lo (h.acl p hp).own e
    exact ha k cur hc
theorem RD.kept0 (h : RD w b R L nv sv) (hk : Kept (fun _ => False) w w') : RD w' b R L nv sv := h.kept hk (fun _ _ f => f) (fun _ _ _ f => f)
theorem RAt.kept {X : Nat → Prop} (h : RAt w b R) (hk : Kept X w w') (hx : ∀ k, RBs w b k → ¬ X k) (ha : ∀ k cur, w.heap[k]? = some (.cells cur 89 (0, 0)) → ¬ X k) : RAt w' b R := by
  obtain ⟨L, nv, sv, h⟩ := h; exact ⟨L, nv, sv, h.kept hk hx ha⟩
theorem RAt.kept0 (h : RAt w b R) (hk : Kept (fun _ => False) w w') : RAt w' b R := h.kept hk (fun _ _ f => f) (fun _ _ _ f => f)
theorem rbs_kept {X : Nat → Prop} (hk : Kept X w w') (hb : b < w.heap.size) (hx : ¬ X b) (k : Nat) : RBs w' b k ↔ RBs w b k := by
  unfold RBs
  rw [hk.block b hb hx]
theorem RStep.refl (w : World) (b : Nat) : RStep w b w := ⟨Kept.refl _ _, fun _ h => .inl h⟩
theorem RStep.trans {w1 w2 : World} (h : RStep w b w1) (g : RStep w1 b w2) : RStep w b w2 :=
  ⟨h.kept.trans' g.kept (fun k hk e => (h.bs k e).resolve_right (by omega)), fun k hk => (g.bs k hk).elim (h.bs k) (fun h2 => .inr (by have := h.kept.size; omega))⟩
theorem RStep.of0 {w1 : World} (hk : Kept (fun _ => False) w w1) (hb : b < w.heap.size) : RStep w b w1 := ⟨hk.mono (fun _ _ f => f.elim), fun k h => .inl ((rbs_kept hk hb (fun f => f) k).1 h)⟩
/-- a row of another type is as it was -/
theorem row_step {B size n : Nat} {e : TypeId} {v : Value} {xs : List Value} (h : w.ownsRow B e size v n xs) (hR : RAt w b R) (hk : RStep w b w') (h1 : e ≠ 95) (h2 : e ≠ 91) (h3 : e ≠ 113) : w'.ownsRow B e size v n xs :=
  ownKept h hk.kept (fun k hk' => by obtain ⟨_, _, cur, hc⟩ := own_lo h hk'; exact hR.other hc h1 h2 h3)
/-- an append to a row of another type leaves the tree -/
theorem RAt.app {B size n : Nat} {e : TypeId} {v : Value} {xs : List Value} (h : RAt w b R) (hv : w.ownsRow B e size v n xs) (hg : w.grownBy w' v.ownBlock) (h1 : e ≠ 95) (h2 : e ≠ 91) (h3 : e ≠ 113) (h4 : e ≠ 89) : RAt w' b R := by
  refine h.kept (Kept.of_grownBy hg) (fun k hb e' => ?_) (fun k cur hc e' => ?_)
  · obtain ⟨_, _, cur, hc⟩ := own_lo hv e'.symm
    exact h.other hc h1 h2 h3 hb
  · obtain ⟨_, _, cur', hc'⟩ := own_lo hv e'.symm
    rw [hc] at hc'
    injection hc' with hc'
    injection hc' with _ hc'
    exact h4 hc'.symm
end
end Go.Proofs.YtenbdoceaabecaaGreat
