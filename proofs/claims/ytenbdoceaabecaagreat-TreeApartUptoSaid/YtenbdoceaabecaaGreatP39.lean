/- What the program's tree tells, when it is the document's. The document's own tree: Stat. -/
import Derived.Test.YtenbdoceaabecaaGreatP35
import Derived.Test.YtenbdoceaabecaaGreatP09
import Derived.Test.YtenbdoceaabecaaGreatP37
import Derived.Test.YtenbdoceaabecaaGreatP38
import Derived.Test.YtenbdoceaabecaaGreatP30
import Derived.Test.YtenbdoceaabecaaGreatP08
namespace Go.Proofs.YtenbdoceaabecaaGreat
open Go.ChangeShapes Go.WideShapes Go.ChangeAt Go.RowKit Go.Maps
set_option linter.unusedVariables false
set_option linter.unusedSimpArgs false
theorem kid_base2 {q : ByteArray} (h : checkS q = 0) (hr : keyB q ≠ [47]) : kidS (parS q) (baseS q) = q := by
  obtain ⟨ns, n, hn, rfl⟩ := ok_names h hr
  rw [par_path hn, base_path (hn n (by simp)), kid_snoc (fun m hm => hn m (by simp [hm]))]
theorem par_root2 : parS slashS = ⟨#[]⟩ := by decide +kernel
theorem check_none2 : checkS ⟨#[]⟩ ≠ 0 := by decide +kernel
theorem root_of2 {q : ByteArray} (h : keyB q = [47]) : q = slashS := keyB_inj (q := slashS) h
theorem lt_pre : ∀ (l : List UInt8) {a b : List UInt8}, l ++ a < l ++ b → a < b
  | [], _, _, h => h
  | x :: l, a, b, h => by
    rw [List.cons_append, List.cons_append, List.cons_lt_cons_iff] at h
    rcases h with h | ⟨_, h⟩
    · exact absurd h (by simp)
    · exact lt_pre l h
theorem kid_lt {p a b : ByteArray} (h : ltP (kidS p a) (kidS p b)) : ltP a b := by
  have e : ∀ n, keyB (kidS p n) = (if p.data.toList = [47] then keyB p else keyB (p ++ slashS)) ++ keyB n := fun n => by
    unfold kidS keyB
    split
    · rw [ByteArray.data_append, Array.toList_append]
    · rw [ByteArray.data_append, Array.toList_append]
  show keyB a < keyB b
  have h : keyB (kidS p a) < keyB (kidS p b) := h
  rw [e, e] at h
  exact lt_pre _ h
section
variable {R : RT} {k : Nat}
theorem raw_path (hR : RawR k R) {i : Nat} {n : RN} (hn : R.N[i]? = some n) : checkS n.path = 0 ∧ n.path.size ≤ 60 := by
  have hm : n.path ∈ R.N.map RN.path := List.mem_map.2 ⟨n, List.mem_of_getElem? hn, rfl⟩
  exact ⟨hR.pth.2 _ hm, okp_len hR.pth hm⟩
theorem kids_path {p : ByteArray} (hR : RawR k R) {n : RN} (hn : n ∈ R.N.filter (kidQ p)) : kidS p (baseS n.path) = n.path := by
  obtain ⟨h1, h2⟩ := List.mem_filter.1 hn
  unfold kidQ at h2
  simp only [Bool.and_eq_true, decide_eq_true_eq] at h2
  have := kid_base2 (hR.pth.2 _ (List.mem_map.2 ⟨n, h1, rfl⟩)) h2.1
  rw [h2.2] at this; exact this
theorem kids_srt (hR : RawR k R) (p : ByteArray) : (kidsR R p).Pairwise ltP := by
  unfold kidsR
  rw [List.pairwise_map]
  have h1 : (R.N.filter (kidQ p)).Pairwise (fun a b => ltP a.path b.path) := by
    have := hR.pth.1
    rw [List.pairwise_map] at this
    exact this.sublist List.filter_sublist
  refine h1.imp_of_mem fun {a b} ha hb hab => kid_lt (p := p) ?_
  rw [kids_path hR ha, kids_path hR hb]; exact hab
theorem below_perm (hR : RawR k R) {p : ByteArray} (hp : checkS p = 0) {l : List ByteArray} (hb : Below1 (toM R) p l) : l.Perm ((R.N.filter (kidQ p)).map RN.path) := by
  have hnd : ((R.N.filter (kidQ p)).map RN.path).Nodup := (List.filter_sublist.map RN.path).nodup hR.uq.n
  refine (List.perm_ext_iff_of_nodup hb.one hnd).2 fun x => ?_
  rw [hb.mem, List.mem_map]
  constructor
  · rintro ⟨h1, h2⟩
    obtain ⟨nd, hnd⟩ := Option.isSome_iff_exists.1 h1
    obtain ⟨n, hn, hk, _⟩ := (node_iff (k := keyB x) hR.uq.n).1 hnd
    have hx := keyB_inj hk
    refine ⟨n, List.mem_filter.2 ⟨hn, ?_⟩, hx⟩
    unfold kidQ
    rw [hx]
    simp only [Bool.and_eq_true, decide_eq_true_eq]
    refine ⟨fun e => ?_, h2⟩
    have := root_of2 e
    subst this
    rw [par_root2] at h2
    rw [← h2] at hp
    exact check_none2 hp
  · rintro ⟨n, hn, rfl⟩
    obtain ⟨h1, h2⟩ := List.mem_filter.1 hn
    unfold kidQ at h2
    simp only [Bool.and_eq_true, decide_eq_true_eq] at h2
    have h3 : (toM R).N (keyB n.path) = some (ndOf n) := (node_iff (k := keyB n.path) hR.uq.n).2 ⟨n, h1, rfl, rfl⟩
    exact ⟨by show ((toM R).N (keyB n.path)).isSome = true; rw [h3]; rfl, h2.2⟩
theorem below_kids (hR : RawR k R) {p : ByteArray} (hp : checkS p = 0) {l : List ByteArray} (hb : Below1 (toM R) p l) : (l.map baseS).Perm (kidsR R p) := by
  have h := (below_perm hR hp hb).map baseS
  rw [List.map_map] at h
  exact h
theorem below_count (hR : RawR k R) {p : ByteArray} (hp : checkS p = 0) {l : List ByteArray} (hb : Below1 (toM R) p l) : l.length = (kidsR R p).length := by
  have := (below_kids hR hp hb).length_eq
  rwa [List.length_map] at this
theorem sort_kids (hR : RawR k R) {p : ByteArray} (hp : checkS p = 0) {l : List ByteArray} (hb : Below1 (toM R) p l) : sortB (l.map baseS) = kidsR R p := by
  have hpm := below_kids hR hp hb
  exact srt_ext (sortB_sorted (hpm.nodup_iff.2 (srt_nodup (kids_srt hR p)))) (kids_srt hR p) (fun x => by rw [sortB_mem]; exact hpm.mem_iff)
theorem node_at (hR : RawR k R) {i : Nat} {n : RN} (hn : R.N[i]? = some n) : (toM R).N (keyB n.path) = some (ndOf n) := (node_iff (k := keyB n.path) hR.uq.n).2 ⟨n, List.mem_of_getElem? hn, rfl, rfl⟩
theorem kids_len (R : RT) (p : ByteArray) : (kidsR R p).length ≤ R.N.length := by unfold kidsR; rw [List.length_map]; exact List.length_filter_le _ _
theorem owned_len2 (R : RT) (s : Int) : (ownedR R s).length ≤ R.N.length := by unfold ownedR; rw [List.length_map]; exact List.length_filter_le _ _
theorem nums_ext {l m : List Int} (hl : l.Pairwise (fun a b : Int => a < b)) (hm : m.Pairwise (fun a b : Int => a < b)) (h : ∀ x, x ∈ l ↔ x ∈ m) : l = m := by
  have nd : ∀ {l : List Int}, l.Pairwise (fun a b : Int => a < b) → l.Nodup := fun h => List.Pairwise.imp (fun {a b} hab => fun e => by omega) h
  exact List.Perm.eq_of_pairwise (le := fun a b : Int => a < b) (fun a b _ _ h1 h2 => by omega) hl hm ((List.perm_ext_iff_of_nodup (nd hl) (nd hm)).2 h)
end
/-! the calls -/
def GetR (w : World) (R : RT) (n : RN) (e : Ending) (w' : World) : Prop := e = .returned (.tuple #[.string n.data, statV n.st n.data.size (kidsR R n.path).length, .int .i64 0]) ∧ Kept (fun _ => False) w w'
def StatR (w : World) (R : RT) (n : RN) (e : Ending) (w' : World) : Prop := e = .returned (.tuple #[statV n.st n.data.size (kidsR R n.path).length, .bool true]) ∧ Kept (fun _ => False) w w'
def AclR (w : World) (n : RN) (e : Ending) (w' : World) : Prop := ∃ v, e = .returned (.tuple #[v, .int .i64 0]) ∧ w'.ownsRow w.heap.size 89 2 v n.acl.length (aclC n.acl) ∧ Kept (fun _ => False) w w'
def KidsR (w : World) (l : List ByteArray) (e : Ending) (w' : World) : Prop := ∃ v, e = .returned (.tuple #[v, .int .i64 0]) ∧ StrAt w.heap.size w' v l ∧ Kept (fun _ => False) w w'
def NumsR (w : World) (l : List Int) (e : Ending) (w' : World) : Prop := ∃ v, e = .returned v ∧ w'.ownsRow w.heap.size 3 1 v l.length (l.map encZ) ∧ Kept (fun _ => False) w w'
section
variable {Z : Nat → Prop} {w w' : World} {q : TB} {R : RT} {c k : Nat}
theorem get_of (h : TAt Z w q (toM R) c) (hR : RawR k R) (hc : c ≤ 4000000000000) {i : Nat} {n : RN} (hn : R.N[i]? = some n) :
    Calls Tryz.prog 30 #[.pointer (some ⟨q.t, 0, none⟩), .string n.path] w (GetR w R n) := by
  obtain ⟨h1, h2⟩ := raw_path hR hn
  refine (get_any h n.path (by omega) hc).mono ?_
  rintro e w' ⟨hk, ⟨h0, _⟩ | ⟨nd, l, hnd, hb, rfl⟩⟩
  · have := node_at hR hn
    exact absurd (h0.symm.trans this) (by simp)
  · have := node_at hR hn
    have e : nd = ndOf n := by
      have := hnd.symm.trans this
      injection this
    subst e
    exact ⟨by rw [below_count hR h1 hb]; rfl, hk⟩
theorem stat_of (h : TAt Z w q (toM R) c) (hR : RawR k R) (hc : c ≤ 4000000000000) {i : Nat} {n : RN} (hn : R.N[i]? = some n) :
    Calls Tryz.prog 26 #[.pointer (some ⟨q.t, 0, none⟩), .string n.path] w (StatR w R n) := by
  obtain ⟨h1, h2⟩ := raw_path hR hn
  refine (stat_any h n.path (by omega) hc).mono ?_
  rintro e w' ⟨hk, ⟨h0, _⟩ | ⟨nd, l, hnd, hb, rfl⟩⟩
  · have := node_at hR hn
    exact absurd (h0.symm.trans this) (by simp)
  · have := node_at hR hn
    have e : nd = ndOf n := by
      have := hnd.symm.trans this
      injection this
    subst e
    exact ⟨by rw [below_count hR h1 hb]; rfl, hk⟩
theorem acl_of2 (h : TAt Z w q (toM R) c) (hR : RawR k R) {i : Nat} {n : RN} (hn : R.N[i]? = some n) :
    Calls Tryz.prog 37 #[.pointer (some ⟨q.t, 0, none⟩), .string n.path] w (AclR w n) := by
  obtain ⟨h1, h2⟩ := raw_path hR hn
  refine (acl_any h n.path (by omega)).mono ?_
  rintro e w' ⟨hk, ⟨h0, _⟩ | ⟨nd, v, hnd, rfl, hv⟩⟩
  · have := node_at hR hn
    exact absurd (h0.symm.trans this) (by simp)
  · have := node_at hR hn
    have e : nd = ndOf n := by
      have := hnd.symm.trans this
      injection this
    subst e
    exact ⟨v, rfl, hv, hk⟩
theorem owned_of (h : TAt Z w q (toM R) c) (hR : RawR k R) (hc : c ≤ 4000000000000) (s : Int) :
    Calls Tryz.prog 42 #[.pointer (some ⟨q.t, 0, none⟩), .int .i64 s] w (StrsPost w (ownedR R s)) := by
  by_cases hs : s = 0
  · subst hs
    refine (owned_zero h).mono ?_
    rintro e w' ⟨rfl, rfl⟩
    have : ownedR R 0 = [] := by
      unfold ownedR
      rw [List.map_eq_nil_iff, List.filter_eq_nil_iff]
      intro n _; unfold ownQ; simp
    rw [this]
    exact ⟨_, rfl, World.ownsRow_nil _ _ _ _, Kept.refl _ _⟩
  · refine (owned_any h s hs hc).mono ?_
    rintro e w' ⟨v, l, rfl, hs1, hm, hv, hk⟩
    have : l = ownedR R s := by
      refine srt_ext hs1 (hR.pth.1.sublist (List.filter_sublist.map RN.path)) fun x => ?_
      rw [hm]
      unfold OwnedBy ownedR
      rw [List.mem_map]
      constructor
      · rintro ⟨nd, hnd, ho⟩
        obtain ⟨n, hn, hk, rfl⟩ := (node_iff (k := keyB x) hR.uq.n).1 hnd
        exact ⟨n, List.mem_filter.2 ⟨hn, by unfold ownQ; simp [hs]; exact ho⟩, keyB_inj hk⟩
      · rintro ⟨n, hn, rfl⟩
        obtain ⟨h1, h2⟩ := List.mem_filter.1 hn
        unfold ownQ at h2
        simp only [Bool.and_eq_true, decide_eq_true_eq] at h2
        exact ⟨ndOf n, (node_iff (k := keyB n.path) hR.uq.n).2 ⟨n, h1, rfl, rfl⟩, h2.2⟩
    subst this
    exact ⟨v, rfl, hv, hk⟩
theorem paths_of (h : TAt Z w q (toM R) c) (hR : RawR k R) (hc : c ≤ 4000000000000) :
    Calls Tryz.prog 45 #[.pointer (some ⟨q.t, 0, none⟩)] w (StrsPost w (R.N.map RN.path)) := by
  refine (paths_any h hc).mono ?_
  rintro e w' ⟨v, l, rfl, hs1, hm, hv, hk⟩
  have : l = R.N.map RN.path := by
    refine srt_ext hs1 hR.pth.1 fun x => ?_
    rw [hm]
    show ((toM R).N (keyB x)).isSome = true ↔ _
    rw [Option.isSome_iff_exists, List.mem_map]
    constructor
    · rintro ⟨nd, hnd⟩
      obtain ⟨n, hn, hk, rfl⟩ := (node_iff (k := keyB x) hR.uq.n).1 hnd
      exact ⟨n, hn, keyB_inj hk⟩
    · rintro ⟨n, hn, rfl⟩
      exact ⟨_, (node_iff (k := keyB n.path) hR.uq.n).2 ⟨n, hn, rfl, rfl⟩⟩
  subst this
  exact ⟨v, rfl, hv, hk⟩
theorem sessions_of (h : TAt Z w q (toM R) c) (hR : RawR k R) (hc : c ≤ 4000000000000) :
    Calls Tryz.prog 47 #[.pointer (some ⟨q.t, 0, none⟩)] w (NumsR w (R.S.map RS.id)) := by
  refine (sessions_any h hc).mono ?_
  rintro e w' ⟨v, l, rfl, hs1, hm, hv, hk⟩
  have : l = R.S.map RS.id := by
    refine nums_ext hs1 hR.ids fun x => ?_
    rw [hm]
    show ((toM R).S x).isSome = true ↔ _
    rw [Option.isSome_iff_exists, List.mem_map]
    constructor
    · rintro ⟨sv, hsv⟩
      obtain ⟨s, hs, hk, _⟩ := (sessR_iff (i := x) hR.uq.s).1 hsv
      exact ⟨s, hs, hk⟩
    · rintro ⟨s, hs, rfl⟩
      exact ⟨_, (sessR_iff (i := s.id) hR.uq.s).2 ⟨s, hs, rfl, rfl⟩⟩
  subst this
  exact ⟨v, rfl, hv, hk⟩
def SessR (w : World) (s : RS) (e : Ending) (w' : World) : Prop := e = .returned (.tuple #[.int .i64 s.timeout, .string s.secret, .bool true]) ∧ Kept (fun _ => False) w w'
theorem session_of (h : TAt Z w q (toM R) c) (hR : RawR k R) {i : Nat} {s : RS} (hs : R.S[i]? = some s) :
    Calls Tryz.prog 44 #[.pointer (some ⟨q.t, 0, none⟩), .int .i64 s.id] w (SessR w s) := by
  have hr := hR.rng s (List.mem_of_getElem? hs)
  have hM : (toM R).S s.id = some (s.timeout, s.secret) := (sessR_iff (i := s.id) hR.uq.s).2 ⟨s, List.mem_of_getElem? hs, rfl, rfl⟩
  refine (session_any h s.id ⟨by omega, hr.2⟩).mono ?_
  rintro e w' ⟨t, p, rfl, h1 | h1, hk⟩
  · rw [hM] at h1
    injection h1 with h1
    injection h1 with h1 h2
    subst h1 h2
    exact ⟨by rw [hM]; rfl, hk⟩
  · rw [hM] at h1; cases h1
set_option maxRecDepth 100000 in
set_option maxHeartbeats 1000000 in
theorem kids_of (h : TAt Z w q (toM R) c) (hR : RawR k R) (hkk : k ≤ 1000000000) (hc : c ≤ 4000000000000) {i : Nat} {n : RN} (hn : R.N[i]? = some n) :
    Calls Tryz.prog 38 #[.pointer (some ⟨q.t, 0, none⟩), .string n.path] w (KidsR w (kidsR R n.path)) := by
  have HT := Lib.hid h
  obtain ⟨h60, h61⟩ := raw_path hR hn
  obtain ⟨p, hpp⟩ : ∃ p, n.path = p := ⟨_, rfl⟩
  rw [hpp] at h60 h61 ⊢
  have hp : p.size ≤ 140737488355328 := by omega
  have hN : (toM R).N (keyB p) = some (ndOf n) := by rw [← hpp]; exact node_at hR hn
  obtain ⟨D, E, h⟩ := h
  obtain ⟨c0, c1, c2, f⟩ := h.three
  have HSK : Hid (∀ l, Below1 (toM R) p l → sortB (l.map baseS) = kidsR R p ∧ l.length ≤ 1000000000) := Lib.hid (fun l hb => ⟨sort_kids hR h60 hb, by rw [below_count hR h60 hb]; have := kids_len R p; have := hR.N; omega⟩)
  obtain ⟨nd, av, hM, hL, ha⟩ : ∃ nd av, (toM R).N p.data.toList = some nd ∧ lookV D (.string p.data.toList) = some (nodeV nd av) ∧ AclAt w Z av nd.acl := by
    rcases h.look p.data.toList with ⟨nd, av, hM, hL, ha⟩ | ⟨hM, hL⟩
    · exact ⟨nd, av, hM, hL, ha⟩
    · exact absurd (hM.symm.trans hN) (by simp)
  obtain ⟨va, vn, vc, rfl⟩ := ha.shape
  have hrun := h.lookNode p hp
  rw [hL] at hrun
  simp only [Option.getD_some, Option.isSome_some, nodeV] at hrun
  have HK := Lib.hid (fun (W : World) (hk : Kept (fun _ => False) w W) => kids_any (HT.out.kept0 hk) p hp hc)
  clear h hL ha hM hn hN hpp
  go_enter Tryz.func38, Tryz.ntmps38
  go_wp2_with fail
  refine (HK.out _ ?_).mono ?_
  · exact (Kept.refl _ w).alloc _
  rintro e w5 ⟨v, l, rfl, hb, hv, hk⟩
  have HB := Lib.hid hb
  have HK5 : Hid (Kept (fun _ => False) w w5) := Lib.hid (((Kept.refl _ w).alloc _).trans hk)
  have HV := Lib.hid (row_mono hv (show w.heap.size ≤ _ by simp))
  have HSR := Lib.hid (sortS_call HV.out (by rw [List.length_map]; have := (HSK.out l hb).2; omega))
  obtain ⟨a5, c5, hvv⟩ := own_shape hv
  rw [List.length_map] at hvv
  subst hvv
  clear hb hv hk HK
  go_wp2_with fail
  refine HSR.out.mono ?_
  rintro e w6 ⟨rfl, hv6, hg6⟩
  have HV6 := Lib.hid hv6
  have HK6 : Hid (Kept (fun _ => False) w w6) := Lib.hid (HK5.out.trans' (Kept.of_grownBy hg6) (fun k hk e => by have := (own_lo HV.out e.symm).1; omega))
  clear hv6 hg6
  go_wp2_with fail
  go_ret2
  have hv9 := HV6.out
  rw [(HSK.out l HB.out).1] at hv9
  exact ⟨.slice a5 l.length c5, rfl, hv9, HK6.out⟩
end
end Go.Proofs.YtenbdoceaabecaaGreat

namespace Go.Proofs.YtenbdoceaabecaaGreat
open Go.ChangeShapes Go.WideShapes Go.ChangeAt Go.RowKit Go.Maps
set_option linter.unusedVariables false
set_option linter.unusedSimpArgs false
/-- a node's cells, in a tree's own -/
structure NodeF (w : World) (b g cap len : Nat) (av : Value) (i : Nat) (n : RN) : Prop where
  c0 : w.cell? ⟨b, 0, none⟩ = some (.slice (some ⟨g, 0, none⟩) len cap)
  n0 : w.cell? ⟨g, i * 12, none⟩ = some (.string n.path)
  n1 : w.cell? ⟨g, i * 12 + 1, none⟩ = some (.string n.data)
  n2 : w.cell? ⟨g, i * 12 + 2, none⟩ = some av
  s0 : w.cell? ⟨g, i * 12 + 3, none⟩ = some (.int .i64 n.st.cz)
  s1 : w.cell? ⟨g, i * 12 + 3 + 1, none⟩ = some (.int .i64 n.st.mz)
  s2 : w.cell? ⟨g, i * 12 + 3 + 2, none⟩ = some (.int .i64 n.st.pz)
  s3 : w.cell? ⟨g, i * 12 + 3 + 3, none⟩ = some (.int .i64 n.st.ver)
  s4 : w.cell? ⟨g, i * 12 + 3 + 4, none⟩ = some (.int .i64 n.st.cver)
  s5 : w.cell? ⟨g, i * 12 + 3 + 5, none⟩ = some (.int .i64 n.st.aver)
  s6 : w.cell? ⟨g, i * 12 + 3 + 6, none⟩ = some (.int .i64 n.st.owner)
  s7 : w.cell? ⟨g, i * 12 + 3 + 7, none⟩ = some (.int .i64 0)
  s8 : w.cell? ⟨g, i * 12 + 3 + 8, none⟩ = some (.int .i64 0)
  hb : b < w.heap.size
  hg : g < w.heap.size
section
variable {w w' : World} {b : Nat} {R : RT}
theorem NodeF.kept0 {g cap len : Nat} {av : Value} {i : Nat} {n : RN} (h : NodeF w b g cap len av i n) (hk : Kept (fun _ => False) w w') : NodeF w' b g cap len av i n := by
  have e : ∀ j k v, j < w.heap.size → w.cell? ⟨j, k, none⟩ = some v → w'.cell? ⟨j, k, none⟩ = some v := fun j k v hj hv => by
    rw [World.cell?_of_block (w := w) (hk.block j hj (fun f => f))]; exact hv
  obtain ⟨a, b0, b1, b2, b3, b4, b5, b6, b7, b8, b9, b10, b11, hb, hg⟩ := h
  exact ⟨e _ _ _ hb a, e _ _ _ hg b0, e _ _ _ hg b1, e _ _ _ hg b2, e _ _ _ hg b3, e _ _ _ hg b4, e _ _ _ hg b5, e _ _ _ hg b6, e _ _ _ hg b7, e _ _ _ hg b8, e _ _ _ hg b9, e _ _ _ hg b10, e _ _ _ hg b11, Nat.lt_of_lt_of_le hb hk.size, Nat.lt_of_lt_of_le hg hk.size⟩
theorem RAt.nodeF (h : RAt w b R) {i : Nat} {n : RN} (hn : R.N[i]? = some n) : ∃ g cap av, NodeF w b g cap R.N.length av i n ∧ AclW w av n.acl ∧ i < R.N.length ∧ R.N.length ≤ cap := by
  obtain ⟨L, nv, sv, hD⟩ := h
  obtain ⟨a, cap, rfl, hcap, hnode⟩ := hD.node
  obtain ⟨c0, c1, c2, cf⟩ := hD.cells
  obtain ⟨hi, rfl⟩ := List.getElem?_eq_some_iff.1 hn
  have hL := rd_len hD
  obtain ⟨g, q, rfl, hg, hq, hc, hfz⟩ := hnode i (by omega)
  have hqn := rd_at hD hq
  rw [hn] at hqn
  injection hqn with hqn
  rw [hqn]
  refine ⟨g, cap, q.2, ⟨by rw [← hL]; exact c0, hc 0 _ rfl, hc 1 _ rfl, hc 2 _ rfl, hc 3 _ rfl, hc 4 _ rfl, hc 5 _ rfl, hc 6 _ rfl, hc 7 _ rfl, hc 8 _ rfl, hc 9 _ rfl, hc 10 _ rfl, hc 11 _ rfl, hD.lt ((hD.bs b).2 (.inl rfl)), hg⟩, hD.acl q (List.mem_of_getElem? hq), hi, by omega⟩
theorem BoxS.keptX {X : Nat → Prop} {k : Nat} {s : St} {len kids : Int} (h : BoxS w k s len kids) (hk : Kept X w w') (hx : ¬ X k) : BoxS w' k s len kids := (hk.block k (lt_of_block h) hx).trans h
theorem ne_succ (n : Nat) : ¬ n = n + 1 := by omega
def RStatPost (w : World) (R : RT) (p : ByteArray) (e : Ending) (w' : World) : Prop := Kept (fun _ => False) w w' ∧
  ((placeI R.N p = -1 ∧ e = .returned (.tuple #[statV St0 0 0, .bool false])) ∨
   ∃ (i : Nat) (n : RN), R.N[i]? = some n ∧ n.path = p ∧ placeI R.N p = i ∧ e = .returned (.tuple #[statV n.st n.data.size (kidsR R p).length, .bool true]))
set_option maxRecDepth 100000 in
set_option maxHeartbeats 2000000 in
theorem rstat_any (h : RAt w b R) (p : ByteArray) (hps : ∀ n ∈ R.N, n.path.size ≤ 1048576) (hlen : R.N.length ≤ 1000000000) :
    Calls Tryz.prog 36 #[.pointer (some ⟨b, 0, none⟩), .string p] w (RStatPost w R p) := by
  have hk1 : Kept (fun _ => False) w (w.alloc (statO ⟨0, 0, 0, 0, 0, 0, 0⟩ 0 0)) := (Kept.refl _ w).alloc _
  have HPL := Lib.hid (place_any (h.kept0 hk1) p)
  have HB1 : Hid (BoxS (w.alloc (statO ⟨0, 0, 0, 0, 0, 0, 0⟩ 0 0)) w.heap.size St0 0 0) := Lib.hid (heap_alloc_new w _)
  rcases placeI_cases R.N p with ⟨hp, hno⟩ | ⟨i, hi, hp, hpath, hno⟩
  all_goals clear hno
  · have HP := Lib.hid hp
    rw [hp] at HPL
    clear hp h hk1
    go_enter Tryz.func36, Tryz.ntmps36
    go_wp2_with fail
    refine HPL.out.mono ?_
    rintro e w1 ⟨rfl, rfl⟩
    go_wp2_with (refine wpList_store_row _ rfl 36 _ _ rfl w.heap.size _ (statL St0 0 0) rfl rfl HB1.out stat_info rfl (statL_one _ _ _) ?_)
    have hrow : BoxS ((w.alloc (statO ⟨0, 0, 0, 0, 0, 0, 0⟩ 0 0)).setRow w.heap.size (statL St0 0 0).toArray) w.heap.size St0 0 0 := setRow_heap _ w.heap.size _ (statL St0 0 0).toArray _ _ HB1.out
    have hfin : Kept (fun _ => False) w ((w.alloc (statO ⟨0, 0, 0, 0, 0, 0, 0⟩ 0 0)).setRow w.heap.size (statL St0 0 0).toArray) := kept_in (setRow_kept _ w.heap.size _) ((Kept.refl _ w).alloc _) (Nat.le_refl _)
    refine ret_box_tmp 4 36 5 w.heap.size _ (.bool false) Tryz.results36 ?_ ?_ hrow.load ?_ ?_
    exact rfl
    exact rfl
    exact rfl
    exact ⟨hfin, .inl ⟨HP.out, rfl⟩⟩
  · have HP := Lib.hid hp
    rw [hp] at HPL
    have hn : R.N[i]? = some R.N[i] := List.getElem?_eq_getElem hi
    obtain ⟨g, cap, av, hf, hacl, hi9, hcap⟩ := h.nodeF hn
    clear hi9
    have HF1 := Lib.hid (hf.kept0 hk1)
    generalize hnn : R.N[i] = n at *
    have HN := Lib.hid hn
    have HPA := Lib.hid hpath
    have HKI := Lib.hid (fun (W : World) (hk : Kept (fun _ => False) w W) => rkids_any (h.kept0 hk) p hps hlen)
    obtain ⟨a0, b0, b1, b2, b3, b4, b5, b6, b7, b8, b9, b10, b11, _, _⟩ := HF1.out
    have i1 : (0 : Int) ≤ (i : Int) := by omega
    have i2 : (i : Int) < (R.N.length : Int) := by omega
    have i3 : ¬ (i : Int) < 0 := by omega
    obtain ⟨len, hlen9⟩ : ∃ len, R.N.length = len := ⟨_, rfl⟩
    have hw9 : (len : Int) ≤ 1000000000 := by omega
    rw [hlen9] at a0 i2
    rw [hlen9] at HF1
    clear hp hpath hn hf hacl h hk1 hi hnn hps hlen hlen9 hcap
    go_enter Tryz.func36, Tryz.ntmps36
    go_wp2_with fail
    refine HPL.out.mono ?_
    rintro e w1 ⟨rfl, rfl⟩
    have hk2 : Kept (fun _ => False) w ((w.alloc (statO ⟨0, 0, 0, 0, 0, 0, 0⟩ 0 0)).alloc (statO n.st 0 0)) := ((Kept.refl _ w).alloc _).alloc _
    have HF2 := Lib.hid (HF1.out.kept0 ((Kept.refl _ _).alloc (statO n.st 0 0)))
    have hbs : BoxS ((w.alloc (statO ⟨0, 0, 0, 0, 0, 0, 0⟩ 0 0)).alloc (statO n.st 0 0)) (w.heap.size + 1) n.st 0 0 := by
      have h1 := heap_alloc_new (w.alloc (statO ⟨0, 0, 0, 0, 0, 0, 0⟩ 0 0)) (statO n.st 0 0)
      rw [show (w.alloc (statO ⟨0, 0, 0, 0, 0, 0, 0⟩ 0 0)).heap.size = w.heap.size + 1 by simp] at h1
      exact h1
    have hb1 : BoxS ((w.alloc (statO ⟨0, 0, 0, 0, 0, 0, 0⟩ 0 0)).alloc (statO n.st 0 0)) w.heap.size St0 0 0 := HB1.out.kept0 ((Kept.refl _ _).alloc _)
    obtain ⟨a0', b0', b1', b2', b3', b4', b5', b6', b7', b8', b9', b10', b11', hbl, hgl⟩ := HF2.out
    obtain ⟨d0, d1, d2, d3, d4, d5, d6, d7, d8, df⟩ := hbs.nine
    have h78 : BoxS ((w.alloc (statO ⟨0, 0, 0, 0, 0, 0, 0⟩ 0 0)).alloc (statO n.st n.data.size 0)) (w.heap.size + 1) n.st n.data.size 0 := by
      have h1 := heap_alloc_new (w.alloc (statO ⟨0, 0, 0, 0, 0, 0, 0⟩ 0 0)) (statO n.st n.data.size 0)
      rw [show (w.alloc (statO ⟨0, 0, 0, 0, 0, 0, 0⟩ 0 0)).heap.size = w.heap.size + 1 by simp] at h1
      exact h1
    have h1s : BoxS ((w.alloc (statO ⟨0, 0, 0, 0, 0, 0, 0⟩ 0 0)).alloc (statO n.st n.data.size 0)) w.heap.size St0 0 0 := HB1.out.kept0 ((Kept.refl _ _).alloc _)
    have hk3 : Kept (fun _ => False) w ((w.alloc (statO ⟨0, 0, 0, 0, 0, 0, 0⟩ 0 0)).alloc (statO n.st n.data.size 0)) := ((Kept.refl _ w).alloc _).alloc _
    have H78 := Lib.hid h78
    have H1S := Lib.hid h1s
    have HK3 := Lib.hid hk3
    clear hk2 hbs hb1 h78 h1s hk3
    go_wp2_with fail
    clear a0 b0 b1 b2 b3 b4 b5 b6 b7 b8 b9 b10 b11 a0' b0' b1' b2' b3' b4' b5' b6' b7' b8' b9' b10' b11' d0 d1 d2 d3 d4 d5 d6 d7 d8 df hbl hgl HF1 HF2 HB1
    generalize ((w.alloc (statO ⟨0, 0, 0, 0, 0, 0, 0⟩ 0 0)).alloc (statO n.st n.data.size 0)) = w3 at H78 H1S HK3 ⊢
    refine (HKI.out _ HK3.out).mono ?_
    rintro e w5 ⟨v5, rfl, hv5, hk5⟩
    obtain ⟨va, vc, rfl⟩ := own_shape hv5
    have hb5 := H78.out.kept0 hk5
    obtain ⟨d0, d1, d2, d3, d4, d5, d6, d7, d8, df⟩ := hb5.nine
    obtain ⟨kl, hkl⟩ : ∃ kl : Nat, (kidsR R p).length = kl := ⟨_, rfl⟩
    rw [hkl]
    have HKL := Lib.hid hkl
    have hb6 : BoxS (w5.setCell ⟨w.heap.size + 1, 8, none⟩ (.int .i64 kl)) (w.heap.size + 1) n.st n.data.size kl := heap_set (c := statL n.st n.data.size 0) (i := 8) _ hb5
    have h16 : BoxS (w5.setCell ⟨w.heap.size + 1, 8, none⟩ (.int .i64 kl)) w.heap.size St0 0 0 := BoxS.keptX (H1S.out.kept0 hk5) (kept_set _ (w.heap.size + 1) 8 (.int .i64 kl)) (ne_succ _)
    have hk6 : Kept (fun _ => False) w (w5.setCell ⟨w.heap.size + 1, 8, none⟩ (.int .i64 kl)) := kept_in (kept_set _ (w.heap.size + 1) 8 (.int .i64 kl)) (HK3.out.trans hk5) (by omega)
    have H16 := Lib.hid h16
    have HB6 := Lib.hid hb6
    have HK6 := Lib.hid hk6
    clear hv5 hk5 hb5 hkl h16 hb6 hk6
    have x6 := HB6.out.nine
    obtain ⟨y0, y1, y2, y3, y4, y5, y6, y7, y8, yf⟩ := x6
    go_wp2_with (refine wpList_store_row _ rfl 36 _ _ rfl w.heap.size _ (statL n.st n.data.size kl) rfl rfl H16.out stat_info rfl (statL_one _ _ _) ?_)
    have hrow : BoxS ((w5.setCell ⟨w.heap.size + 1, 8, none⟩ (.int .i64 kl)).setRow w.heap.size (statL n.st n.data.size kl).toArray) w.heap.size n.st n.data.size kl := setRow_heap _ w.heap.size _ (statL n.st n.data.size kl).toArray _ _ H16.out
    have hfin : Kept (fun _ => False) w ((w5.setCell ⟨w.heap.size + 1, 8, none⟩ (.int .i64 kl)).setRow w.heap.size (statL n.st n.data.size kl).toArray) := kept_in (setRow_kept _ w.heap.size _) HK6.out (Nat.le_refl _)
    refine ret_box_tmp 4 36 5 w.heap.size _ (.bool true) Tryz.results36 ?_ ?_ hrow.load ?_ ?_
    exact rfl
    exact rfl
    exact rfl
    exact ⟨hfin, .inr ⟨i, n, HN.out, HPA.out, HP.out, by rw [HKL.out]; rfl⟩⟩
end
end Go.Proofs.YtenbdoceaabecaaGreat
