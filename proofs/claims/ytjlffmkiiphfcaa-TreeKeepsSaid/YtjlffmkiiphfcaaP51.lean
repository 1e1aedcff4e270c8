/- Who owns what, in a sound history. texts; paths counted by their owners. -/
import Derived.Test.YtjlffmkiiphfcaaP45
import Derived.Test.YtjlffmkiiphfcaaP50
import Derived.IntWalk
import Derived.BigQuiet
import Derived.Deep.QuietTactic
namespace Go.Proofs.Ytjlffmkiiphfcaa
set_option linter.unusedVariables false
set_option linter.unusedSimpArgs false
/-- whoever owns a node is a session that is there -/
def OwnM (M : TM) : Prop := ∀ k nd, M.N k = some nd → nd.st.owner = 0 ∨ (1 ≤ nd.st.owner ∧ nd.st.owner ≤ 5 ∧ (M.S nd.st.owner).isSome = true)
theorem stp_owner {M : TM} (hM : Closed M) {x : T1} (h : soundP M x) (zx : Int) {k : List UInt8} {nd : Nd} (hn : (stp M x zx).N k = some nd) : (∃ nd0, M.N k = some nd0 ∧ nd0.st.owner = nd.st.owner) ∨ (x.kind = 1 ∧ nd.st.owner = x.owner) := by
  by_cases ht : tch x k 0
  · have hk : (x.kind = 1 ∨ x.kind = 2) ∧ k = keyB x.path := by
      rcases ht with ⟨a, b | ⟨_, b⟩⟩ | ⟨_, _, b⟩ | ⟨_, _, b⟩
      · exact ⟨a, b⟩
      all_goals omega
    rcases hk.1 with h1 | h2
    · rcases h with ⟨_, hm, _, hp⟩ | ⟨h2, _⟩ | ⟨h3, _⟩
      · rw [create_N h1 hm hp, if_pos hk.2] at hn
        injection hn with hn
        subst hn
        exact .inr ⟨h1, rfl⟩
      all_goals omega
    · have := (there_step hM h zx k).1 (by rw [hn]; exact fun e => nomatch e)
      rcases this with ⟨h1, _⟩ | ⟨_, h3⟩
      · omega
      · exact absurd ⟨h2, hk.2⟩ h3
  · have h9 := no_touch hM h zx (g := 0) (by decide) ht
    rw [hn] at h9
    cases hm : M.N k with
    | none => rw [hm] at h9; simp [prj] at h9
    | some nd0 =>
      rw [hm] at h9
      simp [prj] at h9
      exact .inl ⟨nd0, rfl, h9.2.symm⟩
theorem run_owner {k : List UInt8} {nd : Nd} : ∀ (L : List (T1 × Int)) {M : TM}, Closed M → soundL M L → (runP M L).N k = some nd → (∃ nd0, M.N k = some nd0 ∧ nd0.st.owner = nd.st.owner) ∨ ∃ e ∈ L, e.1.kind = 1 ∧ nd.st.owner = e.1.owner
  | [], M, _, _, h => .inl ⟨nd, h, rfl⟩
  | e :: L, M, hM, hs, h => by
    rcases run_owner L (closed_step hM hs.1 e.2) hs.2 h with ⟨nd0, h0, e0⟩ | ⟨y, hy, h1⟩
    · rcases stp_owner hM hs.1 e.2 h0 with ⟨nd1, h1, e1⟩ | ⟨h1, h2⟩
      · exact .inl ⟨nd1, h1, e1.trans e0⟩
      · exact .inr ⟨e, by simp, h1, by rw [← e0]; exact h2⟩
    · exact .inr ⟨y, by simp [hy], h1⟩
theorem none_stays {k : List UInt8} : ∀ (L : List (T1 × Int)) {M : TM}, Closed M → soundL M L → (∀ e ∈ L, e.1.kind = 2) → M.N k = none → (runP M L).N k = none
  | [], M, _, _, _, h => h
  | e :: L, M, hM, hs, hd, h => by
    refine none_stays L (closed_step hM hs.1 e.2) hs.2 (fun y hy => hd y (by simp [hy])) ?_
    refine Decidable.byContradiction fun hc => ?_
    rcases (there_step hM hs.1 e.2 k).1 hc with ⟨h1, _⟩ | ⟨h1, _⟩
    · have := hd e (by simp); omega
    · exact h1 h
theorem dels_gone : ∀ (L : List (T1 × Int)) {M : TM}, Closed M → soundL M L → (∀ e ∈ L, e.1.kind = 2) → ∀ e ∈ L, (runP M L).N (keyB e.1.path) = none
  | [], _, _, _, _, e, he => (List.not_mem_nil he).elim
  | a :: L, M, hM, hs, hd, e, he => by
    have hM' := closed_step hM hs.1 a.2
    have hd' : ∀ e ∈ L, e.1.kind = 2 := fun y hy => hd y (by simp [hy])
    rcases List.mem_cons.1 he with rfl | he
    · refine none_stays L hM' hs.2 hd' ?_
      refine Decidable.byContradiction fun hc => ?_
      rcases (there_step hM hs.1 e.2 (keyB e.1.path)).1 hc with ⟨h1, _⟩ | ⟨_, h1⟩
      · have := hd e (by simp); omega
      · exact h1 ⟨hd e (by simp), rfl⟩
    · exact dels_gone L hM' hs.2 hd' e he
theorem sess_there {R : RT} (hu : UqR R) (hi : ∀ s ∈ R.S, 1 ≤ s.id ∧ s.id ≤ 5) {o : Int} (h : ∃ s ∈ R.S, s.id = o) : 1 ≤ o ∧ o ≤ 5 ∧ ((toM R).S o).isSome = true := by
  obtain ⟨s, hs, rfl⟩ := h
  refine ⟨(hi s hs).1, (hi s hs).2, ?_⟩
  rw [Option.isSome_iff_exists]
  exact ⟨_, (sessR_iff hu.s).2 ⟨s, hs, rfl, rfl⟩⟩
theorem own_step {k : Nat} {R : RT} (hI : HInv k R) {x : T1} {l : List T1} {zx : Int} (ht : TxnOk R x l) (hs : soundB R x l zx = true) (hO : OwnM (toM R)) : OwnM (toM (applyR R x l zx)) := by
  obtain ⟨s1, s2⟩ := sound_run hI.uq hs
  obtain ⟨a1, _⟩ := apply_sim hI.uq x l 0 zx
  have hS : (toM (applyR R x l zx)).S = sessO (toM R).S x := by rw [a1, apply_SO]
  have hids := hI.ids
  intro kk nd hn
  rw [s2] at hn
  -- whoever created a node is there, or owns nothing
  have hc : ∀ e ∈ entPs x l zx, e.1.kind = 1 → e.1.owner = 0 ∨ ∃ s ∈ R.S, s.id = e.1.owner := by
    intro e he h1
    unfold entPs at he
    by_cases h14 : x.kind = 1 ∨ x.kind = 2 ∨ x.kind = 3 ∨ x.kind = 4
    · rw [if_pos h14] at he
      simp at he; subst he
      exact ht.own (by omega) (by omega)
    · rw [if_neg h14] at he
      by_cases h67 : x.kind = 6 ∨ x.kind = 7
      · rw [if_pos h67] at he
        obtain ⟨y, hy, rfl⟩ := List.mem_map.1 he
        exact (ht.subs y hy).2
      · rw [if_neg h67] at he; exact (List.not_mem_nil he).elim
  have hold : nd.st.owner = 0 ∨ (1 ≤ nd.st.owner ∧ nd.st.owner ≤ 5 ∧ ((toM R).S nd.st.owner).isSome = true) := by
    rcases run_owner _ hI.cl s1 hn with ⟨nd0, h0, e0⟩ | ⟨e, he, h1, e0⟩
    · have := hO kk nd0 h0
      rw [e0] at this; exact this
    · rcases hc e he h1 with h | h
      · exact .inl (e0.trans h)
      · exact .inr (e0 ▸ sess_there hI.uq hids h)
  rcases hold with h0 | ⟨h1, h2, h3⟩
  · exact .inl h0
  refine .inr ⟨h1, h2, ?_⟩
  rw [hS]
  unfold sessO
  by_cases h5 : x.kind = 5
  · rw [if_pos h5]
    split
    · unfold updN; split
      · rfl
      · exact h3
    · exact h3
  rw [if_neg h5]
  by_cases h6 : x.kind = 6
  · rw [if_pos h6]
    have hne : nd.st.owner ≠ x.owner := by
      intro eo
      have hL : entPs x l zx = l.map (fun y => (y, zx)) := by unfold entPs; rw [if_neg (by omega), if_pos (.inl h6)]
      have hd2 : ∀ e ∈ entPs x l zx, e.1.kind = 2 := fun e he => by
        rw [hL] at he
        obtain ⟨y, hy, rfl⟩ := List.mem_map.1 he
        exact ht.dels h6 y hy
      rcases run_owner _ hI.cl s1 hn with ⟨nd0, h0, e0⟩ | ⟨e, he, h1', _⟩
      · obtain ⟨n, hnm, hnk, hnd⟩ := (node_iff (k := kk) hI.uq.n).1 h0
        have ho : n.st.owner = x.owner := by rw [← eo, ← e0, ← hnd]; rfl
        have hmem : n.path ∈ ownedR R x.owner := List.mem_map.2 ⟨n, List.mem_filter.2 ⟨hnm, by unfold ownQ; simp [ho]; omega⟩, rfl⟩
        obtain ⟨y, hy, hyp⟩ := ht.cls h6 n.path hmem
        have hg := dels_gone _ hI.cl s1 hd2 (y, zx) (by rw [hL]; exact List.mem_map.2 ⟨y, hy, rfl⟩)
        rw [show keyB (y, zx).1.path = kk by rw [← hnk]; exact congrArg keyB hyp, hn] at hg
        cases hg
      · have := hd2 e he; omega
    rw [updN_other _ _ _ hne]; exact h3
  · rw [if_neg h6]; exact h3
theorem Hist.inv {fr : Int} {H : List HE} {R : RT} (h : Hist fr H R) : HInv H.length R := by
  induction h with
  | nil => exact hinv_new
  | @snoc H R h hh hz ht hs ih => rw [List.length_append]; exact ih.step ht hs
theorem Hist.own {fr : Int} {H : List HE} {R : RT} (h : Hist fr H R) : OwnM (toM R) := by
  induction h with
  | nil =>
    intro k nd hn
    obtain ⟨n, hnm, _, hnd⟩ := (node_iff (k := k) hinv_new.uq.n).1 hn
    left
    rw [← hnd]
    unfold newR at hnm
    simp at hnm
    subst hnm; rfl
  | @snoc H R h hh hz ht hs ih => exact own_step hh.inv ht hs ih
end Go.Proofs.Ytjlffmkiiphfcaa

namespace Go.Proofs.Ytjlffmkiiphfcaa
open Go.ChangeShapes Go.WideShapes Go.ChangeAt Go.RowKit Go.Maps
set_option linter.unusedVariables false
set_option linter.unusedSimpArgs false
set_option maxRecDepth 100000 in
set_option maxHeartbeats 1000000 in
theorem texts_true {w : World} {B B' : Nat} {a b : Value} {l : List ByteArray} (ha : StrAt B w a l) (hb : StrAt B' w b l) (hl : l.length ≤ 4000000000000) :
    Calls Try.prog 26 #[a, b] w (QPost true w) := by
  obtain ⟨a1, c1, rfl, h1⟩ := strC_at ha
  obtain ⟨a2, c2, rfl, h2⟩ := strC_at hb
  have H1 := Lib.hid h1
  have H2 := Lib.hid h2
  clear h1 h2 ha hb
  go_enter Try.func26, Try.ntmps26
  go_wp2_with fail
  go_loopw [5] (fun iv wr => ∃ i : Nat, iv = .int .i64 i ∧ i ≤ l.length ∧ Kept (fun _ => False) w wr) (fun iv _ => l.length - (Go.RowKit.intOf iv).toNat)
  case atStart => exact ⟨0, rfl, Nat.zero_le _, Kept.refl _ _⟩
  case round =>
    obtain ⟨i, rfl, hi, hk⟩ := hrel
    have HK := Lib.hid hk
    clear hk
    by_cases hlt : i < l.length
    · obtain ⟨p, hp⟩ : ∃ p, l[i]? = some p := ⟨_, List.getElem?_eq_getElem hlt⟩
      obtain ⟨g1, rfl, hg1, k1⟩ := H1.out i p hp
      obtain ⟨g2, rfl, hg2, k2⟩ := H2.out i p hp
      have j1 : wr.cell? ⟨g1, i, none⟩ = some (.string p) := (World.cell?_of_block (w := w) (HK.out.block g1 hg1 (fun f => f))).trans k1
      have j2 : wr.cell? ⟨g2, i, none⟩ = some (.string p) := (World.cell?_of_block (w := w) (HK.out.block g2 hg2 (fun f => f))).trans k2
      have i0 : (0 : Int) ≤ (i : Int) := by omega
      have i1 : (i : Int) < (l.length : Int) := by omega
      clear hp
      go_wp2_with fail
      go_quiet (fail)
      go_wp2_with fail
      exact ⟨⟨i + 1, by go_num, hlt, HK.out.drewN _⟩, by show l.length - ((i : Int) + 1).toNat < l.length - (i : Int).toNat; omega⟩
    · go_wp2_with fail
      go_ret
      exact ⟨rfl, HK.out⟩
/-- whose a node is -/
def ownerOf (M : TM) (p : ByteArray) : Int := match M.N (keyB p) with
  | some nd => nd.st.owner
  | none => 0
def ofS (M : TM) (s : Int) (l : List ByteArray) : List ByteArray := l.filter fun p => decide (ownerOf M p = s)
def tillS (M : TM) (s : Int) (l : List ByteArray) : Nat := (l.filter fun p => decide (1 ≤ ownerOf M p ∧ ownerOf M p < s)).length
theorem till_one (M : TM) (l : List ByteArray) : tillS M 1 l = 0 := by
  unfold tillS
  rw [List.length_eq_zero_iff, List.filter_eq_nil_iff]
  intro p _ h
  simp at h; omega
theorem till_next (M : TM) {s : Int} (hs : 1 ≤ s) : ∀ l : List ByteArray, tillS M (s + 1) l = tillS M s l + (ofS M s l).length
  | [] => rfl
  | p :: l => by
    have ih := till_next M hs l
    unfold tillS ofS at *
    rw [List.filter_cons, List.filter_cons, List.filter_cons]
    by_cases e : ownerOf M p = s
    · rw [if_pos (by simp; omega), if_neg (by simp; omega), if_pos (by simp [e])]
      simp only [List.length_cons]; omega
    · by_cases h : 1 ≤ ownerOf M p ∧ ownerOf M p < s
      · rw [if_pos (by simp; omega), if_pos (by simp; omega), if_neg (by simp [e])]
        simp only [List.length_cons]; omega
      · rw [if_neg (by simp; omega), if_neg (by simp; omega), if_neg (by simp [e])]
        exact ih
theorem till_all (M : TM) : ∀ l : List ByteArray, (∀ p ∈ l, ownerOf M p = 0 ∨ (1 ≤ ownerOf M p ∧ ownerOf M p ≤ 5)) → (ofS M 0 l).length + tillS M 6 l = l.length
  | [], _ => rfl
  | p :: l, h => by
    have ih := till_all M l (fun q hq => h q (by simp [hq]))
    have hp := h p (by simp)
    unfold tillS ofS at *
    rw [List.filter_cons, List.filter_cons]
    rcases hp with e | e
    · rw [if_pos (by simp [e]), if_neg (by simp; omega)]
      simp only [List.length_cons]; omega
    · rw [if_neg (by simp; omega), if_pos (by simp; omega)]
      simp only [List.length_cons]; omega
theorem of_take {M : TM} {s : Int} {l : List ByteArray} {i : Nat} {p : ByteArray} (h : l[i]? = some p) : ofS M s (l.take (i + 1)) = if ownerOf M p = s then ofS M s (l.take i) ++ [p] else ofS M s (l.take i) := by
  obtain ⟨hi, rfl⟩ := List.getElem?_eq_some_iff.1 h
  unfold ofS
  rw [List.take_succ_eq_append_getElem hi, List.filter_append, List.filter_cons, List.filter_nil]
  by_cases e : ownerOf M l[i] = s
  · rw [if_pos (by simp [e]), if_pos e]
  · rw [if_neg (by simp [e]), if_neg e, List.append_nil]
/-- a session's paths are those of the nodes that name it -/
theorem owned_eq {M : TM} {s : Int} (hs : s ≠ 0) {P l : List ByteArray} (hP : P.Pairwise ltP) (hm : ∀ x, x ∈ P ↔ (M.N (keyB x)).isSome = true) (hl : l.Pairwise ltP) (hm' : ∀ x, x ∈ l ↔ OwnedBy M s x) : l = ofS M s P := by
  refine srt_ext hl (hP.filter _) (fun x => ?_)
  unfold ofS
  rw [hm', List.mem_filter, hm]
  unfold OwnedBy ownerOf
  cases hn : M.N (keyB x) with
  | none => simp
  | some nd => simp
theorem own_range {M : TM} (hO : OwnM M) (p : ByteArray) : ownerOf M p = 0 ∨ (1 ≤ ownerOf M p ∧ ownerOf M p ≤ 5) := by
  unfold ownerOf
  cases hn : M.N (keyB p) with
  | none => exact .inl rfl
  | some nd =>
    rcases hO _ nd hn with h | ⟨h1, h2, _⟩
    · exact .inl h
    · exact .inr ⟨h1, h2⟩
theorem own_sess {M : TM} (hO : OwnM M) {s : Int} (hs : s ≠ 0) {P : List ByteArray} (h : 0 < (ofS M s P).length) : (M.S s).isSome = true := by
  obtain ⟨p, hp⟩ := List.exists_mem_of_length_pos h
  unfold ofS at hp
  have hp := (List.mem_filter.1 hp).2
  simp at hp
  unfold ownerOf at hp
  cases hn : M.N (keyB p) with
  | none => rw [hn] at hp; exact absurd hp.symm hs
  | some nd =>
    rw [hn] at hp
    rcases hO _ nd hn with h | ⟨_, _, h3⟩
    · exact absurd (hp.symm.trans h) hs
    · have hp : nd.st.owner = s := hp
      rw [hp] at h3; exact h3
end Go.Proofs.Ytjlffmkiiphfcaa
