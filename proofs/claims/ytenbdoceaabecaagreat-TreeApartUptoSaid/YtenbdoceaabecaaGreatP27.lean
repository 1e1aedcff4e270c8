/- The document's own tree: an entry in memory; Sound. -/
import Derived.Test.YtenbdoceaabecaaGreatP26
namespace Go.Proofs.YtenbdoceaabecaaGreat
open Go.ChangeShapes Go.WideShapes Go.ChangeAt Go.RowKit Go.Maps
set_option linter.unusedVariables false
set_option linter.unusedSimpArgs false
def txC (l : List (T1 × TX)) : List Value := l.flatMap fun p => txnL p.1 p.2
theorem txL_len (p : T1 × TX) : (txnL p.1 p.2).length = 8 := rfl
theorem txL_one (p : T1 × TX) : ∀ u ∈ txnL p.1 p.2, u.oneCell' = true := by
  intro u hu
  simp only [txnL, List.mem_cons, List.not_mem_nil, or_false] at hu
  rcases hu with rfl | rfl | rfl | rfl | rfl | rfl | rfl | rfl <;> rfl
/-- parts in memory: a row, each with an ACL of its own -/
structure SubsW (w : World) (v : Value) (l : List (T1 × TX)) : Prop where
  own : w.ownsRow 0 32 8 v l.length (txC l)
  acl : ∀ p ∈ l, AclW w (.slice p.2.aa p.2.an p.2.ac) p.1.acl
  path : ∀ p ∈ l, p.1.path.size ≤ 1048576
  len : l.length ≤ 1048576
/-- a transaction whose ACL and parts lie in memory -/
structure TxW (w : World) (x : T1) (y : TX) (l : List (T1 × TX)) : Prop where
  acl : AclW w (.slice y.aa y.an y.ac) x.acl
  subs : SubsW w (.slice y.sa y.sn y.sc) l
  path : x.path.size ≤ 1048576
  own : -9223372036854775808 ≤ x.owner ∧ x.owner ≤ 9223372036854775807
theorem SubsW.kept {X : Nat → Prop} {w w' : World} {v : Value} {l : List (T1 × TX)} (h : SubsW w v l) (hk : Kept X w w') (hx : ∀ k cur e, w.heap[k]? = some (.cells cur e (0, 0)) → e = 89 ∨ e = 32 → ¬ X k) : SubsW w' v l :=
  ⟨ownKept h.own hk (fun k e => by obtain ⟨_, _, cur, hc⟩ := own_lo h.own e; exact hx k cur _ hc (.inr rfl)), fun p hp => (h.acl p hp).kept hk (fun k cur hc => hx k cur _ hc (.inl rfl)), h.path, h.len⟩
theorem TxW.kept {X : Nat → Prop} {w w' : World} {x : T1} {y : TX} {l : List (T1 × TX)} (h : TxW w x y l) (hk : Kept X w w') (hx : ∀ k cur e, w.heap[k]? = some (.cells cur e (0, 0)) → e = 89 ∨ e = 32 → ¬ X k) : TxW w' x y l :=
  ⟨h.acl.kept hk (fun k cur hc => hx k cur _ hc (.inl rfl)), h.subs.kept hk hx, h.path, h.own⟩
theorem TxW.kept0 {w w' : World} {x : T1} {y : TX} {l : List (T1 × TX)} (h : TxW w x y l) (hk : Kept (fun _ => False) w w') : TxW w' x y l := h.kept hk (fun _ _ _ _ _ f => f)
theorem TxW.step {w w' : World} {b : Nat} {R : RT} {x : T1} {y : TX} {l : List (T1 × TX)} (h : TxW w x y l) (hR : RAt w b R) (hs : RStep w b w') : TxW w' x y l :=
  h.kept hs.kept (fun k cur e hc he => by
    rcases he with rfl | rfl
    · exact hR.other hc (by decide) (by decide) (by decide)
    · exact hR.other hc (by decide) (by decide) (by decide))
/-- a part's cells -/
theorem SubsW.part {w : World} {v : Value} {l : List (T1 × TX)} (h : SubsW w v l) : ∃ a cap, v = .slice a l.length cap ∧ ∀ i, i < l.length → ∃ g p, a = some ⟨g, 0, none⟩ ∧ g < w.heap.size ∧ l[i]? = some p ∧ ∀ j u, (txnL p.1 p.2)[j]? = some u → w.cell? ⟨g, i * 8 + j, none⟩ = some u := by
  obtain ⟨a, cap, hv, hc⟩ := own_cell h.own
  refine ⟨a, cap, hv, fun i hi => ?_⟩
  obtain ⟨g, ha, _, hg, _, _⟩ := hc (i * 8 + 0) _ (flat_at (f := fun p : T1 × TX => txnL p.1 p.2) txL_len l i hi 0 _ rfl)
  refine ⟨g, l[i], ha, hg, List.getElem?_eq_getElem hi, fun j u hu => ?_⟩
  obtain ⟨g', ha', _, _, h', _⟩ := hc (i * 8 + j) _ (flat_at (f := fun p : T1 × TX => txnL p.1 p.2) txL_len l i hi j u hu)
  rw [ha] at ha'
  injection ha' with ha'
  injection ha' with e1
  subst e1; exact h'
structure PartC (w : World) (g k : Nat) (x : T1) (y : TX) : Prop where
  s0 : w.cell? ⟨g, k * 8, none⟩ = some (.int .i64 x.kind)
  s1 : w.cell? ⟨g, k * 8 + 1, none⟩ = some (.string x.path)
  s2 : w.cell? ⟨g, k * 8 + 2, none⟩ = some (.string x.data)
  s3 : w.cell? ⟨g, k * 8 + 3, none⟩ = some (.slice y.aa y.an y.ac)
  s4 : w.cell? ⟨g, k * 8 + 4, none⟩ = some (.int .i64 x.owner)
  s5 : w.cell? ⟨g, k * 8 + 5, none⟩ = some (.int .i64 x.number)
  s6 : w.cell? ⟨g, k * 8 + 6, none⟩ = some (.int .i64 y.err)
  s7 : w.cell? ⟨g, k * 8 + 7, none⟩ = some (.slice y.sa y.sn y.sc)
theorem partC {w : World} {g k : Nat} {p : T1 × TX} (e : ∀ j u, (txnL p.1 p.2)[j]? = some u → w.cell? ⟨g, k * 8 + j, none⟩ = some u) : PartC w g k p.1 p.2 :=
  ⟨e 0 _ rfl, e 1 _ rfl, e 2 _ rfl, e 3 _ rfl, e 4 _ rfl, e 5 _ rfl, e 6 _ rfl, e 7 _ rfl⟩
/-- trees within bounds -/
structure RV (k : Nat) (R : RT) : Prop where
  ps : ∀ n ∈ R.N, n.path.size ≤ 1048576
  N : R.N.length ≤ k
  S : R.S.length ≤ k
theorem RV.mono {k k' : Nat} {R : RT} (h : RV k R) (hk : k ≤ k') : RV k' R := ⟨h.ps, Nat.le_trans h.N hk, Nat.le_trans h.S hk⟩
theorem modN_ps {R : RT} {i : Nat} {f : RN → RN} (hf : ∀ n, (f n).path = n.path) (h : ∀ n ∈ R.N, n.path.size ≤ 1048576) : ∀ n ∈ (modN R i f).N, n.path.size ≤ 1048576 := by
  intro n hn
  obtain ⟨k, hk, rfl⟩ := List.getElem_of_mem hn
  unfold modN at hk ⊢
  simp only at hk ⊢
  rw [List.length_modify] at hk
  rw [List.getElem_modify]
  split
  · rw [hf]; exact h _ (List.getElem_mem hk)
  · exact h _ (List.getElem_mem hk)
theorem RV.mod {k : Nat} {R : RT} (h : RV k R) {i : Nat} {f : RN → RN} (hf : ∀ n, (f n).path = n.path) : RV k (modN R i f) :=
  ⟨modN_ps hf h.ps, by unfold modN; simp only; rw [List.length_modify]; exact h.N, h.S⟩
theorem RV.kid {k : Nat} {R : RT} (h : RV k R) (p : ByteArray) (cv zx : Int) : RV k (kidR R p cv zx) := by
  unfold kidR
  split
  · exact h.mod (fun _ => rfl)
  · exact h
theorem RV.part {k : Nat} {R : RT} (h : RV k R) (x : T1) (zx : Int) (hp : x.path.size ≤ 1048576) : RV (k + 1) (partR R x zx).1 := by
  unfold partR
  split
  · unfold createR
    split
    · refine RV.kid (R := { R with N := layF (·.path) (newRN x zx) R.N }) ⟨fun n hn => ?_, ?_, Nat.le_succ_of_le h.S⟩ _ _ _
      · rcases layF_mem _ _ _ n hn with rfl | hn
        · exact hp
        · exact h.ps n hn
      · exact Nat.le_trans (layF_len _ _ _) (Nat.succ_le_succ h.N)
    · exact h.mono (Nat.le_succ _)
  split
  · unfold eraseR
    split
    · exact (RV.kid (R := { R with N := R.N.filter (keepQ x.path) }) ⟨fun n hn => h.ps n (List.mem_filter.1 hn).1, Nat.le_trans (List.length_filter_le _ _) h.N, h.S⟩ _ _ _).mono (Nat.le_succ _)
    · exact h.mono (Nat.le_succ _)
  split
  · unfold setR
    split
    · exact (h.mod (f := setF x zx) (fun _ => rfl)).mono (Nat.le_succ _)
    · exact h.mono (Nat.le_succ _)
  split
  · show RV (k + 1) (aclR R x)
    unfold aclR
    split
    · exact (h.mod (f := aclF x) (fun _ => rfl)).mono (Nat.le_succ _)
    · exact h.mono (Nat.le_succ _)
  · exact h.mono (Nat.le_succ _)
/-- parts, one behind the other: does each find what it needs? -/
def soundSubs (cl : Bool) (zx : Int) : RT → List T1 → Bool
  | _, [] => true
  | R, x :: l => findsB R x && !(cl && !decide (x.kind = 2)) && soundSubs cl zx (partR R x zx).1 l
def soundB (R : RT) (x : T1) (l : List T1) (zx : Int) : Bool :=
  if x.kind = 1 ∨ x.kind = 2 ∨ x.kind = 3 ∨ x.kind = 4 then findsB R x else if x.kind = 6 ∨ x.kind = 7 then soundSubs (decide (x.kind = 6)) zx R l else true
def partsR (zx : Int) : RT → List T1 → RT
  | R, [] => R
  | R, x :: l => partsR zx (partR R x zx).1 l
theorem partsR_snoc (zx : Int) : ∀ (l : List T1) (R : RT) (x : T1), partsR zx R (l ++ [x]) = (partR (partsR zx R l) x zx).1
  | [], R, x => rfl
  | y :: l, R, x => partsR_snoc zx l _ x
theorem sound_split (cl : Bool) (zx : Int) : ∀ (l m : List T1) (R : RT), soundSubs cl zx R (l ++ m) = (soundSubs cl zx R l && soundSubs cl zx (partsR zx R l) m)
  | [], m, R => by simp [soundSubs, partsR]
  | y :: l, m, R => by
    show (findsB R y && !(cl && !decide (y.kind = 2)) && soundSubs cl zx (partR R y zx).1 (l ++ m)) = _
    rw [sound_split cl zx l m]
    simp [soundSubs, partsR, Bool.and_assoc]
theorem RV.parts {zx : Int} : ∀ (l : List T1) {k : Nat} {R : RT}, RV k R → (∀ x ∈ l, x.path.size ≤ 1048576) → RV (k + l.length) (partsR zx R l)
  | [], k, R, h, _ => h
  | x :: l, k, R, h, hp => by
    have := RV.parts l (h.part x zx (hp x (by simp))) (fun y hy => hp y (by simp [hy])) (zx := zx)
    rw [show k + 1 + l.length = k + (x :: l).length by simp; omega] at this
    exact this
/-- how far Sound is -/
structure SoRel (w : World) (u : Nat) (R : RT) (zx : Int) (cl : Bool) (l : List (T1 × TX)) (iv : Value) (wr : World) : Prop where
  ex : ∃ k : Nat, k ≤ l.length ∧ iv = .int .i64 k ∧ RAt wr u (partsR zx R ((l.take k).map (·.1))) ∧ soundSubs cl zx R ((l.take k).map (·.1)) = true ∧ (∀ j, RBs wr u j → w.heap.size ≤ j) ∧ Kept (fun _ => False) w wr
theorem so_next {cl : Bool} {zx : Int} {R : RT} {l : List (T1 × TX)} {k : Nat} {p : T1 × TX} (hp : l[k]? = some p) (h : soundSubs cl zx R ((l.take k).map (·.1)) = true) : soundSubs cl zx R ((l.take (k + 1)).map (·.1)) = (findsB (partsR zx R ((l.take k).map (·.1))) p.1 && !(cl && !decide (p.1.kind = 2))) := by
  rw [take_at hp, List.map_append, List.map_singleton, sound_split, h, Bool.true_and]
  simp [soundSubs]
theorem so_fail {cl : Bool} {zx : Int} {R : RT} {l : List (T1 × TX)} {k : Nat} (h : soundSubs cl zx R ((l.take k).map (·.1)) = false) : soundSubs cl zx R (l.map (·.1)) = false := by
  have e : l.map (·.1) = (l.take k).map (·.1) ++ (l.drop k).map (·.1) := by rw [← List.map_append, List.take_append_drop]
  rw [e, sound_split, h, Bool.false_and]
theorem so_parts {zx : Int} {R : RT} {l : List (T1 × TX)} {k : Nat} {p : T1 × TX} (hp : l[k]? = some p) : partsR zx R ((l.take (k + 1)).map (·.1)) = (partR (partsR zx R ((l.take k).map (·.1))) p.1 zx).1 := by
  rw [take_at hp, List.map_append, List.map_singleton, partsR_snoc]
theorem so_rv {zx : Int} {R : RT} {w : World} {v : Value} {l : List (T1 × TX)} (h : RV 100000000 R) (hs : SubsW w v l) (k : Nat) : RV 102000000 (partsR zx R ((l.take k).map (·.1))) := by
  have := RV.parts ((l.take k).map (·.1)) h (fun x hx => by
    obtain ⟨p, hp, rfl⟩ := List.mem_map.1 hx
    exact hs.path p (List.mem_of_mem_take hp)) (zx := zx)
  refine this.mono ?_
  rw [List.length_map, List.length_take]
  have := hs.len
  omega
structure SoRel2 (w w2 : World) (u : Nat) (R : RT) (zx : Int) (cl : Bool) (l : List (T1 × TX)) (iv : Value) (wr : World) : Prop where
  ex : ∃ k : Nat, k ≤ l.length ∧ iv = .int .i64 k ∧ RAt wr u (partsR zx R ((l.take k).map (·.1))) ∧ soundSubs cl zx R ((l.take k).map (·.1)) = true ∧ (∀ j, RBs wr u j → w.heap.size ≤ j) ∧ RStep w2 u wr
theorem subs_step {w w' : World} {b : Nat} {R : RT} {v : Value} {l : List (T1 × TX)} (h : SubsW w v l) (hR : RAt w b R) (hs : RStep w b w') : SubsW w' v l :=
  h.kept hs.kept (fun k cur e hc he => by
    rcases he with rfl | rfl
    · exact hR.other hc (by decide) (by decide) (by decide)
    · exact hR.other hc (by decide) (by decide) (by decide))
end Go.Proofs.YtenbdoceaabecaaGreat
