/- Histories applied, plainly: nodes, sessions, the zxid; the end of a sound one done again. -/
import Derived.Test.YtjlffmkiiphfcaaP44
namespace Go.Proofs.Ytjlffmkiiphfcaa
set_option linter.unusedVariables false
set_option linter.unusedSimpArgs false
theorem kids_exc (M : TM) (s : Int → Option (Int × ByteArray)) (z : Int) (p : ByteArray) (cv zx : Int) : kidsOf { M with S := s, z := z } p cv zx = { kidsOf M p cv zx with S := s, z := z } := by
  unfold kidsOf
  show (match M.N p.data.toList with | none => _ | some nd => _) = _
  cases M.N p.data.toList <;> rfl
theorem lay_exc (M : TM) (s : Int → Option (Int × ByteArray)) (z : Int) (p d : ByteArray) (a : List AR) (t : St) : layM { M with S := s, z := z } p d a t = { layM M p d a t with S := s, z := z } := by
  unfold layM; split <;> rfl
/-- a part hangs on the nodes alone -/
theorem part_exc (M : TM) (s : Int → Option (Int × ByteArray)) (z : Int) (x : T1) (zx : Int) : partM { M with S := s, z := z } x zx = ({ (partM M x zx).1 with S := s, z := z }, (partM M x zx).2) := by
  unfold partM
  by_cases h1 : x.kind = 1
  · rw [if_pos h1, if_pos h1]
    unfold createM
    rw [kids_exc, lay_exc]
    show (if mayCome x.path = true ∧ hasN M (parS x.path) = true then _ else _) = _
    split <;> rfl
  rw [if_neg h1, if_neg h1]
  by_cases h2 : x.kind = 2
  · rw [if_pos h2, if_pos h2]
    unfold removeM
    show (if mayCome x.path = true then (kidsOf { dropM M x.path with S := s, z := z } _ _ _, _) else _) = _
    rw [kids_exc]
    split <;> rfl
  rw [if_neg h2, if_neg h2]
  by_cases h3 : x.kind = 3
  · rw [if_pos h3, if_pos h3]
    unfold setM
    show (match M.N x.path.data.toList with | none => _ | some nd => _) = _
    cases M.N x.path.data.toList <;> rfl
  rw [if_neg h3, if_neg h3]
  by_cases h4 : x.kind = 4
  · rw [if_pos h4, if_pos h4]
    unfold aclM
    show ((match M.N x.path.data.toList with | none => _ | some nd => _), _) = _
    cases M.N x.path.data.toList <;> rfl
  rw [if_neg h4, if_neg h4]
theorem part_M_S (M : TM) (x : T1) (zx : Int) : (partM M x zx).1.S = M.S ∧ (partM M x zx).1.z = M.z := by
  have h := part_exc M M.S M.z x zx
  have h : partM M x zx = ({ (partM M x zx).1 with S := M.S, z := M.z }, (partM M x zx).2) := h
  rw [h]; exact ⟨rfl, rfl⟩
theorem part_ext {M M' : TM} (h : M.N = M'.N) (x : T1) (zx : Int) : (partM M x zx).1.N = (partM M' x zx).1.N := by
  have e : M' = { M with S := M'.S, z := M'.z } := by obtain ⟨a, b, c⟩ := M; obtain ⟨a', b', c'⟩ := M'; cases h; rfl
  rw [e, part_exc M M'.S M'.z x zx]
theorem rem_part {x : T1} (h : x.kind = 2) (M : TM) (zx : Int) : removeM M x zx = partM M x zx := by
  unfold partM; rw [if_neg (by omega), if_pos h]
theorem parts_ext (d : Bool) (zx : Int) : ∀ (l : List T1) {M M' : TM} (e e' : List Ev), M.N = M'.N → (partsM d zx M e l).1.N = (partsM d zx M' e' l).1.N
  | [], _, _, _, _, h => h
  | x :: l, M, M', e, e', h => by
    unfold partsM
    by_cases h1 : d = true ∧ x.kind ≠ 2
    · rw [if_pos h1, if_pos h1]; exact parts_ext d zx l _ _ h
    rw [if_neg h1, if_neg h1]
    by_cases h2 : d = true
    · rw [if_pos h2, if_pos h2]
      have h3 : x.kind = 2 := by
        by_cases h3 : x.kind = 2
        · exact h3
        · exact absurd ⟨h2, h3⟩ h1
      exact parts_ext d zx l _ _ (by rw [rem_part h3, rem_part h3]; exact part_ext h x zx)
    · rw [if_neg h2, if_neg h2]; exact parts_ext d zx l _ _ (part_ext h x zx)
theorem parts_M_S (d : Bool) (zx : Int) : ∀ (l : List T1) (M : TM) (e : List Ev), (partsM d zx M e l).1.S = M.S
  | [], _, _ => rfl
  | x :: l, M, e => by
    unfold partsM
    by_cases h1 : d = true ∧ x.kind ≠ 2
    · rw [if_pos h1]; exact parts_M_S d zx l _ _
    rw [if_neg h1]
    by_cases h2 : d = true
    · rw [if_pos h2]
      have h3 : x.kind = 2 := by
        by_cases h3 : x.kind = 2
        · exact h3
        · exact absurd ⟨h2, h3⟩ h1
      rw [parts_M_S d zx l, rem_part h3, (part_M_S M x zx).1]
    · rw [if_neg h2, parts_M_S d zx l, (part_M_S M x zx).1]
/-- what an entry does to the sessions -/
def sessO (S : Int → Option (Int × ByteArray)) (t : T1) : Int → Option (Int × ByteArray) :=
  if t.kind = 5 then (if 0 < t.owner then updN S t.owner (some (t.number, t.data)) else S) else if t.kind = 6 then updN S t.owner none else S
theorem apply_z (M : TM) (x : Tx) (zx : Int) : (applyM M x zx).1.z = zx := by unfold applyM; split <;> rfl
theorem apply_do_N (M : TM) (x : Tx) (zx : Int) : (applyM M x zx).1.N = (doM M x zx).1.N := by unfold applyM; split <;> rfl
theorem apply_do_S (M : TM) (x : Tx) (zx : Int) : (applyM M x zx).1.S = (doM M x zx).1.S := by unfold applyM; split <;> rfl
theorem apply_SO (M : TM) (x : Tx) (zx : Int) : (applyM M x zx).1.S = sessO M.S x.t := by
  rw [apply_do_S]; unfold doM sessO
  split
  · unfold sessM; split <;> rfl
  split
  · show updN (partsM true zx M [] x.subs).1.S x.t.owner none = _
    rw [parts_M_S]
  split
  · rw [parts_M_S]
  · rw [(part_M_S M x.t zx).1]
theorem apply_ext {M M' : TM} (h : M.N = M'.N) (x : Tx) (zx : Int) : (applyM M x zx).1.N = (applyM M' x zx).1.N := by
  rw [apply_do_N, apply_do_N]; unfold doM
  split
  · unfold sessM; split <;> exact h
  split
  · exact parts_ext true zx x.subs [] [] h
  split
  · exact parts_ext false zx x.subs [] [] h
  · exact part_ext h x.t zx
theorem TM.ext' {M M' : TM} (h : M.N = M'.N) (hS : M.S = M'.S) (hz : M.z = M'.z) : M = M' := by
  obtain ⟨a, b, c⟩ := M; obtain ⟨a', b', c'⟩ := M'; cases h; cases hS; cases hz; rfl
/-- an entry's transaction -/
def HE.tx (h : HE) : Tx := ⟨h.x, h.y.err, h.subs⟩
def runH (M : TM) (L : List HE) : TM := L.foldl (fun M h => (applyM M h.tx h.e.zx).1) M
theorem runH_snoc (M : TM) (L : List HE) (h : HE) : runH M (L ++ [h]) = (applyM (runH M L) h.tx h.e.zx).1 := by unfold runH; rw [List.foldl_append]; rfl
theorem toM_new : toM newR = newM := by
  unfold newM layM
  rw [if_pos (by unfold okP; exact decide_eq_true ((check_ok _).2 ⟨[], fun n hn => (nomatch hn), rfl, by decide⟩))]
  refine TM.ext' (funext fun k => ?_) rfl rfl
  show nodeOf [(⟨slashS, ⟨#[]⟩, [⟨31, worldB⟩], ⟨0, 0, 0, 0, 0, 0, 0⟩⟩ : RN)] k = updN noM.N (keyB slashS) (some _) k
  unfold updN nodeOf
  rw [List.find?_cons]
  by_cases e : keyB slashS = k
  · rw [decide_eq_true e, if_pos e.symm]; rfl
  · rw [decide_eq_false e, if_neg (fun c => e c.symm)]; rfl
theorem runH_hist {fr : Int} {H : List HE} {R : RT} (h : Hist fr H R) : runH newM H = toM R ∧ UqR R ∧ Closed (toM R) := by
  induction h with
  | nil => exact ⟨toM_new.symm, hinv_new.uq, hinv_new.cl⟩
  | @snoc H R h hh hz ht hs ih =>
    obtain ⟨i1, i2, i3⟩ := ih
    obtain ⟨a1, a2⟩ := apply_sim i2 h.x h.subs h.y.err h.e.zx
    exact ⟨by rw [runH_snoc, i1, a1]; rfl, a2, closed_apply i2 i3 hs⟩
/-- the end of a sound history -/
inductive Tail : RT → List HE → RT → Prop
  | nil (R : RT) : Tail R [] R
  | snoc {R0 R : RT} {T : List HE} {h : HE} : Tail R0 T R → TxnOk R h.x h.subs → soundB R h.x h.subs h.e.zx = true → Tail R0 (T ++ [h]) (applyR R h.x h.subs h.e.zx)
theorem Hist.tail {fr : Int} {H : List HE} {R : RT} (h : Hist fr H R) (at_ : Nat) : ∃ R0, Hist fr (H.take at_) R0 ∧ Tail R0 (H.drop at_) R := by
  induction h with
  | nil => exact ⟨newR, by rw [List.take_nil]; exact .nil, by rw [List.drop_nil]; exact .nil _⟩
  | @snoc H R h hh hz ht hs ih =>
    by_cases hl : at_ ≤ H.length
    · obtain ⟨R0, h0, h1⟩ := ih
      refine ⟨R0, ?_, ?_⟩
      · rw [List.take_append_of_le_length hl]; exact h0
      · rw [List.drop_append_of_le_length hl]; exact .snoc h1 ht hs
    · refine ⟨applyR R h.x h.subs h.e.zx, ?_, ?_⟩
      · rw [List.take_of_length_le (by simp; omega)]; exact .snoc hh hz ht hs
      · rw [List.drop_eq_nil_of_le (by simp; omega)]; exact .nil _
theorem stp_ext {M M' : TM} (h : M.N = M'.N) (x : T1) (zx : Int) : (stp M x zx).N = (stp M' x zx).N := part_ext h x zx
theorem runP_ext : ∀ (l : List (T1 × Int)) {M M' : TM}, M.N = M'.N → (runP M l).N = (runP M' l).N
  | [], _, _, h => h
  | e :: l, _, _, h => runP_ext l (stp_ext h e.1 e.2)
theorem runP_app : ∀ (a b : List (T1 × Int)) (M : TM), runP M (a ++ b) = runP (runP M a) b
  | [], _, _ => rfl
  | e :: a, b, M => runP_app a b _
theorem soundP_ext {M M' : TM} (h : M.N = M'.N) {x : T1} (hs : soundP M x) : soundP M' x := by
  unfold soundP noKid at *
  rw [← h]; exact hs
theorem soundL_ext : ∀ (l : List (T1 × Int)) {M M' : TM}, M.N = M'.N → soundL M l → soundL M' l
  | [], _, _, _, _ => trivial
  | e :: l, _, _, h, hs => ⟨soundP_ext h hs.1, soundL_ext l (stp_ext h e.1 e.2) hs.2⟩
theorem soundL_app : ∀ (a b : List (T1 × Int)) {M : TM}, soundL M a → soundL (runP M a) b → soundL M (a ++ b)
  | [], _, _, _, h => h
  | e :: a, b, _, ha, hb => ⟨ha.1, soundL_app a b ha.2 hb⟩
def partsH (T : List HE) : List (T1 × Int) := T.flatMap fun h => entPs h.x h.subs h.e.zx
theorem partsH_snoc (T : List HE) (h : HE) : partsH (T ++ [h]) = partsH T ++ entPs h.x h.subs h.e.zx := by unfold partsH; simp
theorem parts_run (d : Bool) (zx : Int) : ∀ (l : List T1) (M : TM) (e : List Ev), (d = true → ∀ y ∈ l, y.kind = 2) → (partsM d zx M e l).1 = runP M (l.map (fun y => (y, zx)))
  | [], _, _, _ => rfl
  | x :: l, M, e, h => by
    unfold partsM
    by_cases h2 : d = true
    · have h3 := h h2 x (by simp)
      rw [if_neg (fun c => c.2 h3), if_pos h2, parts_run d zx l _ _ (fun h' y hy => h h' y (by simp [hy])), rem_part h3]; rfl
    · rw [if_neg (fun c => h2 c.1), if_neg h2, parts_run d zx l _ _ (fun h' y hy => h h' y (by simp [hy]))]; rfl
/-- an entry does what its parts do, on whatever tree -/
theorem apply_parts (M : TM) {x : T1} {l : List T1} (hd : x.kind = 6 → ∀ y ∈ l, y.kind = 2) (err zx : Int) : (applyM M ⟨x, err, l⟩ zx).1.N = (runP M (entPs x l zx)).N := by
  rw [apply_do_N]; unfold doM entPs
  show (if x.kind = 5 then _ else if x.kind = 6 then _ else if x.kind = 7 then _ else _ : TM × List Ev).1.N = _
  by_cases h5 : x.kind = 5
  · rw [if_pos h5, if_neg (by omega), if_neg (by omega)]
    show (sessM M _ _ _).N = M.N
    unfold sessM; split <;> rfl
  rw [if_neg h5]
  by_cases h6 : x.kind = 6
  · rw [if_pos h6, if_neg (by omega), if_pos (.inl h6), ← parts_run true zx l M [] (fun _ => hd h6)]
  rw [if_neg h6]
  by_cases h7 : x.kind = 7
  · rw [if_pos h7, if_neg (by omega), if_pos (.inr h7), ← parts_run false zx l M [] (fun h => by cases h)]
  rw [if_neg h7]
  by_cases h1 : x.kind = 1 ∨ x.kind = 2 ∨ x.kind = 3 ∨ x.kind = 4
  · rw [if_pos h1]; rfl
  · rw [if_neg h1, if_neg (by omega)]
    unfold partM
    show (if x.kind = 1 then _ else if x.kind = 2 then _ else if x.kind = 3 then _ else if x.kind = 4 then _ else (M, []) : TM × List Ev).1.N = M.N
    rw [if_neg (by omega), if_neg (by omega), if_neg (by omega), if_neg (by omega)]
theorem Tail.sound {R0 R : RT} {T : List HE} (h : Tail R0 T R) (hu : UqR R0) : UqR R ∧ soundL (toM R0) (partsH T) ∧ (toM R).N = (runP (toM R0) (partsH T)).N := by
  induction h with
  | nil => exact ⟨hu, trivial, rfl⟩
  | @snoc R T h hh ht hs ih =>
    obtain ⟨i1, i2, i3⟩ := ih
    obtain ⟨s1, s2⟩ := sound_run i1 hs
    refine ⟨(apply_sim i1 h.x h.subs h.y.err h.e.zx).2, ?_, ?_⟩
    · rw [partsH_snoc]; exact soundL_app _ _ i2 (soundL_ext _ i3 s1)
    · rw [partsH_snoc, runP_app, funext s2]; exact runP_ext _ i3
theorem Tail.dels {R0 R : RT} {T : List HE} (h : Tail R0 T R) : ∀ h ∈ T, h.x.kind = 6 → ∀ y ∈ h.subs, y.kind = 2 := by
  induction h with
  | nil => intro h hh; cases hh
  | @snoc R T h hh ht hs ih =>
    intro k hk
    rcases List.mem_append.1 hk with hk | hk
    · exact ih k hk
    · simp at hk; subst hk; exact ht.dels
theorem runH_parts : ∀ (T : List HE) (M : TM), (∀ h ∈ T, h.x.kind = 6 → ∀ y ∈ h.subs, y.kind = 2) → (runH M T).N = (runP M (partsH T)).N
  | [], _, _ => rfl
  | h :: T, M, hd => by
    show (runH (applyM M h.tx h.e.zx).1 T).N = (runP M (entPs h.x h.subs h.e.zx ++ partsH T)).N
    rw [runH_parts T _ (fun k hk => hd k (by simp [hk])), runP_app]
    exact runP_ext _ (apply_parts M (hd h (by simp)) h.y.err h.e.zx)
def runS (S : Int → Option (Int × ByteArray)) (T : List HE) : Int → Option (Int × ByteArray) := T.foldl (fun S h => sessO S h.x) S
theorem runH_S : ∀ (T : List HE) (M : TM), (runH M T).S = runS M.S T
  | [], _ => rfl
  | h :: T, M => by
    show (runH (applyM M h.tx h.e.zx).1 T).S = runS (sessO M.S h.x) T
    rw [runH_S T, apply_SO]; rfl
/-- a session is what it was, or what the entries say, whatever it was -/
theorem runS_at (T : List HE) (i : Int) : (∀ S, runS S T i = S i) ∨ ∃ v, ∀ S, runS S T i = v := by
  induction T with
  | nil => exact .inl fun S => rfl
  | cons h T ih =>
    have hs : (∀ S, sessO S h.x i = S i) ∨ ∃ v, ∀ S, sessO S h.x i = v := by
      unfold sessO updN
      by_cases h5 : h.x.kind = 5
      · simp only [if_pos h5]
        by_cases ho : 0 < h.x.owner
        · simp only [if_pos ho]
          by_cases e : i = h.x.owner
          · exact .inr ⟨_, fun S => if_pos e⟩
          · exact .inl fun S => if_neg e
        · simp only [if_neg ho]; exact .inl fun S => trivial
      · simp only [if_neg h5]
        by_cases h6 : h.x.kind = 6
        · simp only [if_pos h6]
          by_cases e : i = h.x.owner
          · exact .inr ⟨_, fun S => if_pos e⟩
          · exact .inl fun S => if_neg e
        · simp only [if_neg h6]; exact .inl fun S => trivial
    rcases ih with ih | ⟨v, ih⟩
    · rcases hs with hs | ⟨v, hs⟩
      · exact .inl fun S => (ih _).trans (hs S)
      · exact .inr ⟨v, fun S => (ih _).trans (hs S)⟩
    · exact .inr ⟨v, fun S => ih _⟩
theorem runS_twice (S : Int → Option (Int × ByteArray)) (T : List HE) : runS (runS S T) T = runS S T := by
  funext i
  rcases runS_at T i with h | ⟨v, h⟩
  · exact h _
  · rw [h, h]
theorem runH_z (T : List HE) (M : TM) : (runH M T).z = (T.getLast?.map (fun h => h.e.zx)).getD M.z := by
  rcases List.eq_nil_or_concat T with rfl | ⟨L, h, rfl⟩
  · rfl
  · rw [List.concat_eq_append, runH_snoc, apply_z]; simp
/-- the end of a sound history done again on what came of the whole -/
theorem again {fr : Int} {H : List HE} {R : RT} (h : Hist fr H R) (at_ : Nat) : runH (runH newM H) (H.drop at_) = runH newM H := by
  obtain ⟨R0, h0, ht⟩ := h.tail at_
  obtain ⟨e0, u0, c0⟩ := runH_hist h0
  obtain ⟨u1, sl, n1⟩ := ht.sound u0
  have hw : runH newM H = runH (toM R0) (H.drop at_) := by
    rw [← e0]
    conv => lhs; rw [← List.take_append_drop at_ H]
    unfold runH; rw [List.foldl_append]
  generalize H.drop at_ = T at *
  rw [hw]
  refine TM.ext' ?_ ?_ ?_
  · rw [runH_parts T _ ht.dels, runH_parts T _ ht.dels]
    exact funext (replay_same (partsH T) c0 sl (fun k => by rw [runH_parts T _ ht.dels]))
  · rw [runH_S, runH_S, runS_twice]
  · rw [runH_z, runH_z]
    cases T.getLast? <;> rfl
/-- two trees alike but for sessions in between -/
structure Twin (m : Int) (A B : TM) : Prop where
  N : B.N = A.N
  z : B.z = A.z
  S : ∀ k, k < m ∨ 108 < k → B.S k = A.S k
  no : ∀ k, 100 ≤ k → k ≤ 108 → A.S k = none
theorem Twin.both {A B : TM} (h : Twin 100 A B) (x : Tx) (zx : Int) (hs : x.t.kind = 5 ∨ x.t.kind = 6 → 1 ≤ x.t.owner ∧ x.t.owner ≤ 5) : Twin 100 (applyM A x zx).1 (applyM B x zx).1 := by
  have hk : ∀ S k, 5 < k → sessO S x.t k = S k := fun S k hk => by
    unfold sessO
    split
    · split
      · exact updN_other _ _ _ (by have := hs (.inl ‹_›); omega)
      · rfl
    split
    · exact updN_other _ _ _ (by have := hs (.inr ‹_›); omega)
    · rfl
  refine ⟨apply_ext h.N x zx, by rw [apply_z, apply_z], fun k hk' => ?_, fun k h1 h2 => ?_⟩
  · rw [apply_SO, apply_SO]
    unfold sessO
    split
    · split
      · unfold updN; split
        · rfl
        · exact h.S k hk'
      · exact h.S k hk'
    split
    · unfold updN; split
      · rfl
      · exact h.S k hk'
    · exact h.S k hk'
  · rw [apply_SO, hk _ k (by omega)]; exact h.no k h1 h2
/-- one of them opens or closes a session in between -/
theorem Twin.one {A B : TM} (h : Twin 100 A B) {x : T1} (hx : x.kind = 5 ∨ x.kind = 6) (h1 : 100 ≤ x.owner) (h2 : x.owner ≤ 108) (err zx : Int) (hz : A.z = zx) : Twin 100 A (applyM B ⟨x, err, []⟩ zx).1 := by
  refine ⟨?_, by rw [apply_z, hz], fun k hk' => ?_, h.no⟩
  · rw [apply_do_N, ← h.N]; unfold doM
    show (if x.kind = 5 then _ else if x.kind = 6 then _ else if x.kind = 7 then _ else _ : TM × List Ev).1.N = _
    rcases hx with e | e
    · rw [if_pos e]
      show (sessM B _ _ _).N = _
      unfold sessM; split <;> rfl
    · rw [if_neg (by omega), if_pos e]; rfl
  · rw [apply_SO, ← h.S k hk']
    show sessO B.S x k = _
    unfold sessO
    split
    · split
      · exact updN_other _ _ _ (by omega)
      · rfl
    split
    · exact updN_other _ _ _ (by omega)
    · rfl
theorem Twin.close {m : Int} {A B : TM} (h : Twin m A B) {x : T1} (hx : x.kind = 6) (ho : x.owner = m) (h1 : 100 ≤ m) (h2 : m ≤ 108) (err zx : Int) (hz : A.z = zx) : Twin (m + 1) A (applyM B ⟨x, err, []⟩ zx).1 := by
  refine ⟨?_, by rw [apply_z, hz], fun k hk' => ?_, h.no⟩
  · rw [apply_do_N, ← h.N]; unfold doM
    show (if x.kind = 5 then _ else if x.kind = 6 then _ else if x.kind = 7 then _ else _ : TM × List Ev).1.N = _
    rw [if_neg (by omega), if_pos hx]; rfl
  · rw [apply_SO]
    show sessO B.S x k = _
    unfold sessO
    rw [if_neg (by omega), if_pos hx]
    unfold updN
    split
    · exact (h.no k (by omega) (by omega)).symm
    · exact h.S k (by omega)
theorem Twin.all {A B : TM} (h : Twin 109 A B) : A = B := (TM.ext' h.N (funext fun k => h.S k (by omega)) h.z).symm
theorem Twin.refl (M : TM) (h : ∀ k, 100 ≤ k → k ≤ 108 → M.S k = none) : Twin 100 M M := ⟨rfl, rfl, fun _ _ => rfl, h⟩
end Go.Proofs.Ytjlffmkiiphfcaa
