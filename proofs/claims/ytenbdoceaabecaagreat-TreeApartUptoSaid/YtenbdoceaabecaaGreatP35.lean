/- The document's tree of raw entries: what it keeps, and that it does and tells what the plain one does. The contracts of maps.Clone, laid over this program by the kit (no walk). Clone. -/
import Derived.Test.YtenbdoceaabecaaGreatP34
import Derived.Shelf.SlGeneric
import Derived.Shelf.SlMaps.Clone
import Derived.Test.YtenbdoceaabecaaGreatProg
import Derived.Test.YtenbdoceaabecaaGreatP16
import Derived.Deep.RegionHeld3
namespace Go.Proofs.YtenbdoceaabecaaGreat
set_option linter.unusedVariables false
set_option linter.unusedSimpArgs false
/-- paths by rising order, each one right -/
def OkP (l : List ByteArray) : Prop := l.Pairwise ltP ∧ ∀ p ∈ l, checkS p = 0
theorem okp_len {l : List ByteArray} (h : OkP l) {p : ByteArray} (hp : p ∈ l) : p.size ≤ 60 := by
  have := checkS_len (h.2 p hp)
  rwa [Array.length_toList] at this
theorem okp_sub {l l' : List ByteArray} (h : OkP l) (hs : l'.Sublist l) : OkP l' := ⟨h.1.sublist hs, fun p hp => h.2 p (hs.subset hp)⟩
theorem okp_lay {R : RT} (h : OkP (R.N.map RN.path)) (n : RN) (hn : checkS n.path = 0) : OkP ((layF (·.path) n R.N).map RN.path) :=
  ⟨layF_srt RN.path _ _ h.1, fun p hp => by
    obtain ⟨m, hm, rfl⟩ := List.mem_map.1 hp
    rcases (layF_iff RN.path _ _ m).1 hm with rfl | ⟨hm, _⟩
    · exact hn
    · exact h.2 _ (List.mem_map.2 ⟨m, hm, rfl⟩)⟩
theorem okp_part {R : RT} (h : OkP (R.N.map RN.path)) (x : T1) (zx : Int) : OkP ((partR R x zx).1.N.map RN.path) := by
  unfold partR
  split
  · unfold createR
    split
    · rename_i hm
      show OkP ((kidR { R with N := layF (·.path) (newRN x zx) R.N } _ _ _).N.map RN.path)
      rw [kid_paths]
      exact okp_lay h _ (may_iff.1 hm.1).2
    · exact h
  split
  · unfold eraseR
    split
    · show OkP ((cutR R x zx).N.map RN.path)
      unfold cutR
      rw [kid_paths]
      exact okp_sub h (List.filter_sublist.map RN.path)
    · exact h
  split
  · unfold setR
    split
    · show OkP ((R.N.modify _ _).map RN.path)
      rw [modify_paths (f := setF x zx) (fun _ => rfl)]; exact h
    · exact h
  split
  · show OkP ((aclR R x).N.map RN.path)
    unfold aclR
    split
    · show OkP ((R.N.modify _ _).map RN.path)
      rw [modify_paths (f := aclF x) (fun _ => rfl)]; exact h
    · exact h
  · exact h
theorem okp_parts {zx : Int} : ∀ (l : List T1) {R : RT}, OkP (R.N.map RN.path) → OkP ((partsR zx R l).N.map RN.path)
  | [], _, h => h
  | x :: l, _, h => okp_parts l (okp_part h x zx)
theorem part_S (R : RT) (x : T1) (zx : Int) : (partR R x zx).1.S = R.S := by
  unfold partR
  split
  · unfold createR; split
    · exact (kid_S _ _ _ _).1
    · rfl
  split
  · unfold eraseR; split
    · show (cutR R x zx).S = R.S
      unfold cutR; exact (kid_S _ _ _ _).1
    · rfl
  split
  · unfold setR; split <;> rfl
  split
  · show (aclR R x).S = R.S
    unfold aclR; split <;> rfl
  · rfl
theorem parts_S {zx : Int} : ∀ (l : List T1) (R : RT), (partsR zx R l).S = R.S
  | [], _ => rfl
  | x :: l, R => (parts_S l _).trans (part_S R x zx)
theorem kid_len (R : RT) (p : ByteArray) (cv zx : Int) : (kidR R p cv zx).N.length = R.N.length := by
  have := congrArg List.length (kid_paths R p cv zx)
  simpa using this
theorem part_N (R : RT) (x : T1) (zx : Int) : (partR R x zx).1.N.length ≤ R.N.length + 1 := by
  unfold partR
  split
  · unfold createR; split
    · show (kidR _ _ _ _).N.length ≤ _
      rw [kid_len]
      exact layF_len _ _ _
    · simp
  split
  · unfold eraseR; split
    · show (cutR R x zx).N.length ≤ _
      unfold cutR
      rw [kid_len]
      have := List.length_filter_le (keepQ x.path) R.N
      show (R.N.filter (keepQ x.path)).length ≤ _
      omega
    · simp
  split
  · unfold setR; split
    · show (R.N.modify _ _).length ≤ _
      rw [List.length_modify]; omega
    · simp
  split
  · show (aclR R x).N.length ≤ _
    unfold aclR; split
    · show (R.N.modify _ _).length ≤ _
      rw [List.length_modify]; omega
    · simp
  · simp
theorem parts_N {zx : Int} : ∀ (l : List T1) (R : RT), (partsR zx R l).N.length ≤ R.N.length + l.length
  | [], _ => by simp [partsR]
  | x :: l, R => by
    have h1 := parts_N (zx := zx) l (partR R x zx).1
    have h2 := part_N R x zx
    show (partsR zx (partR R x zx).1 l).N.length ≤ _
    rw [List.length_cons]; omega
/-- no ACL is too long -/
def AclB (m : Nat) (R : RT) : Prop := ∀ n ∈ R.N, n.acl.length ≤ m
theorem aclb_mod {m : Nat} {R : RT} (h : AclB m R) {i : Nat} {f : RN → RN} (hf : ∀ n, n.acl.length ≤ m → (f n).acl.length ≤ m) : AclB m (modN R i f) := fun n hn => by
  have hn : n ∈ R.N.modify i f := hn
  obtain ⟨j, hj, rfl⟩ := List.getElem_of_mem hn
  rw [List.length_modify] at hj
  rw [List.getElem_modify]
  split
  · exact hf _ (h _ (List.getElem_mem hj))
  · exact h _ (List.getElem_mem hj)
theorem aclb_kid {m : Nat} {R : RT} (h : AclB m R) (p : ByteArray) (cv zx : Int) : AclB m (kidR R p cv zx) := by
  unfold kidR; split
  · exact aclb_mod h (fun _ h => h)
  · exact h
theorem aclb_part {m : Nat} {R : RT} (h : AclB m R) (x : T1) (zx : Int) (hx : x.acl.length ≤ m) : AclB m (partR R x zx).1 := by
  unfold partR
  split
  · unfold createR
    split
    · refine aclb_kid (R := { R with N := layF (·.path) (newRN x zx) R.N }) (fun n hn => ?_) _ _ _
      rcases (layF_iff RN.path _ _ n).1 hn with rfl | ⟨hn, _⟩
      · exact hx
      · exact h n hn
    · exact h
  split
  · unfold eraseR
    split
    · exact aclb_kid (R := { R with N := R.N.filter (keepQ x.path) }) (fun n hn => h n (List.mem_filter.1 hn).1) _ _ _
    · exact h
  split
  · unfold setR
    split
    · exact aclb_mod h (f := setF x zx) (fun _ h => h)
    · exact h
  split
  · show AclB m (aclR R x)
    unfold aclR
    split
    · exact aclb_mod h (f := aclF x) (fun _ _ => hx)
    · exact h
  · exact h
theorem aclb_parts {m : Nat} {zx : Int} : ∀ (l : List T1) {R : RT}, AclB m R → (∀ x ∈ l, x.acl.length ≤ m) → AclB m (partsR zx R l)
  | [], _, h, _ => h
  | x :: l, _, h, hl => aclb_parts l (aclb_part h x zx (hl x (by simp))) (fun y hy => hl y (by simp [hy]))
theorem aclb_apply {m : Nat} {R : RT} (h : AclB m R) (x : T1) (l : List T1) (zx : Int) (hx : x.acl.length ≤ m) (hl : ∀ y ∈ l, y.acl.length ≤ m) : AclB m (applyR R x l zx) := by
  have : AclB m (doR R x l zx) := by
    unfold doR
    split
    · split <;> exact h
    split
    · exact aclb_parts _ h (fun y hy => hl y (List.mem_filter.1 hy).1)
    split
    · exact aclb_parts _ h (fun y hy => hl y (List.mem_filter.1 hy).1)
    split
    · exact h
    · exact aclb_part h x zx hx
  exact this
/-- a tree of raw entries and layings -/
structure RawR (k : Nat) (R : RT) : Prop where
  pth : OkP (R.N.map RN.path)
  ids : (R.S.map RS.id).Pairwise (· < ·)
  rng : ∀ s ∈ R.S, 0 < s.id ∧ s.id ≤ 9223372036854775807
  N : R.N.length ≤ k
  S : R.S.length ≤ k
  acl : AclB 1048576 R
theorem RawR.mono {k k' : Nat} {R : RT} (h : RawR k R) (hk : k ≤ k') : RawR k' R := ⟨h.pth, h.ids, h.rng, Nat.le_trans h.N hk, Nat.le_trans h.S hk, h.acl⟩
theorem RawR.uq {k : Nat} {R : RT} (h : RawR k R) : UqR R :=
  ⟨List.Pairwise.imp (fun {a b} hab => fun e => ltP_irrefl a (by rw [← e] at hab; exact hab)) h.pth.1, List.Pairwise.imp (fun {a b} hab => fun e => by omega) h.ids⟩
theorem RawR.rv {k k' : Nat} {R : RT} (h : RawR k R) (hk : k ≤ k') : RV k' R :=
  ⟨fun n hn => by have := okp_len h.pth (List.mem_map.2 ⟨n, hn, rfl⟩); omega, Nat.le_trans h.N hk, Nat.le_trans h.S hk⟩
theorem raw_new : RawR 1 newR :=
  ⟨⟨by simp [newR], fun p hp => by
    have : p = slashS := by simpa [newR] using hp
    subst this; decide +kernel⟩, by simp [newR], fun s hs => by simp [newR] at hs, by simp [newR], by simp [newR], fun n hn => by simp [newR] at hn; subst hn; simp⟩
theorem ins_sorted (id : Int) : ∀ (l : List RS), (l.map RS.id).Pairwise (· < ·) → (∀ t ∈ l, t.id ≠ id) → ∀ s : RS, s.id = id → ((l.takeWhile (ltQ id) ++ [s] ++ l.dropWhile (ltQ id)).map RS.id).Pairwise (· < ·)
  | [], _, _, s, _ => by simp
  | t :: l, h, hne, s, hs => by
    rw [List.map_cons, List.pairwise_cons] at h
    have ht := hne t (by simp)
    by_cases hlt : t.id < id
    · have e : ltQ id t = true := by unfold ltQ; exact decide_eq_true hlt
      have ih := ins_sorted id l h.2 (fun x hx => hne x (by simp [hx])) s hs
      rw [List.takeWhile_cons_of_pos e, List.dropWhile_cons_of_pos e, List.cons_append, List.cons_append, List.map_cons, List.pairwise_cons]
      refine ⟨fun y hy => ?_, ih⟩
      obtain ⟨z, hz, rfl⟩ := List.mem_map.1 hy
      rcases List.mem_append.1 hz with hz | hz
      · rcases List.mem_append.1 hz with hz | hz
        · exact h.1 _ (List.mem_map.2 ⟨z, (List.takeWhile_sublist _).subset hz, rfl⟩)
        · simp at hz; subst hz; rw [hs]; exact hlt
      · exact h.1 _ (List.mem_map.2 ⟨z, (List.dropWhile_sublist _).subset hz, rfl⟩)
    · have e : ¬ ltQ id t = true := by unfold ltQ; simpa using hlt
      rw [List.takeWhile_cons_of_neg e, List.dropWhile_cons_of_neg e, List.nil_append, List.singleton_append, List.map_cons, List.pairwise_cons, hs]
      refine ⟨fun y hy => ?_, by rw [List.map_cons, List.pairwise_cons]; exact h⟩
      rcases List.mem_cons.1 hy with rfl | hy
      · omega
      · have := h.1 y hy; omega
theorem drop_keeps {k : Nat} {R : RT} (h : RawR k R) (id : Int) : RawR k (dropR R id) :=
  ⟨h.pth, h.ids.sublist (List.filter_sublist.map RS.id), fun s hs => h.rng s (List.mem_filter.1 hs).1, h.N, Nat.le_trans (List.length_filter_le _ _) h.S, h.acl⟩
theorem open_keeps {k : Nat} {R : RT} (h : RawR k R) (s : RS) (h0 : 0 < s.id) (h1 : s.id ≤ 9223372036854775807) : RawR (k + 1) (openR R s) := by
  have hd := drop_keeps h s.id
  refine ⟨h.pth, ?_, fun t ht => ?_, Nat.le_succ_of_le h.N, ?_, h.acl⟩
  · refine ins_sorted s.id (dropR R s.id).S hd.ids (fun t ht => ?_) s rfl
    have := (List.mem_filter.1 ht).2
    simpa using this
  · have ht : t ∈ (dropR R s.id).S.takeWhile (ltQ s.id) ++ [s] ++ (dropR R s.id).S.dropWhile (ltQ s.id) := ht
    rcases List.mem_append.1 ht with ht | ht
    · rcases List.mem_append.1 ht with ht | ht
      · exact hd.rng t ((List.takeWhile_sublist _).subset ht)
      · simp at ht; subst ht; exact ⟨h0, h1⟩
    · exact hd.rng t ((List.dropWhile_sublist _).subset ht)
  · show ((dropR R s.id).S.takeWhile (ltQ s.id) ++ [s] ++ (dropR R s.id).S.dropWhile (ltQ s.id)).length ≤ k + 1
    have h2 : ((dropR R s.id).S.takeWhile (ltQ s.id)).length + ((dropR R s.id).S.dropWhile (ltQ s.id)).length = (dropR R s.id).S.length := by
      rw [← List.length_append, List.takeWhile_append_dropWhile]
    have := hd.S
    simp only [List.length_append, List.length_singleton]
    omega
theorem parts_keeps {k : Nat} {R : RT} (h : RawR k R) (l : List T1) (zx : Int) (ha : ∀ x ∈ l, x.acl.length ≤ 1048576) : RawR (k + l.length) (partsR zx R l) := by
  refine ⟨okp_parts l h.pth, ?_, ?_, ?_, ?_, aclb_parts l h.acl ha⟩
  · rw [parts_S]; exact h.ids
  · rw [parts_S]; exact h.rng
  · have := parts_N (zx := zx) l R; have := h.N; omega
  · rw [parts_S]; have := h.S; omega
theorem filt_len {l : List T1} (f : T1 → Bool) {k : Nat} {R : RT} (h : RawR (k + (l.filter f).length) R) : RawR (k + l.length + 1) R := h.mono (by have := List.length_filter_le f l; omega)
theorem apply_keeps {k : Nat} {R : RT} (h : RawR k R) (x : T1) (l : List T1) (zx : Int) (ho : x.owner ≤ 9223372036854775807) (hx : x.acl.length ≤ 1048576) (hl : ∀ y ∈ l, y.acl.length ≤ 1048576) : RawR (k + l.length + 1) (applyR R x l zx) := by
  have : RawR (k + l.length + 1) (doR R x l zx) := by
    unfold doR
    split
    · split
      · rename_i h5 h0
        exact (open_keeps h ⟨x.owner, x.number, x.data⟩ h0 ho).mono (by omega)
      · exact h.mono (by omega)
    split
    · exact drop_keeps (filt_len (delQ false) (parts_keeps h (l.filter (delQ false)) zx (fun y hy => hl y (List.mem_filter.1 hy).1))) x.owner
    split
    · exact filt_len (delQ true) (parts_keeps h (l.filter (delQ true)) zx (fun y hy => hl y (List.mem_filter.1 hy).1))
    split
    · exact h.mono (by omega)
    · exact (parts_keeps h [x] zx (fun y hy => by simp at hy; subst hy; exact hx)).mono (by simp)
  exact ⟨this.pth, this.ids, this.rng, this.N, this.S, this.acl⟩
/-! what is told -/
theorem parts_evs (dels : Bool) (zx : Int) : ∀ (l : List T1) {R : RT} (evs : List Ev), UqR R → (partsM dels zx (toM R) evs l).2 = evs ++ partsE zx R (l.filter (delQ (!dels)))
  | [], R, evs, hu => by simp [partsM, partsE]
  | x :: l, R, evs, hu => by
    unfold partsM
    rw [List.filter_cons]
    by_cases hs : dels = true ∧ x.kind ≠ 2
    · rw [if_pos hs]
      have : delQ (!dels) x = false := by unfold delQ; simp [hs.1, hs.2]
      rw [this]
      exact parts_evs dels zx l evs hu
    · rw [if_neg hs]
      have hd : delQ (!dels) x = true := by
        unfold delQ
        cases dels
        · rfl
        · simp; simp at hs; exact hs
      rw [if_pos hd]
      obtain ⟨p1, p2, p3⟩ := part_sim hu x zx
      show _ = evs ++ ((partR R x zx).2 ++ partsE zx (partR R x zx).1 (l.filter (delQ (!dels))))
      by_cases hdel : dels = true
      · rw [if_pos hdel]
        have h2 : x.kind = 2 := by
          simp only [hdel, true_and, Classical.not_not] at hs; exact hs
        have hrm : partM (toM R) x zx = removeM (toM R) x zx := by unfold partM; rw [if_neg (by omega), if_pos h2]
        rw [← hrm, ← p1, ← p2, parts_evs dels zx l _ p3, List.append_assoc]
      · rw [if_neg hdel, ← p1, ← p2, parts_evs dels zx l _ p3, List.append_assoc]
theorem apply_tells {R : RT} (hu : UqR R) (x : T1) (y : TX) (l : List T1) (zx : Int) : (applyM (toM R) ⟨x, y.err, l⟩ zx).2 = (applyE R x l zx, errR x y) := by
  unfold applyM applyE errR
  by_cases h8 : x.kind = 8
  · rw [if_pos h8, if_neg (by omega), if_neg (by omega), if_neg (by omega), if_pos h8, if_pos h8]
  · have he : (if x.kind = 8 then y.err else (0 : Int)) = 0 := if_neg h8
    rw [if_neg h8, he]
    unfold doM
    simp only
    by_cases h5 : x.kind = 5
    · rw [if_pos h5, if_pos h5]
    · rw [if_neg h5, if_neg h5]
      by_cases h6 : x.kind = 6
      · rw [if_pos h6, if_pos h6]
        show ((partsM true zx (toM R) [] l).2, (0 : Int)) = _
        rw [parts_evs true zx l [] hu]; rfl
      · rw [if_neg h6, if_neg h6]
        by_cases h7 : x.kind = 7
        · rw [if_pos h7, if_pos h7, parts_evs false zx l [] hu]; rfl
        · rw [if_neg h7, if_neg h7, if_neg h8, (part_sim hu x zx).2.1]
end Go.Proofs.YtenbdoceaabecaaGreat

namespace Go.Proofs
open Go.Shelf
def Tryz.cloneSA_ren : Go.Shelf.Ren := ⟨fun | 5 => 34 | 7 => 80 | n => n, fun | 23 => 83 | 25 => 9 | 3 => 98 | 4 => 4 | 20 => 20 | n => n, fun | n => n⟩
theorem Tryz.cloneSA : Go.Proofs.SlLaysW.n5 Tryz.prog Tryz.cloneSA_ren := {
  mixed := by kernel_rfl
  f5 := ⟨Tryz.f34.name, by decide, Tryz.func34.trans (congrArg some (by kernel_rfl))⟩
  f7 := Tryz.func80.trans (congrArg some (by kernel_rfl))
  t4 := Tryz.underlying4
  a4 := Tryz.isAgg4
  z4 := Tryz.sizeOf4
  v4 := Tryz.zeroValue4
  t20 := Tryz.underlying20
  a20 := Tryz.isAgg20
  z20 := Tryz.sizeOf20
  v20 := Tryz.zeroValue20
  t23 := Tryz.underlying83
  a23 := Tryz.isAgg83
  z23 := Tryz.sizeOf83
  v23 := Tryz.zeroValue83 }
def Tryz.cloneIA_ren : Go.Shelf.Ren := ⟨fun | 5 => 35 | 7 => 80 | n => n, fun | 23 => 84 | 25 => 3 | 3 => 101 | 4 => 4 | 20 => 20 | n => n, fun | n => n⟩
theorem Tryz.cloneIA : Go.Proofs.SlLaysW.n5 Tryz.prog Tryz.cloneIA_ren := {
  mixed := by kernel_rfl
  f5 := ⟨Tryz.f35.name, by decide, Tryz.func35.trans (congrArg some (by kernel_rfl))⟩
  f7 := Tryz.func80.trans (congrArg some (by kernel_rfl))
  t4 := Tryz.underlying4
  a4 := Tryz.isAgg4
  z4 := Tryz.sizeOf4
  v4 := Tryz.zeroValue4
  t20 := Tryz.underlying20
  a20 := Tryz.isAgg20
  z20 := Tryz.sizeOf20
  v20 := Tryz.zeroValue20
  t23 := Tryz.underlying84
  a23 := Tryz.isAgg84
  z23 := Tryz.sizeOf84
  v23 := Tryz.zeroValue84 }
end Go.Proofs

namespace Go.Proofs.YtenbdoceaabecaaGreat
open Go.ChangeShapes Go.WideShapes Go.ChangeAt Go.RowKit Go.Maps Go.Proofs
set_option linter.unusedVariables false
set_option linter.unusedSimpArgs false
section
variable {Z : Nat → Prop} {w w' : World} {q : TB} {M : TM} {c : Nat} {D E : DV}
theorem cloneS_any (h : TD Z w q M c D E) : Calls Tryz.prog 34 #[.map (some q.n)] w fun e w' => ∃ b, e = .returned (.map (some b)) ∧ w.heap.size ≤ b ∧ w'.ownsMap Tryz.prog 9 tok b c D ∧ TD Z w' q M c D E ∧ Kept (fun _ => False) w w' :=
  (AnyW.maps_Clone_owns (ρ := Tryz.cloneSA_ren) Tryz.cloneSA 9 tok q.n c D w h.n).mono fun e w' ⟨he, h1, h2, h3⟩ => by
    have hk : Kept (fun _ => False) w w' := ⟨h3.os, h3.tape, h3.output, h3.size, fun k hk _ => h3.block k hk⟩
    exact ⟨_, he, Nat.le_refl _, h1, h.kept0 hk, hk⟩
theorem cloneI_any (h : TD Z w q M c D E) : Calls Tryz.prog 35 #[.map (some q.s)] w fun e w' => ∃ b, e = .returned (.map (some b)) ∧ w.heap.size ≤ b ∧ w'.ownsMap Tryz.prog 3 tok b c E ∧ TD Z w' q M c D E ∧ Kept (fun _ => False) w w' :=
  (AnyW.maps_Clone_owns (ρ := Tryz.cloneIA_ren) Tryz.cloneIA 3 tok q.s c E w h.s).mono fun e w' ⟨he, h1, h2, h3⟩ => by
    have hk : Kept (fun _ => False) w w' := ⟨h3.os, h3.tape, h3.output, h3.size, fun k hk _ => h3.block k hk⟩
    exact ⟨_, he, Nat.le_refl _, h1, h.kept0 hk, hk⟩
theorem TD.cells3 (h : TD Z w q M c D E) : w.cell? ⟨q.t, 0, none⟩ = some (.map (some q.n)) ∧ w.cell? ⟨q.t, 1, none⟩ = some (.map (some q.s)) ∧ w.cell? ⟨q.t, 2, none⟩ = some (.int .i64 M.z) := by
  obtain ⟨c0, c1, c2, f⟩ := h.three
  exact ⟨c0, c1, c2⟩
def TClonePost (Z : Nat → Prop) (q : TB) (M : TM) (c : Nat) (w : World) (e : Ending) (w' : World) : Prop := ∃ q', e = .returned (.pointer (some ⟨q'.t, 0, none⟩)) ∧ TAt Z w' q' M c ∧ TAt Z w' q M c ∧ (∀ k, TBs q' k → w.heap.size ≤ k) ∧ Kept (fun _ => False) w w'
set_option maxRecDepth 100000 in
set_option maxHeartbeats 2000000 in
theorem tclone_any (h : TAt Z w q M c) :
    Calls Tryz.prog 10 #[.pointer (some ⟨q.t, 0, none⟩)] w (TClonePost Z q M c w) := by
  obtain ⟨D, E, h⟩ := h
  have HD := Lib.hid h
  obtain ⟨c0, c1, c2, f⟩ := h.three
  have hd0 := h
  have hdd := h.kept0 ((Kept.refl _ w).drew)
  clear h f
  go_enter Tryz.func10, Tryz.ntmps10
  go_wp2_with fail
  go_region_held3 (fun w' => w'.cell? ⟨q.t, 0, none⟩ = some (.map (some q.n)) ∧ w'.cell? ⟨q.t, 1, none⟩ = some (.map (some q.s)) ∧ w'.cell? ⟨q.t, 2, none⟩ = some (.int .i64 M.z)) (first | assumption | go_keep | exact TD.cells3 (by assumption))
    (first
      | (go_at_call 34; refine (cloneS_any (by assumption)).mono ?_; rintro e w5 ⟨b5, rfl, hb5, ho5, hp5, hk5⟩)
      | (go_at_call 35; refine (cloneI_any (by assumption)).mono ?_; rintro e w6 ⟨b6, rfl, hb6, ho6, hp6, hk6⟩))
  have hA : Kept (fun _ => False) w6 (w6.alloc (.cells #[.map (some b5), .map (some b6), .int .i64 M.z] 86)) := (Kept.refl _ w6).alloc _
  have hall : Kept (fun _ => False) w (w6.alloc (.cells #[.map (some b5), .map (some b6), .int .i64 M.z] 86)) := ((((Kept.refl _ w).drew).trans hk5).trans hk6).trans hA
  have hs5 := hk5.size
  have hs6 := hk6.size
  have h5lt := ho5.lt
  have h6lt := ho6.lt
  have hb5' : w.heap.size ≤ b5 := hb5
  have hs5' : w.heap.size ≤ w5.heap.size := hs5
  have HF := Lib.hid (ownsMap_kept (ownsMap_kept ho5 hk6 (fun f => f)) hA (fun f => f))
  have HG := Lib.hid (ownsMap_kept ho6 hA (fun f => f))
  have HP := Lib.hid (hp6.kept0 hA)
  have HB := Lib.hid (heap_alloc_new w6 (.cells #[.map (some b5), .map (some b6), .int .i64 M.z] 86))
  have HA := Lib.hid hall
  clear hA hall ho5 ho6 hp5 hp6 hk5 hk6 hd0 hdd c0 c1 c2
  go_wp2_with fail
  go_ret
  refine ⟨⟨w6.heap.size, b5, b6⟩, rfl, ⟨D, E, HB.out, HF.out, HP.out.N, HG.out, HP.out.S, by show b5 ≠ b6; omega, HP.out.okk, ?_, HP.out.new⟩, ⟨D, E, HP.out⟩, ?_, HA.out⟩
  · rintro k (e | e | e)
    · exact HD.out.new k (by have e : k = w6.heap.size := e; omega)
    · exact HD.out.new k (by have e : k = b5 := e; omega)
    · exact HD.out.new k (by have e : k = b6 := e; omega)
  · rintro k (e | e | e)
    · have e : k = w6.heap.size := e; omega
    · have e : k = b5 := e; omega
    · have e : k = b6 := e; omega
end
end Go.Proofs.YtenbdoceaabecaaGreat
