/- The document's own tree: Apply. -/
import Derived.Test.YtenbdoceaabecaaGreatP28
import Derived.Test.YtenbdoceaabecaaGreatP29
namespace Go.Proofs.YtenbdoceaabecaaGreat
open Go.ChangeShapes Go.WideShapes Go.ChangeAt Go.RowKit Go.Maps
set_option linter.unusedVariables false
set_option linter.unusedSimpArgs false
theorem ev_row : RowTy Tryz.prog 45 75 3 32 := RowTy.of Tryz.underlying45 ev_info rfl (by decide)
/-- parts that lie somewhere beside a tree -/
structure SubsS (w : World) (b : Nat) (v : Value) (l : List (T1 × TX)) : Prop where
  part : ∃ a cap, v = .slice a l.length cap ∧ ∀ i, i < l.length → ∃ g off p, a = some ⟨g, off, none⟩ ∧ g < w.heap.size ∧ ¬ RBs w b g ∧ l[i]? = some p ∧ ∀ j u, (txnL p.1 p.2)[j]? = some u → w.cell? ⟨g, off + i * 8 + j, none⟩ = some u
  acl : ∀ p ∈ l, AclS w b (.slice p.2.aa p.2.an p.2.ac) p.1.acl
  path : ∀ p ∈ l, p.1.path.size ≤ 1048576
  len : l.length ≤ 1048576
/-- a transaction that lies somewhere beside a tree -/
structure TxS (w : World) (b : Nat) (x : T1) (y : TX) (l : List (T1 × TX)) : Prop where
  acl : AclS w b (.slice y.aa y.an y.ac) x.acl
  subs : SubsS w b (.slice y.sa y.sn y.sc) l
  path : x.path.size ≤ 1048576
  own : -9223372036854775808 ≤ x.owner ∧ x.owner ≤ 9223372036854775807
theorem SubsS.step {w w' : World} {b : Nat} {v : Value} {l : List (T1 × TX)} (h : SubsS w b v l) (hs : RStep w b w') : SubsS w' b v l := by
  obtain ⟨a, cap, hv, hc⟩ := h.part
  refine ⟨⟨a, cap, hv, fun i hi => ?_⟩, fun p hp => (h.acl p hp).step hs, h.path, h.len⟩
  obtain ⟨g, off, p, ha, hg, hn, hp, hh⟩ := hc i hi
  refine ⟨g, off, p, ha, Nat.lt_of_lt_of_le hg hs.kept.size, fun e => ?_, hp, fun j u hj => ?_⟩
  · rcases hs.bs g e with h1 | h1
    · exact hn h1
    · omega
  · rw [World.cell?_of_block (w := w) (hs.kept.block g hg hn)]; exact hh j u hj
theorem SubsS.kept0 {w w' : World} {b : Nat} {v : Value} {l : List (T1 × TX)} (h : SubsS w b v l) (hk : Kept (fun _ => False) w w') (hb : b < w.heap.size) : SubsS w' b v l := h.step (RStep.of0 hk hb)
theorem TxS.step {w w' : World} {b : Nat} {x : T1} {y : TX} {l : List (T1 × TX)} (h : TxS w b x y l) (hs : RStep w b w') : TxS w' b x y l := ⟨h.acl.step hs, h.subs.step hs, h.path, h.own⟩
theorem TxS.kept0 {w w' : World} {b : Nat} {x : T1} {y : TX} {l : List (T1 × TX)} (h : TxS w b x y l) (hk : Kept (fun _ => False) w w') (hb : b < w.heap.size) : TxS w' b x y l := h.step (RStep.of0 hk hb)
theorem TxW.s {w : World} {b : Nat} {x : T1} {y : TX} {l : List (T1 × TX)} {R : RT} (h : TxW w x y l) (hR : RAt w b R) : TxS w b x y l := by
  refine ⟨h.acl.s hR, ⟨?_, fun p hp => (h.subs.acl p hp).s hR, h.subs.path, h.subs.len⟩, h.path, h.own⟩
  obtain ⟨a, cap, hv, hc⟩ := h.subs.part
  refine ⟨a, cap, hv, fun i hi => ?_⟩
  obtain ⟨g, p, ha, hg, hp, hh⟩ := hc i hi
  refine ⟨g, 0, p, ha, hg, ?_, hp, fun j u hu => by rw [Nat.zero_add]; exact hh j u hu⟩
  have hown : (Value.slice y.sa y.sn y.sc).ownBlock = some g := by rw [hv, ha]; rfl
  obtain ⟨_, _, cur, hcur⟩ := own_lo h.subs.own hown
  exact hR.other hcur (by decide) (by decide) (by decide)
structure PartO (w : World) (g o k : Nat) (x : T1) (y : TX) : Prop where
  s0 : w.cell? ⟨g, o + k * 8, none⟩ = some (.int .i64 x.kind)
  s1 : w.cell? ⟨g, o + k * 8 + 1, none⟩ = some (.string x.path)
  s2 : w.cell? ⟨g, o + k * 8 + 2, none⟩ = some (.string x.data)
  s3 : w.cell? ⟨g, o + k * 8 + 3, none⟩ = some (.slice y.aa y.an y.ac)
  s4 : w.cell? ⟨g, o + k * 8 + 4, none⟩ = some (.int .i64 x.owner)
  s5 : w.cell? ⟨g, o + k * 8 + 5, none⟩ = some (.int .i64 x.number)
  s6 : w.cell? ⟨g, o + k * 8 + 6, none⟩ = some (.int .i64 y.err)
  s7 : w.cell? ⟨g, o + k * 8 + 7, none⟩ = some (.slice y.sa y.sn y.sc)
theorem partO {w : World} {g o k : Nat} {p : T1 × TX} (e : ∀ j u, (txnL p.1 p.2)[j]? = some u → w.cell? ⟨g, o + k * 8 + j, none⟩ = some u) : PartO w g o k p.1 p.2 :=
  ⟨e 0 _ rfl, e 1 _ rfl, e 2 _ rfl, e 3 _ rfl, e 4 _ rfl, e 5 _ rfl, e 6 _ rfl, e 7 _ rfl⟩
theorem ss_part {w : World} {b : Nat} {y : TX} {l : List (T1 × TX)} {g o k : Nat} {p : T1 × TX} (h : SubsS w b (.slice y.sa y.sn y.sc) l) (hy : y.sa = some ⟨g, o, none⟩) (hp : l[k]? = some p) : PartO w g o k p.1 p.2 := by
  obtain ⟨a, c, hv, hc⟩ := h.part
  injection hv with h1 _ _
  obtain ⟨hk, hpe⟩ := List.getElem?_eq_some_iff.1 hp
  obtain ⟨g', o', p', ha, _, _, hp', hcc⟩ := hc k hk
  rw [hp] at hp'
  injection hp' with hp'
  subst hp'
  rw [← h1, hy] at ha
  injection ha with ha
  injection ha with ha hb
  subst ha hb
  exact partO hcc
/-- what the parts tell -/
def partsE (zx : Int) : RT → List T1 → List Ev
  | _, [] => []
  | R, x :: l => (partR R x zx).2 ++ partsE zx (partR R x zx).1 l
theorem partsE_snoc (zx : Int) : ∀ (l : List T1) (R : RT) (x : T1), partsE zx R (l ++ [x]) = partsE zx R l ++ (partR (partsR zx R l) x zx).2
  | [], R, x => by simp [partsE, partsR]
  | y :: l, R, x => by
    show (partR R y zx).2 ++ partsE zx (partR R y zx).1 (l ++ [x]) = ((partR R y zx).2 ++ partsE zx (partR R y zx).1 l) ++ _
    rw [partsE_snoc zx l, List.append_assoc]; rfl
def delQ (all : Bool) (x : T1) : Bool := all || decide (x.kind = 2)
def doR (R : RT) (x : T1) (l : List T1) (zx : Int) : RT :=
  if x.kind = 5 then (if 0 < x.owner then openR R ⟨x.owner, x.number, x.data⟩ else R)
  else if x.kind = 6 then dropR (partsR zx R (l.filter (delQ false))) x.owner
  else if x.kind = 7 then partsR zx R (l.filter (delQ true))
  else if x.kind = 8 then R else (partR R x zx).1
def applyR (R : RT) (x : T1) (l : List T1) (zx : Int) : RT := { doR R x l zx with z := zx }
/-- what an entry tells -/
def applyE (R : RT) (x : T1) (l : List T1) (zx : Int) : List Ev :=
  if x.kind = 5 then []
  else if x.kind = 6 then partsE zx R (l.filter (delQ false))
  else if x.kind = 7 then partsE zx R (l.filter (delQ true))
  else if x.kind = 8 then [] else (partR R x zx).2
def RAPostE (w : World) (b : Nat) (R' : RT) (E : List Ev) (n : Int) (e : Ending) (w' : World) : Prop := ∃ v, e = .returned (.tuple #[v, .int .i64 n]) ∧ EvsAt w.heap.size w' v E ∧ RAt w' b R' ∧ RStep w b w'
def RAPost (w : World) (b : Nat) (R' : RT) (e : Ending) (w' : World) : Prop := ∃ v n, e = .returned (.tuple #[v, .int .i64 n]) ∧ RAt w' b R' ∧ RStep w b w'
theorem part_evs (R : RT) (x : T1) (zx : Int) : (partR R x zx).2.length ≤ 2 := by
  unfold partR
  split
  · unfold createR; split <;> simp
  split
  · unfold eraseR
    split
    · simp only
      split
      · split <;> simp
      · simp
    · simp
  split
  · unfold setR; split <;> simp
  split <;> simp
theorem evs_src {B : Nat} {w : World} {v : Value} {l : List Ev} (h : EvsAt B w v l) : ∃ a cap, v = .slice a l.length cap ∧ (l.length = 0 ∨ ∃ g off, a = some ⟨g, off, none⟩ ∧ ∀ j u, (evsC l)[j]? = some u → w.cell? ⟨g, off + j, none⟩ = some u) := by
  obtain ⟨a, cap, hv, hc⟩ := own_cell h
  refine ⟨a, cap, hv, ?_⟩
  cases l with
  | nil => exact .inl rfl
  | cons x l =>
    right
    obtain ⟨g, ha, _⟩ := hc 0 (.int .i64 x.kind) rfl
    refine ⟨g, 0, ha, fun j u hj => ?_⟩
    obtain ⟨g', ha', _, _, h', _⟩ := hc j u hj
    rw [ha] at ha'
    injection ha' with ha'
    injection ha' with e1
    subst e1
    rw [Nat.zero_add]; exact h'
/-- a row of events grows: other things stay -/
structure EvGrow (w w' : World) : Prop where
  kept : Kept (fun k => ∃ cur, w.heap[k]? = some (.cells cur 75 (0, 0))) w w'
theorem evGrow {B : Nat} {w w' : World} {v : Value} {l : List Ev} (h : EvsAt B w v l) (hg : w.grownBy w' v.ownBlock) : EvGrow w w' :=
  ⟨(Kept.of_grownBy hg).mono (fun k _ e => by obtain ⟨_, _, cur, hc⟩ := own_lo h e.symm; exact ⟨cur, hc⟩)⟩
theorem EvGrow.ne {w w' : World} {k : Nat} {c : Array Value} {T : TypeId} (hc : w.heap[k]? = some (.cells c T (0, 0))) (hT : T ≠ 75) : ¬ ∃ cur, w.heap[k]? = some (.cells cur 75 (0, 0)) := by
  rintro ⟨cur, h⟩
  rw [hc] at h
  injection h with h
  injection h with _ h
  exact hT h
theorem EvGrow.box {w w' : World} {k : Nat} {c : Array Value} {T : TypeId} (h : EvGrow w w') (hc : w.heap[k]? = some (.cells c T (0, 0))) (hT : T ≠ 75) : w'.heap[k]? = some (.cells c T (0, 0)) :=
  (h.kept.block k (lt_of_block hc) (EvGrow.ne (w' := w') hc hT)).trans hc
theorem EvGrow.rat {w w' : World} {b : Nat} {R : RT} (h : EvGrow w w') (hR : RAt w b R) : RAt w' b R ∧ ∀ k, RBs w' b k → RBs w b k := by
  have hb := hR.lt (k := b) (.inl rfl)
  have hno : ∀ k, RBs w b k → ¬ ∃ cur, w.heap[k]? = some (.cells cur 75 (0, 0)) := fun k hk ⟨cur, hc⟩ => hR.other hc (by decide) (by decide) (by decide) hk
  exact ⟨hR.kept h.kept hno (fun k cur hc => EvGrow.ne (w' := w') hc (by decide)), fun k hk => (rbs_kept h.kept hb (hno b (.inl rfl)) k).1 hk⟩
theorem rstep_grow {w w1 w' : World} {b B : Nat} {R : RT} {v : Value} {l : List Ev} (h : RStep w b w1) (hR : RAt w1 b R) (hv : EvsAt B w1 v l) (hB : w.heap.size ≤ B) (hg : w1.grownBy w' v.ownBlock) : RStep w b w' :=
  ⟨h.kept.trans' (Kept.of_grownBy hg) (fun k hk e => by have := (own_lo hv e.symm).1; omega), fun k hk => h.bs k (((evGrow hv hg).rat hR).2 k hk)⟩

theorem evs_own {B : Nat} {w : World} {v : Value} {l : List Ev} (h : EvsAt B w v l) : w.ownsRow B 75 3 v l.length (evsC l) := h
theorem own_evs {B : Nat} {w : World} {v : Value} {l : List Ev} (h : w.ownsRow B 75 3 v l.length (evsC l)) : EvsAt B w v l := h
structure ApRel (w : World) (b nb nx : Nat) (R : RT) (e : EX) (x : T1) (y : TX) (all : Bool) (l : List (T1 × TX)) (lv iv : Value) (wr : World) : Prop where
  ex : ∃ (k : Nat) (evs : List Ev), k ≤ l.length ∧ iv = .int .i64 k ∧ EvsAt w.heap.size wr lv evs ∧ evs.length ≤ 2 * k ∧ evs = partsE e.zx R (((l.take k).map (·.1)).filter (delQ all)) ∧ RAt wr b (partsR e.zx R (((l.take k).map (·.1)).filter (delQ all))) ∧ RStep w b wr ∧
    wr.heap[nb]? = some (entO e x y) ∧ wr.heap[nx]? = some (txnO x y)
theorem ap_rv {zx : Int} {R : RT} {w : World} {v : Value} {l : List (T1 × TX)} {b : Nat} (h : RV 100000000 R) (hs : SubsS w b v l) (f : T1 → Bool) (k : Nat) : RV 102000000 (partsR zx R (((l.take k).map (·.1)).filter f)) := by
  have := RV.parts (((l.take k).map (·.1)).filter f) h (fun x hx => by
    obtain ⟨p, hp, rfl⟩ := List.mem_map.1 (List.mem_filter.1 hx).1
    exact hs.path p (List.mem_of_mem_take hp)) (zx := zx)
  refine this.mono ?_
  have h1 := List.length_filter_le f ((l.take k).map (·.1))
  rw [List.length_map, List.length_take] at h1
  have := hs.len
  omega
theorem ap_yes {zx : Int} {R : RT} {l : List (T1 × TX)} {k : Nat} {p : T1 × TX} {f : T1 → Bool} (hp : l[k]? = some p) (h : f p.1 = true) : partsR zx R (((l.take (k + 1)).map (·.1)).filter f) = (partR (partsR zx R (((l.take k).map (·.1)).filter f)) p.1 zx).1 := by
  rw [take_at hp, List.map_append, List.map_singleton, List.filter_append, List.filter_cons, h, if_pos rfl, List.filter_nil, partsR_snoc]
theorem ap_no {zx : Int} {R : RT} {l : List (T1 × TX)} {k : Nat} {p : T1 × TX} {f : T1 → Bool} (hp : l[k]? = some p) (h : f p.1 = false) : partsR zx R (((l.take (k + 1)).map (·.1)).filter f) = partsR zx R (((l.take k).map (·.1)).filter f) := by
  rw [take_at hp, List.map_append, List.map_singleton, List.filter_append, List.filter_cons, h, if_neg (by simp), List.filter_nil, List.append_nil]
theorem ap_eyes {zx : Int} {R : RT} {l : List (T1 × TX)} {k : Nat} {p : T1 × TX} {f : T1 → Bool} (hp : l[k]? = some p) (h : f p.1 = true) : partsE zx R (((l.take (k + 1)).map (·.1)).filter f) = partsE zx R (((l.take k).map (·.1)).filter f) ++ (partR (partsR zx R (((l.take k).map (·.1)).filter f)) p.1 zx).2 := by
  rw [take_at hp, List.map_append, List.map_singleton, List.filter_append, List.filter_cons, h, if_pos rfl, List.filter_nil, partsE_snoc]
theorem ap_eno {zx : Int} {R : RT} {l : List (T1 × TX)} {k : Nat} {p : T1 × TX} {f : T1 → Bool} (hp : l[k]? = some p) (h : f p.1 = false) : partsE zx R (((l.take (k + 1)).map (·.1)).filter f) = partsE zx R (((l.take k).map (·.1)).filter f) := by
  rw [take_at hp, List.map_append, List.map_singleton, List.filter_append, List.filter_cons, h, if_neg (by simp), List.filter_nil, List.append_nil]
/-- the tree's number is written -/
theorem RD.setZ {w : World} {b : Nat} {R : RT} {L : List (RN × Value)} {nv sv : Value} (h : RD w b R L nv sv) (z : Int) : RD (w.setCell ⟨b, 2, none⟩ (.int .i64 z)) b { R with z := z } L nv sv := by
  have hk := kept_set w b 2 (.int .i64 z)
  have hne : ∀ k cur' e, w.heap[k]? = some (.cells cur' e (0, 0)) → e ≠ 95 → ¬ k = b := fun k cur' e hc hne' e' => by
    subst e'
    rw [h.at_] at hc
    injection hc with hc
    injection hc with _ hc
    exact hne' hc.symm
  refine ⟨heap_set (.int .i64 z) (c := [nv, sv, .int .i64 R.z]) h.at_, ?_, h.eq, fun p hp => ?_, ?_⟩
  · refine ownKept h.n hk (fun k e => ?_)
    obtain ⟨_, _, cur', hc'⟩ := own_lo h.n e
    exact hne k _ _ hc' (by decide)
  · refine ⟨ownKept (h.acl p hp).own hk (fun k e => ?_), (h.acl p hp).room⟩
    obtain ⟨_, _, cur', hc'⟩ := own_lo (h.acl p hp).own e
    exact hne k _ _ hc' (by decide)
  · refine ownKept h.s hk (fun k e => ?_)
    obtain ⟨_, _, cur', hc'⟩ := own_lo h.s e
    exact hne k _ _ hc' (by decide)
theorem rat_setZ {w w1 : World} {b : Nat} {R : RT} (h : RAt w1 b R) (hs : RStep w b w1) (z : Int) : RAt (w1.setCell ⟨b, 2, none⟩ (.int .i64 z)) b { R with z := z } ∧ RStep w b (w1.setCell ⟨b, 2, none⟩ (.int .i64 z)) := by
  obtain ⟨L, nv, sv, hD⟩ := h
  have h1 := hD.setZ z
  refine ⟨⟨L, nv, sv, h1⟩, hs.trans ⟨(Kept.refl _ w1).setCell (a := ⟨b, 2, none⟩) (.inl ((hD.bs b).2 (.inl rfl))) _, fun k hk => .inl ((hD.bs k).2 ((h1.bs k).1 hk))⟩⟩
/-- an Apply's last steps -/
theorem rcells {w : World} {b : Nat} {R : RT} (h : RAt w b R) : (∃ v, w.cell? ⟨b, 2, none⟩ = some v) ∧ w.frozen? ⟨b, 2, none⟩ = false := by
  obtain ⟨L, nv, sv, hD⟩ := h
  obtain ⟨_, _, c2, cf⟩ := hD.cells
  exact ⟨⟨_, c2⟩, cf 2⟩
theorem ev_step {w w1 : World} {b B : Nat} {R : RT} {v : Value} {E : List Ev} (h : EvsAt B w v E) (hR : RAt w b R) (hs : RStep w b w1) : EvsAt B w1 v E := own_evs (row_step (evs_own h) hR hs (by decide) (by decide) (by decide))
theorem ev_setZ {w : World} {b B : Nat} {R : RT} {v : Value} {E : List Ev} (h : EvsAt B w v E) (hR : RAt w b R) (z : Int) : EvsAt B (w.setCell ⟨b, 2, none⟩ (.int .i64 z)) v E := ev_step h hR (rat_setZ hR (RStep.refl w b) z).2
theorem ev_mono {B B' : Nat} {w : World} {v : Value} {E : List Ev} (h : EvsAt B w v E) (hB : B' ≤ B) : EvsAt B' w v E := row_mono h hB
def errR (x : T1) (y : TX) : Int := if x.kind = 8 then y.err else 0
set_option maxRecDepth 100000 in
set_option maxHeartbeats 8000000 in
theorem rapply_s {w : World} {b : Nat} {R : RT} (h : RAt w b R) (e : EX) (x : T1) (y : TX) (l : List (T1 × TX)) (hx : TxS w b x y l) (hv : RV 100000000 R) :
    Calls Tryz.prog 16 #[.pointer (some ⟨b, 0, none⟩), entV e x y] w (RAPostE w b (applyR R x (l.map (·.1)) e.zx) (applyE R x (l.map (·.1)) e.zx) (errR x y)) := by
  unfold entV
  have hk1 : Kept (fun _ => False) w ((w.alloc (entO e x y)).alloc (txnO x y)) := ((Kept.refl _ w).alloc _).alloc _
  have HB1 : Hid (((w.alloc (entO e x y)).alloc (txnO x y)).heap[w.heap.size]? = some (entO e x y)) := Lib.hid (box_kept0 (heap_alloc_new w _) ((Kept.refl _ _).alloc _))
  have HBX1 : Hid (((w.alloc (entO e x y)).alloc (txnO x y)).heap[w.heap.size + 1]? = some (txnO x y)) := Lib.hid (by
    have h9 := heap_alloc_new (w.alloc (entO e x y)) (txnO x y)
    rw [show (w.alloc (entO e x y)).heap.size = w.heap.size + 1 by simp] at h9
    exact h9)
  have HR1 := Lib.hid (h.kept0 hk1)
  have HX1 := Lib.hid (hx.kept0 hk1 h.ltb)
  have HX0 := Lib.hid hx
  have HST1 := Lib.hid (RStep.of0 hk1 h.ltb)
  have HV := Lib.hid hv
  have HKW := Lib.hid hk1
  have hpath := hx.path
  have hown := hx.own
  have hcase : x.kind = 5 ∨ x.kind = 6 ∨ x.kind = 7 ∨ x.kind = 8 ∨ (x.kind ≠ 5 ∧ x.kind ≠ 6 ∧ x.kind ≠ 7 ∧ x.kind ≠ 8) := by omega
  have e0 : ((w.alloc (entO e x y))).cell? ⟨w.heap.size, 0, none⟩ = some (.int .i64 e.zx) := cell_box (heap_alloc_new w _) rfl
  clear h hk1 hx hv e0
  obtain ⟨z0, z3, z4, z5, z6, z7, z8, z9, z10⟩ := entB HB1.out
  obtain ⟨t0, t1, t2, t3, t4, t5, t6, t7⟩ := txB HBX1.out
  obtain ⟨⟨uz, c2⟩, cf⟩ := rcells HR1.out
  rcases hcase with hk | hk | hk | hk | ⟨n5, n6, n7, n8⟩
  · by_cases ho : 0 < x.owner
    · have HE : Hid (applyR R x (l.map (·.1)) e.zx = { openR R ⟨x.owner, x.number, x.data⟩ with z := e.zx }) := Lib.hid (by unfold applyR doR; rw [if_pos hk, if_pos ho])
      have HEE : Hid (applyE R x (l.map (·.1)) e.zx = []) := Lib.hid (by unfold applyE; rw [if_pos hk])
      have HER : Hid (errR x y = 0) := Lib.hid (by unfold errR; rw [if_neg (by omega)])
      have HOP := Lib.hid (ropen_any HR1.out ⟨x.owner, x.number, x.data⟩ (by have := HV.out.S; omega) hown)
      have k5 : (x.kind == 5) = true := by rw [hk]; rfl
      clear hk
      go_enter Tryz.func16, Tryz.ntmps16
      go_wp2_with fail
      refine HOP.out.mono ?_
      rintro ee w2 ⟨rfl, hR2, hs2⟩
      have HR2 := Lib.hid hR2
      have HS2 := Lib.hid (HST1.out.trans hs2)
      have z0' := (entB (ent_step HB1.out HR1.out hs2)).z0
      clear z0 z3 z4 z5 z6 z7 z8 z9 z10 t0 t1 t2 t3 t4 t5 t6 t7 c2 cf
      clear hR2 hs2
      obtain ⟨⟨uz, c2⟩, cf⟩ := rcells HR2.out
      go_wp2_with fail
      have hz := rat_setZ HR2.out HS2.out e.zx
      go_ret2
      rw [HE.out, HEE.out, HER.out]
      exact ⟨_, rfl, evsAt_nil _, hz.1, hz.2⟩
    · have HE : Hid (applyR R x (l.map (·.1)) e.zx = { R with z := e.zx }) := Lib.hid (by unfold applyR doR; rw [if_pos hk, if_neg ho])
      have HEE : Hid (applyE R x (l.map (·.1)) e.zx = []) := Lib.hid (by unfold applyE; rw [if_pos hk])
      have HER : Hid (errR x y = 0) := Lib.hid (by unfold errR; rw [if_neg (by omega)])
      have k5 : (x.kind == 5) = true := by rw [hk]; rfl
      clear hk
      go_enter Tryz.func16, Tryz.ntmps16
      go_wp2_with fail
      have hz := rat_setZ HR1.out HST1.out e.zx
      go_ret2
      rw [HE.out, HEE.out, HER.out]
      exact ⟨_, rfl, evsAt_nil _, hz.1, hz.2⟩
  · have HE : Hid (applyR R x (l.map (·.1)) e.zx = { dropR (partsR e.zx R ((l.map (·.1)).filter (delQ false))) x.owner with z := e.zx }) := Lib.hid (by unfold applyR doR; rw [if_neg (by omega), if_pos hk])
    have HEE : Hid (applyE R x (l.map (·.1)) e.zx = partsE e.zx R ((l.map (·.1)).filter (delQ false))) := Lib.hid (by unfold applyE; rw [if_neg (by omega), if_pos hk])
    have HER : Hid (errR x y = 0) := Lib.hid (by unfold errR; rw [if_neg (by omega)])
    have k5 : (x.kind == 5) = false := by rw [hk]; rfl
    have k6 : (x.kind == 6) = true := by rw [hk]; rfl
    have k7 : (x.kind == 7) = false := by rw [hk]; rfl
    clear hk
    have hlen := HX1.out.subs.len
    obtain ⟨sa, sc, hsv, hpart⟩ := HX1.out.subs.part
    injection hsv with hs1 hs2 hs3
    have HSA := Lib.hid (⟨hs1, hs2⟩ : y.sa = sa ∧ y.sn = l.length)
    clear hpart hs1 hs2 hs3
    have HEV := Lib.hid ev_row
    go_enter Tryz.func16, Tryz.ntmps16
    go_wp2_with fail
    generalize hwg : (w.alloc (entO e x y)).alloc (txnO x y) = w1 at HB1 HBX1 HR1 HX1 HST1 ⊢
    clear hwg
    clear z0 z3 z4 z5 z6 z7 z8 z9 z10 t0 t1 t2 t3 t4 t5 t6 t7 c2 cf
    go_loopw [7, 9, 10] (fun lv iv _ wr => ApRel w b w.heap.size (w.heap.size + 1) R e x y false l lv iv wr) (fun _ iv _ _ => l.length - (intOf iv).toNat)
    case atStart => exact ⟨0, [], Nat.zero_le _, rfl, evsAt_nil _, Nat.le_refl _, rfl, HR1.out, HST1.out, HB1.out, HBX1.out⟩
    case round =>
      obtain ⟨k, evs, hk, rfl, hev, hevl, hee, hR, hst, hb, hbx⟩ := hrel.ex
      have HEr := Lib.hid hev
      have HRr := Lib.hid hR
      have HSTr := Lib.hid hst
      have HBr := Lib.hid hb
      have HBXr := Lib.hid hbx
      have HSr := Lib.hid (HX0.out.subs.step hst)
      have HEER := Lib.hid hee
      obtain ⟨z0, z3, z4, z5, z6, z7, z8, z9, z10⟩ := entB HBr.out
      obtain ⟨t0, t1, t2, t3, t4, t5, t6, t7⟩ := txB HBXr.out
      rw [HSA.out.2] at t7
      have HRV := Lib.hid (ap_rv (zx := e.zx) HV.out HX0.out.subs (delQ false) k)
      clear hrel hev hR hst hb hbx hee
      by_cases hlt : k < l.length
      · obtain ⟨a9, c9, hv9, hp9⟩ := HSr.out.part
        injection hv9 with hv1 hv2 hv3
        obtain ⟨g, o, p, ha9, hg, hng, hp, hc⟩ := hp9 k hlt
        rw [← hv1] at ha9
        have HYS := Lib.hid ha9
        rw [ha9] at t7
        have HP := Lib.hid hp
        obtain ⟨s0, s1, s2, s3, s4, s5, s6, s7⟩ := partO hc
        have hpp := HSr.out.path p (List.mem_of_getElem? hp)
        have i1 : (0 : Int) ≤ (k : Int) := by omega
        have i2 : (k : Int) < (l.length : Int) := by omega
        clear hv1 hv2 hv3 hp9 hp hc ha9 hng
        by_cases hk2 : p.1.kind = 2
        · have e1 : (p.1.kind == 2) = true := by rw [hk2]; rfl
          have HQ : Hid (delQ false p.1 = true) := Lib.hid (by unfold delQ; simp [hk2])
          clear hk2
          go_wp2_with fail
          have HUd := Lib.hid (HRr.out.kept0 ((Kept.refl _ wr).drew))
          have HBd := Lib.hid (box_kept0 HBr.out ((Kept.refl (fun _ => False) wr).drew))
          have HBXd := Lib.hid (box_kept0 HBXr.out ((Kept.refl (fun _ => False) wr).drew))
          have HSd := Lib.hid (HSr.out.kept0 ((Kept.refl (fun _ => False) wr).drew) HRr.out.ltb)
          have HEd := Lib.hid (evs_own (evs_kept0 HEr.out ((Kept.refl (fun _ => False) wr).drew)))
          have HSTd := Lib.hid (HSTr.out.drewB HRr.out)
          have HPA := Lib.hid (rpart_any HUd.out p.1 p.2 e.zx (HSd.out.acl p (List.mem_of_getElem? HP.out)) (by omega) HRV.out.ps (by have := HRV.out.N; omega))
          have HP2 := Lib.hid (part_evs (partsR e.zx R (((l.take k).map (·.1)).filter (delQ false))) p.1 e.zx)
          unfold REPost txnV txnL at HPA
          generalize hpr : partR (partsR e.zx R (((l.take k).map (·.1)).filter (delQ false))) p.1 e.zx = pr at HPA HP2
          have HPR := Lib.hid hpr
          clear hpr
          go_region_held3 (fun w' => w'.cell? ⟨w.heap.size + 1, 7, none⟩ = some (.slice (some ⟨g, o, none⟩) l.length y.sc) ∧ w'.cell? ⟨w.heap.size, 0, none⟩ = some (.int .i64 e.zx) ∧ w'.cell? ⟨g, o + k * 8, none⟩ = some (.int .i64 p.1.kind) ∧ w'.cell? ⟨g, o + k * 8 + 1, none⟩ = some (.string p.1.path) ∧ w'.cell? ⟨g, o + k * 8 + 2, none⟩ = some (.string p.1.data) ∧ w'.cell? ⟨g, o + k * 8 + 3, none⟩ = some (.slice p.2.aa p.2.an p.2.ac) ∧ w'.cell? ⟨g, o + k * 8 + 4, none⟩ = some (.int .i64 p.1.owner) ∧ w'.cell? ⟨g, o + k * 8 + 5, none⟩ = some (.int .i64 p.1.number) ∧ w'.cell? ⟨g, o + k * 8 + 6, none⟩ = some (.int .i64 p.2.err) ∧ w'.cell? ⟨g, o + k * 8 + 7, none⟩ = some (.slice p.2.sa p.2.sn p.2.sc))
            (go_keep)
            (first
              | (go_at_call 60; with_reducible refine HPA.out.mono ?_; rintro ee w6 ⟨v6, rfl, hv6, hU6, hst6⟩; have HU6 := Lib.hid hU6; have HST6 := Lib.hid (HSTd.out.trans hst6); have HB6 := Lib.hid (ent_step HBd.out HUd.out hst6); have HBX6 := Lib.hid (txn_box HBXd.out HUd.out hst6); have HS6 := Lib.hid (HSd.out.step hst6); have HE6 := Lib.hid (row_step HEd.out HUd.out hst6 (by decide) (by decide) (by decide)); obtain ⟨va6, vc6, hv6e, hsrc⟩ := evs_src hv6; have HV6 := Lib.hid hsrc; subst hv6e; clear hv6 hU6 hst6 hsrc z0 z3 z4 z5 z6 z7 z8 z9 z10 t0 t1 t2 t3 t4 t5 t6 t7 s0 s1 s2 s3 s4 s5 s6 s7; obtain ⟨z0, z3, z4, z5, z6, z7, z8, z9, z10⟩ := entB HB6.out; obtain ⟨t0, t1, t2, t3, t4, t5, t6, t7⟩ := txB HBX6.out; rw [HSA.out.2, HYS.out] at t7; obtain ⟨s0, s1, s2, s3, s4, s5, s6, s7⟩ := ss_part HS6.out HYS.out HP.out))
          all_goals (
            clear z0 z3 z4 z5 z6 z7 z8 z9 z10 t0 t1 t2 t3 t4 t5 t6 t7 s0 s1 s2 s3 s4 s5 s6 s7
            have hp2 := HP2.out
            go_wp2_with (at_builtin; refine wpList_rows HEV.out (by rfl) _ _ (by rfl) (by rfl) HE6.out va6 _ vc6 _ (by rfl) (evsC_len _) HV6.out (evsC_one _) (by unfold maxLen; omega) (by omega) HST6.out.kept.size ?_; intro v7 w7 hown7 hg7; have HG7 := Lib.hid (evGrow (own_evs HE6.out) hg7); have HST7 := Lib.hid (rstep_grow HST6.out HU6.out (own_evs HE6.out) (Nat.le_refl _) hg7); have HE7 := Lib.hid hown7; clear hown7 hg7)
            go_roundw
            case rel =>
              refine ⟨k + 1, evs ++ pr.2, by omega, by go_num, ?_, by rw [List.length_append]; omega, by rw [ap_eyes HP.out HQ.out, HPR.out, HEER.out], ?_, HST7.out, HG7.out.box HB6.out (by decide), HG7.out.box HBX6.out (by decide)⟩
              · unfold EvsAt
                rw [List.length_append, evsC_app]; exact HE7.out
              · rw [ap_yes HP.out HQ.out, HPR.out]; exact (HG7.out.rat HU6.out).1
            case measure => simp [intOf]; omega)
        · have e1 : (p.1.kind == 2) = false := by simpa using hk2
          have HQ : Hid (delQ false p.1 = false) := Lib.hid (by unfold delQ; simp [hk2])
          clear hk2
          go_wp2_with fail
          go_roundw
          case rel =>
            refine ⟨k + 1, evs, by omega, by go_num, HEr.out, by omega, by rw [ap_eno HP.out HQ.out]; exact HEER.out, ?_, HSTr.out, HBr.out, HBXr.out⟩
            rw [ap_no HP.out HQ.out]; exact HRr.out
          case measure => simp [intOf]; omega
      · have HA : Hid (((l.take k).map (·.1)).filter (delQ false) = (l.map (·.1)).filter (delQ false)) := Lib.hid (by rw [List.take_of_length_le (by omega)])
        rw [HA.out] at HRr HRV HEER
        have HEr9 := Lib.hid (show EvsAt w.heap.size wr _ (partsE e.zx R ((l.map (·.1)).filter (delQ false))) by rw [← HEER.out]; exact HEr.out)
        have HDR := Lib.hid (rdrop_any HRr.out x.owner (by have := HRV.out.S; omega))
        go_wp2_with fail
        refine HDR.out.mono ?_
        rintro ee w2 ⟨rfl, hR2, hs2⟩
        have HR2 := Lib.hid hR2
        have HS2 := Lib.hid (HSTr.out.trans hs2)
        have HS29 := Lib.hid hs2
        have z0' := (entB (ent_step HBr.out HRr.out hs2)).z0
        clear z0 z3 z4 z5 z6 z7 z8 z9 z10 t0 t1 t2 t3 t4 t5 t6 t7 hR2 hs2
        obtain ⟨⟨uz, c2⟩, cf⟩ := rcells HR2.out
        go_wp2_with fail
        have hz := rat_setZ HR2.out HS2.out e.zx
        go_ret2
        rw [HE.out, HEE.out, HER.out]
        exact ⟨_, rfl, ev_setZ (ev_step HEr9.out HRr.out HS29.out) HR2.out e.zx, hz.1, hz.2⟩
  · have HE : Hid (applyR R x (l.map (·.1)) e.zx = { partsR e.zx R ((l.map (·.1)).filter (delQ true)) with z := e.zx }) := Lib.hid (by unfold applyR doR; rw [if_neg (by omega), if_neg (by omega), if_pos hk])
    have HEE : Hid (applyE R x (l.map (·.1)) e.zx = partsE e.zx R ((l.map (·.1)).filter (delQ true))) := Lib.hid (by unfold applyE; rw [if_neg (by omega), if_neg (by omega), if_pos hk])
    have HER : Hid (errR x y = 0) := Lib.hid (by unfold errR; rw [if_neg (by omega)])
    have k5 : (x.kind == 5) = false := by rw [hk]; rfl
    have k6 : (x.kind == 6) = false := by rw [hk]; rfl
    have k7 : (x.kind == 7) = true := by rw [hk]; rfl
    clear hk
    have hlen := HX1.out.subs.len
    obtain ⟨sa, sc, hsv, hpart⟩ := HX1.out.subs.part
    injection hsv with hs1 hs2 hs3
    have HSA := Lib.hid (⟨hs1, hs2⟩ : y.sa = sa ∧ y.sn = l.length)
    clear hpart hs1 hs2 hs3
    have HEV := Lib.hid ev_row
    go_enter Tryz.func16, Tryz.ntmps16
    go_wp2_with fail
    generalize hwg : (w.alloc (entO e x y)).alloc (txnO x y) = w1 at HB1 HBX1 HR1 HX1 HST1 ⊢
    clear hwg
    clear z0 z3 z4 z5 z6 z7 z8 z9 z10 t0 t1 t2 t3 t4 t5 t6 t7 c2 cf
    go_loopw [7, 9, 10] (fun lv iv _ wr => ApRel w b w.heap.size (w.heap.size + 1) R e x y true l lv iv wr) (fun _ iv _ _ => l.length - (intOf iv).toNat)
    case atStart => exact ⟨0, [], Nat.zero_le _, rfl, evsAt_nil _, Nat.le_refl _, rfl, HR1.out, HST1.out, HB1.out, HBX1.out⟩
    case round =>
      obtain ⟨k, evs, hk, rfl, hev, hevl, hee, hR, hst, hb, hbx⟩ := hrel.ex
      have HEr := Lib.hid hev
      have HRr := Lib.hid hR
      have HSTr := Lib.hid hst
      have HBr := Lib.hid hb
      have HBXr := Lib.hid hbx
      have HSr := Lib.hid (HX0.out.subs.step hst)
      have HEER := Lib.hid hee
      obtain ⟨z0, z3, z4, z5, z6, z7, z8, z9, z10⟩ := entB HBr.out
      obtain ⟨t0, t1, t2, t3, t4, t5, t6, t7⟩ := txB HBXr.out
      rw [HSA.out.2] at t7
      have HRV := Lib.hid (ap_rv (zx := e.zx) HV.out HX0.out.subs (delQ true) k)
      clear hrel hev hR hst hb hbx hee
      by_cases hlt : k < l.length
      · obtain ⟨a9, c9, hv9, hp9⟩ := HSr.out.part
        injection hv9 with hv1 hv2 hv3
        obtain ⟨g, o, p, ha9, hg, hng, hp, hc⟩ := hp9 k hlt
        rw [← hv1] at ha9
        have HYS := Lib.hid ha9
        rw [ha9] at t7
        have HP := Lib.hid hp
        obtain ⟨s0, s1, s2, s3, s4, s5, s6, s7⟩ := partO hc
        have hpp := HSr.out.path p (List.mem_of_getElem? hp)
        have i1 : (0 : Int) ≤ (k : Int) := by omega
        have i2 : (k : Int) < (l.length : Int) := by omega
        clear hv1 hv2 hv3 hp9 hp hc ha9 hng
        have HQ : Hid (delQ true p.1 = true) := Lib.hid rfl
        go_wp2_with fail
        have HUd := Lib.hid (HRr.out.kept0 ((Kept.refl _ wr).drew))
        have HBd := Lib.hid (box_kept0 HBr.out ((Kept.refl (fun _ => False) wr).drew))
        have HBXd := Lib.hid (box_kept0 HBXr.out ((Kept.refl (fun _ => False) wr).drew))
        have HSd := Lib.hid (HSr.out.kept0 ((Kept.refl (fun _ => False) wr).drew) HRr.out.ltb)
        have HEd := Lib.hid (evs_own (evs_kept0 HEr.out ((Kept.refl (fun _ => False) wr).drew)))
        have HSTd := Lib.hid (HSTr.out.drewB HRr.out)
        have HPA := Lib.hid (rpart_any HUd.out p.1 p.2 e.zx (HSd.out.acl p (List.mem_of_getElem? HP.out)) (by omega) HRV.out.ps (by have := HRV.out.N; omega))
        have HP2 := Lib.hid (part_evs (partsR e.zx R (((l.take k).map (·.1)).filter (delQ true))) p.1 e.zx)
        unfold REPost txnV txnL at HPA
        generalize hpr : partR (partsR e.zx R (((l.take k).map (·.1)).filter (delQ true))) p.1 e.zx = pr at HPA HP2
        have HPR := Lib.hid hpr
        clear hpr
        go_region_held3 (fun w' => w'.cell? ⟨w.heap.size + 1, 7, none⟩ = some (.slice (some ⟨g, o, none⟩) l.length y.sc) ∧ w'.cell? ⟨w.heap.size, 0, none⟩ = some (.int .i64 e.zx) ∧ w'.cell? ⟨g, o + k * 8, none⟩ = some (.int .i64 p.1.kind) ∧ w'.cell? ⟨g, o + k * 8 + 1, none⟩ = some (.string p.1.path) ∧ w'.cell? ⟨g, o + k * 8 + 2, none⟩ = some (.string p.1.data) ∧ w'.cell? ⟨g, o + k * 8 + 3, none⟩ = some (.slice p.2.aa p.2.an p.2.ac) ∧ w'.cell? ⟨g, o + k * 8 + 4, none⟩ = some (.int .i64 p.1.owner) ∧ w'.cell? ⟨g, o + k * 8 + 5, none⟩ = some (.int .i64 p.1.number) ∧ w'.cell? ⟨g, o + k * 8 + 6, none⟩ = some (.int .i64 p.2.err) ∧ w'.cell? ⟨g, o + k * 8 + 7, none⟩ = some (.slice p.2.sa p.2.sn p.2.sc))
          (go_keep)
          (first
            | (go_at_call 60; with_reducible refine HPA.out.mono ?_; rintro ee w6 ⟨v6, rfl, hv6, hU6, hst6⟩; have HU6 := Lib.hid hU6; have HST6 := Lib.hid (HSTd.out.trans hst6); have HB6 := Lib.hid (ent_step HBd.out HUd.out hst6); have HBX6 := Lib.hid (txn_box HBXd.out HUd.out hst6); have HS6 := Lib.hid (HSd.out.step hst6); have HE6 := Lib.hid (row_step HEd.out HUd.out hst6 (by decide) (by decide) (by decide)); obtain ⟨va6, vc6, hv6e, hsrc⟩ := evs_src hv6; have HV6 := Lib.hid hsrc; subst hv6e; clear hv6 hU6 hst6 hsrc z0 z3 z4 z5 z6 z7 z8 z9 z10 t0 t1 t2 t3 t4 t5 t6 t7 s0 s1 s2 s3 s4 s5 s6 s7; obtain ⟨z0, z3, z4, z5, z6, z7, z8, z9, z10⟩ := entB HB6.out; obtain ⟨t0, t1, t2, t3, t4, t5, t6, t7⟩ := txB HBX6.out; rw [HSA.out.2, HYS.out] at t7; obtain ⟨s0, s1, s2, s3, s4, s5, s6, s7⟩ := ss_part HS6.out HYS.out HP.out))
        all_goals (
          clear z0 z3 z4 z5 z6 z7 z8 z9 z10 t0 t1 t2 t3 t4 t5 t6 t7 s0 s1 s2 s3 s4 s5 s6 s7
          have hp2 := HP2.out
          go_wp2_with (at_builtin; refine wpList_rows HEV.out (by rfl) _ _ (by rfl) (by rfl) HE6.out va6 _ vc6 _ (by rfl) (evsC_len _) HV6.out (evsC_one _) (by unfold maxLen; omega) (by omega) HST6.out.kept.size ?_; intro v7 w7 hown7 hg7; have HG7 := Lib.hid (evGrow (own_evs HE6.out) hg7); have HST7 := Lib.hid (rstep_grow HST6.out HU6.out (own_evs HE6.out) (Nat.le_refl _) hg7); have HE7 := Lib.hid hown7; clear hown7 hg7)
          go_roundw
          case rel =>
            refine ⟨k + 1, evs ++ pr.2, by omega, by go_num, ?_, by rw [List.length_append]; omega, by rw [ap_eyes HP.out HQ.out, HPR.out, HEER.out], ?_, HST7.out, HG7.out.box HB6.out (by decide), HG7.out.box HBX6.out (by decide)⟩
            · unfold EvsAt
              rw [List.length_append, evsC_app]; exact HE7.out
            · rw [ap_yes HP.out HQ.out, HPR.out]; exact (HG7.out.rat HU6.out).1
          case measure => simp [intOf]; omega)
      · have HA : Hid (((l.take k).map (·.1)).filter (delQ true) = (l.map (·.1)).filter (delQ true)) := Lib.hid (by rw [List.take_of_length_le (by omega)])
        rw [HA.out] at HRr HRV HEER
        have HEr9 := Lib.hid (show EvsAt w.heap.size wr _ (partsE e.zx R ((l.map (·.1)).filter (delQ true))) by rw [← HEER.out]; exact HEr.out)
        obtain ⟨⟨uz, c2⟩, cf⟩ := rcells HRr.out
        go_wp2_with fail
        have hz := rat_setZ HRr.out HSTr.out e.zx
        go_ret2
        rw [HE.out, HEE.out, HER.out]
        exact ⟨_, rfl, ev_setZ HEr9.out HRr.out e.zx, hz.1, hz.2⟩
  · have HE : Hid (applyR R x (l.map (·.1)) e.zx = { R with z := e.zx }) := Lib.hid (by unfold applyR doR; rw [if_neg (by omega), if_neg (by omega), if_neg (by omega), if_pos hk])
    have HEE : Hid (applyE R x (l.map (·.1)) e.zx = []) := Lib.hid (by unfold applyE; rw [if_neg (by omega), if_neg (by omega), if_neg (by omega), if_pos hk])
    have HER : Hid (errR x y = y.err) := Lib.hid (by unfold errR; rw [if_pos hk])
    have k5 : (x.kind == 5) = false := by rw [hk]; rfl
    have k6 : (x.kind == 6) = false := by rw [hk]; rfl
    have k7 : (x.kind == 7) = false := by rw [hk]; rfl
    have k8 : (x.kind == 8) = true := by rw [hk]; rfl
    clear hk
    go_enter Tryz.func16, Tryz.ntmps16
    go_wp2_with fail
    have hz := rat_setZ HR1.out HST1.out e.zx
    go_ret2
    rw [HE.out, HEE.out, HER.out]
    exact ⟨_, rfl, evsAt_nil _, hz.1, hz.2⟩
  · have HE : Hid (applyR R x (l.map (·.1)) e.zx = { (partR R x e.zx).1 with z := e.zx }) := Lib.hid (by unfold applyR doR; rw [if_neg n5, if_neg n6, if_neg n7, if_neg n8])
    have HEE : Hid (applyE R x (l.map (·.1)) e.zx = (partR R x e.zx).2) := Lib.hid (by unfold applyE; rw [if_neg n5, if_neg n6, if_neg n7, if_neg n8])
    have HER : Hid (errR x y = 0) := Lib.hid (by unfold errR; rw [if_neg (by omega)])
    have k5 : (x.kind == 5) = false := by simpa using n5
    have k6 : (x.kind == 6) = false := by simpa using n6
    have k7 : (x.kind == 7) = false := by simpa using n7
    have k8 : (x.kind == 8) = false := by simpa using n8
    clear n5 n6 n7 n8
    have HPA := Lib.hid (rpart_any HR1.out x y e.zx HX1.out.acl (by omega) HV.out.ps (by have := HV.out.N; omega))
    unfold txnV txnL at HPA
    go_enter Tryz.func16, Tryz.ntmps16
    go_wp2_with fail
    refine HPA.out.mono ?_
    rintro ee w2 ⟨v2, rfl, hv2, hR2, hs2⟩
    have HR2 := Lib.hid hR2
    have HS2 := Lib.hid (HST1.out.trans hs2)
    have z0' := (entB (ent_step HB1.out HR1.out hs2)).z0
    clear z0 z3 z4 z5 z6 z7 z8 z9 z10 t0 t1 t2 t3 t4 t5 t6 t7 c2 cf
    have HV29 := Lib.hid (ev_mono hv2 HKW.out.size)
    clear hR2 hs2 hv2
    obtain ⟨⟨uz, c2⟩, cf⟩ := rcells HR2.out
    go_wp2_with fail
    have hz := rat_setZ HR2.out HS2.out e.zx
    go_ret2
    rw [HE.out, HEE.out, HER.out]
    exact ⟨_, rfl, ev_setZ HV29.out HR2.out e.zx, hz.1, hz.2⟩
theorem rapply_any {w : World} {b : Nat} {R : RT} (h : RAt w b R) (e : EX) (x : T1) (y : TX) (l : List (T1 × TX)) (hx : TxW w x y l) (hv : RV 100000000 R) :
    Calls Tryz.prog 16 #[.pointer (some ⟨b, 0, none⟩), entV e x y] w (RAPost w b (applyR R x (l.map (·.1)) e.zx)) :=
  (rapply_s h e x y l (hx.s h) hv).mono fun _ _ ⟨v, he, _, h1, h2⟩ => ⟨v, _, he, h1, h2⟩
end Go.Proofs.YtenbdoceaabecaaGreat
