/- The document's own tree: Clone. -/
import Derived.Test.YtenbdoceaabecaaGreatP24
import Derived.Test.YtenbdoceaabecaaGreatP25
namespace Go.Proofs.YtenbdoceaabecaaGreat
open Go.ChangeShapes Go.WideShapes Go.ChangeAt Go.RowKit Go.Maps
set_option linter.unusedVariables false
set_option linter.unusedSimpArgs false
abbrev treeO (nv sv : Value) (z : Int) : Obj := .cells #[nv, sv, .int .i64 z] 95
def ClonePost (w : World) (R : RT) (e : Ending) (w' : World) : Prop := ∃ b, e = .returned (.pointer (some ⟨b, 0, none⟩)) ∧ RAt w' b R ∧ (∀ k, RBs w' b k → w.heap.size ≤ k) ∧ Kept (fun _ => False) w w'
structure TreeAt (w : World) (b : Nat) (nv sv : Value) (z : Int) : Prop where
  c0 : w.cell? ⟨b, 0, none⟩ = some nv
  c1 : w.cell? ⟨b, 1, none⟩ = some sv
  c2 : w.cell? ⟨b, 2, none⟩ = some (.int .i64 z)
  f : ∀ i, w.frozen? ⟨b, i, none⟩ = false
theorem treeAt {w : World} {b : Nat} {nv sv : Value} {z : Int} (h : w.heap[b]? = some (treeO nv sv z)) : TreeAt w b nv sv z := by
  have e : ∀ i, w.cell? ⟨b, i, none⟩ = ([nv, sv, .int .i64 z] : List Value)[i]? := fun i => by
    rw [cell_of_row w b i _ _ (0, 0) h, ← Array.getElem?_toList]
  exact ⟨e 0, e 1, e 2, fun i => by simp [World.frozen?, h]⟩
/-- how far a clone is -/
structure ClRel (w : World) (u : Nat) (R : RT) (L : List (RN × Value)) (iv : Value) (wr : World) : Prop where
  ex : ∃ (k : Nat) (M : List (RN × Value)) (nv sv : Value), k ≤ L.length ∧ iv = .int .i64 k ∧ wr.heap[u]? = some (treeO nv sv R.z) ∧ wr.ownsRow w.heap.size 91 12 nv M.length (ndC M) ∧
    wr.ownsRow w.heap.size 113 3 sv R.S.length (ssC R.S) ∧ M.map (·.1) = (L.take k).map (·.1) ∧ (∀ p ∈ M, AclW wr p.2 p.1.acl) ∧ Kept (fun _ => False) w wr
theorem row_cells2 {w : World} {b : Nat} {R : RT} {L : List (RN × Value)} {nv : Value} {g n cap : Nat} (h : RD w b R L nv (.slice (some ⟨g, 0, none⟩) n cap)) : ∀ (w' : World), Kept (fun _ => False) w w' → ∀ j u, (ssC R.S)[j]? = some u → w'.cell? ⟨g, j, none⟩ = some u := by
  intro w' hk j u hj
  obtain ⟨a, cap', hv, hc⟩ := own_cell h.s
  injection hv with hv _ _
  obtain ⟨g', ha, _, hg, h', _⟩ := hc j u hj
  rw [← hv] at ha
  injection ha with ha
  injection ha with ha
  subst ha
  exact (World.cell?_of_block (w := w) (hk.block g hg (fun f => f))).trans h'
theorem RD.sess1 {w : World} {b : Nat} {R : RT} {L : List (RN × Value)} {nv : Value} {a : Option Addr} {n cap : Nat} (h : RD w b R L nv (.slice a n cap)) : (a = none ∧ R.S.length = 0 ∧ cap = 0) ∨ ∃ g, a = some ⟨g, 0, none⟩ := by
  rcases h.s.2 with ⟨h1, h2⟩ | ⟨g, cap', cur, h1, _⟩
  · injection h1 with h1 _ h3
    exact .inl ⟨h1, h2, h3⟩
  · injection h1 with h1
    exact .inr ⟨g, h1⟩
/-- a tree's cell is written: rows of other types stay -/
theorem own_setT {w : World} {u B size n : Nat} {nv sv v : Value} {z : Int} {e : TypeId} {xs : List Value} (hb : w.heap[u]? = some (treeO nv sv z)) (h : w.ownsRow B e size v n xs) (i : Nat) (x : Value) (he : e ≠ 95) : (w.setCell ⟨u, i, none⟩ x).ownsRow B e size v n xs :=
  ownKept h (kept_set w u i x) (fun k hk e' => by
    obtain ⟨_, _, cur, hc⟩ := own_lo h hk
    rw [e', hb] at hc
    injection hc with hc
    injection hc with _ hc
    exact he hc.symm)
theorem cl_grown {w w' : World} {B size n k : Nat} {e T : TypeId} {v : Value} {xs : List Value} {c : Array Value} {o : Obj} (h : w.heap[k]? = some (.cells c T (0, 0))) (hv : w.ownsRow B e size v n xs) (hg : (w.alloc o).drew.grownBy w' v.ownBlock) (he : T ≠ e) : w'.heap[k]? = some (.cells c T (0, 0)) := by
  have h1 : Kept (fun k => some k = v.ownBlock) w w' := (((Kept.refl _ w).alloc o).drew).trans (Kept.of_grownBy hg)
  rw [h1.block k (lt_of_block h) (fun e' => by
    obtain ⟨_, _, cur, hc⟩ := own_lo hv e'.symm
    rw [h] at hc
    injection hc with hc
    injection hc with _ hc
    exact he hc)]
  exact h
theorem own_grown {w w' : World} {B B' size size' n n' : Nat} {e e' : TypeId} {v v' : Value} {xs xs' : List Value} {o : Obj} (h : w.ownsRow B' e' size' v' n' xs') (hv : w.ownsRow B e size v n xs) (hg : (w.alloc o).drew.grownBy w' v.ownBlock) (he : e' ≠ e) : w'.ownsRow B' e' size' v' n' xs' := by
  have h1 : Kept (fun k => some k = v.ownBlock) w w' := (((Kept.refl _ w).alloc o).drew).trans (Kept.of_grownBy hg)
  refine ownKept h h1 (fun k hk e2 => ?_)
  obtain ⟨_, _, cur, hc⟩ := own_lo hv e2.symm
  obtain ⟨_, _, cur', hc'⟩ := own_lo h hk
  rw [hc] at hc'
  injection hc' with hc'
  injection hc' with _ hc'
  exact he hc'.symm
theorem grown_nil {w w' : World} {k : Nat} {o : Obj} (hg : w.grownBy w' (Value.slice none 0 0).ownBlock) (h : w.heap[k]? = some o) : w'.heap[k]? = some o :=
  (((Kept.of_grownBy hg).block k (lt_of_block h) (fun e => by cases e))).trans h
theorem tree_set0 {w : World} {u : Nat} {nv sv : Value} {z : Int} (h : w.heap[u]? = some (treeO nv sv z)) (x : Value) : (w.setCell ⟨u, 0, none⟩ x).heap[u]? = some (treeO x sv z) := heap_set x (c := [nv, sv, .int .i64 z]) h
theorem cl_next {w w6 w9 : World} {k : Nat} {R : RT} {L M : List (RN × Value)} {q : RN × Value} {ma ta m9 va5 : Option Addr} {mc tc mc9 vc5 : Nat} {P : RN × Value} (hP : P = (q.1, Value.slice va5 q.1.acl.length vc5)) (hlt : k < L.length) (hq : L[k]? = some q) (hx6 : w6.heap[w.heap.size]? = some (treeO (Value.slice ma M.length mc) (Value.slice ta R.S.length tc) R.z))
    (hm6 : w6.ownsRow w.heap.size 91 12 (Value.slice ma M.length mc) M.length (ndC M)) (ht6 : w6.ownsRow w.heap.size 113 3 (Value.slice ta R.S.length tc) R.S.length (ssC R.S))
    (ha6 : AclW w6 (Value.slice va5 q.1.acl.length vc5) q.1.acl) (hc6 : ∀ p ∈ M, AclW w6 p.2 p.1.acl) (hm : M.map (·.1) = (L.take k).map (·.1)) {o : Obj} (hg : (w6.alloc o).drew.grownBy w9 (Value.slice ma M.length mc).ownBlock)
    (hx9 : w9.heap[w.heap.size]? = some (treeO (Value.slice ma M.length mc) (Value.slice ta R.S.length tc) R.z)) (hown9 : w9.ownsRow w.heap.size 91 12 (Value.slice m9 (M.length + 1) mc9) (M.length + 1) (ndC M ++ ndL P)) (hk9 : Kept (fun _ => False) w w9) :
    ClRel w w.heap.size R L (.int .i64 ((k : Int) + 1)) (w9.setCell ⟨w.heap.size, 0, none⟩ (Value.slice m9 (M.length + 1) mc9)) := by
  have hown : w9.ownsRow w.heap.size 91 12 (Value.slice m9 (M.length + 1) mc9) (M ++ [P]).length (ndC (M ++ [P])) := by
    rw [ndC_app, ndC_one1, List.length_append]; exact hown9
  have hacl : ∀ v l, AclW w6 v l → AclW (w9.setCell ⟨w.heap.size, 0, none⟩ (Value.slice m9 (M.length + 1) mc9)) v l := fun v l hv =>
    ⟨own_setT hx9 (own_grown hv.own hm6 hg (by decide)) 0 _ (by decide), hv.room⟩
  have h1 : (w9.setCell ⟨w.heap.size, 0, none⟩ (Value.slice m9 (M.length + 1) mc9)).heap[w.heap.size]? = some (treeO (Value.slice m9 (M.length + 1) mc9) (Value.slice ta R.S.length tc) R.z) := tree_set0 hx9 _
  have h2 := own_setT hx9 hown 0 (Value.slice m9 (M.length + 1) mc9) (by decide)
  have h3 := own_setT hx9 (own_grown ht6 hm6 hg (by decide)) 0 (Value.slice m9 (M.length + 1) mc9) (by decide)
  refine ⟨k + 1, M ++ [P], _, _, by omega, by go_num, h1, h2, h3, ?_, fun p hp => ?_, hk9.setCell (a := ⟨w.heap.size, 0, none⟩) (.inr (Nat.le_refl _)) _⟩
  · rw [take_at hq, List.map_append, List.map_append, hm, List.map_singleton, List.map_singleton, hP]
  · rcases List.mem_append.1 hp with hp | hp
    · exact hacl _ _ (hc6 p hp)
    · simp only [List.mem_singleton] at hp
      subst hp
      rw [hP]
      exact hacl _ _ ha6
set_option maxRecDepth 100000 in
set_option maxHeartbeats 4000000 in
theorem rclone_any {w : World} {b : Nat} {R : RT} (h : RAt w b R) (hlen : R.N.length ≤ 1000000000) (hlenS : R.S.length ≤ 1000000000) :
    Calls Tryz.prog 98 #[.pointer (some ⟨b, 0, none⟩)] w (ClonePost w R) := by
  obtain ⟨L, nv, sv, hD⟩ := h
  obtain ⟨a, cap, rfl, hcap, hnode⟩ := hD.node
  obtain ⟨sa, scap, rfl, hscap, hscm, hsess⟩ := hD.sess
  have hlL : L.length ≤ 1000000000 := by rw [rd_len hD]; exact hlen
  have HD := Lib.hid hD
  have HN := Lib.hid hnode
  have HRN := Lib.hid nd_row
  have HRS := Lib.hid ss_row
  obtain ⟨c0, c1, c2, cf⟩ := hD.cells
  have hb : b < w.heap.size := lt_of_block hD.at_
  have HB := Lib.hid hb
  unfold maxLen at hscm
  obtain ⟨S, hS⟩ : ∃ S, R.S = S := ⟨_, rfl⟩
  rw [hS] at hlenS hscap
  have hsl : (Value.slice sa R.S.length scap) = .slice sa S.length scap := by rw [hS]
  rw [hsl] at HD c1
  have HS := Lib.hid hS
  have HSRC : Hid (S.length = 0 ∨ ∃ g off, sa = some ⟨g, off, none⟩ ∧ ∀ j v, (ssC S)[j]? = some v → w.cell? ⟨g, off + j, none⟩ = some v) := Lib.hid (by
    rcases HD.out.sess1 with ⟨_, h0, _⟩ | ⟨g, rfl⟩
    · left; rw [← hS]; exact h0
    · right
      exact ⟨g, 0, rfl, fun j v hj => by rw [Nat.zero_add]; exact row_cells2 HD.out w (Kept.refl _ _) j v (by rw [hS]; exact hj)⟩)
  have hne : ¬ b = w.heap.size := by omega
  have n1 := World.new_ne w ⟨b, 1, none⟩ c1
  have n0 := World.new_ne w ⟨b, 0, none⟩ c0
  clear hD hnode hlen hsess hS hsl
  go_enter Tryz.func98, Tryz.ntmps98
  go_wp2_with fail
  have HBX : Hid ((w.alloc (treeO (.slice none 0 0) (.slice none 0 0) R.z)).heap[w.heap.size]? = some (treeO (.slice none 0 0) (.slice none 0 0) R.z)) := Lib.hid (heap_alloc_new w _)
  have HK1 : Hid (Kept (fun _ => False) w (w.alloc (treeO (.slice none 0 0) (.slice none 0 0) R.z))) := Lib.hid ((Kept.refl _ w).alloc _)
  generalize w.alloc (treeO (.slice none 0 0) (.slice none 0 0) R.z) = w1 at HBX HK1 ⊢
  have HBXd : Hid (w1.drew.heap[w.heap.size]? = some (treeO (.slice none 0 0) (.slice none 0 0) R.z)) := Lib.hid HBX.out
  have HK1d : Hid (Kept (fun _ => False) w w1.drew) := Lib.hid HK1.out.drew
  clear c0 c1 c2 cf n0 n1
  obtain ⟨c0, c1, c2, cf⟩ := (HD.out.kept0 HK1d.out).cells
  obtain ⟨u0, u1, u2, uf⟩ := treeAt HBXd.out
  go_region_law ((refine step_rows HRS.out (by rfl) _ _ (by rfl) (by rfl) (World.ownsRow_nil _ w.heap.size 113 3) sa S.length scap (ssC S) (by rfl) (flat_len ssL_len S) (HSRC.out.elim Or.inl (fun ⟨g, off, e, hc⟩ => .inr ⟨g, off, e, fun j v hj => (World.cell?_of_block (w := w) (HK1d.out.block g (World.block_lt_of_cell? w _ (hc j v hj)) (fun f => f))).trans (hc j v hj)⟩)) (flat_one ssL_one _) (by unfold maxLen; omega) (by omega) HK1d.out.size ?_; intro v2 w2 hown2 hg2; have HK2 := Lib.hid (kept_own HK1d.out (World.ownsRow_nil _ w.heap.size 113 3) (Nat.le_refl _) hg2); have HOWN2 : Hid (w2.ownsRow w.heap.size 113 3 v2 S.length (ssC S)) := Lib.hid (by simpa using hown2); have HBX2 := Lib.hid (grown_nil hg2 HBXd.out); obtain ⟨va, vc, rfl⟩ := own_shape HOWN2.out; clear hown2 hg2 c0 c1 c2 cf u0 u1 u2 uf; obtain ⟨c0, c1, c2, cf⟩ := (HD.out.kept0 HK2.out).cells; obtain ⟨u0, u1, u2, uf⟩ := treeAt HBX2.out))
  all_goals (
    have HK3 := Lib.hid (HK2.out.setCell (a := ⟨w.heap.size, 1, none⟩) (.inr (Nat.le_refl _)) (.slice va S.length vc))
    have HBX3 : Hid ((w2.setCell ⟨w.heap.size, 1, none⟩ (.slice va S.length vc)).heap[w.heap.size]? = some (treeO (.slice none 0 0) (.slice va S.length vc) R.z)) := Lib.hid (heap_set _ (c := [.slice none 0 0, .slice none 0 0, .int .i64 R.z]) HBX2.out)
    have HOWN3 := Lib.hid (own_setT HBX2.out HOWN2.out 1 (.slice va S.length vc) (by decide))
    generalize w2.setCell ⟨w.heap.size, 1, none⟩ (.slice va S.length vc) = w3 at HK3 HBX3 HOWN3 ⊢
    clear c0 c1 c2 cf u0 u1 u2 uf
    go_wp2_with fail
    go_loopw [4] (fun iv wr => ClRel w w.heap.size R L iv wr) (fun iv _ => L.length - (intOf iv).toNat)
    case atStart => exact ⟨0, [], .slice none 0 0, .slice va S.length vc, Nat.zero_le _, rfl, HBX3.out, World.ownsRow_nil _ _ _ _, by rw [HS.out]; exact HOWN3.out, rfl, fun p hp => by simp at hp, HK3.out⟩
    case round =>
      obtain ⟨k, M, mv, tv, hk, rfl, hbx, hmn, htv, hM, hacl, hkw⟩ := hrel.ex
      have HBXr := Lib.hid hbx
      have HMN := Lib.hid hmn
      have HTV := Lib.hid htv
      have HM := Lib.hid hM
      have HACL := Lib.hid hacl
      have HKW := Lib.hid hkw
      obtain ⟨ma, mc, rfl⟩ := own_shape hmn
      obtain ⟨ta, tc, rfl⟩ := own_shape htv
      have hml : M.length ≤ L.length := by
        have := congrArg List.length hM
        rw [List.length_map, List.length_map, List.length_take] at this
        omega
      clear hbx hmn htv hM hacl hkw hrel
      obtain ⟨c0, c1, c2, cf⟩ := (HD.out.kept0 HKW.out).cells
      obtain ⟨u0, u1, u2, uf⟩ := treeAt HBXr.out
      by_cases hlt : k < L.length
      · obtain ⟨g, q, rfl, hg, hq, hc, hfz⟩ := HN.out k hlt
        obtain ⟨x0, x1, x2, x3, x4, x5, x6, x7, x8, x9, x10, x11⟩ := nodeAt hc hg HKW.out
        have HQ := Lib.hid hq
        have HAQ := Lib.hid ((HD.out.acl q (List.mem_of_getElem? hq)).kept0 HKW.out)
        obtain ⟨qa, qc, hq2⟩ := own_shape HAQ.out.own
        rw [hq2] at x2 HAQ
        have HAK := Lib.hid (HAQ.out.kept0 ((Kept.refl _ wr).alloc (rnO (q.1, .slice qa q.1.acl.length qc))))
        have HBB : Hid ((wr.alloc (rnO (q.1, .slice qa q.1.acl.length qc))).heap[wr.heap.size]? = some (rnO (q.1, .slice qa q.1.acl.length qc))) := Lib.hid (heap_alloc_new wr _)
        have HRW := Lib.hid (rows_any HAK.out)
        clear hc hq hfz hq2
        go_wp2_with fail
        refine HRW.out.mono ?_
        rintro e w5 ⟨v5, rfl, hown5, hk5⟩
        have HK5 := Lib.hid ((HKW.out.alloc (rnO (q.1, .slice qa q.1.acl.length qc))).trans hk5)
        have HB5 := Lib.hid (box_kept0 HBB.out hk5)
        have HA5 : Hid (AclW w5 v5 q.1.acl) := Lib.hid ⟨row0 hown5, HAK.out.room⟩
        have hkk : Kept (fun _ => False) wr w5 := ((Kept.refl _ wr).alloc (rnO (q.1, .slice qa q.1.acl.length qc))).trans hk5
        have HX5 := Lib.hid (box_kept0 HBXr.out hkk)
        have HM5 := Lib.hid (ownKept HMN.out hkk (fun _ _ f => f))
        have HT5 := Lib.hid (ownKept HTV.out hkk (fun _ _ f => f))
        have HC5 := Lib.hid (show ∀ p ∈ M, AclW w5 p.2 p.1.acl from fun p hp => (HACL.out p hp).kept0 hkk)
        obtain ⟨va5, vc5, rfl⟩ := own_shape hown5
        have HWR : Hid (w.heap.size < wr.heap.size) := Lib.hid (lt_of_block HBXr.out)
        clear hown5 hk5 hkk x0 x1 x2 x3 x4 x5 x6 x7 x8 x9 x10 x11 c0 c1 c2 cf u0 u1 u2 uf
        have hfb : ∀ i, w5.frozen? ⟨wr.heap.size, i, none⟩ = false := fun i => by simp [World.frozen?, HB5.out]
        obtain ⟨b0, b1, b2, b3, b4, b5, b6, b7, b8, b9, b10, b11⟩ := boxN HB5.out
        simp only at b0 b1 b2 b3 b4 b5 b6 b7 b8 b9
        go_wp2_with fail
        clear b0 b1 b2 b3 b4 b5 b6 b7 b8 b9 b10 b11 hfb
        have hkS := kept_set w5 wr.heap.size 2 (.slice va5 q.1.acl.length vc5)
        have HB6 : Hid ((w5.setCell ⟨wr.heap.size, 2, none⟩ (.slice va5 q.1.acl.length vc5)).heap[wr.heap.size]? = some (rnO (q.1, .slice va5 q.1.acl.length vc5))) := Lib.hid (heap_set _ (c := ndL (q.1, .slice qa q.1.acl.length qc)) HB5.out)
        have hnb : ∀ k cur e, w5.heap[k]? = some (.cells cur e (0, 0)) → (e ≠ 91 ∨ k < wr.heap.size) → ¬ k = wr.heap.size := fun k cur e hc he hk => by
          rcases he with he | he
          · rw [hk, HB5.out] at hc
            injection hc with hc
            injection hc with _ hc
            exact he hc.symm
          · omega
        have HK6 := Lib.hid (HK5.out.trans' (S := fun _ => False) hkS (fun k hk e => by have := HWR.out; omega))
        have HX6 := Lib.hid ((hkS.block _ (lt_of_block HX5.out) (hnb _ _ _ HX5.out (.inl (by decide)))).trans HX5.out)
        have HMB : Hid (∀ k, (Value.slice ma M.length mc).ownBlock = some k → ¬ k = wr.heap.size) := Lib.hid (fun k hk e => by have := (own_lo HMN.out hk).2.1; omega)
        have HM6 := Lib.hid (ownKept HM5.out hkS HMB.out)
        have HT6 := Lib.hid (ownKept HT5.out hkS (fun k hk => by obtain ⟨_, _, cur, hc⟩ := own_lo HT5.out hk; exact hnb _ _ _ hc (.inl (by decide))))
        have HA6 := Lib.hid (HA5.out.kept hkS (fun k cur hc => hnb _ _ _ hc (.inl (by decide))))
        have HC6 := Lib.hid (show ∀ p ∈ M, AclW (w5.setCell ⟨wr.heap.size, 2, none⟩ (.slice va5 q.1.acl.length vc5)) p.2 p.1.acl from fun p hp => (HC5.out p hp).kept hkS (fun k cur hc => hnb _ _ _ hc (.inl (by decide))))
        generalize w5.setCell ⟨wr.heap.size, 2, none⟩ (.slice va5 q.1.acl.length vc5) = w6 at HB6 HK6 HX6 HM6 HT6 HA6 HC6 ⊢
        clear hkS hnb
        have HP1 : Hid (∀ v ∈ ndL (q.1, .slice va5 q.1.acl.length vc5), v.oneCell' = true) := Lib.hid (ndL_one _ ⟨_, _, _, rfl⟩)
        obtain ⟨b0, b1, b2, b3, b4, b5, b6, b7, b8, b9, b10, b11⟩ := boxN HB6.out
        simp only at b0 b1 b2 b3 b4 b5 b6 b7 b8 b9
        obtain ⟨u0, u1, u2, uf⟩ := treeAt HX6.out
        have n0 : (w6.alloc (.cells #[.string q.1.path, .string q.1.data, .slice va5 q.1.acl.length vc5, .int .i64 q.1.st.cz, .int .i64 q.1.st.mz, .int .i64 q.1.st.pz, .int .i64 q.1.st.ver, .int .i64 q.1.st.cver, .int .i64 q.1.st.aver, .int .i64 q.1.st.owner, .int .i64 0, .int .i64 0] 91)).cell? ⟨w.heap.size, 0, none⟩ = some (.slice ma M.length mc) := (treeAt (box_kept0 HX6.out ((Kept.refl _ w6).alloc _))).c0
        have HKD := Lib.hid HK6.out.drew
        have HMD := Lib.hid (ownKept HM6.out ((Kept.refl (fun _ => False) w6).drew) (fun _ _ f => f))
        go_region_law ((refine step_row1d (w := w6) HRN.out (by rfl) _ _ (by rfl) (by rfl) HM6.out (ndL (q.1, .slice va5 q.1.acl.length vc5)) (by rfl) (by rfl) HP1.out (by omega) (by unfold maxLen; omega) HK6.out.size ?_; intro v9 w9 hown9 hg9; have HK9 := Lib.hid (kept_own1d HK6.out HM6.out (Nat.le_refl _) hg9); have HG9 := Lib.hid hg9; obtain ⟨m9, mc9, rfl⟩ := own_shape hown9; have HOWN9 := Lib.hid hown9; have HX9 := Lib.hid (cl_grown HX6.out HM6.out hg9 (by decide)); clear hown9 hg9 b0 b1 b2 b3 b4 b5 b6 b7 b8 b9 b10 b11 u0 u1 u2 uf n0; obtain ⟨u0, u1, u2, uf⟩ := treeAt HX9.out))
        all_goals (
          go_wp2_with fail
          go_roundw
          case rel =>
            exact cl_next rfl hlt HQ.out HX6.out HM6.out HT6.out HA6.out HC6.out HM.out HG9.out HX9.out HOWN9.out HK9.out
          case measure => simp [intOf]; omega)
      · go_wp2_with fail
        go_ret
        refine ⟨_, rfl, ⟨M, _, _, ⟨HBXr.out, row0 HMN.out, ?_, HACL.out, row0 HTV.out⟩⟩, ?_, HKW.out⟩
        · rw [HM.out, List.take_of_length_le (by omega), HD.out.eq]
        · intro k2 hk2
          have hd : RD wr w.heap.size R M (.slice ma M.length mc) (.slice ta R.S.length tc) := ⟨HBXr.out, row0 HMN.out, by rw [HM.out, List.take_of_length_le (by omega), HD.out.eq], HACL.out, row0 HTV.out⟩
          rcases (hd.bs k2).1 hk2 with e | e | e
          · omega
          · exact (own_lo HMN.out e).1
          · exact (own_lo HTV.out e).1)
end Go.Proofs.YtenbdoceaabecaaGreat
