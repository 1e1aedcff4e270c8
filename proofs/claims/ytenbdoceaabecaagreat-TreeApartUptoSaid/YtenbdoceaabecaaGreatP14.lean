/- do, of every kind: a session opened, closed, a multi. -/
import Derived.Test.YtenbdoceaabecaaGreatP07
import Derived.Test.YtenbdoceaabecaaGreatP13
namespace Go.Proofs.YtenbdoceaabecaaGreat
open Go.ChangeShapes Go.WideShapes Go.ChangeAt Go.RowKit Go.Maps
set_option linter.unusedVariables false
set_option linter.unusedSimpArgs false
theorem rowEv : RowTy Tryz.prog 45 75 3 32 := RowTy.of (z := .agg #[.int .i64 0, .string ByteArray.empty, .int .i64 0]) Tryz.underlying45 (by kernel_rfl) rfl (by decide)
/-- a transaction's parts in memory, outside the tree -/
structure SubsP (q : TB) (w : World) (y : TX) (l : List (T1 × TX)) : Prop where
  len : y.sn = l.length
  few : l.length ≤ 2000000000000
  tx : ∀ p ∈ l, TxAt q w p.1 p.2 ∧ p.1.path.size ≤ 140737488355328
  at_ : ∀ i p, l[i]? = some p → ∃ g off, y.sa = some ⟨g, off, none⟩ ∧ g < w.heap.size ∧ ¬ TBs q g ∧ ∀ j u, (txnL p.1 p.2)[j]? = some u → w.cell? ⟨g, off + i * 8 + j, none⟩ = some u
section
variable {Z : Nat → Prop} {w w' : World} {q : TB} {M : TM} {c : Nat} {D E : DV} {y : TX} {l : List (T1 × TX)}
theorem SubsP.kept (h : SubsP q w y l) (hk : Kept (TBs q) w w') : SubsP q w' y l :=
  ⟨h.len, h.few, fun p hp => ⟨(h.tx p hp).1.kept hk, (h.tx p hp).2⟩, fun i p hi => by
    obtain ⟨g, off, e, hg, hn, hc⟩ := h.at_ i p hi
    exact ⟨g, off, e, Nat.lt_of_lt_of_le hg hk.size, hn, fun j u hu => by rw [World.cell?_of_block (w := w) (hk.block g hg hn)]; exact hc j u hu⟩⟩
theorem SubsP.kept0 (h : SubsP q w y l) (hk : Kept (fun _ => False) w w') : SubsP q w' y l := h.kept (hk.mono (fun _ _ f => f.elim))
theorem create_len (M : TM) (x : T1) (zx : Int) : (createM M x zx).2.length ≤ 2 := by
  unfold createM; split <;> simp
theorem remove_len (M : TM) (x : T1) (zx : Int) : (removeM M x zx).2.length ≤ 2 := by
  unfold removeM
  split
  · rw [List.length_append]
    split <;> split <;> simp
  · simp
theorem part_len (M : TM) (x : T1) (zx : Int) : (partM M x zx).2.length ≤ 2 := by
  unfold partM
  split
  · exact create_len M x zx
  · split
    · exact remove_len M x zx
    · split
      · unfold setM; split <;> simp
      · split <;> simp
theorem parts_snoc (d : Bool) (zx : Int) (M : TM) (evs : List Ev) (l : List T1) (x : T1) : partsM d zx M evs (l ++ [x]) =
    (if d = true ∧ x.kind ≠ 2 then partsM d zx M evs l else if d = true then ((removeM (partsM d zx M evs l).1 x zx).1, (partsM d zx M evs l).2 ++ (removeM (partsM d zx M evs l).1 x zx).2)
      else ((partM (partsM d zx M evs l).1 x zx).1, (partsM d zx M evs l).2 ++ (partM (partsM d zx M evs l).1 x zx).2)) := by
  induction l generalizing M evs with
  | nil =>
    simp only [List.nil_append, partsM]
  | cons y r ih =>
    rw [List.cons_append]
    by_cases h1 : d = true ∧ y.kind ≠ 2
    · have e : ∀ t, partsM d zx M evs (y :: t) = partsM d zx M evs t := fun t => by rw [partsM, if_pos h1]
      rw [e, e]; exact ih M evs
    · by_cases h2 : d = true
      · have e : ∀ t, partsM d zx M evs (y :: t) = partsM d zx (removeM M y zx).1 (evs ++ (removeM M y zx).2) t := fun t => by rw [partsM, if_neg h1, if_pos h2]
        rw [e, e]; exact ih _ _
      · have e : ∀ t, partsM d zx M evs (y :: t) = partsM d zx (partM M y zx).1 (evs ++ (partM M y zx).2) t := fun t => by rw [partsM, if_neg h1, if_neg h2]
        rw [e, e]; exact ih _ _
theorem parts_len (d : Bool) (zx : Int) (M : TM) : ∀ (l : List T1) (evs : List Ev), (partsM d zx M evs l).2.length ≤ evs.length + 2 * l.length := by
  intro l
  induction l generalizing M with
  | nil => intro evs; simp [partsM]
  | cons y r ih =>
    intro evs
    unfold partsM
    split
    · have := ih M evs; simp only [List.length_cons]; omega
    · split
      · have h1 := ih (removeM M y zx).1 (evs ++ (removeM M y zx).2)
        have h2 := remove_len M y zx
        rw [List.length_append] at h1; simp only [List.length_cons]; omega
      · have h1 := ih (partM M y zx).1 (evs ++ (partM M y zx).2)
        have h2 := part_len M y zx
        rw [List.length_append] at h1; simp only [List.length_cons]; omega
/-- what is done behind k parts -/
structure PaRel (Z : Nat → Prop) (q : TB) (c : Nat) (w : World) (d : Bool) (zx : Int) (M : TM) (y : TX) (l : List (T1 × TX)) (v iv : Value) (wr : World) : Prop where
  ex : ∃ k : Nat, iv = .int .i64 k ∧ k ≤ l.length ∧ EvsAt w.heap.size wr v (partsM d zx M [] ((l.take k).map Prod.fst)).2 ∧ TAt Z wr q (partsM d zx M [] ((l.take k).map Prod.fst)).1 (c + 2 * k) ∧ Kept (TBs q) w wr
theorem take_snoc (l : List (T1 × TX)) {k : Nat} {p : T1 × TX} (h : l[k]? = some p) : (l.take (k + 1)).map Prod.fst = (l.take k).map Prod.fst ++ [p.1] := by
  obtain ⟨hk, e⟩ := List.getElem?_eq_some_iff.1 h
  rw [List.take_succ_eq_append_getElem hk, List.map_append, e]; rfl
theorem own_src {B n size : Nat} {e : TypeId} {v : Value} {xs : List Value} (h : w.ownsRow B e size v n xs) : ∃ a cap, v = .slice a n cap ∧ (n = 0 ∨ ∃ g off, a = some ⟨g, off, none⟩ ∧ ∀ j u, xs[j]? = some u → w.cell? ⟨g, off + j, none⟩ = some u) := by
  rcases h.2 with ⟨rfl, rfl⟩ | ⟨g, cap, cur, rfl, hb, hh, hnc, hcm, hcs, htake⟩
  · exact ⟨_, _, rfl, .inl rfl⟩
  · refine ⟨_, _, rfl, .inr ⟨g, 0, rfl, fun j u hj => ?_⟩⟩
    rw [Nat.zero_add, cell_of_row w g j _ _ (0, 0) hh, ← Array.getElem?_toList]
    rw [← htake, List.getElem?_take] at hj
    split at hj
    · exact hj
    · cases hj
theorem EvsAt.snoc {B n m : Nat} {v : Value} {l1 l2 : List Ev} (h : w.ownsRow B 75 3 v (l1.length + l2.length) (evsC l1 ++ evsC l2)) : EvsAt B w v (l1 ++ l2) := by
  unfold EvsAt
  rw [List.length_append, evsC_app]; exact h
set_option maxRecDepth 100000 in
set_option maxHeartbeats 4000000 in
theorem do_multi (h : TAt Z w q M c) (x : T1) (y : TX) (zx : Int) (hs : SubsP q w y l) (h7 : x.kind = 7) (hc : c + 2 * l.length < 4611686018427387000) :
    Calls Tryz.prog 58 #[.pointer (some ⟨q.t, 0, none⟩), txnV x y, .int .i64 zx] w (CallPost Z q (c + 2 * l.length) w (partsM false zx M [] (l.map Prod.fst))) := by
  have hk0 : Kept (fun _ => False) w (w.alloc (txnO x y)) := (Kept.refl _ w).alloc _
  have HT0 := Lib.hid (h.kept0 hk0)
  have HS0 := Lib.hid hs
  have HLT := Lib.hid h.lt
  have HB0 : Hid ((w.alloc (txnO x y)).heap[w.heap.size]? = some (txnO x y)) := Lib.hid (heap_alloc_new w _)
  have hk0' : Kept (TBs q) w (w.alloc (txnO x y)) := hk0.mono (fun _ _ f => f.elim)
  have HK0 := Lib.hid hk0'
  have hsn := hs.len
  have hfew := hs.few
  obtain ⟨xk, xp, xd, xl, xo, xn⟩ := x
  obtain ⟨aa, an, ac, ye, sa, sn, sc⟩ := y
  simp only at h7 hsn
  subst h7
  subst hsn
  clear h hs hk0 hk0'
  unfold txnV txnL at *
  go_enter Tryz.func58, Tryz.ntmps58
  go_wp2_with fail
  generalize w.alloc _ = wa at HT0 HK0 HB0 ⊢
  go_loopw [7, 58] (fun v iv wr => PaRel Z q c w false zx M ⟨aa, an, ac, ye, sa, l.length, sc⟩ l v iv wr) (fun _ iv _ => l.length - (Go.RowKit.intOf iv).toNat)
  case atStart => exact ⟨0, rfl, Nat.zero_le _, World.ownsRow_nil _ _ _ _, HT0.out, HK0.out⟩
  case round =>
    obtain ⟨k, rfl, hk, hev, ht, hkp⟩ := hrel.ex
    clear hrel
    by_cases hlt : k < l.length
    · obtain ⟨p, hp⟩ : ∃ p, l[k]? = some p := ⟨_, List.getElem?_eq_getElem hlt⟩
      have hS := HS0.out.kept hkp
      obtain ⟨g, off, hsa, hg, hn, hcell⟩ := hS.at_ k p hp
      simp only at hsa
      subst hsa
      obtain ⟨htx, hpp⟩ := hS.tx p (List.mem_of_getElem? hp)
      have htk := take_snoc l hp
      obtain ⟨px, py⟩ := p
      have c0 := hcell 0 _ rfl
      have c1 := hcell 1 _ rfl
      have c2 := hcell 2 _ rfl
      have c3 := hcell 3 _ rfl
      have c4 := hcell 4 _ rfl
      have c5 := hcell 5 _ rfl
      have c6 := hcell 6 _ rfl
      have c7 := hcell 7 _ rfl
      rw [Nat.add_zero] at c0
      have hpl := parts_len false zx M ((l.take k).map Prod.fst) []
      have hpk : ((l.take k).map Prod.fst).length = k := by rw [List.length_map, List.length_take]; omega
      obtain ⟨l1, hl1⟩ : ∃ l1, (l.take k).map Prod.fst = l1 := ⟨_, rfl⟩
      rw [hl1] at hev ht htk hpl hpk
      obtain ⟨⟨Mk, ek⟩, hr⟩ : ∃ r, partsM false zx M [] l1 = r := ⟨_, rfl⟩
      rw [hr] at hev ht hpl
      simp only [List.length_nil] at hpl hev ht
      have hks : Kept (fun _ => False) wr (wr.alloc (txnO px py)) := (Kept.refl _ wr).alloc _
      have hks' : Kept (TBs q) wr (wr.alloc (txnO px py)) := hks.mono (fun _ _ f => f.elim)
      have HPA := Lib.hid (part_any (ht.kept0 hks) px py zx (htx.kept0 hks) hpp (by omega))
      have HE1 := Lib.hid hev
      have HK1 := Lib.hid (hkp.trans hks')
      have HKS := Lib.hid hks
      have HRR := Lib.hid hr
      have HTK := Lib.hid htk
      have hel : ek.length ≤ 2 * k := by omega
      have HPN := Lib.hid (part_len Mk px zx)
      have hz1 := hkp.size
      obtain ⟨va, vcap, rfl⟩ := own_shape hev
      clear hev ht hkp hks hks' hr htk hcell htx hpp hS hp hl1 hpl hpk
      unfold txnV txnL at *
      go_wp2_with (first
        | (go_at_call 93; refine HPA.out.mono ?_; rintro e w2 ⟨v2, rfl, hv2, ht2, hk2⟩; have HV2 := Lib.hid hv2; have HT2 := Lib.hid ht2; have HK2 := Lib.hid (HK1.out.trans hk2); have HE2 : Hid (EvsAt w.heap.size w2 (.slice va ek.length vcap) ek) := Lib.hid (ownKept (EvsAt.alloc HE1.out _) hk2 (fun k e hx => by have h1 := (evs_block HE1.out e).1; have h2 := HLT.out k hx; omega)); obtain ⟨a2, cap2, rfl, hs2⟩ := own_src hv2; have HS2 := Lib.hid hs2; clear hv2 ht2 hk2 hs2)
        | (at_builtin; refine wpList_rows rowEv rfl _ _ rfl rfl HE2.out a2 _ cap2 (evsC (partM Mk px zx).2) rfl (evsC_len _) HS2.out (evsC_one _) (by have := HPN.out; unfold maxLen; omega) (by have := HPN.out; omega) HK2.out.size (fun v3 w3 hv3 hg3 => ?_); have HV3 := Lib.hid hv3; have HG3 := Lib.hid hg3; clear hv3 hg3)
        | go_in)
      go_roundw
      case rel =>
        refine ⟨k + 1, by go_num, by omega, ?_, ?_, ?_⟩
        · rw [HTK.out, parts_snoc, if_neg (by simp), if_neg (by simp), HRR.out]
          exact EvsAt.snoc (n := 0) (m := 0) HV3.out
        · rw [HTK.out, parts_snoc, if_neg (by simp), if_neg (by simp), HRR.out]
          exact (HT2.out.app HE2.out HG3.out).mono (by omega)
        · exact kept_app HK2.out HE2.out (Nat.le_refl _) HG3.out
      case measure => simp [Go.RowKit.intOf]; omega
    · have hkn : k = l.length := by omega
      rw [hkn, List.take_length] at hev ht
      have HE := Lib.hid hev
      have HT := Lib.hid ht
      have HK := Lib.hid hkp
      obtain ⟨va, vcap, rfl⟩ := own_shape hev
      clear hev ht hkp hkn
      go_wp2_with fail
      go_ret
      exact ⟨_, rfl, HE.out, HT.out, HK.out⟩
theorem boxP {b : Nat} {o : Obj} (h : w.heap[b]? = some o) (hk : Kept (fun _ => False) w w') : w'.heap[b]? = some o := (hk.block _ (lt_of_block h) (fun f => f)).trans h
theorem wf_i64 {i : Int} (h : -9223372036854775808 ≤ i ∧ i ≤ 9223372036854775807) : (Lit.int .i64 i).wf = true := by
  have e : IntKind.i64.min = -9223372036854775808 := by decide
  simp [Lit.wf, e]
  omega
theorem TD.delS (h : TD Z w q M c D E) {i : Int} (hown : w'.ownsMap Tryz.prog 3 tok q.s c (E.del (.int .i64 i))) (hk : Kept (fun j => j = q.s) w w') :
    TD Z w' q { M with S := updN M.S i none } c D (E.del (.int .i64 i)) := by
  have hnt := h.nt
  have hk2 : Kept (TBs q) w w' := hk.mono (fun j _ e => .inr (.inr e))
  refine ⟨?_, ownsMap_kept h.n hk h.ns, fun x => (h.N x).kept hk2 (fun b cur hb _ => h.noAcl b cur hb), hown, fun x => ?_, h.ns, h.okk, h.inZ, fun j hj => h.new j (Nat.le_trans hk.size hj)⟩
  · rw [hk.block q.t (h.lt _ (.inl rfl)) (fun e => hnt.2 e.symm)]; exact h.at_
  · by_cases e : x = i
    · subst e
      rw [lookV_del_same]
      show none = (updN M.S x none x).map sessV
      rw [updN_same]; rfl
    · rw [lookV_del_other (fun e' => e (by injection e'))]
      show _ = (updN M.S i none x).map sessV
      rw [updN_other _ _ _ e]; exact h.S x
/-- behind k parts of a session's end -/
structure PcRel (Z : Nat → Prop) (q : TB) (c : Nat) (w : World) (zx : Int) (M : TM) (x : T1) (y : TX) (l : List (T1 × TX)) (v iv : Value) (wr : World) : Prop where
  ex : ∃ k : Nat, iv = .int .i64 k ∧ k ≤ l.length ∧ EvsAt (w.heap.size + 1) wr v (partsM true zx M [] ((l.take k).map Prod.fst)).2 ∧ TAt Z wr q (partsM true zx M [] ((l.take k).map Prod.fst)).1 (c + 2 * k) ∧ Kept (TBs q) w wr ∧ wr.heap[w.heap.size]? = some (txnO x y)
set_option maxRecDepth 100000 in
set_option maxHeartbeats 4000000 in
theorem do_close (h : TAt Z w q M c) (x : T1) (y : TX) (zx : Int) (hs : SubsP q w y l) (h7 : x.kind = 6) (ho : -9223372036854775808 ≤ x.owner ∧ x.owner ≤ 9223372036854775807) (hc : c + 2 * l.length < 4611686018427387000) :
    Calls Tryz.prog 58 #[.pointer (some ⟨q.t, 0, none⟩), txnV x y, .int .i64 zx] w (CallPost Z q (c + 2 * l.length) w ({ (partsM true zx M [] (l.map Prod.fst)).1 with S := updN (partsM true zx M [] (l.map Prod.fst)).1.S x.owner none }, (partsM true zx M [] (l.map Prod.fst)).2)) := by
  have hk0 : Kept (fun _ => False) w (w.alloc (txnO x y)) := (Kept.refl _ w).alloc _
  have HT0 := Lib.hid (h.kept0 hk0)
  have HS0 := Lib.hid hs
  have HLT := Lib.hid h.lt
  have HB0 : Hid ((w.alloc (txnO x y)).heap[w.heap.size]? = some (txnO x y)) := Lib.hid (heap_alloc_new w _)
  have hk0' : Kept (TBs q) w (w.alloc (txnO x y)) := hk0.mono (fun _ _ f => f.elim)
  have HK0 := Lib.hid hk0'
  have hsn := hs.len
  have hfew := hs.few
  obtain ⟨xk, xp, xd, xl, xo, xn⟩ := x
  obtain ⟨aa, an, ac, ye, sa, sn, sc⟩ := y
  simp only at h7 hsn
  subst h7
  subst hsn
  have HO := Lib.hid ho
  clear h hs hk0 hk0' ho
  unfold txnV txnL at *
  go_enter Tryz.func58, Tryz.ntmps58
  go_wp2_with fail
  generalize w.alloc _ = wa at HT0 HK0 HB0 ⊢
  go_loopw [7, 33] (fun v iv wr => PcRel Z q c w zx M ⟨6, xp, xd, xl, xo, xn⟩ ⟨aa, an, ac, ye, sa, l.length, sc⟩ l v iv wr) (fun _ iv _ => l.length - (Go.RowKit.intOf iv).toNat)
  case atStart => exact ⟨0, rfl, Nat.zero_le _, World.ownsRow_nil _ _ _ _, HT0.out, HK0.out, HB0.out⟩
  case round =>
    obtain ⟨k, rfl, hk, hev, ht, hkp, hbx⟩ := hrel.ex
    clear hrel
    by_cases hlt : k < l.length
    · obtain ⟨p, hp⟩ : ∃ p, l[k]? = some p := ⟨_, List.getElem?_eq_getElem hlt⟩
      have hS := HS0.out.kept hkp
      obtain ⟨g, off, hsa, hg, hn, hcell⟩ := hS.at_ k p hp
      simp only at hsa
      subst hsa
      obtain ⟨htx, hpp⟩ := hS.tx p (List.mem_of_getElem? hp)
      have htk := take_snoc l hp
      obtain ⟨px, py⟩ := p
      have c0 := hcell 0 _ rfl
      have c1 := hcell 1 _ rfl
      have c2 := hcell 2 _ rfl
      have c3 := hcell 3 _ rfl
      have c4 := hcell 4 _ rfl
      have c5 := hcell 5 _ rfl
      have c6 := hcell 6 _ rfl
      have c7 := hcell 7 _ rfl
      rw [Nat.add_zero] at c0
      have hpl := parts_len true zx M ((l.take k).map Prod.fst) []
      have hpk : ((l.take k).map Prod.fst).length = k := by rw [List.length_map, List.length_take]; omega
      obtain ⟨l1, hl1⟩ : ∃ l1, (l.take k).map Prod.fst = l1 := ⟨_, rfl⟩
      rw [hl1] at hev ht htk hpl hpk
      obtain ⟨⟨Mk, ek⟩, hr⟩ : ∃ r, partsM true zx M [] l1 = r := ⟨_, rfl⟩
      rw [hr] at hev ht hpl
      simp only [List.length_nil] at hpl hev ht
      have hks : Kept (fun _ => False) wr (wr.alloc (txnO px py)) := (Kept.refl _ wr).alloc _
      have hks' : Kept (TBs q) wr (wr.alloc (txnO px py)) := hks.mono (fun _ _ f => f.elim)
      have HTA := Lib.hid (ht.kept0 hks)
      have HPA := Lib.hid (remove_any (ht.kept0 hks) px py zx hpp (by omega))
      have HBX1 := Lib.hid (boxP hbx hks)
      have HE1 := Lib.hid hev
      have HK1 := Lib.hid (hkp.trans hks')
      have HKS := Lib.hid hks
      have HRR := Lib.hid hr
      have HTK := Lib.hid htk
      have hel : ek.length ≤ 2 * k := by omega
      have HPN := Lib.hid (remove_len Mk px zx)
      have hz1 := hkp.size
      obtain ⟨va, vcap, rfl⟩ := own_shape hev
      clear hev ht hkp hbx hks hks' hr htk hcell htx hpp hS hp hl1 hpl hpk
      unfold txnV txnL at *
      by_cases hki : px.kind = 2
      · have HKI := Lib.hid hki
        obtain ⟨pk, pp, pd, pl, po, pn⟩ := px
        simp only at hki
        subst hki
        go_wp2_with (first
          | (go_at_call 92; refine HPA.out.mono ?_; rintro e w2 ⟨v2, rfl, hv2, ht2, hk2⟩; have HV2 := Lib.hid hv2; have HT2 := Lib.hid ht2; have HK2 := Lib.hid (HK1.out.trans hk2); have HE2 : Hid (EvsAt (w.heap.size + 1) w2 (.slice va ek.length vcap) ek) := Lib.hid (ownKept (EvsAt.alloc HE1.out _) hk2 (fun k e hx => by have h1 := (evs_block HE1.out e).1; have h2 := HLT.out k hx; omega)); have HB2 := Lib.hid ((hk2.block _ (lt_of_block HBX1.out) (fun hx => by have := HLT.out _ hx; omega)).trans HBX1.out); have hzz : w.heap.size + 1 ≤ w2.heap.size := lt_of_block HB2.out; obtain ⟨a2, cap2, rfl, hs2⟩ := own_src hv2; have HS2 := Lib.hid hs2; clear hv2 ht2 hk2 hs2)
          | (at_builtin; refine wpList_rows rowEv rfl _ _ rfl rfl HE2.out a2 _ cap2 (evsC (removeM Mk ⟨2, pp, pd, pl, po, pn⟩ zx).2) rfl (evsC_len _) HS2.out (evsC_one _) (by have := HPN.out; unfold maxLen; omega) (by have := HPN.out; omega) hzz (fun v3 w3 hv3 hg3 => ?_); have HV3 := Lib.hid hv3; have HG3 := Lib.hid hg3; clear hv3 hg3)
          | go_in)
        go_roundw
        case rel =>
          refine ⟨k + 1, by go_num, by omega, ?_, ?_, ?_, ?_⟩
          · rw [HTK.out, parts_snoc, if_neg (by simp), if_pos rfl, HRR.out]
            exact EvsAt.snoc (n := 0) (m := 0) HV3.out
          · rw [HTK.out, parts_snoc, if_neg (by simp), if_pos rfl, HRR.out]
            exact (HT2.out.app HE2.out HG3.out).mono (by omega)
          · exact kept_app HK2.out HE2.out (Nat.le_succ _) HG3.out
          · rw [HG3.out.block _ (lt_of_block HB2.out) (fun e => by have := (evs_block HE2.out e.symm).1; omega)]; exact HB2.out
        case measure => simp [Go.RowKit.intOf]; omega
      · have HKI := Lib.hid hki
        have hb2 : (px.kind == 2) = false := by simpa using hki
        clear hki
        go_wp2_with fail
        go_roundw
        case rel =>
          refine ⟨k + 1, by go_num, by omega, ?_, ?_, ?_, ?_⟩
          · rw [HTK.out, parts_snoc, if_pos ⟨rfl, HKI.out⟩, HRR.out]
            exact EvsAt.alloc HE1.out _
          · rw [HTK.out, parts_snoc, if_pos ⟨rfl, HKI.out⟩, HRR.out]
            exact HTA.out.mono (by omega)
          · exact HK1.out
          · exact HBX1.out
        case measure => simp [Go.RowKit.intOf]; omega
    · have hkn : k = l.length := by omega
      rw [hkn, List.take_length] at hev ht
      have HE := Lib.hid hev
      have HK := Lib.hid hkp
      obtain ⟨va, vcap, rfl⟩ := own_shape hev
      obtain ⟨D, E, hD⟩ := ht
      obtain ⟨d0, d1, d2, df⟩ := hD.three
      have b4 : wr.cell? ⟨w.heap.size, 4, none⟩ = some (.int .i64 xo) := by simp [World.cell?, hbx]
      have HD := Lib.hid (hD.kept0 ((Kept.refl _ wr).drew))
      have hown := HD.out.s
      have hoi : keyOf Tryz.prog 3 (.int .i64 xo) = some (.int .i64 xo) := keyOf_int_mk Tryz.underlying3 (wf_i64 HO.out)
      clear hev hkp hkn hbx hD
      go_wp2_with fail
      go_still_tail 6, (by kernel_rfl)
      change wpList _ _ _ _ _ wr.drew
      go_wp2_with (first
        | (at_delete; refine wpList_delete_own _ rfl _ _ 84 3 rfl 101 keyI Tryz.underlying84 tok q.s _ E rfl hown _ _ rfl hoi ?_; intro w4 hown4 hturn4; go_frame)
        | go_in)
      go_ret
      have hk4 := keptN hturn4
      have hkb : Kept (TBs q) wr w4 := (((Kept.refl _ wr).drew).mono (T := TBs q) (fun _ _ f => f)).trans (hk4.mono (fun j _ e => .inr (.inr e)))
      refine ⟨_, rfl, ?_, ⟨_, _, HD.out.delS hown4 hk4⟩, HK.out.trans hkb⟩
      exact EvsAt.mono (ownKept HE.out hkb (fun k e hx => by have h1 := (evs_block HE.out e).1; have h2 := HLT.out k hx; omega)) (Nat.le_succ _)
set_option maxRecDepth 100000 in
set_option maxHeartbeats 1000000 in
theorem do_open (h : TAt Z w q M c) (x : T1) (y : TX) (zx : Int) (h5 : x.kind = 5) (ho : -9223372036854775808 ≤ x.owner ∧ x.owner ≤ 9223372036854775807) (hc : c < 4611686018427387000) :
    Calls Tryz.prog 58 #[.pointer (some ⟨q.t, 0, none⟩), txnV x y, .int .i64 zx] w (CallPost Z q (c + 1) w (sessM M x.owner x.number x.data, [])) := by
  have hk0 : Kept (fun _ => False) w (w.alloc (txnO x y)) := (Kept.refl _ w).alloc _
  have HK0 := Lib.hid hk0
  have HP := Lib.hid (laySess_any (h.kept0 hk0) x.owner x.number x.data ho.1 ho.2 (by omega))
  obtain ⟨xk, xp, xd, xl, xo, xn⟩ := x
  simp only at h5
  subst h5
  clear h hk0 ho
  unfold txnV txnL at *
  go_enter Tryz.func58, Tryz.ntmps58
  go_wp2_with fail
  refine HP.out.mono ?_
  rintro e w1 ⟨rfl, ht, hk⟩
  have HT := Lib.hid ht
  have HK := Lib.hid ((HK0.out.mono (T := TBs q) (fun _ _ f => f.elim)).trans hk)
  clear ht hk
  go_wp2_with fail
  go_ret
  exact ⟨_, rfl, World.ownsRow_nil _ _ _ _, HT.out, HK.out⟩
/-- whatever transaction -/
structure TxP (q : TB) (w : World) (x : T1) (y : TX) (l : List (T1 × TX)) : Prop where
  tx : TxAt q w x y
  subs : SubsP q w y l
  path : x.path.size ≤ 140737488355328
  own : -9223372036854775808 ≤ x.owner ∧ x.owner ≤ 9223372036854775807
theorem TxP.kept0 {x : T1} (h : TxP q w x y l) (hk : Kept (fun _ => False) w w') : TxP q w' x y l := ⟨h.tx.kept0 hk, h.subs.kept0 hk, h.path, h.own⟩
theorem TxP.kept {x : T1} (h : TxP q w x y l) (hk : Kept (TBs q) w w') : TxP q w' x y l := ⟨h.tx.kept hk, h.subs.kept hk, h.path, h.own⟩
theorem do_any (h : TAt Z w q M c) (x : T1) (y : TX) (zx : Int) (hx : TxP q w x y l) (hc : c + 2 * l.length < 4611686018427387000) :
    Calls Tryz.prog 58 #[.pointer (some ⟨q.t, 0, none⟩), txnV x y, .int .i64 zx] w (CallPost Z q (c + 2 * l.length + 2) w (doM M ⟨x, y.err, l.map Prod.fst⟩ zx)) := by
  unfold doM
  by_cases h5 : x.kind = 5
  · rw [if_pos h5]
    exact (do_open h x y zx h5 hx.own (by omega)).mono fun e w' hp => hp.back (Kept.refl _ _) (by omega)
  · rw [if_neg h5]
    by_cases h6 : x.kind = 6
    · rw [if_pos h6]
      exact (do_close h x y zx hx.subs h6 hx.own hc).mono fun e w' hp => hp.back (Kept.refl _ _) (by omega)
    · rw [if_neg h6]
      by_cases h7 : x.kind = 7
      · rw [if_pos h7]
        exact (do_multi h x y zx hx.subs h7 hc).mono fun e w' hp => hp.back (Kept.refl _ _) (by omega)
      · rw [if_neg h7]
        exact (do_one h x y zx hx.tx hx.path (by omega) h5 h6 h7).mono fun e w' hp => hp.back (Kept.refl _ _) (by omega)
end
end Go.Proofs.YtenbdoceaabecaaGreat
