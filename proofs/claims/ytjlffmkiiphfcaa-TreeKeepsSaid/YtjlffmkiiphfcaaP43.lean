/- The law's txn: a session is closed. The law's txn. -/
import Derived.Test.YtjlffmkiiphfcaaP40
import Derived.Test.YtjlffmkiiphfcaaP42
import Derived.Test.YtjlffmkiiphfcaaP41
namespace Go.Proofs.Ytjlffmkiiphfcaa
open Go.ChangeShapes Go.WideShapes Go.ChangeAt Go.RowKit Go.Maps
set_option linter.unusedVariables false
set_option linter.unusedSimpArgs false
abbrev clsT (n : Int) : T1 := ⟨6, ⟨#[]⟩, ⟨#[]⟩, [], n, 0⟩
abbrev delT (p : ByteArray) (n : Int) : T1 := ⟨2, p, ⟨#[]⟩, [], 0, n⟩
theorem RV.apply2 {k : Nat} {R : RT} (h : RV k R) {x : T1} (hx : x.kind = 2) (hp : x.path.size ≤ 1000000) (zx : Int) : RV (k + 1) (applyR R x [] zx) := by
  have h1 := h.part x zx hp
  have : applyR R x [] zx = { (partR R x zx).1 with z := zx } := by
    unfold applyR doR
    rw [if_neg (by omega), if_neg (by omega), if_neg (by omega), if_neg (by omega)]
  rw [this]
  exact ⟨h1.ps, h1.N, h1.S⟩
theorem strC_at {w : World} {B : Nat} {v : Value} {l : List ByteArray} (h : StrAt B w v l) : ∃ a cap, v = .slice a l.length cap ∧ ∀ i p, l[i]? = some p → ∃ g, a = some ⟨g, 0, none⟩ ∧ g < w.heap.size ∧ w.cell? ⟨g, i, none⟩ = some (.string p) := by
  obtain ⟨a, cap, hv, hc⟩ := own_cell h
  refine ⟨a, cap, hv, fun i p hp => ?_⟩
  obtain ⟨g, ha, _, hg, hcell, _⟩ := hc i (.string p) (by unfold strC; rw [List.getElem?_map, hp]; rfl)
  exact ⟨g, ha, hg, hcell⟩
/-- the deletes so far: of the paths from the i-th on -/
def ClP (l : List ByteArray) (i : Nat) (q : List (T1 × TX)) : Prop := (∀ p ∈ q, p.1.kind = 2 ∧ p.1.owner = 0) ∧ ∀ (j : Nat) (p : ByteArray), i ≤ j → l[j]? = some p → ∃ y ∈ q, y.1.path = p
structure ClsRel (w : World) (m u : Nat) (R : RT) (n : Int) (l : List ByteArray) (B : Nat) (sv iv : Value) (wr : World) : Prop where
  ex : ∃ i : Nat, i ≤ l.length ∧ iv = .int .i64 ((i : Int) - 1) ∧ ∃ (R' : RT) (q : List (T1 × TX)), RAt wr u R' ∧ (∀ j, RBs wr u j → m + 1 ≤ j) ∧ CloseI l i R' ∧ RV (8000 + (l.length - i)) R' ∧ OutD wr m (clsT n) q ∧ q.length = l.length - i ∧
    ClP l i q ∧ Kept (fun _ => False) w wr ∧ TxRow wr (w.heap.size + 1) ∧ m + 1 ≤ wr.heap.size ∧ StrAt B wr sv l
theorem cl_end {w wr : World} {m : Nat} {R : RT} {n : Int} (hn : 1 ≤ n ∧ n ≤ 5) {q : List (T1 × TX)} {sa : Option Addr} {sc : Nat} (hm : w.heap.size + 2 ≤ m) (ho : OutD wr m (clsT n) q) (hl : q.length ≤ 1000000) (hb : wr.heap[m]? = some (txnO (clsT n) ⟨none, 0, 0, 0, sa, q.length, sc⟩)) (hk : Kept (fun _ => False) w wr) (ht : TxRow wr (w.heap.size + 1)) {l : List ByteArray} (hl0 : ownedR R n = l) (hp : ClP l 0 q) :
    TxnPost w R (.returned (txnV (clsT n) ⟨none, 0, 0, 0, sa, q.length, sc⟩)) (wr.setRow (w.heap.size + 1) (txnL (clsT n) ⟨none, 0, 0, 0, sa, q.length, sc⟩).toArray) := by
  obtain ⟨hx, hlo⟩ := ho.txw hl rfl (show (0 : Nat) ≤ 1000000 by decide) (by show _ ≤ n ∧ n ≤ _; omega) hb
  refine fin_txn (Nat.le_succ _) ht hk hx (fun b e e' => by have := hlo b e; omega) ⟨by simp, fun _ => hn, fun _ h => absurd rfl h, fun y hy => ?_, fun h => by simp at h, fun _ y hy => ?_, fun _ p hp2 => ?_⟩
  · obtain ⟨p, hp', rfl⟩ := List.mem_map.1 hy
    exact ⟨.inr (.inl (hp.1 p hp').1), .inl (hp.1 p hp').2⟩
  · obtain ⟨p, hp', rfl⟩ := List.mem_map.1 hy
    exact (hp.1 p hp').1
  · have hp3 : p ∈ l := by rw [← hl0]; exact hp2
    obtain ⟨j, hj⟩ := List.mem_iff_getElem?.1 hp3
    obtain ⟨y, hy, he⟩ := hp.2 j p (Nat.zero_le _) hj
    exact ⟨y.1, List.mem_map.2 ⟨y, hy, rfl⟩, he⟩
set_option maxRecDepth 100000 in
set_option maxHeartbeats 4000000 in
theorem txn_close {w : World} {b k : Nat} {R : RT} (h : RAt w b R) (hI : HInv k R) (hk : k ≤ 900) (zx : Int) (o : OpN) (ho : o.Fits) (va : Option Addr) (vc : Nat) (ls : List OpN) (hl : SubsD w (.slice va ls.length vc) ls) (hf : ∀ k ∈ ls, k.Fits) (hl6 : ls.length ≤ 6) (hq : absN o.a % 11 = 7) :
    Calls Try.prog 37 #[.pointer (some ⟨b, 0, none⟩), .agg #[.int .i64 o.a, .int .i64 o.b, .int .i64 o.c, .string o.s, .slice va ls.length vc], .int .i64 zx] w (TxnPost w R) := by
  obtain ⟨W, hW⟩ : ∃ W, (w.alloc (actO o (.slice va ls.length vc))).alloc (txnO ⟨0, ⟨#[]⟩, ⟨#[]⟩, [], 0, 0⟩ ⟨none, 0, 0, 0, none, 0, 0⟩) = W := ⟨_, rfl⟩
  have hkW : Kept (fun _ => False) w W := by rw [← hW]; exact ((Kept.refl _ w).alloc _).alloc _
  have hb1 : W.heap[w.heap.size]? = some (actO o (.slice va ls.length vc)) := by
    rw [← hW, Below.heap_alloc _ _ _ (by simp)]; exact heap_alloc_new w _
  have hb2 : W.heap[w.heap.size + 1]? = some (txnO ⟨0, ⟨#[]⟩, ⟨#[]⟩, [], 0, 0⟩ ⟨none, 0, 0, 0, none, 0, 0⟩) := by
    have h9 := heap_alloc_new (w.alloc (actO o (.slice va ls.length vc))) (txnO ⟨0, ⟨#[]⟩, ⟨#[]⟩, [], 0, 0⟩ ⟨none, 0, 0, 0, none, 0, 0⟩)
    rw [show (w.alloc (actO o (.slice va ls.length vc))).heap.size = w.heap.size + 1 by simp, hW] at h9
    exact h9
  have HKW := Lib.hid hkW
  have HB1 := Lib.hid hb1
  have HB2 := Lib.hid hb2
  have HR := Lib.hid (h.kept0 hkW)
  have HI := Lib.hid hI
  have HV : Hid (RV 8000 R) := Lib.hid (hI.rv (by omega))
  have HL := Lib.hid (hl.kept0 hkW)
  have HLW := Lib.hid hl
  have HF := Lib.hid hf
  have HO := Lib.hid ho
  obtain ⟨a0, a1, a2, a3, a4⟩ := actB hb1
  clear hb1 hb2 hkW h hI hl hf
  obtain ⟨n1, hn1⟩ : ∃ n, absN o.b % 5 = n := ⟨_, rfl⟩
  have hn5 : n1 < 5 := by rw [← hn1]; exact Nat.mod_lt _ (by decide)
  have HPA : Hid (∀ W, Calls Try.prog 13 #[.int .i64 o.a, .int .i64 11] W fun e w' => e = .returned (.int .i64 7) ∧ W = w') := Lib.hid (fun W => tpick_nat o.a 11 W ho.a.1 ho.a.2 (by decide) (by decide) hq)
  have HPB : Hid (∀ W, Calls Try.prog 13 #[.int .i64 o.b, .int .i64 5] W fun e w' => e = .returned (.int .i64 n1) ∧ W = w') := Lib.hid (fun W => tpick_nat o.b 5 W ho.b.1 ho.b.2 (by decide) (by decide) hn1)
  have hown : 1 ≤ wrap64 (1 + (n1 : Int)) ∧ wrap64 (1 + (n1 : Int)) ≤ 5 := by
    unfold wrap64; omega
  obtain ⟨m, hm⟩ : ∃ m, W.heap.size = m := ⟨_, rfl⟩
  have hWs : w.heap.size + 2 ≤ m := by rw [← hm]; have := lt_of_block HB2.out; omega
  have HOWN := Lib.hid hown
  clear hn1 hn5 hown
  go_enter Try.func37, Try.ntmps37
  go_upto_region 1 with fail
  clear hW
  go_upto_region 6 with (first
    | (go_at_call 13; with_reducible refine (HPA.out _).mono ?_; rintro e w' ⟨rfl, rfl⟩)
    | (go_at_call 13; with_reducible refine (HPB.out _).mono ?_; rintro e w' ⟨rfl, rfl⟩)
    | fail)
  obtain ⟨n, hn⟩ : ∃ n, wrap64 (1 + (n1 : Int)) = n := ⟨_, rfl⟩
  rw [hn] at HOWN ⊢
  obtain ⟨w3, hw3⟩ : ∃ w3, W.alloc (txnO (clsT n) ⟨none, 0, 0, 0, none, 0, 0⟩) = w3 := ⟨_, rfl⟩
  have hal : Kept (fun _ => False) W w3 := by rw [← hw3]; exact (Kept.refl _ W).alloc _
  have HAL := Lib.hid hal
  have hbn : w3.heap[m]? = some (txnO (clsT n) ⟨none, 0, 0, 0, none, 0, 0⟩) := by rw [← hw3, ← hm]; exact heap_alloc_new W _
  have HBN := Lib.hid hbn
  clear hal hbn
  unfold txnO clsT at hw3
  simp only at hw3
  try rw [hw3]
  clear hw3 a0 a1 a2 a3 a4 hn
  have HK3 := Lib.hid (HKW.out.trans HAL.out)
  have HR3 := Lib.hid (HR.out.kept0 HAL.out)
  have HT3 := Lib.hid ((txn_row HB2.out).kept0 HAL.out)
  go_wp2_with fail
  refine (rclone_any HR3.out (by have := HV.out.N; omega) (by have := HV.out.S; omega)).mono ?_
  rintro e w4 ⟨u, rfl, hU, hbu, hk4⟩
  have HU := Lib.hid hU
  have HBU : Hid (∀ j, RBs w4 u j → m + 1 ≤ j) := Lib.hid (fun j hj => by have h1 := hbu j hj; have h2 := lt_of_block HBN.out; omega)
  have HK4 := Lib.hid (HK3.out.trans hk4)
  have HR4 := Lib.hid (HR3.out.kept0 hk4)
  have HT4 := Lib.hid (HT3.out.kept0 hk4)
  have HBM4 := Lib.hid (box_kept0 HBN.out hk4)
  clear hU hbu hk4
  obtain ⟨t0, t1, t2, t3, t4, t5, t6, t7⟩ := txn8 HBM4.out
  go_wp2_with fail
  refine (rowned_any HR4.out n (by have := HV.out.N; omega)).mono ?_
  rintro e w5 ⟨sv, rfl, hS5, hk5⟩
  obtain ⟨l, hl⟩ : ∃ l, ownedR R n = l := ⟨_, rfl⟩
  have HPAR : Hid (∀ p ∈ l, placed R (parS p) = true ∧ ltP (parS p) p ∧ p.data.toList.length ≤ 60) := Lib.hid (by rw [← hl]; exact owned_parents HI.out.uq HI.out.cl HI.out.srt)
  have HSRT : Hid (l.Pairwise ltP) := Lib.hid (by rw [← hl]; exact owned_sorted HI.out.srt n)
  have hll : l.length ≤ 8000 := by rw [← hl]; exact Nat.le_trans (owned_len R n) HV.out.N
  have HOL := Lib.hid hl
  rw [hl] at hS5
  obtain ⟨sa0, sc0, rfl⟩ := own_shape hS5
  have HS5 := Lib.hid hS5
  have HU5 := Lib.hid (HU.out.kept0 hk5)
  have HBU5 : Hid (∀ j, RBs w5 u j → m + 1 ≤ j) := Lib.hid (fun j hj => HBU.out j ((rbs_kept hk5 HU.out.ltb (fun f => f) j).1 hj))
  have HK5 := Lib.hid (HK4.out.trans hk5)
  have HT5 := Lib.hid (HT4.out.kept0 hk5)
  have HO5 := Lib.hid (OutD.nil (box_kept0 HBM4.out hk5))
  have HSZ5 : Hid (m + 1 ≤ w5.heap.size) := Lib.hid (lt_of_block (box_kept0 HBM4.out hk5))
  clear t0 t1 t2 t3 t4 t5 t6 t7 hS5 hk5 hl
  go_wp2_with fail
  go_loopw [10] (fun iv wr => ClsRel w m u R n l w4.heap.size (.slice sa0 l.length sc0) iv wr) (fun iv _ => (Go.RowKit.intOf iv + 1).toNat)
  case atStart => exact ⟨l.length, Nat.le_refl _, rfl, R, [], HU5.out, HBU5.out, ⟨fun p hp => (HPAR.out p (by simpa using hp)).1⟩, HV.out.mono (by omega), HO5.out, by simp, ⟨fun _ h => (List.not_mem_nil h).elim, fun j p hj he => absurd (List.getElem?_eq_some_iff.1 he).1 (by omega)⟩, HK5.out, HT5.out, HSZ5.out, HS5.out⟩
  case round =>
    obtain ⟨i, hin, rfl, R', q, hU', hbu', hC', hV', hO', hql, hpl, hkr, htr, hsz, hs⟩ := hrel.ex
    clear hrel
    have HUr := Lib.hid hU'
    have HBUr := Lib.hid hbu'
    have HCr := Lib.hid hC'
    have HVr := Lib.hid hV'
    have HOr := Lib.hid hO'
    have HPL := Lib.hid hpl
    have HKR := Lib.hid hkr
    have HTr := Lib.hid htr
    have HSr := Lib.hid hs
    have HQL := Lib.hid hql
    clear hU' hbu' hC' hV' hO' hpl hkr htr hs hql
    rcases i with _ | j
    · obtain ⟨sa, sc, hbm, hrm⟩ := HOr.out.ex
      obtain ⟨z0, z1, z2, z3, z4, z5, z6, z7⟩ := txn8 hbm
      obtain ⟨c, hc, hcs⟩ := HTr.out
      have HBC := Lib.hid hc
      have HBM := Lib.hid hbm
      clear hbm hrm hc
      go_wp2_with (first
        | (refine wpList_store_row _ rfl 38 _ _ rfl (w.heap.size + 1) _ (txnL (clsT n) ⟨none, 0, 0, 0, sa, q.length, sc⟩) rfl rfl HBC.out txn_info hcs (by simp [Value.oneCell', txnL]) ?_)
        | fail)
      refine ret_box1 6 38 (w.heap.size + 1) _ ?_ ?_ (load_row (x := clsT n) (y := ⟨none, 0, 0, 0, sa, q.length, sc⟩) HTr.out) ?_ ?_
      exact rfl
      exact rfl
      exact rfl
      exact cl_end HOWN.out hWs HOr.out (by have := HQL.out; omega) HBM.out HKR.out HTr.out HOL.out HPL.out
    · rw [show (((j + 1 : Nat) : Int) - 1) = (j : Int) by omega]
      obtain ⟨p, hp⟩ : ∃ p, l[j]? = some p := ⟨_, List.getElem?_eq_getElem (by omega)⟩
      have hpm := List.mem_of_getElem? hp
      have hpp : placed R' (parS p) = true := HCr.out.up p (List.mem_take_iff_getElem.2 ⟨j, by omega, (List.getElem?_eq_some_iff.1 hp).2⟩)
      have hpz : p.data.toList.length ≤ 60 := (HPAR.out p hpm).2.2
      have hpz : p.size ≤ 60 := by
        have e : p.data.toList.length = p.size := Array.length_toList
        omega
      obtain ⟨sa9, sc9, ev, hcc⟩ := strC_at HSr.out
      injection ev with e1 e2 e3
      subst e1 e3
      obtain ⟨gs, rfl, hgs, hcs⟩ := hcc j p hp
      clear hcc e2
      obtain ⟨kk, hkk, hplace⟩ : ∃ kk : Nat, kk < R'.N.length ∧ placeI R'.N (parS p) = kk := by
        rcases placeI_cases R'.N (parS p) with ⟨h1, _⟩ | ⟨kk, hk, h1, _, _⟩
        · unfold placed at hpp; rw [h1] at hpp; simp at hpp
        · exact ⟨kk, hk, h1⟩
      have HPLC : Hid (Calls Try.prog 60 #[.pointer (some ⟨u, 0, none⟩), .string (parS p)] wr fun e w' => e = .returned (.int .i64 kk) ∧ wr = w') := Lib.hid (by rw [← hplace]; exact place_any HUr.out _)
      have hpar : ltP (parS p) p := (HPAR.out p hpm).2.1
      obtain ⟨L, nv, ssv, hD⟩ := HUr.out
      obtain ⟨na, ncap, rfl, hcap, hnode⟩ := hD.node
      have hLL : L.length = R'.N.length := rd_len hD
      obtain ⟨ng, ⟨pn, pv⟩, rfl, hng, _, hnc, _⟩ := hnode kk (by omega)
      obtain ⟨cv, hcv⟩ : ∃ cv, pn.st.cver = cv := ⟨_, rfl⟩
      have KF : Hid (∀ W', Kept (fun _ => False) wr W' → W'.cell? ⟨gs, j, none⟩ = some (.string p) ∧ W'.cell? ⟨u, 0, none⟩ = some (.slice (some ⟨ng, 0, none⟩) L.length ncap) ∧ W'.cell? ⟨ng, kk * 12 + 7, none⟩ = some (.int .i64 cv)) := Lib.hid (fun W' hW => by
        obtain ⟨c0, c1, c2, cf⟩ := (hD.kept0 hW).cells
        obtain ⟨x0, x1, x2, x3, x4, x5, x6, x7, x8, x9, x10, x11⟩ := nodeAt hnc hng hW
        exact ⟨(World.cell?_of_block (w := wr) (hW.block gs hgs (fun f => f))).trans hcs, c0, by rw [← hcv]; exact x7⟩)
      have k0 : (0 : Int) ≤ (kk : Int) := by omega
      have k1 : (kk : Int) < (L.length : Int) := by omega
      have k2 : (0 : Int) ≤ (j : Int) := by omega
      have k3 : (j : Int) < (l.length : Int) := by omega
      have k4 : ¬ ((kk : Int) < 0) := by omega
      clear hD hnode hnc hcs hplace hpp
      obtain ⟨i0, i1, i2⟩ := KF.out wr (Kept.refl _ wr)
      go_wp2_with (first
        | (go_at_call 50; with_reducible refine (refParent_any _ _ (by omega)).mono ?_; rintro e w' ⟨rfl, rfl⟩)
        | (go_at_call 60; with_reducible refine (HPLC.out).mono ?_; rintro e w' ⟨rfl, rfl⟩)
        | fail)
      obtain ⟨f0, f1, f2⟩ := KF.out wr.drew ((Kept.refl _ wr).drew)
      obtain ⟨g0, g1, g2⟩ := KF.out (wr.alloc (txnO ⟨0, ⟨#[]⟩, ⟨#[]⟩, [], 0, 0⟩ ⟨none, 0, 0, 0, none, 0, 0⟩)).drew (((Kept.refl _ wr).alloc _).drew)
      go_region
      obtain ⟨nv, hnv⟩ : ∃ nv, wrap64 (cv + 1) = nv := ⟨_, rfl⟩
      rw [hnv]
      obtain ⟨w7, hw7⟩ : ∃ w7, (wr.alloc (txnO (delT p nv) ⟨none, 0, 0, 0, none, 0, 0⟩)).drew = w7 := ⟨_, rfl⟩
      have hk7 : Kept (fun _ => False) wr w7 := by rw [← hw7]; exact ((Kept.refl _ wr).alloc _).drew
      have hbv : w7.heap[wr.heap.size]? = some (txnO (delT p nv) ⟨none, 0, 0, 0, none, 0, 0⟩) := by rw [← hw7]; exact heap_alloc_new wr _
      unfold txnO delT at hw7
      simp only at hw7
      try rw [hw7]
      have HBV7 := Lib.hid hbv
      have HK7 := Lib.hid hk7
      have HU7 := Lib.hid (HUr.out.kept0 hk7)
      have HBU7 : Hid (∀ j, RBs w7 u j → m + 1 ≤ j) := Lib.hid (fun j hj => HBUr.out j ((rbs_kept hk7 HUr.out.ltb (fun f => f) j).1 hj))
      have HO7 := Lib.hid (HOr.out.kept0 hk7)
      have HKR7 := Lib.hid (HKR.out.trans hk7)
      have HT7 := Lib.hid (HTr.out.kept0 hk7)
      have HSZ7 : Hid (m + 1 ≤ w7.heap.size) := Lib.hid (Nat.le_trans hsz hk7.size)
      have HS7 := Lib.hid (HSr.out.kept hk7 (fun _ _ f => f))
      clear hw7 hk7 hbv hnv f0 f1 f2 g0 g1 g2 i0 i1 i2
      obtain ⟨sa, sc, hbmr, hrmr⟩ := HOr.out.ex
      have hbm := box_kept0 hbmr HK7.out
      have hrm := ownKept hrmr HK7.out (fun _ _ f => f)
      have HLO : Hid (∀ t, (Value.slice sa q.length sc).ownBlock = some t → ¬ t = wr.heap.size) := Lib.hid (fun t e e' => by
        have := (own_lo hrmr e).2.1
        omega)
      have HMV : Hid (¬ wr.heap.size = m) := Lib.hid (by have := lt_of_block hbmr; omega)
      have HRM := Lib.hid hrm
      have HBM := Lib.hid hbm
      have HFL : Hid (q.length ≤ 8000) := Lib.hid (by have := HQL.out; omega)
      have HX7 : Hid (AclW w7 (.slice none 0 0) []) := Lib.hid (AclW.nil _)
      obtain ⟨t0, t1, t2, t3, t4, t5, t6, t7⟩ := txn8 HBV7.out
      obtain ⟨z0, z1, z2, z3, z4, z5, z6, z7⟩ := txn8 hbm
      clear hrm hbm hbmr hrmr
      go_upto_region 14 with (first
        | (at_builtin; refine wpList_row1 txs_row rfl _ _ rfl rfl HRM.out (txnL (delT p nv) ⟨none, 0, 0, 0, none, 0, 0⟩) rfl rfl (by simp [Value.oneCell', txnL]) (by have := HFL.out; omega) (by have := HFL.out; unfold maxLen; omega) HSZ7.out ?_; intro v8 w8 hown8 hg8; obtain ⟨a8, c8, rfl⟩ := own_shape hown8; have HAP := Lib.hid (HO7.out.app (p := (delT p nv, ⟨none, 0, 0, 0, none, 0, 0⟩)) HBM.out HRM.out HX7.out (Nat.le_trans hpz (by decide)) hown8 hg8); obtain ⟨q0, q1, q2, q3, q4, q5, q6, q7⟩ := txn8 HAP.out.1; have fz : w8.frozen? ⟨m, 7, none⟩ = false := (by simp [World.frozen?, HAP.out.1]))
        | fail)
      obtain ⟨w9, hw9⟩ : ∃ w9, w8.setCell ⟨m, 7, none⟩ (.slice a8 (q.length + 1) c8) = w9 := ⟨_, rfl⟩
      obtain ⟨_, hO9, hk9, hR9⟩ := HAP.out
      rw [hw9] at hO9 hk9 hR9
      rw [hw9]
      have HO9 := Lib.hid hO9
      have HU9 := Lib.hid (hR9 u R' HU7.out).1
      have HBU9 : Hid (∀ j, RBs w9 u j → m + 1 ≤ j) := Lib.hid (fun j hj => HBU7.out j ((hR9 u R' HU7.out).2 j hj))
      have hbv9 : w9.heap[wr.heap.size]? = some (txnO (delT p nv) ⟨none, 0, 0, 0, none, 0, 0⟩) := by
        rw [hk9.block _ (lt_of_block HBV7.out) (fun e => by
          rcases e with e | e
          · exact HMV.out e
          · exact HLO.out _ e.symm rfl)]
        exact HBV7.out
      have hlow : ∀ j, j = m ∨ some j = (Value.slice sa q.length sc).ownBlock → m ≤ j := fun j e => by
        rcases e with e | e
        · omega
        · have := (own_lo HRM.out e.symm).1; omega
      have HKR9 : Hid (Kept (fun _ => False) w w9) := Lib.hid (HKR7.out.trans' hk9 (fun j hj e => by have := hlow j e; omega))
      have HT9 : Hid (TxRow w9 (w.heap.size + 1)) := Lib.hid (by
        obtain ⟨c, hc, hcs⟩ := HT7.out
        exact ⟨c, by rw [hk9.block _ (lt_of_block hc) (fun e => by have := hlow _ e; omega)]; exact hc, hcs⟩)
      have HSZ9 : Hid (m + 1 ≤ w9.heap.size) := Lib.hid (Nat.le_trans HSZ7.out hk9.size)
      have HS9 := Lib.hid (HS7.out.kept hk9 (fun t e e' => by
        obtain ⟨_, _, cur, hc⟩ := own_lo HS7.out e
        rcases e' with e' | e'
        · subst e'
          rw [HBM.out] at hc; simp at hc
        · obtain ⟨_, _, cur', hc'⟩ := own_lo HRM.out e'.symm
          rw [hc] at hc'; simp at hc'))
      have hx9 : TxW w9 (delT p nv) ⟨none, 0, 0, 0, none, 0, 0⟩ [] := txw_nil (AclW.nil _) ⟨rfl, rfl, rfl⟩ (Nat.le_trans hpz (by decide)) (show (-9223372036854775808 : Int) ≤ 0 ∧ (0 : Int) ≤ 9223372036854775807 by decide)
      have HAY := Lib.hid (rapply_any HU9.out ⟨zx, 0, 0⟩ (delT p nv) ⟨none, 0, 0, 0, none, 0, 0⟩ [] hx9 (HVr.out.mono (by omega)))
      unfold entV at HAY
      obtain ⟨t0', t1', t2', t3', t4', t5', t6', t7'⟩ := txn8 hbv9
      have HCN : Hid (CloseI l j (applyR R' (delT p nv) [] zx)) := Lib.hid (HCr.out.next HSRT.out (fun p hp => (HPAR.out p hp).2.1) hp rfl rfl)
      have HVN : Hid (RV (8000 + (l.length - j)) (applyR R' (delT p nv) [] zx)) := Lib.hid (by
        have := HVr.out.apply2 (x := delT p nv) rfl (Nat.le_trans hpz (by decide)) zx
        rw [show 8000 + (l.length - (j + 1)) + 1 = 8000 + (l.length - j) by omega] at this
        exact this)
      clear t0 t1 t2 t3 t4 t5 t6 t7 z0 z1 z2 z3 z4 z5 z6 z7 q0 q1 q2 q3 q4 q5 q6 q7 fz hw9 hO9 hk9 hR9 hbv9 hlow hx9 HAP
      go_wp2_with fail
      refine HAY.out.mono ?_
      rintro e w10 ⟨ev, en, rfl, hU10, hst⟩
      have HST := Lib.hid hst
      have HU10 := Lib.hid hU10
      clear hU10 hst
      go_wp2_with fail
      go_roundw
      case rel =>
        refine ⟨j, by omega, by go_num, applyR R' (delT p nv) [] zx, q ++ [(delT p nv, ⟨none, 0, 0, 0, none, 0, 0⟩)], HU10.out, fun j hj => ?_, HCN.out, HVN.out, HO9.out.step HU9.out HST.out, by have := HQL.out; simp; omega, ⟨fun p' hp' => ?_, fun j' p' hj' he' => ?_⟩, HKR9.out.trans' HST.out.kept (fun j hj e => by have := HBU9.out j e; omega), ?_, Nat.le_trans HSZ9.out HST.out.kept.size, row_step HS9.out HU9.out HST.out (by decide) (by decide) (by decide)⟩
        · rcases HST.out.bs j hj with h | h
          · exact HBU9.out j h
          · exact Nat.le_trans HSZ9.out h
        · rcases List.mem_append.1 hp' with hp' | hp'
          · exact HPL.out.1 p' hp'
          · simp at hp'
            subst hp'
            exact ⟨rfl, rfl⟩
        · rcases Nat.eq_or_lt_of_le hj' with e | e
          · subst e
            have he2 : p' = p := by rw [hp] at he'; injection he' with he'; exact he'.symm
            exact ⟨(delT p nv, ⟨none, 0, 0, 0, none, 0, 0⟩), by simp, he2.symm⟩
          · obtain ⟨y, hy, hy2⟩ := HPL.out.2 j' p' e he'
            exact ⟨y, List.mem_append_left _ hy, hy2⟩
        · obtain ⟨c, hc, hcs⟩ := HT9.out
          exact ⟨c, by rw [HST.out.kept.block _ (lt_of_block hc) (HU9.out.other hc (by decide) (by decide) (by decide))]; exact hc, hcs⟩
      case measure => simp [Go.RowKit.intOf] <;> omega
end Go.Proofs.Ytjlffmkiiphfcaa

namespace Go.Proofs.Ytjlffmkiiphfcaa
open Go.ChangeShapes Go.WideShapes Go.ChangeAt Go.RowKit Go.Maps
set_option linter.unusedVariables false
theorem txn_any {w : World} {b k : Nat} {R : RT} (h : RAt w b R) (hI : HInv k R) (hk : k ≤ 900) (zx : Int) (o : OpN) (ho : o.Fits) (va : Option Addr) (vc : Nat) (ls : List OpN) (hl : SubsD w (.slice va ls.length vc) ls) (hf : ∀ k ∈ ls, k.Fits) (hl6 : ls.length ≤ 6) :
    Calls Try.prog 37 #[.pointer (some ⟨b, 0, none⟩), .agg #[.int .i64 o.a, .int .i64 o.b, .int .i64 o.c, .string o.s, .slice va ls.length vc], .int .i64 zx] w (TxnPost w R) := by
  rcases (show absN o.a % 11 ≤ 5 ∨ absN o.a % 11 = 6 ∨ absN o.a % 11 = 7 ∨ absN o.a % 11 = 8 ∨ absN o.a % 11 = 9 ∨ absN o.a % 11 = 10 by omega) with h0 | h0 | h0 | h0 | h0 | h0
  · exact txn_part h hI hk zx o ho va vc ls hl hf hl6 h0
  · exact txn_open h hI hk zx o ho va vc ls hl hf hl6 h0
  · exact txn_close h hI hk zx o ho va vc ls hl hf hl6 h0
  · exact txn_multi h hI hk zx o ho va vc ls hl hf hl6 h0
  · exact txn_err h hI hk zx o ho va vc ls hl hf hl6 h0
  · exact txn_noop h hI hk zx o ho va vc ls hl hf hl6 h0
end Go.Proofs.Ytjlffmkiiphfcaa
