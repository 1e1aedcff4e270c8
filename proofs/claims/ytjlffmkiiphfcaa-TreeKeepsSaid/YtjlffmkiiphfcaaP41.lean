/- The law's txn: a multi. -/
import Derived.Test.YtjlffmkiiphfcaaP40
namespace Go.Proofs.Ytjlffmkiiphfcaa
open Go.ChangeShapes Go.WideShapes Go.ChangeAt Go.RowKit Go.Maps
set_option linter.unusedVariables false
set_option linter.unusedSimpArgs false
abbrev mulT : T1 := ⟨7, ⟨#[]⟩, ⟨#[]⟩, [], 0, 0⟩
structure MuRel (w : World) (m u k n : Nat) (R : RT) (o : OpN) (v : Value) (iv : Value) (wr : World) : Prop where
  ex : ∃ i, i ≤ n ∧ iv = .int .i64 (i : Nat) ∧ ∃ (R' : RT) (l : List (T1 × TX)), RAt wr u R' ∧ (∀ j, RBs wr u j → m + 1 ≤ j) ∧ HInv (k + i) R' ∧ R'.S = R.S ∧ OutD wr m mulT l ∧ l.length ≤ i ∧
    (∀ p ∈ l, (p.1.kind = 1 ∨ p.1.kind = 2 ∨ p.1.kind = 3 ∨ p.1.kind = 4) ∧ (p.1.owner = 0 ∨ ∃ s ∈ R.S, s.id = p.1.owner)) ∧ Kept (fun _ => False) w wr ∧ wr.heap[w.heap.size]? = some (actO o v) ∧ TxRow wr (w.heap.size + 1) ∧ m + 1 ≤ wr.heap.size
theorem mu_end {w wr : World} {m : Nat} {R : RT} {l : List (T1 × TX)} {sa : Option Addr} {sc : Nat} (hm : w.heap.size + 2 ≤ m) (ho : OutD wr m mulT l) (hl : l.length ≤ 6) (hb : wr.heap[m]? = some (txnO mulT ⟨none, 0, 0, 0, sa, l.length, sc⟩)) (hk : Kept (fun _ => False) w wr) (ht : TxRow wr (w.heap.size + 1)) (hp : ∀ p ∈ l, (p.1.kind = 1 ∨ p.1.kind = 2 ∨ p.1.kind = 3 ∨ p.1.kind = 4) ∧ (p.1.owner = 0 ∨ ∃ s ∈ R.S, s.id = p.1.owner)) :
    TxnPost w R (.returned (txnV mulT ⟨none, 0, 0, 0, sa, l.length, sc⟩)) (wr.setRow (w.heap.size + 1) (txnL mulT ⟨none, 0, 0, 0, sa, l.length, sc⟩).toArray) := by
  obtain ⟨hx, hlo⟩ := ho.txw (by omega) rfl (by decide) (by decide) hb
  refine fin_txn (Nat.le_succ _) ht hk hx (fun b e e' => by have := hlo b e; omega) ⟨by simp, fun h => by simp at h, fun _ _ => .inl rfl, fun y hy => ?_, fun _ => by simp; omega, fun h => by simp at h, fun h => by simp at h⟩
  obtain ⟨p, hp', rfl⟩ := List.mem_map.1 hy
  exact hp p hp'
set_option maxRecDepth 100000 in
set_option maxHeartbeats 4000000 in
theorem txn_multi {w : World} {b k : Nat} {R : RT} (h : RAt w b R) (hI : HInv k R) (hk : k ≤ 900) (zx : Int) (o : OpN) (ho : o.Fits) (va : Option Addr) (vc : Nat) (ls : List OpN) (hl : SubsD w (.slice va ls.length vc) ls) (hf : ∀ k ∈ ls, k.Fits) (hl6 : ls.length ≤ 6) (hq : absN o.a % 11 = 8) :
    Calls Try.prog 37 #[.pointer (some ⟨b, 0, none⟩), .agg #[.int .i64 o.a, .int .i64 o.b, .int .i64 o.c, .string o.s, .slice va ls.length vc], .int .i64 zx] w (TxnPost w R) := by
  obtain ⟨W, hW⟩ : ∃ W, (w.alloc (actO o (.slice va ls.length vc))).alloc (txnO ⟨0, ⟨#[]⟩, ⟨#[]⟩, [], 0, 0⟩ ⟨none, 0, 0, 0, none, 0, 0⟩) = W := ⟨_, rfl⟩
  have hkW : Kept (fun _ => False) w W := by rw [← hW]; exact ((Kept.refl _ w).alloc _).alloc _
  have hb1 : W.heap[w.heap.size]? = some (actO o (.slice va ls.length vc)) := by
    rw [← hW, Below.heap_alloc _ _ _ (by simp)]; exact heap_alloc_new w _
  have hb2 : W.heap[w.heap.size + 1]? = some (txnO ⟨0, ⟨#[]⟩, ⟨#[]⟩, [], 0, 0⟩ ⟨none, 0, 0, 0, none, 0, 0⟩) := by
    have h9 := heap_alloc_new (w.alloc (actO o (.slice va ls.length vc))) (txnO ⟨0, ⟨#[]⟩, ⟨#[]⟩, [], 0, 0⟩ ⟨none, 0, 0, 0, none, 0, 0⟩)
    rw [show (w.alloc (actO o (.slice va ls.length vc))).heap.size = w.heap.size + 1 by simp, hW] at h9
    exact h9
  have HKW := Lib.hid hkW
  have HB1 := Lib.hid hb1
  have HB2 := Lib.hid hb2
  have HR := Lib.hid (h.kept0 hkW)
  have HI := Lib.hid hI
  have HV : Hid (RV 8000 R) := Lib.hid (hI.rv (by omega))
  have HL := Lib.hid (hl.kept0 hkW)
  have HLW := Lib.hid hl
  have HF := Lib.hid hf
  have HO := Lib.hid ho
  obtain ⟨a0, a1, a2, a3, a4⟩ := actB hb1
  clear hb1 hb2 hkW h hI hl hf
  have HPA : Hid (∀ W, Calls Try.prog 13 #[.int .i64 o.a, .int .i64 11] W fun e w' => e = .returned (.int .i64 8) ∧ W = w') := Lib.hid (fun W => tpick_nat o.a 11 W ho.a.1 ho.a.2 (by decide) (by decide) hq)
  obtain ⟨m, hm⟩ : ∃ m, W.heap.size = m := ⟨_, rfl⟩
  have hWs : w.heap.size + 2 ≤ m := by rw [← hm]; have := lt_of_block HB2.out; omega
  go_enter Try.func37, Try.ntmps37
  go_upto_region 1 with fail
  clear hW
  go_upto_region 18 with (first
    | (go_at_call 13; with_reducible refine (HPA.out _).mono ?_; rintro e w' ⟨rfl, rfl⟩)
    | fail)
  obtain ⟨w3, hw3⟩ : ∃ w3, W.alloc (txnO mulT ⟨none, 0, 0, 0, none, 0, 0⟩) = w3 := ⟨_, rfl⟩
  have hal : Kept (fun _ => False) W w3 := by rw [← hw3]; exact (Kept.refl _ W).alloc _
  have HAL := Lib.hid hal
  have hbn : w3.heap[m]? = some (txnO mulT ⟨none, 0, 0, 0, none, 0, 0⟩) := by rw [← hw3, ← hm]; exact heap_alloc_new W _
  have HBN := Lib.hid hbn
  clear hal hbn
  unfold txnO mulT at hw3
  simp only at hw3
  try rw [hw3]
  clear hw3 a0 a1 a2 a3 a4
  have HK3 := Lib.hid (HKW.out.trans HAL.out)
  have HR3 := Lib.hid (HR.out.kept0 HAL.out)
  have HB13 := Lib.hid (box_kept0 HB1.out HAL.out)
  have HT3 := Lib.hid ((txn_row HB2.out).kept0 HAL.out)
  go_wp2_with fail
  refine (rclone_any HR3.out (by have := HV.out.N; omega) (by have := HV.out.S; omega)).mono ?_
  rintro e w4 ⟨u, rfl, hU, hbu, hk4⟩
  have HU := Lib.hid hU
  have HBU : Hid (∀ j, RBs w4 u j → m + 1 ≤ j) := Lib.hid (fun j hj => by have h1 := hbu j hj; have h2 := lt_of_block HBN.out; omega)
  have HK4 := Lib.hid (HK3.out.trans hk4)
  have HB14 := Lib.hid (box_kept0 HB13.out hk4)
  have HT4 := Lib.hid (HT3.out.kept0 hk4)
  have HO4 := Lib.hid (OutD.nil (box_kept0 HBN.out hk4))
  have HS4 : Hid (m + 1 ≤ w4.heap.size) := Lib.hid (lt_of_block (box_kept0 HBN.out hk4))
  clear hU hbu hk4
  go_wp2_with fail
  go_loopw [15] (fun iv wr => MuRel w m u k ls.length R o (.slice va ls.length vc) iv wr) (fun iv _ => ls.length - (Go.RowKit.intOf iv).toNat)
  case atStart => exact ⟨0, Nat.zero_le _, rfl, R, [], HU.out, HBU.out, HI.out, rfl, HO4.out, Nat.zero_le _, fun _ h => (List.not_mem_nil h).elim, HK4.out, HB14.out, HT4.out, HS4.out⟩
  case round =>
    obtain ⟨i, hin, rfl, R', l, hU', hbu', hI', hS', hO', hll, hpl, hkr, hb1, htr, hsz⟩ := hrel.ex
    clear hrel
    have HUr := Lib.hid hU'
    have HBUr := Lib.hid hbu'
    have HIr := Lib.hid hI'
    have HSr := Lib.hid hS'
    have HOr := Lib.hid hO'
    have HPL := Lib.hid hpl
    have HKR := Lib.hid hkr
    have HB1r := Lib.hid hb1
    have HTr := Lib.hid htr
    obtain ⟨b0, b1, b2, b3, b4⟩ := actB hb1
    clear hU' hbu' hI' hS' hO' hpl hkr hb1 htr
    by_cases g1 : i < ls.length
    · have g2 : i < 6 := by omega
      obtain ⟨va', vc', ev, hcc⟩ := HLW.out.ex
      injection ev with e1 e2 e3
      subst e1 e3
      obtain ⟨g, off, sx, sy, sz, rfl, hg, hc⟩ := hcc i g1
      obtain ⟨p, hp⟩ : ∃ p, ls[i] = p := ⟨_, rfl⟩
      rw [hp] at hc
      have HPF : Hid p.Fits := Lib.hid (HF.out p (by rw [← hp]; exact List.getElem_mem g1))
      have kc : ∀ o, wr.cell? ⟨g, o, none⟩ = w.cell? ⟨g, o, none⟩ := fun o => World.cell?_of_block (w := w) (HKR.out.block g hg (fun f => f))
      have c0 : wr.cell? ⟨g, off + i * 5, none⟩ = some (.int .i64 p.a) := (kc _).trans (hc 0 _ rfl)
      have c1 : wr.cell? ⟨g, off + i * 5 + 1, none⟩ = some (.int .i64 p.b) := (kc _).trans (hc 1 _ rfl)
      have c2 : wr.cell? ⟨g, off + i * 5 + 2, none⟩ = some (.int .i64 p.c) := (kc _).trans (hc 2 _ rfl)
      have c3 : wr.cell? ⟨g, off + i * 5 + 3, none⟩ = some (.string p.s) := (kc _).trans (hc 3 _ rfl)
      have c4 : wr.cell? ⟨g, off + i * 5 + 4, none⟩ = some (.slice sx sy sz) := (kc _).trans (hc 4 _ rfl)
      have HRV : Hid (RV 8000 R') := Lib.hid (HIr.out.rv (by omega))
      have HPT := Lib.hid (lpart_any HUr.out p HPF.out sx sy sz (HRV.out.mono (by decide)) (fun n hn => Nat.le_trans (HIr.out.path n hn) (by decide)) HIr.out.ne (fun s hs => by have := HIr.out.ids s hs; omega))
      clear hcc hc kc e2 hp
      go_wp2_with fail
      refine HPT.out.mono ?_
      rintro e w5 ⟨x, y, ok, rfl, hx, hP, hk5⟩
      obtain ⟨w6, hw6⟩ : ∃ w6, (w5.alloc (txnO ⟨0, ⟨#[]⟩, ⟨#[]⟩, [], 0, 0⟩ ⟨none, 0, 0, 0, none, 0, 0⟩)).setRow w5.heap.size (txnL x y).toArray = w6 := ⟨_, rfl⟩
      have hz := heap_alloc_new w5 (txnO ⟨0, ⟨#[]⟩, ⟨#[]⟩, [], 0, 0⟩ ⟨none, 0, 0, 0, none, 0, 0⟩)
      have HZ := Lib.hid hz
      have hal : Kept (fun _ => False) w5 w6 := by
        rw [← hw6]
        exact kept_in (setRow_kept _ _ _) ((Kept.refl _ w5).alloc _) (Nat.le_refl _)
      have hbn : w6.heap[w5.heap.size]? = some (txnO x y) := by rw [← hw6]; exact (txn_row hz).set _
      have HBV := Lib.hid hbn
      have HK56 := Lib.hid (hk5.trans hal)
      have HX6 := Lib.hid (hx.kept0 hal)
      have HPO := Lib.hid hP
      have HSV : Hid (wr.heap.size ≤ w5.heap.size) := Lib.hid hk5.size
      clear hx hP hk5 hal hbn hz c0 c1 c2 c3 c4 HPT b0 b1 b2 b3 b4
      go_upto_region 23 with (first
        | (refine wpList_store_row _ rfl 38 _ _ rfl w5.heap.size _ (txnL x y) rfl rfl HZ.out txn_info rfl (by simp [Value.oneCell', txnL]) ?_)
        | fail)
      try rw [hw6]
      clear hw6 HZ
      have HU6 := Lib.hid (HUr.out.kept0 HK56.out)
      have HBU6 : Hid (∀ j, RBs w6 u j → m + 1 ≤ j) := Lib.hid (fun j hj => HBUr.out j ((rbs_kept HK56.out HUr.out.ltb (fun f => f) j).1 hj))
      have HO6 := Lib.hid (HOr.out.kept0 HK56.out)
      have HKR6 := Lib.hid (HKR.out.trans HK56.out)
      have HB16 := Lib.hid (box_kept0 HB1r.out HK56.out)
      have HT6 := Lib.hid (HTr.out.kept0 HK56.out)
      have HSZ6 : Hid (m + 1 ≤ w6.heap.size) := Lib.hid (Nat.le_trans hsz HK56.out.size)
      obtain ⟨t0, t1, t2, t3, t4, t5, t6, t7⟩ := txn8 HBV.out
      cases ok with
      | false =>
        go_wp2_with fail
        go_roundw
        case rel => exact ⟨i + 1, by omega, by go_num, R', l, HU6.out, HBU6.out, by
          have := HIr.out
          exact ⟨this.uq, this.cl, this.srt, this.ids, by have := this.N; omega, by have := this.S; omega⟩, HSr.out, HO6.out, by omega, HPL.out, HKR6.out, HB16.out, HT6.out, HSZ6.out⟩
        case measure => simp [Go.RowKit.intOf]; omega
      | true =>
        obtain ⟨sb, hsb⟩ : ∃ sb, soundB R' x [] zx = sb := ⟨_, rfl⟩
        have HSD : Hid (Calls Try.prog 39 #[.pointer (some ⟨u, 0, none⟩), entV ⟨zx, 0, 0⟩ x y] w6 (QPost sb w6)) := Lib.hid (by
          rw [← hsb]
          exact rsound_any HU6.out ⟨zx, 0, 0⟩ x y [] HX6.out (HRV.out.mono (by decide)))
        have HSB := Lib.hid hsb
        unfold entV at HSD
        clear hsb
        go_wp2_with fail
        refine HSD.out.mono ?_
        rintro e w7 ⟨rfl, hk7⟩
        have HU7 := Lib.hid (HU6.out.kept0 hk7)
        have HBU7 : Hid (∀ j, RBs w7 u j → m + 1 ≤ j) := Lib.hid (fun j hj => HBU6.out j ((rbs_kept hk7 HU6.out.ltb (fun f => f) j).1 hj))
        have HO7 := Lib.hid (HO6.out.kept0 hk7)
        have HKR7 := Lib.hid (HKR6.out.trans hk7)
        have HKW7 := Lib.hid (HK56.out.trans hk7)
        have HB17 := Lib.hid (box_kept0 HB16.out hk7)
        have HT7 := Lib.hid (HT6.out.kept0 hk7)
        have HSZ7 : Hid (m + 1 ≤ w7.heap.size) := Lib.hid (Nat.le_trans HSZ6.out hk7.size)
        have HX7 := Lib.hid (HX6.out.kept0 hk7)
        have HBV7 := Lib.hid (box_kept0 HBV.out hk7)
        clear t0 t1 t2 t3 t4 t5 t6 t7 hk7
        cases sb with
        | false =>
          go_wp2_with fail
          go_roundw
          case rel => exact ⟨i + 1, by omega, by go_num, R', l, HU7.out, HBU7.out, by
            have := HIr.out
            exact ⟨this.uq, this.cl, this.srt, this.ids, by have := this.N; omega, by have := this.S; omega⟩, HSr.out, HO7.out, by omega, HPL.out, HKR7.out, HB17.out, HT7.out, HSZ7.out⟩
          case measure => simp [Go.RowKit.intOf]; omega
        | true =>
          have hxk := HPO.out.kind
          have hx0 := HPO.out.kind0 rfl
          have HTO : Hid (TxnOk R' x []) := Lib.hid ⟨by omega, fun h => by omega, fun _ _ => HPO.out.owner, fun _ h => (List.not_mem_nil h).elim, fun h => by omega, fun h => by omega, fun h => by omega⟩
          have HK14 : Hid (x.kind = 1 ∨ x.kind = 2 ∨ x.kind = 3 ∨ x.kind = 4) := Lib.hid (by omega)
          clear hxk hx0
          obtain ⟨sa, sc, hbm, hrm⟩ := HO7.out.ex
          have hlo : ∀ q, (Value.slice sa l.length sc).ownBlock = some q → ¬ q = w5.heap.size := fun q e e' => by
            obtain ⟨sa', sc', hbm', hrm'⟩ := HOr.out.ex
            have hb7 : w7.heap[m]? = some (txnO mulT ⟨none, 0, 0, 0, sa', l.length, sc'⟩) := by
              obtain ⟨sa9, sc9, hb9, _⟩ := HOr.out.ex
              exact box_kept0 hbm' HKW7.out
            rw [hbm] at hb7
            simp only [Option.some.injEq, Obj.cells.injEq, Array.mk.injEq, List.cons.injEq, Value.slice.injEq, and_true, true_and] at hb7
            obtain ⟨rfl, rfl⟩ := hb7
            have := (own_lo hrm' e).2.1
            have := HSV.out
            omega
          have hmv : ¬ w5.heap.size = m := by
            have h1 := lt_of_block (show wr.heap[m]? = _ from (HOr.out.ex).choose_spec.choose_spec.1)
            have := HSV.out; omega
          have HLO := Lib.hid hlo
          have HRM := Lib.hid hrm
          have HBM := Lib.hid hbm
          have HMV := Lib.hid hmv
          have HFL : Hid (l.length ≤ 6) := Lib.hid (by omega)
          have HBS : Hid (m + 1 ≤ w7.heap.size) := HSZ7
          obtain ⟨t0, t1, t2, t3, t4, t5, t6, t7⟩ := txn8 HBV7.out
          obtain ⟨z0, z1, z2, z3, z4, z5, z6, z7⟩ := txn8 hbm
          clear hlo hrm hbm hmv
          go_upto_region 25 with (first
            | (at_builtin; refine wpList_row1 txs_row rfl _ _ rfl rfl HRM.out (txnL x y) rfl rfl (by simp [Value.oneCell', txnL]) (by have := HFL.out; omega) (by have := HFL.out; unfold maxLen; omega) HBS.out ?_; intro v8 w8 hown8 hg8; obtain ⟨a8, c8, rfl⟩ := own_shape hown8; have HAP := Lib.hid (HO7.out.app (p := (x, y)) HBM.out HRM.out HX7.out.acl HX7.out.path hown8 hg8); obtain ⟨q0, q1, q2, q3, q4, q5, q6, q7⟩ := txn8 HAP.out.1; have fz : w8.frozen? ⟨m, 7, none⟩ = false := (by simp [World.frozen?, HAP.out.1]))
            | fail)
          obtain ⟨w9, hw9⟩ : ∃ w9, w8.setCell ⟨m, 7, none⟩ (.slice a8 (l.length + 1) c8) = w9 := ⟨_, rfl⟩
          obtain ⟨_, hO9, hk9, hR9⟩ := HAP.out
          rw [hw9] at hO9 hk9 hR9
          rw [hw9]
          have HO9 := Lib.hid hO9
          have HK9 := Lib.hid hk9
          have HU9 := Lib.hid (hR9 u R' HU7.out).1
          have HBU9 : Hid (∀ j, RBs w9 u j → m + 1 ≤ j) := Lib.hid (fun j hj => HBU7.out j ((hR9 u R' HU7.out).2 j hj))
          have hbv9 : w9.heap[w5.heap.size]? = some (txnO x y) := by
            rw [hk9.block _ (lt_of_block HBV7.out) (fun e => by
              rcases e with e | e
              · exact HMV.out e
              · exact HLO.out _ e.symm rfl)]
            exact HBV7.out
          have hlow : ∀ j, j = m ∨ some j = (Value.slice sa l.length sc).ownBlock → m ≤ j := fun j e => by
            rcases e with e | e
            · omega
            · have := (own_lo HRM.out e.symm).1; omega
          have HKR9 : Hid (Kept (fun _ => False) w w9) := Lib.hid (HKR7.out.trans' hk9 (fun j hj e => by have := hlow j e; omega))
          have HB19 : Hid (w9.heap[w.heap.size]? = some (actO o (.slice (some ⟨g, off, none⟩) ls.length vc))) := Lib.hid (by
            rw [hk9.block _ (lt_of_block HB17.out) (fun e => by have := hlow _ e; omega)]; exact HB17.out)
          have HT9 : Hid (TxRow w9 (w.heap.size + 1)) := Lib.hid (by
            obtain ⟨c, hc, hcs⟩ := HT7.out
            exact ⟨c, by rw [hk9.block _ (lt_of_block hc) (fun e => by have := hlow _ e; omega)]; exact hc, hcs⟩)
          have HSZ9 : Hid (m + 1 ≤ w9.heap.size) := Lib.hid (Nat.le_trans HSZ7.out hk9.size)
          have hx9 : TxW w9 x y [] := txw_nil ((HO9.out.acl (x, y) (by simp))) HPO.out.subs HX7.out.path HX7.out.own
          have HAY := Lib.hid (rapply_any HU9.out ⟨zx, 0, 0⟩ x y [] hx9 (HRV.out.mono (by decide)))
          unfold entV at HAY
          obtain ⟨t0', t1', t2', t3', t4', t5', t6', t7'⟩ := txn8 hbv9
          clear t0 t1 t2 t3 t4 t5 t6 t7 z0 z1 z2 z3 z4 z5 z6 z7 q0 q1 q2 q3 q4 q5 q6 q7 fz hw9 hO9 hk9 hR9 hbv9 hlow hx9 HAP
          go_wp2_with fail
          refine HAY.out.mono ?_
          rintro e w10 ⟨ev, en, rfl, hU10, hst⟩
          have HST := Lib.hid hst
          have HU10 := Lib.hid hU10
          clear hU10 hst
          go_wp2_with fail
          go_roundw
          case rel =>
            refine ⟨i + 1, by omega, by go_num, applyR R' x [] zx, l ++ [(x, y)], HU10.out, fun j hj => ?_, HIr.out.step HTO.out HSB.out, (apply_S HK14.out).trans HSr.out, HO9.out.step HU9.out HST.out, by simp; omega, fun p hp => ?_, HKR9.out.trans' HST.out.kept (fun j hj e => by have := HBU9.out j e; omega), ?_, ?_, Nat.le_trans HSZ9.out HST.out.kept.size⟩
            · rcases HST.out.bs j hj with h | h
              · exact HBU9.out j h
              · exact Nat.le_trans HSZ9.out h
            · rcases List.mem_append.1 hp with hp | hp
              · exact HPL.out p hp
              · simp at hp
                subst hp
                exact ⟨HK14.out, by rw [← HSr.out]; exact HPO.out.owner⟩
            · rw [HST.out.kept.block _ (lt_of_block HB19.out) (HU9.out.other HB19.out (by decide) (by decide) (by decide))]; exact HB19.out
            · obtain ⟨c, hc, hcs⟩ := HT9.out
              exact ⟨c, by rw [HST.out.kept.block _ (lt_of_block hc) (HU9.out.other hc (by decide) (by decide) (by decide))]; exact hc, hcs⟩
          case measure => simp [Go.RowKit.intOf]; omega
    · obtain ⟨sa, sc, hbm, hrm⟩ := HOr.out.ex
      obtain ⟨z0, z1, z2, z3, z4, z5, z6, z7⟩ := txn8 hbm
      obtain ⟨c, hc, hcs⟩ := HTr.out
      have HBC := Lib.hid hc
      have HBM := Lib.hid hbm
      clear hbm hrm hc
      go_wp2_with (first
        | (refine wpList_store_row _ rfl 38 _ _ rfl (w.heap.size + 1) _ (txnL mulT ⟨none, 0, 0, 0, sa, l.length, sc⟩) rfl rfl HBC.out txn_info hcs (by simp [Value.oneCell', txnL]) ?_)
        | fail)
      refine ret_box1 6 38 (w.heap.size + 1) _ ?_ ?_ (load_row (x := mulT) (y := ⟨none, 0, 0, 0, sa, l.length, sc⟩) HTr.out) ?_ ?_
      exact rfl
      exact rfl
      exact rfl
      exact mu_end hWs HOr.out (by omega) HBM.out HKR.out HTr.out HPL.out
end Go.Proofs.Ytjlffmkiiphfcaa
