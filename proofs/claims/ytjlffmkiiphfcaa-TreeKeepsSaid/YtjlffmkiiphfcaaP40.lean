/- The law's part, all ways. The law's txn: its small ways. A transaction's parts as they are collected, beside a tree. -/
import Derived.Test.YtjlffmkiiphfcaaP36
import Derived.Test.YtjlffmkiiphfcaaP37
import Derived.Test.YtjlffmkiiphfcaaP38
import Derived.Test.YtjlffmkiiphfcaaP39
import Derived.Test.YtjlffmkiiphfcaaP30
import Derived.Test.YtjlffmkiiphfcaaP35
namespace Go.Proofs.Ytjlffmkiiphfcaa
open Go.ChangeShapes Go.WideShapes Go.ChangeAt Go.RowKit Go.Maps
set_option linter.unusedVariables false
theorem lpart_any {w : World} {b : Nat} {R : RT} (h : RAt w b R) (o : OpN) (ho : o.Fits) (va : Option Addr) (vn vc : Nat) (hv : RV 100000000 R) (hp9 : ∀ n ∈ R.N, n.path.size ≤ 900000) (hne : 0 < R.N.length) (hid : ∀ s ∈ R.S, -9223372036854775808 ≤ s.id ∧ s.id ≤ 9223372036854775807) :
    Calls Try.prog 61 #[.pointer (some ⟨b, 0, none⟩), .agg #[.int .i64 o.a, .int .i64 o.b, .int .i64 o.c, .string o.s, .slice va vn vc], .bool true] w (LPartPost w R) := by
  rcases (show absN o.a % 6 = 0 ∨ absN o.a % 6 = 1 ∨ absN o.a % 6 = 2 ∨ 3 ≤ absN o.a % 6 by omega) with h0 | h0 | h0 | h0
  · exact lpart_create0 h o ho va vn vc hv hp9 hne h0 hid
  · exact lpart_create1 h o ho va vn vc hv hp9 hne h0 hid
  · exact lpart_create2 h o ho va vn vc hv hp9 hne h0 hid
  · exact lpart_rest h o ho va vn vc hv hp9 hne h0 hid
end Go.Proofs.Ytjlffmkiiphfcaa

namespace Go.Proofs.Ytjlffmkiiphfcaa
open Go.ChangeShapes Go.WideShapes Go.ChangeAt Go.RowKit Go.Maps
set_option linter.unusedVariables false
set_option linter.unusedSimpArgs false
def TxnPost (w : World) (R : RT) (e : Ending) (w' : World) : Prop := ∃ (x : T1) (y : TX) (l : List (T1 × TX)), e = .returned (txnV x y) ∧ TxW w' x y l ∧ TxnOk R x (l.map (·.1)) ∧ Kept (fun _ => False) w w'
/-- a transaction stored into the result's variable -/
theorem fin_txn {w w3 : World} {R : RT} {x : T1} {y : TX} {l : List (T1 × TX)} {g : Nat} (hg : w.heap.size ≤ g) (ht : TxRow w3 g) (hk : Kept (fun _ => False) w w3) (hx : TxW w3 x y l) (hne : ∀ b, (Value.slice y.sa y.sn y.sc).ownBlock = some b → b ≠ g) (ho : TxnOk R x (l.map (·.1))) : TxnPost w R (.returned (txnV x y)) (w3.setRow g (txnL x y).toArray) := by
  have hk3 := setRow_kept w3 g (txnL x y).toArray
  have hA : ∀ k cur, w3.heap[k]? = some (.cells cur 95 (0, 0)) → ¬ k = g := fun k cur hc e => by
    subst e
    obtain ⟨c, hc', _⟩ := ht
    rw [hc'] at hc
    simp at hc
  exact ⟨x, y, l, rfl, ⟨hx.acl.kept hk3 hA, ⟨ownKept hx.subs.own hk3 (fun k e e' => hne k e e'), fun p hp => (hx.subs.acl p hp).kept hk3 hA, hx.subs.path, hx.subs.len⟩, hx.path, hx.own⟩, ho, kept_in hk3 hk hg⟩
theorem txw_nil {w : World} {x : T1} {y : TX} (ha : AclW w (.slice y.aa y.an y.ac) x.acl) (hs : y.sa = none ∧ y.sn = 0 ∧ y.sc = 0) (hp : x.path.size ≤ 1000000) (ho : -9223372036854775808 ≤ x.owner ∧ x.owner ≤ 9223372036854775807) : TxW w x y [] := by
  refine ⟨ha, ?_, hp, ho⟩
  rw [hs.1, hs.2.1, hs.2.2]
  exact ⟨World.ownsRow_nil _ _ _ _, fun _ h => (List.not_mem_nil h).elim, fun _ h => (List.not_mem_nil h).elim, Nat.zero_le _⟩
theorem txn_row {w : World} {g : Nat} {x : T1} {y : TX} (h : w.heap[g]? = some (txnO x y)) : TxRow w g := ⟨_, h, rfl⟩
theorem load_row {w : World} {g : Nat} {x : T1} {y : TX} (ht : TxRow w g) : (loadVar 38 ⟨g, 0, none⟩).run Try.prog (w.setRow g (txnL x y).toArray) = .ok (txnV x y) (w.setRow g (txnL x y).toArray) := txnR_load (ht.set _)
set_option maxRecDepth 100000 in
set_option maxHeartbeats 4000000 in
theorem txn_noop {w : World} {b k : Nat} {R : RT} (h : RAt w b R) (hI : HInv k R) (hk : k ≤ 900) (zx : Int) (o : OpN) (ho : o.Fits) (va : Option Addr) (vc : Nat) (ls : List OpN) (hl : SubsD w (.slice va ls.length vc) ls) (hf : ∀ k ∈ ls, k.Fits) (hl6 : ls.length ≤ 6) (hq : absN o.a % 11 = 10) :
    Calls Try.prog 37 #[.pointer (some ⟨b, 0, none⟩), .agg #[.int .i64 o.a, .int .i64 o.b, .int .i64 o.c, .string o.s, .slice va ls.length vc], .int .i64 zx] w (TxnPost w R) := by
  obtain ⟨W, hW⟩ : ∃ W, (w.alloc (actO o (.slice va ls.length vc))).alloc (txnO ⟨0, ⟨#[]⟩, ⟨#[]⟩, [], 0, 0⟩ ⟨none, 0, 0, 0, none, 0, 0⟩) = W := ⟨_, rfl⟩
  have hkW : Kept (fun _ => False) w W := by rw [← hW]; exact ((Kept.refl _ w).alloc _).alloc _
  have hb1 : W.heap[w.heap.size]? = some (actO o (.slice va ls.length vc)) := by
    rw [← hW, Below.heap_alloc _ _ _ (by simp)]; exact heap_alloc_new w _
  have hb2 : W.heap[w.heap.size + 1]? = some (txnO ⟨0, ⟨#[]⟩, ⟨#[]⟩, [], 0, 0⟩ ⟨none, 0, 0, 0, none, 0, 0⟩) := by
    have h9 := heap_alloc_new (w.alloc (actO o (.slice va ls.length vc))) (txnO ⟨0, ⟨#[]⟩, ⟨#[]⟩, [], 0, 0⟩ ⟨none, 0, 0, 0, none, 0, 0⟩)
    rw [show (w.alloc (actO o (.slice va ls.length vc))).heap.size = w.heap.size + 1 by simp, hW] at h9
    exact h9
  have HKW := Lib.hid hkW
  have HB1 := Lib.hid hb1
  have HB2 := Lib.hid hb2
  have HR := Lib.hid (h.kept0 hkW)
  have HI := Lib.hid hI
  have HV : Hid (RV 8000 R) := Lib.hid (hI.rv (by omega))
  have HL := Lib.hid (hl.kept0 hkW)
  have HLW := Lib.hid hl
  have HF := Lib.hid hf
  have HO := Lib.hid ho
  obtain ⟨a0, a1, a2, a3, a4⟩ := actB hb1
  clear hb1 hb2 hkW h hI hl hf
  have HPA : Hid (∀ W, Calls Try.prog 13 #[.int .i64 o.a, .int .i64 11] W fun e w' => e = .returned (.int .i64 10) ∧ W = w') := Lib.hid (fun W => tpick_nat o.a 11 W ho.a.1 ho.a.2 (by decide) (by decide) hq)
  go_enter Try.func37, Try.ntmps37
  go_upto_region 1 with fail
  clear hW
  go_wp2_with (first
    | (go_at_call 13; with_reducible refine (HPA.out _).mono ?_; rintro e w' ⟨rfl, rfl⟩)
    | (refine wpList_store_row _ rfl 38 _ _ rfl (w.heap.size + 1) _ [.int .i64 0, .string ⟨#[]⟩, .string ⟨#[]⟩, .slice none 0 0, .int .i64 0, .int .i64 0, .int .i64 0, .slice none 0 0] rfl rfl HB2.out txn_info rfl (by simp [Value.oneCell']) ?_)
    | fail)
  refine ret_box1 6 38 (w.heap.size + 1) _ ?_ ?_ (load_row (x := ⟨0, ⟨#[]⟩, ⟨#[]⟩, [], 0, 0⟩) (y := ⟨none, 0, 0, 0, none, 0, 0⟩) (txn_row HB2.out)) ?_ ?_
  exact rfl
  exact rfl
  exact rfl
  exact fin_txn (x := ⟨0, ⟨#[]⟩, ⟨#[]⟩, [], 0, 0⟩) (y := ⟨none, 0, 0, 0, none, 0, 0⟩) (l := []) (Nat.le_succ _) (txn_row HB2.out) HKW.out (txw_nil (AclW.nil _) ⟨rfl, rfl, rfl⟩ (by decide) (by decide)) (fun b e => nomatch e) ⟨.inl rfl, fun h => by simp at h, fun _ _ => .inl rfl, fun _ h => (List.not_mem_nil h).elim, fun h => by simp at h, fun h => by simp at h, fun h => by simp at h⟩
set_option maxRecDepth 100000 in
set_option maxHeartbeats 4000000 in
theorem txn_err {w : World} {b k : Nat} {R : RT} (h : RAt w b R) (hI : HInv k R) (hk : k ≤ 900) (zx : Int) (o : OpN) (ho : o.Fits) (va : Option Addr) (vc : Nat) (ls : List OpN) (hl : SubsD w (.slice va ls.length vc) ls) (hf : ∀ k ∈ ls, k.Fits) (hl6 : ls.length ≤ 6) (hq : absN o.a % 11 = 9) :
    Calls Try.prog 37 #[.pointer (some ⟨b, 0, none⟩), .agg #[.int .i64 o.a, .int .i64 o.b, .int .i64 o.c, .string o.s, .slice va ls.length vc], .int .i64 zx] w (TxnPost w R) := by
  obtain ⟨W, hW⟩ : ∃ W, (w.alloc (actO o (.slice va ls.length vc))).alloc (txnO ⟨0, ⟨#[]⟩, ⟨#[]⟩, [], 0, 0⟩ ⟨none, 0, 0, 0, none, 0, 0⟩) = W := ⟨_, rfl⟩
  have hkW : Kept (fun _ => False) w W := by rw [← hW]; exact ((Kept.refl _ w).alloc _).alloc _
  have hb1 : W.heap[w.heap.size]? = some (actO o (.slice va ls.length vc)) := by
    rw [← hW, Below.heap_alloc _ _ _ (by simp)]; exact heap_alloc_new w _
  have hb2 : W.heap[w.heap.size + 1]? = some (txnO ⟨0, ⟨#[]⟩, ⟨#[]⟩, [], 0, 0⟩ ⟨none, 0, 0, 0, none, 0, 0⟩) := by
    have h9 := heap_alloc_new (w.alloc (actO o (.slice va ls.length vc))) (txnO ⟨0, ⟨#[]⟩, ⟨#[]⟩, [], 0, 0⟩ ⟨none, 0, 0, 0, none, 0, 0⟩)
    rw [show (w.alloc (actO o (.slice va ls.length vc))).heap.size = w.heap.size + 1 by simp, hW] at h9
    exact h9
  have HKW := Lib.hid hkW
  have HB1 := Lib.hid hb1
  have HB2 := Lib.hid hb2
  have HR := Lib.hid (h.kept0 hkW)
  have HI := Lib.hid hI
  have HV : Hid (RV 8000 R) := Lib.hid (hI.rv (by omega))
  have HL := Lib.hid (hl.kept0 hkW)
  have HLW := Lib.hid hl
  have HF := Lib.hid hf
  have HO := Lib.hid ho
  obtain ⟨a0, a1, a2, a3, a4⟩ := actB hb1
  clear hb1 hb2 hkW h hI hl hf
  obtain ⟨n, hn⟩ : ∃ n, absN o.b % 99 = n := ⟨_, rfl⟩
  have HPA : Hid (∀ W, Calls Try.prog 13 #[.int .i64 o.a, .int .i64 11] W fun e w' => e = .returned (.int .i64 9) ∧ W = w') := Lib.hid (fun W => tpick_nat o.a 11 W ho.a.1 ho.a.2 (by decide) (by decide) hq)
  have HPB : Hid (∀ W, Calls Try.prog 13 #[.int .i64 o.b, .int .i64 99] W fun e w' => e = .returned (.int .i64 n) ∧ W = w') := Lib.hid (fun W => tpick_nat o.b 99 W ho.b.1 ho.b.2 (by decide) (by decide) hn)
  go_enter Try.func37, Try.ntmps37
  go_upto_region 1 with fail
  clear hW
  go_wp2_with (first
    | (go_at_call 13; with_reducible refine (HPA.out _).mono ?_; rintro e w' ⟨rfl, rfl⟩)
    | (go_at_call 13; with_reducible refine (HPB.out _).mono ?_; rintro e w' ⟨rfl, rfl⟩)
    | (refine wpList_store_row _ rfl 38 _ _ rfl (w.heap.size + 1) _ [.int .i64 8, .string ⟨#[]⟩, .string ⟨#[]⟩, .slice none 0 0, .int .i64 0, .int .i64 (-1), .int .i64 n, .slice none 0 0] rfl rfl HB2.out txn_info rfl (by simp [Value.oneCell']) ?_)
    | fail)
  refine ret_box1 6 38 (w.heap.size + 1) _ ?_ ?_ (load_row (x := ⟨8, ⟨#[]⟩, ⟨#[]⟩, [], 0, -1⟩) (y := ⟨none, 0, 0, n, none, 0, 0⟩) (txn_row HB2.out)) ?_ ?_
  exact rfl
  exact rfl
  exact rfl
  exact fin_txn (x := ⟨8, ⟨#[]⟩, ⟨#[]⟩, [], 0, -1⟩) (y := ⟨none, 0, 0, n, none, 0, 0⟩) (l := []) (Nat.le_succ _) (txn_row HB2.out) HKW.out (txw_nil (AclW.nil _) ⟨rfl, rfl, rfl⟩ (by decide) (by decide)) (fun b e => nomatch e) ⟨by simp, fun h => by simp at h, fun _ _ => .inl rfl, fun _ h => (List.not_mem_nil h).elim, fun h => by simp at h, fun h => by simp at h, fun h => by simp at h⟩
set_option maxRecDepth 100000 in
set_option maxHeartbeats 4000000 in
theorem txn_part {w : World} {b k : Nat} {R : RT} (h : RAt w b R) (hI : HInv k R) (hk : k ≤ 900) (zx : Int) (o : OpN) (ho : o.Fits) (va : Option Addr) (vc : Nat) (ls : List OpN) (hl : SubsD w (.slice va ls.length vc) ls) (hf : ∀ k ∈ ls, k.Fits) (hl6 : ls.length ≤ 6) (hq : absN o.a % 11 ≤ 5) :
    Calls Try.prog 37 #[.pointer (some ⟨b, 0, none⟩), .agg #[.int .i64 o.a, .int .i64 o.b, .int .i64 o.c, .string o.s, .slice va ls.length vc], .int .i64 zx] w (TxnPost w R) := by
  obtain ⟨W, hW⟩ : ∃ W, (w.alloc (actO o (.slice va ls.length vc))).alloc (txnO ⟨0, ⟨#[]⟩, ⟨#[]⟩, [], 0, 0⟩ ⟨none, 0, 0, 0, none, 0, 0⟩) = W := ⟨_, rfl⟩
  have hkW : Kept (fun _ => False) w W := by rw [← hW]; exact ((Kept.refl _ w).alloc _).alloc _
  have hb1 : W.heap[w.heap.size]? = some (actO o (.slice va ls.length vc)) := by
    rw [← hW, Below.heap_alloc _ _ _ (by simp)]; exact heap_alloc_new w _
  have hb2 : W.heap[w.heap.size + 1]? = some (txnO ⟨0, ⟨#[]⟩, ⟨#[]⟩, [], 0, 0⟩ ⟨none, 0, 0, 0, none, 0, 0⟩) := by
    have h9 := heap_alloc_new (w.alloc (actO o (.slice va ls.length vc))) (txnO ⟨0, ⟨#[]⟩, ⟨#[]⟩, [], 0, 0⟩ ⟨none, 0, 0, 0, none, 0, 0⟩)
    rw [show (w.alloc (actO o (.slice va ls.length vc))).heap.size = w.heap.size + 1 by simp, hW] at h9
    exact h9
  have HKW := Lib.hid hkW
  have HB1 := Lib.hid hb1
  have HB2 := Lib.hid hb2
  have HR := Lib.hid (h.kept0 hkW)
  have HI := Lib.hid hI
  have HV : Hid (RV 8000 R) := Lib.hid (hI.rv (by omega))
  have HL := Lib.hid (hl.kept0 hkW)
  have HLW := Lib.hid hl
  have HF := Lib.hid hf
  have HO := Lib.hid ho
  obtain ⟨a0, a1, a2, a3, a4⟩ := actB hb1
  clear hb1 hb2 hkW h hI hl hf
  obtain ⟨q, hq2⟩ : ∃ q, absN o.a % 11 = q := ⟨_, rfl⟩
  rw [hq2] at hq
  have HPA : Hid (∀ W, Calls Try.prog 13 #[.int .i64 o.a, .int .i64 11] W fun e w' => e = .returned (.int .i64 q) ∧ W = w') := Lib.hid (fun W => tpick_nat o.a 11 W ho.a.1 ho.a.2 (by decide) (by decide) hq2)
  have k6 : ((q : Int) == 6) = false := by simp; omega
  have k7 : ((q : Int) == 7) = false := by simp; omega
  have k8 : ((q : Int) == 8) = false := by simp; omega
  have k9 : ((q : Int) == 9) = false := by simp; omega
  have k10 : ((q : Int) == 10) = false := by simp; omega
  clear hq hq2
  have HPT := Lib.hid (lpart_any HR.out o HO.out va ls.length vc (HV.out.mono (by decide)) (fun n hn => Nat.le_trans (HI.out.path n hn) (by decide)) HI.out.ne (fun s hs => by have := HI.out.ids s hs; omega))
  go_enter Try.func37, Try.ntmps37
  go_upto_region 1 with fail
  clear hW
  go_wp2_with (first
    | (go_at_call 13; with_reducible refine (HPA.out _).mono ?_; rintro e w' ⟨rfl, rfl⟩)
    | fail)
  refine HPT.out.mono ?_
  rintro e w2 ⟨x, y, ok, rfl, hx, hP, hk2⟩
  have HX := Lib.hid hx
  have HPO := Lib.hid hP
  have HK2 := Lib.hid (HKW.out.trans hk2)
  obtain ⟨w3, hw3⟩ : ∃ w3, (w2.alloc (txnO ⟨0, ⟨#[]⟩, ⟨#[]⟩, [], 0, 0⟩ ⟨none, 0, 0, 0, none, 0, 0⟩)).setRow w2.heap.size (txnL x y).toArray = w3 := ⟨_, rfl⟩
  have hz := heap_alloc_new w2 (txnO ⟨0, ⟨#[]⟩, ⟨#[]⟩, [], 0, 0⟩ ⟨none, 0, 0, 0, none, 0, 0⟩)
  have HZ := Lib.hid hz
  have hal : Kept (fun _ => False) w2 w3 := by
    rw [← hw3]
    exact kept_in (setRow_kept _ _ _) ((Kept.refl _ w2).alloc _) (Nat.le_refl _)
  have HAL := Lib.hid hal
  have HT := Lib.hid ((txn_row HB2.out).kept0 (hk2.trans hal))
  obtain ⟨c, hc, hcs⟩ := HT.out
  have HBC := Lib.hid hc
  have HX1 := Lib.hid (hx.kept0 hal)
  have hbn : w3.heap[w2.heap.size]? = some (txnO x y) := by rw [← hw3]; exact (txn_row hz).set _
  have HBN := Lib.hid hbn
  clear hx hP hk2 hal hc hbn hz
  go_upto_region 32 with (first
    | (refine wpList_store_row _ rfl 38 _ _ rfl w2.heap.size _ (txnL x y) rfl rfl HZ.out txn_info rfl (by simp [Value.oneCell', txnL]) ?_)
    | fail)
  try rw [hw3]
  clear hw3 HZ
  cases ok with
  | false =>
    go_wp2_with (first
      | (refine wpList_store_row _ rfl 38 _ _ rfl (w.heap.size + 1) _ [.int .i64 0, .string ⟨#[]⟩, .string ⟨#[]⟩, .slice none 0 0, .int .i64 0, .int .i64 0, .int .i64 0, .slice none 0 0] rfl rfl HBC.out txn_info hcs (by simp [Value.oneCell']) ?_)
      | fail)
    refine ret_box1 6 38 (w.heap.size + 1) _ ?_ ?_ (load_row (x := ⟨0, ⟨#[]⟩, ⟨#[]⟩, [], 0, 0⟩) (y := ⟨none, 0, 0, 0, none, 0, 0⟩) HT.out) ?_ ?_
    exact rfl
    exact rfl
    exact rfl
    exact fin_txn (x := ⟨0, ⟨#[]⟩, ⟨#[]⟩, [], 0, 0⟩) (y := ⟨none, 0, 0, 0, none, 0, 0⟩) (l := []) (Nat.le_succ _) HT.out (HK2.out.trans HAL.out) (txw_nil (AclW.nil _) ⟨rfl, rfl, rfl⟩ (by decide) (by decide)) (fun b e => nomatch e) ⟨.inl rfl, fun h => by simp at h, fun _ _ => .inl rfl, fun _ h => (List.not_mem_nil h).elim, fun h => by simp at h, fun h => by simp at h, fun h => by simp at h⟩
  | true =>
    obtain ⟨t0, t1, t2, t3, t4, t5, t6, t7⟩ := txn8 HBN.out
    go_wp2_with (first
      | (refine wpList_store_row _ rfl 38 _ _ rfl (w.heap.size + 1) _ (txnL x y) rfl rfl HBC.out txn_info hcs (by simp [Value.oneCell', txnL]) ?_)
      | fail)
    refine ret_box1 6 38 (w.heap.size + 1) _ ?_ ?_ (load_row (x := x) (y := y) HT.out) ?_ ?_
    exact rfl
    exact rfl
    exact rfl
    have hkind := HPO.out.kind
    refine fin_txn (x := x) (y := y) (l := []) (Nat.le_succ _) HT.out (HK2.out.trans HAL.out) HX1.out (fun b e => by rw [HPO.out.subs.1] at e; cases e) ⟨by omega, fun h => by omega, fun _ _ => HPO.out.owner, fun _ h => (List.not_mem_nil h).elim, fun h => by omega, fun h => by omega, fun h => by omega⟩
end Go.Proofs.Ytjlffmkiiphfcaa

namespace Go.Proofs.Ytjlffmkiiphfcaa
open Go.ChangeShapes Go.WideShapes Go.ChangeAt Go.RowKit Go.Maps
set_option linter.unusedVariables false
set_option linter.unusedSimpArgs false
theorem txs_row : RowTy Try.prog 36 38 8 112 := RowTy.of (z := .agg #[.int .i64 0, .string ByteArray.empty, .string ByteArray.empty, .slice none 0 0, .int .i64 0, .int .i64 0, .int .i64 0, .slice none 0 0]) Try.underlying36 (by kernel_rfl) rfl (by decide)
theorem txC_snoc (l : List (T1 × TX)) (p : T1 × TX) : txC l ++ txnL p.1 p.2 = txC (l ++ [p]) := by unfold txC; simp
/-- the variable that bears the parts so far -/
structure OutD (w : World) (m : Nat) (x0 : T1) (l : List (T1 × TX)) : Prop where
  ex : ∃ sa sc, w.heap[m]? = some (txnO x0 ⟨none, 0, 0, 0, sa, l.length, sc⟩) ∧ w.ownsRow (m + 1) 38 8 (.slice sa l.length sc) l.length (txC l)
  acl : ∀ p ∈ l, AclW w (.slice p.2.aa p.2.an p.2.ac) p.1.acl
  path : ∀ p ∈ l, p.1.path.size ≤ 1000000
theorem OutD.kept0 {w w' : World} {m : Nat} {x0 : T1} {l : List (T1 × TX)} (h : OutD w m x0 l) (hk : Kept (fun _ => False) w w') : OutD w' m x0 l := by
  obtain ⟨sa, sc, hb, hr⟩ := h.ex
  exact ⟨⟨sa, sc, box_kept0 hb hk, ownKept hr hk (fun _ _ f => f)⟩, fun p hp => (h.acl p hp).kept0 hk, h.path⟩
theorem OutD.step {w w' : World} {m u : Nat} {R : RT} {x0 : T1} {l : List (T1 × TX)} (h : OutD w m x0 l) (hR : RAt w u R) (hs : RStep w u w') : OutD w' m x0 l := by
  obtain ⟨sa, sc, hb, hr⟩ := h.ex
  exact ⟨⟨sa, sc, txn_box hb hR hs, row_step hr hR hs (by decide) (by decide) (by decide)⟩, fun p hp => aclw_step (h.acl p hp) hR hs, h.path⟩
theorem OutD.nil {w : World} {m : Nat} {x0 : T1} (h : w.heap[m]? = some (txnO x0 ⟨none, 0, 0, 0, none, 0, 0⟩)) : OutD w m x0 [] :=
  ⟨⟨none, 0, h, World.ownsRow_nil _ _ _ _⟩, fun _ h => (List.not_mem_nil h).elim, fun _ h => (List.not_mem_nil h).elim⟩
theorem OutD.txw {w : World} {m : Nat} {x0 : T1} {l : List (T1 × TX)} (h : OutD w m x0 l) (hl : l.length ≤ 1000000) (ha : x0.acl = []) (hp : x0.path.size ≤ 1000000) (ho : -9223372036854775808 ≤ x0.owner ∧ x0.owner ≤ 9223372036854775807) {sa : Option Addr} {sc : Nat} (hb : w.heap[m]? = some (txnO x0 ⟨none, 0, 0, 0, sa, l.length, sc⟩)) :
    TxW w x0 ⟨none, 0, 0, 0, sa, l.length, sc⟩ l ∧ ∀ b, (Value.slice sa l.length sc).ownBlock = some b → m + 1 ≤ b := by
  obtain ⟨sa', sc', hb', hr⟩ := h.ex
  rw [hb] at hb'
  simp only [Option.some.injEq, Obj.cells.injEq, Array.mk.injEq, List.cons.injEq, Value.slice.injEq, and_true, true_and] at hb'
  obtain ⟨rfl, rfl⟩ : sa = sa' ∧ sc = sc' := by
    first
      | exact hb'
      | exact ⟨hb'.1, hb'.2.2⟩
      | (simp at hb'; exact hb')
  refine ⟨⟨by rw [ha]; exact AclW.nil _, ⟨row0 hr, h.acl, h.path, hl⟩, hp, ho⟩, fun b e => (own_lo hr e).1⟩
/-- a part more -/
theorem OutD.app {w w6 : World} {m : Nat} {x0 : T1} {l : List (T1 × TX)} {p : T1 × TX} {sa : Option Addr} {sc : Nat} {v6 : Value} (h : OutD w m x0 l) (hb : w.heap[m]? = some (txnO x0 ⟨none, 0, 0, 0, sa, l.length, sc⟩)) (hr : w.ownsRow (m + 1) 38 8 (.slice sa l.length sc) l.length (txC l)) (ha : AclW w (.slice p.2.aa p.2.an p.2.ac) p.1.acl) (hp : p.1.path.size ≤ 1000000)
    (hown : w6.ownsRow (m + 1) 38 8 v6 (l.length + 1) (txC l ++ txnL p.1 p.2)) (hg : (w.alloc (.cells (txnL p.1 p.2).toArray 38)).grownBy w6 (Value.slice sa l.length sc).ownBlock) :
    w6.heap[m]? = some (txnO x0 ⟨none, 0, 0, 0, sa, l.length, sc⟩) ∧ OutD (w6.setCell ⟨m, 7, none⟩ v6) m x0 (l ++ [p]) ∧ Kept (fun k => k = m ∨ some k = (Value.slice sa l.length sc).ownBlock) w (w6.setCell ⟨m, 7, none⟩ v6) ∧
    (∀ u R, RAt w u R → RAt (w6.setCell ⟨m, 7, none⟩ v6) u R ∧ ∀ j, RBs (w6.setCell ⟨m, 7, none⟩ v6) u j → RBs w u j) := by
  have hml := lt_of_block hb
  have ka : Kept (fun _ => False) w (w.alloc (.cells (txnL p.1 p.2).toArray 38)) := (Kept.refl _ w).alloc _
  have hra := ownKept hr ka (fun _ _ f => f)
  have hlo : ∀ b, (Value.slice sa l.length sc).ownBlock = some b → m + 1 ≤ b := fun b e => (own_lo hr e).1
  have kg : Kept (fun b => m + 1 ≤ b) w w6 := (ka.mono (fun _ _ f => f.elim)).trans (Kept.of_grownBy hg |>.mono (fun b _ e => hlo b e.symm))
  have kg0 : Kept (fun k => some k = (Value.slice sa l.length sc).ownBlock) w w6 := (ka.mono (fun _ _ f => f.elim)).trans (Kept.of_grownBy hg)
  have hb6 : w6.heap[m]? = some (txnO x0 ⟨none, 0, 0, 0, sa, l.length, sc⟩) := by rw [kg.block m hml (fun e => by have e : m + 1 ≤ m := e; omega)]; exact hb
  have ks := kept_set w6 m 7 v6
  obtain ⟨a6, c6, rfl⟩ := own_shape hown
  have hb9 : (w6.setCell ⟨m, 7, none⟩ (.slice a6 (l.length + 1) c6)).heap[m]? = some (txnO x0 ⟨none, 0, 0, 0, a6, l.length + 1, c6⟩) :=
    heap_set (c := txnL x0 ⟨none, 0, 0, 0, sa, l.length, sc⟩) (i := 7) _ hb6
  have hR6 : ∀ u R, RAt w u R → RAt w6 u R := fun u R hR => (hR.kept0 ka).app hra hg (by decide) (by decide) (by decide) (by decide)
  have hne6 : (w6.setCell ⟨m, 7, none⟩ (.slice a6 (l.length + 1) c6)).ownsRow (m + 1) 38 8 (.slice a6 (l.length + 1) c6) (l.length + 1) (txC l ++ txnL p.1 p.2) := ownKept hown ks (fun k e e' => by have := (own_lo hown e).1; have e' : k = m := e'; omega)
  have hacl6 : ∀ {v : Value} {al : List AR}, AclW w v al → AclW (w6.setCell ⟨m, 7, none⟩ (.slice a6 (l.length + 1) c6)) v al := fun {v al} hA => by
    refine ((hA.kept0 ka).kept (Kept.of_grownBy hg) (fun k cur hc e => ?_)).kept ks (fun k cur hc e => ?_)
    · obtain ⟨_, _, cur', hc'⟩ := own_lo hra e.symm
      rw [hc'] at hc; simp at hc
    · have e : k = m := e
      subst e
      rw [hb6] at hc; simp at hc
  refine ⟨hb6, ⟨⟨a6, c6, by rw [List.length_append]; exact hb9, by rw [← txC_snoc, List.length_append]; exact hne6⟩, fun q hq => ?_, fun q hq => ?_⟩, (kg0.mono (fun k _ e => .inr e)).trans (ks.mono (fun k _ e => .inl e)), fun u R hR => ?_⟩
  · rcases List.mem_append.1 hq with hq | hq
    · exact hacl6 (h.acl q hq)
    · simp at hq; subst hq; exact hacl6 ha
  · rcases List.mem_append.1 hq with hq | hq
    · exact h.path q hq
    · simp at hq; subst hq; exact hp
  · have h6 := hR6 u R hR
    have hum : ¬ u = m := fun e => by
      subst e
      obtain ⟨L, nv, sv, hD⟩ := hR
      have := hD.at_
      rw [hb] at this; simp at this
    refine ⟨h6.kept ks (fun k hk e => ?_) (fun k cur hc e => ?_), fun j hj => ?_⟩
    · have e : k = m := e
      subst e
      exact h6.other hb6 (by decide) (by decide) (by decide) hk
    · have e : k = m := e
      subst e
      rw [hb6] at hc; simp at hc
    · have h1 := (rbs_kept ks h6.ltb (fun e => hum e) j).1 hj
      have h2 := (rbs_kept (Kept.of_grownBy hg) (Nat.lt_of_lt_of_le hR.ltb ka.size) (fun e => by
        obtain ⟨_, _, cur', hc'⟩ := own_lo hra e.symm
        exact (hR.kept0 ka).other hc' (by decide) (by decide) (by decide) (.inl rfl)) j).1 h1
      exact (rbs_kept ka hR.ltb (fun f => f) j).1 h2
theorem apply_S {R : RT} {x : T1} {l : List T1} {zx : Int} (h : x.kind = 1 ∨ x.kind = 2 ∨ x.kind = 3 ∨ x.kind = 4) : (applyR R x l zx).S = R.S := by
  unfold applyR doR
  rw [if_neg (by omega), if_neg (by omega), if_neg (by omega), if_neg (by omega)]
  exact part_S R x zx
end Go.Proofs.Ytjlffmkiiphfcaa
