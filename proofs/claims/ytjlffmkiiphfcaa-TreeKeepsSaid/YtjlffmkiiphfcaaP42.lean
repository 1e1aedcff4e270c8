/- The law's txn: a session is opened. -/
import Derived.Test.YtjlffmkiiphfcaaP40
import Derived.Deep.RegionWith
namespace Go.Proofs.Ytjlffmkiiphfcaa
open Go.ChangeShapes Go.WideShapes Go.ChangeAt Go.RowKit Go.Maps
set_option linter.unusedVariables false
set_option linter.unusedSimpArgs false
theorem wrapI_id (M : Int) (h1 : -9223372036854775808 ≤ M) (h2 : M ≤ 9223372036854775807) : IntKind.i64.wrap M = M := by
  rw [IntKind.wrap_i64]; omega
/-- a transaction without parts stored cell by cell into the result's variable -/
theorem fin_chain {w W N W8 : World} {R : RT} {x : T1} {y : TX} {g : Nat} {x0 : T1} {y0 : TX} (hg : w.heap.size ≤ g) (hb : W.heap[g]? = some (txnO x0 y0)) (hk : Kept (fun _ => False) w W) (hx : TxW W x y []) (hs : y.sa = none) (ho : TxnOk R x []) {v0 v1 v2 v3 v4 v5 v6 v7 : Value} (hv : [v0, v1, v2, v3, v4, v5, v6, v7] = txnL x y)
    (hN : N = (((((((W.setCell ⟨g, 0, none⟩ v0).setCell ⟨g, 1, none⟩ v1).setCell ⟨g, 2, none⟩ v2).setCell ⟨g, 3, none⟩ v3).setCell ⟨g, 4, none⟩ v4).setCell ⟨g, 5, none⟩ v5).setCell ⟨g, 6, none⟩ v6).setCell ⟨g, 7, none⟩ v7) (h8 : W8 = N.drew) :
    (loadVar 38 ⟨g, 0, none⟩).run Try.prog W8 = .ok (txnV x y) W8 ∧ TxnPost w R (.returned (txnV x y)) W8 := by
  have k8 : Kept (fun k => k = g) W W8 := by
    have e8 : Kept (fun k => k = g) W N := by rw [hN]; exact kept8 v0 v1 v2 v3 v4 v5 v6 v7
    rw [h8]; exact e8.drew
  have b8 : W8.heap[g]? = some (.cells (txnL x y).toArray 38 (0, 0)) := by
    rw [h8, World.heap_drew, hN, ← hv]; exact set8 hb
  have hA : ∀ k cur, W.heap[k]? = some (.cells cur 95 (0, 0)) → ¬ k = g := fun k cur hc e => by
    subst e
    rw [hb] at hc
    simp at hc
  refine ⟨txnR_load b8, x, y, [], rfl, ⟨hx.acl.kept k8 hA, ⟨ownKept hx.subs.own k8 (fun k e e' => ?_), fun _ h => (List.not_mem_nil h).elim, fun _ h => (List.not_mem_nil h).elim, Nat.zero_le _⟩, hx.path, hx.own⟩, ho, kept_in k8 hk hg⟩
  rw [hs] at e
  cases e
set_option maxRecDepth 100000 in
set_option maxHeartbeats 4000000 in
theorem txn_open {w : World} {b k : Nat} {R : RT} (h : RAt w b R) (hI : HInv k R) (hk : k ≤ 900) (zx : Int) (o : OpN) (ho : o.Fits) (va : Option Addr) (vc : Nat) (ls : List OpN) (hl : SubsD w (.slice va ls.length vc) ls) (hf : ∀ k ∈ ls, k.Fits) (hl6 : ls.length ≤ 6) (hq : absN o.a % 11 = 6) :
    Calls Try.prog 37 #[.pointer (some ⟨b, 0, none⟩), .agg #[.int .i64 o.a, .int .i64 o.b, .int .i64 o.c, .string o.s, .slice va ls.length vc], .int .i64 zx] w (TxnPost w R) := by
  obtain ⟨W, hW⟩ : ∃ W, (w.alloc (actO o (.slice va ls.length vc))).alloc (txnO ⟨0, ⟨#[]⟩, ⟨#[]⟩, [], 0, 0⟩ ⟨none, 0, 0, 0, none, 0, 0⟩) = W := ⟨_, rfl⟩
  have hkW : Kept (fun _ => False) w W := by rw [← hW]; exact ((Kept.refl _ w).alloc _).alloc _
  have hb1 : W.heap[w.heap.size]? = some (actO o (.slice va ls.length vc)) := by
    rw [← hW, Below.heap_alloc _ _ _ (by simp)]; exact heap_alloc_new w _
  have hb2 : W.heap[w.heap.size + 1]? = some (txnO ⟨0, ⟨#[]⟩, ⟨#[]⟩, [], 0, 0⟩ ⟨none, 0, 0, 0, none, 0, 0⟩) := by
    have h9 := heap_alloc_new (w.alloc (actO o (.slice va ls.length vc))) (txnO ⟨0, ⟨#[]⟩, ⟨#[]⟩, [], 0, 0⟩ ⟨none, 0, 0, 0, none, 0, 0⟩)
    rw [show (w.alloc (actO o (.slice va ls.length vc))).heap.size = w.heap.size + 1 by simp, hW] at h9
    exact h9
  have HKW := Lib.hid hkW
  have HB1 := Lib.hid hb1
  have HB2 := Lib.hid hb2
  have HR := Lib.hid (h.kept0 hkW)
  have HI := Lib.hid hI
  have HV : Hid (RV 8000 R) := Lib.hid (hI.rv (by omega))
  have HL := Lib.hid (hl.kept0 hkW)
  have HLW := Lib.hid hl
  have HF := Lib.hid hf
  have HO := Lib.hid ho
  obtain ⟨a0, a1, a2, a3, a4⟩ := actB hb1
  clear hb1 hb2 hkW h hI hl hf
  obtain ⟨n1, hn1⟩ : ∃ n, absN o.b % 5 = n := ⟨_, rfl⟩
  obtain ⟨n2, hn2⟩ : ∃ n, absN o.c % 50 = n := ⟨_, rfl⟩
  have HN5 : Hid (n1 < 5) := Lib.hid (by rw [← hn1]; exact Nat.mod_lt _ (by decide))
  have HPA : Hid (∀ W, Calls Try.prog 13 #[.int .i64 o.a, .int .i64 11] W fun e w' => e = .returned (.int .i64 6) ∧ W = w') := Lib.hid (fun W => tpick_nat o.a 11 W ho.a.1 ho.a.2 (by decide) (by decide) hq)
  have HPB : Hid (∀ W, Calls Try.prog 13 #[.int .i64 o.b, .int .i64 5] W fun e w' => e = .returned (.int .i64 n1) ∧ W = w') := Lib.hid (fun W => tpick_nat o.b 5 W ho.b.1 ho.b.2 (by decide) (by decide) hn1)
  have HPC : Hid (∀ W, Calls Try.prog 13 #[.int .i64 o.c, .int .i64 50] W fun e w' => e = .returned (.int .i64 n2) ∧ W = w') := Lib.hid (fun W => tpick_nat o.c 50 W ho.c.1 ho.c.2 (by decide) (by decide) hn2)
  clear hn1 hn2
  go_enter Try.func37, Try.ntmps37
  go_upto_region 1 with fail
  clear hW
  go_wp2_with (first
    | (go_at_call 13; with_reducible refine (HPA.out _).mono ?_; rintro e w' ⟨rfl, rfl⟩)
    | fail)
  obtain ⟨s0, s1, s2, s3, s4, s5, s6, s7⟩ := txn8 HB2.out
  have f8 : ∀ j, W.frozen? ⟨w.heap.size + 1, j, none⟩ = false := fun j => by simp [World.frozen?, HB2.out]
  have hown : 1 ≤ IntKind.i64.wrap (1 + (n1 : Int)) ∧ IntKind.i64.wrap (1 + (n1 : Int)) ≤ 5 := by
    have := HN5.out
    rw [wrapI_id _ (by omega) (by omega)]; omega
  obtain ⟨l8, p8⟩ := fin_chain (w := w) (R := R) (x := ⟨5, ⟨#[]⟩, o.s, [], IntKind.i64.wrap (1 + (n1 : Int)), IntKind.i64.wrap (4 + (n2 : Int))⟩) (y := ⟨none, 0, 0, 0, none, 0, 0⟩) (Nat.le_succ _) HB2.out HKW.out (txw_nil (AclW.nil _) ⟨rfl, rfl, rfl⟩ (show (0 : Nat) ≤ 1000000 by decide) (by simp only; omega)) rfl ⟨by simp, fun _ => hown, fun h => by simp at h, fun _ h => (List.not_mem_nil h).elim, fun h => by simp at h, fun h => by simp at h, fun h => by simp at h⟩ rfl rfl rfl
  have HL8 := Lib.hid l8
  have HP8 := Lib.hid p8
  clear l8 p8 hown
  go_region_with (first
    | (go_at_call 13; with_reducible refine (HPB.out _).mono ?_; rintro e w' ⟨rfl, rfl⟩)
    | (go_at_call 13; with_reducible refine (HPC.out _).mono ?_; rintro e w' ⟨rfl, rfl⟩)
    | fail)
  all_goals go_wp2_with fail
  all_goals refine ret_box1 6 38 (w.heap.size + 1) _ ?_ ?_ HL8.out ?_ HP8.out
  all_goals exact rfl
end Go.Proofs.Ytjlffmkiiphfcaa
