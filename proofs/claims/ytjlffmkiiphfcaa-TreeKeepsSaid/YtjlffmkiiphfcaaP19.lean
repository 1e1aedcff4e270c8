/- The document's own tree: part, finds. -/
import Derived.Test.YtjlffmkiiphfcaaP16
import Derived.Test.YtjlffmkiiphfcaaP17
import Derived.Test.YtjlffmkiiphfcaaP18
namespace Go.Proofs.Ytjlffmkiiphfcaa
open Go.ChangeShapes Go.WideShapes Go.ChangeAt Go.RowKit Go.Maps
set_option linter.unusedVariables false
set_option linter.unusedSimpArgs false
def setF (x : T1) (zx : Int) (n : RN) : RN := { n with data := x.data, st := { n.st with ver := x.number, mz := zx } }
def aclF (x : T1) (n : RN) : RN := { n with acl := x.acl, st := { n.st with aver := x.number } }
def setR (R : RT) (x : T1) (zx : Int) : RT × List Ev := if placed R x.path = true then (modN R (placeI R.N x.path).toNat (setF x zx), [⟨3, x.path, zx⟩]) else (R, [])
def aclR (R : RT) (x : T1) : RT := if placed R x.path = true then modN R (placeI R.N x.path).toNat (aclF x) else R
def partR (R : RT) (x : T1) (zx : Int) : RT × List Ev :=
  if x.kind = 1 then createR R x zx else if x.kind = 2 then eraseR R x zx else if x.kind = 3 then setR R x zx else if x.kind = 4 then (aclR R x, []) else (R, [])
def findsB (R : RT) (x : T1) : Bool :=
  if x.kind = 1 then mayCome x.path && !placed R x.path && placed R (parS x.path)
  else if x.kind = 2 then decide (x.path.data.toList ≠ [47]) && placed R x.path && decide ((kidsR R x.path).length = 0)
  else if x.kind = 3 ∨ x.kind = 4 then placed R x.path else false
set_option maxRecDepth 100000 in
set_option maxHeartbeats 2000000 in
theorem rfinds_any {w : World} {b : Nat} {R : RT} (h : RAt w b R) (x : T1) (y : TX) (hp : x.path.size ≤ 1099511627776) (hps : ∀ n ∈ R.N, n.path.size ≤ 1000000) (hlen : R.N.length ≤ 1000000000) :
    Calls Try.prog 62 #[.pointer (some ⟨b, 0, none⟩), txnV x y] w (QPost (findsB R x) w) := by
  unfold txnV txnL
  have hk0 : Kept (fun _ => False) w (w.alloc (txnO x y)) := (Kept.refl _ w).alloc _
  have HB0 : Hid ((w.alloc (txnO x y)).heap[w.heap.size]? = some (txnO x y)) := Lib.hid (heap_alloc_new w _)
  have HR1 := Lib.hid (h.kept0 hk0)
  have HK0 := Lib.hid hk0
  have HC := Lib.hid (fun w => able_any x.path w hp)
  have HKD := Lib.hid (fun (W : World) (hW : RAt W b R) => rkids_any hW x.path hps hlen)
  have HPL := Lib.hid (fun (W : World) (hW : RAt W b R) (p : ByteArray) => place_any hW p)
  clear h hk0 hlen hps
  obtain ⟨pl, hpl⟩ : ∃ pl, placeI R.N x.path = pl := ⟨_, rfl⟩
  have HP1 : Hid (∀ W, RAt W b R → Calls Try.prog 60 #[.pointer (some ⟨b, 0, none⟩), .string x.path] W fun e w' => e = .returned (.int .i64 pl) ∧ W = w') := Lib.hid (fun W hW => by rw [← hpl]; exact HPL.out W hW x.path)
  obtain ⟨th, hth⟩ : ∃ th : Bool, decide (0 ≤ pl) = th := ⟨_, rfl⟩
  have HTH : Hid (placed R x.path = th) := Lib.hid (by unfold placed; rw [hpl]; exact hth)
  clear hpl
  have hcase : x.kind = 1 ∨ x.kind = 2 ∨ x.kind = 3 ∨ x.kind = 4 ∨ (x.kind ≠ 1 ∧ x.kind ≠ 2 ∧ x.kind ≠ 3 ∧ x.kind ≠ 4) := by omega
  have HX : Hid (txnO x y = .cells #[.int .i64 x.kind, .string x.path, .string x.data, .slice y.aa y.an y.ac, .int .i64 x.owner, .int .i64 x.number, .int .i64 y.err, .slice y.sa y.sn y.sc] 38) := Lib.hid rfl
  rcases hcase with hk | hk | hk | hk | ⟨n1, n2, n3, n4⟩
  · have HE : Hid (findsB R x = (mayCome x.path && !th && placed R (parS x.path))) := Lib.hid (by unfold findsB; rw [if_pos hk, HTH.out])
    have hki : (x.kind == 1) = true := by rw [hk]; rfl
    clear hk
    go_enter Try.func62, Try.ntmps62
    go_wp2_with fail
    refine (HP1.out _ HR1.out).mono ?_
    rintro e w1 ⟨rfl, rfl⟩
    go_wp2_with fail
    refine (HC.out _).mono ?_
    rintro e w1 ⟨rfl, hk1⟩
    have HK1 := Lib.hid (HK0.out.trans hk1)
    have HR2 := Lib.hid (HR1.out.kept0 hk1)
    have HB2 := Lib.hid (box_kept0 HB0.out hk1)
    have t1 : w1.cell? ⟨w.heap.size, 1, none⟩ = some (.string x.path) := cell_box HB2.out rfl
    clear hk1
    cases hmc : mayCome x.path
    · rw [hmc] at HE
      clear hmc
      go_wp2_with fail
      go_ret
      exact ⟨by rw [HE.out]; rfl, HK1.out⟩
    · rw [hmc] at HE
      clear hmc
      cases th
      · obtain ⟨pu, hpu⟩ : ∃ pu, placeI R.N (parS x.path) = pu := ⟨_, rfl⟩
        have HP2 : Hid (Calls Try.prog 60 #[.pointer (some ⟨b, 0, none⟩), .string (parS x.path)] w1 fun e w' => e = .returned (.int .i64 pu) ∧ w1 = w') := Lib.hid (by rw [← hpu]; exact HPL.out _ HR2.out (parS x.path))
        have HPP : Hid (placed R (parS x.path) = decide (0 ≤ pu)) := Lib.hid (by unfold placed; rw [hpu])
        clear hpu
        go_wp2_with (first
          | (go_at_call 50; with_reducible refine (refParent_any _ _ (by omega)).mono ?_; rintro e w' ⟨rfl, rfl⟩)
          | (go_at_call 60; with_reducible refine HP2.out.mono ?_; rintro e w' ⟨rfl, rfl⟩))
        go_ret
        exact ⟨ret_bool (by rw [HE.out, HPP.out]; simp), HK1.out⟩
      · go_wp2_with fail
        go_ret
        exact ⟨by rw [HE.out]; rfl, HK1.out⟩
  · have HE : Hid (findsB R x = (decide (x.path.data.toList ≠ [47]) && th && decide ((kidsR R x.path).length = 0))) := Lib.hid (by unfold findsB; rw [if_neg (by omega), if_pos hk, HTH.out])
    have hk1 : (x.kind == 1) = false := by rw [hk]; rfl
    have hk2 : (x.kind == 2) = true := by rw [hk]; rfl
    clear hk
    by_cases hr : x.path.data.toList = [47]
    · have h1 : (x.path.toList == [47]) = true := by rw [eqSlash]; simpa using hr
      have h2 : (!x.path.toList == [47]) = false := by rw [h1]; rfl
      have HE2 : Hid (findsB R x = false) := Lib.hid (by rw [HE.out]; simp [hr])
      clear hr
      go_enter Try.func62, Try.ntmps62
      go_wp2_with fail
      refine (HP1.out _ HR1.out).mono ?_
      rintro e w1 ⟨rfl, rfl⟩
      go_wp2_with fail
      go_ret
      exact ⟨by rw [HE2.out]; rfl, HK0.out⟩
    · have h1 : (x.path.toList == [47]) = false := by rw [eqSlash]; simpa using hr
      have h2 : (!x.path.toList == [47]) = true := by rw [h1]; rfl
      have HE2 : Hid (findsB R x = (th && decide ((kidsR R x.path).length = 0))) := Lib.hid (by rw [HE.out]; simp [hr])
      clear hr
      cases th
      · go_enter Try.func62, Try.ntmps62
        go_wp2_with fail
        refine (HP1.out _ HR1.out).mono ?_
        rintro e w1 ⟨rfl, rfl⟩
        go_wp2_with fail
        go_ret
        exact ⟨by rw [HE2.out]; rfl, HK0.out⟩
      · go_enter Try.func62, Try.ntmps62
        go_wp2_with fail
        refine (HP1.out _ HR1.out).mono ?_
        rintro e w1 ⟨rfl, rfl⟩
        go_wp2_with fail
        refine (HKD.out _ HR1.out).mono ?_
        rintro e w2 ⟨v, rfl, hv, hk⟩
        obtain ⟨va, vc, rfl⟩ := own_shape hv
        have HK2 := Lib.hid (HK0.out.trans hk)
        clear hv hk
        obtain ⟨n, hn⟩ : ∃ n, (kidsR R x.path).length = n := ⟨_, rfl⟩
        rw [hn] at HE2 ⊢
        clear hn
        go_wp2_with fail
        go_ret
        exact ⟨ret_bool (by rw [HE2.out]; first | rfl | (rw [Bool.eq_iff_iff]; simp)), HK2.out⟩
  · have HE : Hid (findsB R x = th) := Lib.hid (by unfold findsB; rw [if_neg (by omega), if_neg (by omega), if_pos (.inl hk), HTH.out])
    have hk1 : (x.kind == 1) = false := by rw [hk]; rfl
    have hk2 : (x.kind == 2) = false := by rw [hk]; rfl
    have hk3 : (x.kind == 3) = true := by rw [hk]; rfl
    clear hk
    go_enter Try.func62, Try.ntmps62
    go_wp2_with fail
    refine (HP1.out _ HR1.out).mono ?_
    rintro e w1 ⟨rfl, rfl⟩
    go_wp2_with fail
    go_ret
    exact ⟨ret_bool HE.out.symm, HK0.out⟩
  · have HE : Hid (findsB R x = th) := Lib.hid (by unfold findsB; rw [if_neg (by omega), if_neg (by omega), if_pos (.inr hk), HTH.out])
    have hk1 : (x.kind == 1) = false := by rw [hk]; rfl
    have hk2 : (x.kind == 2) = false := by rw [hk]; rfl
    have hk3 : (x.kind == 3) = false := by rw [hk]; rfl
    have hk4 : (x.kind == 4) = true := by rw [hk]; rfl
    clear hk
    go_enter Try.func62, Try.ntmps62
    go_wp2_with fail
    refine (HP1.out _ HR1.out).mono ?_
    rintro e w1 ⟨rfl, rfl⟩
    go_wp2_with fail
    go_ret
    exact ⟨ret_bool HE.out.symm, HK0.out⟩
  · have HE : Hid (findsB R x = false) := Lib.hid (by unfold findsB; rw [if_neg n1, if_neg n2, if_neg (by omega)])
    have hk1 : (x.kind == 1) = false := by simpa using n1
    have hk2 : (x.kind == 2) = false := by simpa using n2
    have hk3 : (x.kind == 3) = false := by simpa using n3
    have hk4 : (x.kind == 4) = false := by simpa using n4
    clear n1 n2 n3 n4
    go_enter Try.func62, Try.ntmps62
    go_wp2_with fail
    refine (HP1.out _ HR1.out).mono ?_
    rintro e w1 ⟨rfl, rfl⟩
    go_wp2_with fail
    go_ret
    exact ⟨by rw [HE.out]; rfl, HK0.out⟩
end Go.Proofs.Ytjlffmkiiphfcaa
