/- remove. -/
import Derived.Test.YtccoeccibokecaaNh
namespace Go.Proofs.Ytccoeccibokecaa
open Go.ChangeShapes Go.WideShapes Go.ChangeAt Go.RowKit Go.Maps
set_option linter.unusedVariables false
set_option linter.unusedSimpArgs false
theorem parS_le {s : ByteArray} (h : s.size ≤ 140737488355328) : (parS s).size ≤ 140737488355328 := by
  unfold parS
  split
  · decide
  · rw [ByteArray.size_extract]
    have := (lastS_bd s).2
    omega
theorem wpList_evs1 {w : World} {ops : Array Oper} {rest : List Oper} {o : Oper} {a : Act} {Q : Exit → Act → World → Prop} (hgd : o.guard = none) (s x : Operand)
    (ho : o.op = .call { callee := .builtin .append, args := #[s, x], argTypes := #[31, 31] }) (B : Nat) (v : Value) (l : List Ev) (hs : a.eval s = v) (hown : EvsAt B w v l)
    (k : Int) (p : ByteArray) (z : Int) (hx : a.eval x = .slice (some ⟨w.heap.size, 0, none⟩) 1 1) (hb : l.length ≤ 100000000) (hB : B ≤ w.heap.size)
    (h : ∀ v' w', EvsAt B w' v' (l ++ [⟨k, p, z⟩]) → (w.alloc (.cells #[.int .i64 k, .string p, .int .i64 z] 64)).grownBy w' v.ownBlock → wpList Try.prog ops Q rest (a.put o.dst v') w') : wpList Try.prog ops Q (o :: rest) a (w.alloc (.cells #[.int .i64 k, .string p, .int .i64 z] 64)) :=
  wpList_evs hgd s x ho B v l hs (hown.alloc _) ⟨w.heap.size, 0, none⟩ 1 [⟨k, p, z⟩] hx (cells_new (l := [⟨k, p, z⟩])) (by simp; omega) (by simp; omega) h
section
variable {Z : Nat → Prop} {w w' : World} {q : TB} {M : TM} {c : Nat} {D E : DV}
set_option maxRecDepth 100000 in
set_option maxHeartbeats 1000000 in
theorem remove_any (h : TAt Z w q M c) (x : T1) (y : TX) (zx : Int) (hp : x.path.size ≤ 140737488355328) (hc : c < 4611686018427387904) :
    Calls Try.prog 56 #[.pointer (some ⟨q.t, 0, none⟩), txnV x y, .int .i64 zx] w (CallPost Z q (c + 1) w (removeM M x zx)) := by
  unfold txnV txnL
  have HT0 := Lib.hid h
  have HTB := Lib.hid h.lt
  clear h
  have HC := Lib.hid (fun w => mayCome_any x.path w hp)
  by_cases hm : mayCome x.path = true
  · go_enter Try.func56, Try.ntmps56
    go_wp2_with fail
    refine (HC.out _).mono ?_
    rintro e w1 ⟨rfl, hk⟩
    rw [hm]
    have HK1 := Lib.hid (((Kept.refl (fun _ => False) w).alloc (txnO x y)).trans hk)
    have HB1 : Hid (w1.heap[w.heap.size]? = some (txnO x y)) := Lib.hid ((hk.block _ (by simp) (fun f => f)).trans (heap_alloc_new w _))
    obtain ⟨D, E, hD1⟩ := HT0.out.kept0 HK1.out
    have hbl : w.heap.size < w1.heap.size := lt_of_block HB1.out
    have e1 : w1.cell? ⟨w.heap.size, 1, none⟩ = some (.string x.path) := cell_kept (X := fun _ => False) (Kept.refl _ _) HB1.out (fun f => f) 1 rfl
    obtain ⟨c0, c1, c2, f⟩ := hD1.three
    have hlt := hD1.lt _ (.inl rfl)
    have HD1 := Lib.hid hD1
    clear hk hD1
    go_wp2_with fail
    go_cut [8] (fun v wx => v = .bool (hasN M x.path) ∧ Kept (fun _ => False) w1 wx)
    case first =>
      have hk1 : Kept (fun _ => False) w1 w1.drew := ((Kept.refl _ w1)).drew
      have hk2 : Kept (fun _ => False) w1 (w1.alloc (nodeO ⟨#[]⟩ none 0 0 ⟨0, 0, 0, 0, 0, 0, 0⟩)).drew := (((Kept.refl _ w1)).alloc _).drew
      rcases HD1.out.look x.path.data.toList with ⟨nd, av, hM, hL, ha⟩ | ⟨hM, hL⟩
      · obtain ⟨va, vn, vc, rfl⟩ := ha.shape
        have hrun := (HD1.out.kept0 hk1).lookNode x.path hp
        have hrun' := (HD1.out.kept0 hk2).lookNode x.path hp
        rw [hL] at hrun hrun'
        simp only [Option.getD_some, Option.isSome_some, nodeV] at hrun hrun'
        have HH : Hid (hasN M x.path = true) := Lib.hid (by unfold hasN; rw [hM]; rfl)
        clear hL ha hM hk1 hk2
        go_region
        all_goals go_wp2_with fail
        all_goals go_meet
        all_goals exact ⟨by rw [HH.out], (((Kept.refl _ w1)).alloc _).drew⟩
      · have hrun := (HD1.out.kept0 hk1).lookNode x.path hp
        have hrun' := (HD1.out.kept0 hk2).lookNode x.path hp
        rw [hL] at hrun hrun'
        simp only [Option.getD_none, Option.isSome_none, node0, empty_eq] at hrun hrun'
        have HH : Hid (hasN M x.path = false) := Lib.hid (by unfold hasN; rw [hM]; rfl)
        clear hL hM hk1 hk2
        go_region
        all_goals go_wp2_with fail
        all_goals go_meet
        all_goals exact ⟨by rw [HH.out], (((Kept.refl _ w1)).alloc _).drew⟩
    case rest =>
    obtain ⟨rfl, hkx⟩ := hcut
    have HNB : Hid (¬ TBs q w.heap.size) := Lib.hid (fun e => Nat.lt_irrefl _ (HTB.out _ e))
    have HDc := Lib.hid (HD1.out.kept0 hkx)
    have HKc := Lib.hid (hkx.mono (T := TBs q) (fun _ _ f => f.elim))
    clear e1 c0 c1 c2 f HD1 hkx
    have e1 : wc.cell? ⟨w.heap.size, 1, none⟩ = some (.string x.path) := cell_kept HKc.out HB1.out HNB.out 1 rfl
    have c0 := HDc.out.three.c0
    have hbl2 : w.heap.size < wc.heap.size := Nat.lt_of_lt_of_le hbl HKc.out.size
    go_wp2_with fail
    go_still_tail 6, (by kernel_rfl)
    change wpList _ _ _ _ _ wc.drew
    have HDd := Lib.hid HDc.out.drew
    have HKd := Lib.hid HKc.out.drew
    generalize wc.drew = w3 at HDd HKd ⊢
    clear e1 c0 HDc HKc hbl2
    go_wp2_with (at_delete; refine wpList_delete_own _ rfl _ _ 75 9 rfl 85 keyS Try.underlying75 tok q.n c D rfl HDd.out.n _ _ rfl (keyStr hp) ?_; intro w4 hown4 hturn4; have HD4 := Lib.hid (HDd.out.delN x.path hown4 (keptN hturn4)); have HK4 := Lib.hid (HKd.out.trans ((keptN hturn4).mono (T := TBs q) (fun j _ e => .inr (.inl e)))); clear hown4 hturn4; have e1 : w4.cell? ⟨w.heap.size, 1, none⟩ = some (.string x.path) := cell_kept HK4.out HB1.out HNB.out 1 rfl)
    refine (removeUnder_any ⟨_, _, HD4.out⟩ x.path hp).mono ?_
    rintro e w5 ⟨rfl, hT5, hk5⟩
    rw [drop_eq] at hT5
    have HT5 := Lib.hid hT5
    have HK5 := Lib.hid (HK4.out.trans hk5)
    clear e1 hT5 hk5 HD4 HK4 HDd HKd
    have e1 : w5.cell? ⟨w.heap.size, 1, none⟩ = some (.string x.path) := cell_kept HK5.out HB1.out HNB.out 1 rfl
    have e5 : w5.cell? ⟨w.heap.size, 5, none⟩ = some (.int .i64 x.number) := cell_kept HK5.out HB1.out HNB.out 5 rfl
    go_wp2_with fail
    refine (parent_any x.path _ hp).mono ?_
    rintro e w6 ⟨rfl, rfl⟩
    go_wp2_with fail
    refine (setKids_any HT5.out (parS x.path) x.number zx (parS_le hp) hc).mono ?_
    rintro e w6 ⟨rfl, hT6, hk6⟩
    have HT6 := Lib.hid hT6
    have HK6 := Lib.hid (HK5.out.trans hk6)
    clear e1 e5 hT6 hk6 HT5 HK5
    have e1 : w6.cell? ⟨w.heap.size, 1, none⟩ = some (.string x.path) := cell_kept HK6.out HB1.out HNB.out 1 rfl
    have HE : Hid (removeM M x zx = (kidsOf (dropM M x.path) (parS x.path) x.number zx,
      (if hasN M x.path = true then [⟨2, x.path, zx⟩] else []) ++ (if hasN M x.path = true ∧ hasN (dropM M x.path) (parS x.path) = true then [⟨4, parS x.path, zx⟩] else []))) := Lib.hid (by unfold removeM; rw [if_pos hm])
    have HKw := Lib.hid ((HK1.out.mono (T := TBs q) (fun _ _ f => f.elim)).trans HK6.out)
    generalize hasN M x.path = was at HE ⊢
    generalize hasN (dropM M x.path) (parS x.path) = has at HE ⊢
    clear HC hm HK1 HB1 HK6 hbl hlt
    have hsz := HKw.out.size
    cases was
    · go_wp2_with fail
      go_ret
      rw [HE.out]
      exact ⟨_, rfl, evsAt_nil _, HT6.out, HKw.out⟩
    · cases has
      · go_wp2_with (at_builtin; refine wpList_evs1 rfl _ _ rfl w.heap.size (.slice none 0 0) [] rfl (evsAt_nil _) 2 x.path zx rfl (by simp) hsz (fun v7 w7 hv7 hg7 => ?_); have HT7 := Lib.hid ((HT6.out.kept0 ((Kept.refl _ _).alloc _)).app (evsAt_nil 0) hg7); have HK7 := Lib.hid (kept_app (HKw.out.alloc _) (evsAt_nil w.heap.size) (Nat.le_refl _) hg7); have hsz7 := HK7.out.size; have HV7 := Lib.hid hv7; clear hv7 hg7)
        go_ret
        rw [HE.out]
        exact ⟨_, rfl, HV7.out, HT7.out, HK7.out⟩
      · go_wp2_with (first
          | (at_builtin; refine wpList_evs1 rfl _ _ rfl w.heap.size (.slice none 0 0) [] rfl (evsAt_nil _) 2 x.path zx rfl (by simp) hsz (fun v7 w7 hv7 hg7 => ?_); have HT7 := Lib.hid ((HT6.out.kept0 ((Kept.refl _ _).alloc _)).app (evsAt_nil 0) hg7); have HK7 := Lib.hid (kept_app (HKw.out.alloc _) (evsAt_nil w.heap.size) (Nat.le_refl _) hg7); have hsz7 := HK7.out.size; have HV7 := Lib.hid hv7; clear hv7 hg7)
          | (at_builtin; refine wpList_evs1 rfl _ _ rfl w.heap.size v7 [⟨2, x.path, zx⟩] rfl HV7.out 4 (parS x.path) zx rfl (by simp) hsz7 (fun v8 w8 hv8 hg8 => ?_); have HT8 := Lib.hid ((HT7.out.kept0 ((Kept.refl _ _).alloc _)).app (HV7.out.alloc _) hg8); have HK8 := Lib.hid (kept_app (HK7.out.alloc _) (HV7.out.alloc _) (Nat.le_refl _) hg8); have HV8 := Lib.hid hv8; clear hv8 hg8))
        go_ret
        rw [HE.out]
        exact ⟨_, rfl, HV8.out, HT8.out, HK8.out⟩
  · have hm : mayCome x.path = false := by simpa using hm
    have HE : Hid (removeM M x zx = (M, [])) := Lib.hid (by unfold removeM; rw [if_neg (by rw [hm]; simp)])
    go_enter Try.func56, Try.ntmps56
    go_wp2_with fail
    refine (HC.out _).mono ?_
    rintro e w1 ⟨rfl, hk⟩
    rw [hm]
    have HK1 := Lib.hid (((Kept.refl (fun _ => False) w).alloc (txnO x y)).trans hk)
    clear hk
    go_wp2_with fail
    go_ret
    rw [HE.out]
    exact ⟨_, rfl, evsAt_nil _, TAt.mono (HT0.out.kept0 HK1.out) (Nat.le_succ _), HK1.out.mono (fun _ _ f => f.elim)⟩
end
end Go.Proofs.Ytccoeccibokecaa
