/- part. -/
import Derived.Test.YtccoeccibokecaaNj
namespace Go.Proofs.Ytccoeccibokecaa
open Go.ChangeShapes Go.WideShapes Go.ChangeAt Go.RowKit Go.Maps
set_option linter.unusedVariables false
set_option linter.unusedSimpArgs false
section
variable {Z : Nat → Prop} {w w' : World} {q : TB} {M : TM} {c : Nat} {D E : DV}
theorem EvsAt.mono {B B' : Nat} {v : Value} {l : List Ev} (h : EvsAt B w v l) (hB : B' ≤ B) : EvsAt B' w v l := by
  refine ⟨h.1, ?_⟩
  rcases h.2 with h0 | ⟨g, cap, cur, rfl, hb, r⟩
  · exact .inl h0
  · exact .inr ⟨g, cap, cur, rfl, Nat.le_trans hB hb, r⟩
theorem CallPost.back {w0 : World} {r : TM × List Ev} {e : Ending} (h : CallPost Z q c w0 r e w') (hk : Kept (fun _ => False) w w0) {c' : Nat} (hc : c ≤ c') : CallPost Z q c' w r e w' := by
  obtain ⟨v, he, hv, ht, hk'⟩ := h
  exact ⟨v, he, hv.mono hk.size, ht.mono hc, (hk.mono (fun _ _ f => f.elim)).trans hk'⟩
set_option maxRecDepth 100000 in
set_option maxHeartbeats 1000000 in
theorem part_any (h : TAt Z w q M c) (x : T1) (y : TX) (zx : Int) (hx : TxAt q w x y) (hp : x.path.size ≤ 140737488355328) (hc : c < 4611686018427387903) :
    Calls Try.prog 57 #[.pointer (some ⟨q.t, 0, none⟩), txnV x y, .int .i64 zx] w (CallPost Z q (c + 2) w (partM M x zx)) := by
  have hk0 : Kept (fun _ => False) w (w.alloc (txnO x y)) := (Kept.refl _ w).alloc _
  have HK0 := Lib.hid hk0
  have hT := h.kept0 hk0
  have hX := hx.kept0 hk0
  have HCr := Lib.hid (create_any hT x y zx hX hp hc)
  have HRe := Lib.hid (remove_any hT x y zx hp (by omega))
  have HSe := Lib.hid (set_any hT x y zx hp (by omega))
  have HAc := Lib.hid (setAcl_any hT x y hX.acl hp (by omega))
  have HT := Lib.hid hT
  clear h hk0 hT hX hx
  obtain ⟨k, p, d, l, o, n⟩ := x
  unfold txnV txnL at *
  by_cases h1 : k = 1
  · subst h1
    have HE : Hid (partM M ⟨1, p, d, l, o, n⟩ zx = createM M ⟨1, p, d, l, o, n⟩ zx) := Lib.hid (by unfold partM; rw [if_pos rfl])
    rw [HE.out]
    go_enter Try.func57, Try.ntmps57
    go_wp2_with fail
    refine HCr.out.mono ?_
    rintro e w1 hP
    obtain ⟨v, rfl, hr⟩ := hP.back HK0.out (Nat.le_refl _)
    have HR := Lib.hid hr
    clear hP hr
    go_wp2_with fail
    go_ret
    exact ⟨v, rfl, HR.out⟩
  by_cases h2 : k = 2
  · subst h2
    have HE : Hid (partM M ⟨2, p, d, l, o, n⟩ zx = removeM M ⟨2, p, d, l, o, n⟩ zx) := Lib.hid (by unfold partM; rw [if_neg (show ¬ (2 : Int) = 1 by decide), if_pos rfl])
    rw [HE.out]
    go_enter Try.func57, Try.ntmps57
    go_wp2_with fail
    refine HRe.out.mono ?_
    rintro e w1 hP
    obtain ⟨v, rfl, hr⟩ := hP.back HK0.out (Nat.le_succ _)
    have HR := Lib.hid hr
    clear hP hr
    go_wp2_with fail
    go_ret
    exact ⟨v, rfl, HR.out⟩
  by_cases h3 : k = 3
  · subst h3
    have HE : Hid (partM M ⟨3, p, d, l, o, n⟩ zx = setM M ⟨3, p, d, l, o, n⟩ zx) := Lib.hid (by unfold partM; rw [if_neg (show ¬ (3 : Int) = 1 by decide), if_neg (show ¬ (3 : Int) = 2 by decide), if_pos rfl])
    rw [HE.out]
    go_enter Try.func57, Try.ntmps57
    go_wp2_with fail
    refine HSe.out.mono ?_
    rintro e w1 hP
    obtain ⟨v, rfl, hr⟩ := hP.back HK0.out (Nat.le_succ _)
    have HR := Lib.hid hr
    clear hP hr
    go_wp2_with fail
    go_ret
    exact ⟨v, rfl, HR.out⟩
  by_cases h4 : k = 4
  · subst h4
    have HE : Hid (partM M ⟨4, p, d, l, o, n⟩ zx = (aclM M ⟨4, p, d, l, o, n⟩, [])) := Lib.hid (by unfold partM; rw [if_neg (show ¬ (4 : Int) = 1 by decide), if_neg (show ¬ (4 : Int) = 2 by decide), if_neg (show ¬ (4 : Int) = 3 by decide), if_pos rfl])
    rw [HE.out]
    go_enter Try.func57, Try.ntmps57
    go_wp2_with fail
    refine HAc.out.mono ?_
    rintro e w1 ⟨rfl, hT1, hk1⟩
    have HR := Lib.hid (And.intro (hT1.mono (Nat.le_succ _)) ((HK0.out.mono (T := TBs q) (fun _ _ f => f.elim)).trans hk1))
    clear hT1 hk1
    go_wp2_with fail
    go_ret
    exact ⟨_, rfl, evsAt_nil _, HR.out⟩
  · have HE : Hid (partM M ⟨k, p, d, l, o, n⟩ zx = (M, [])) := Lib.hid (by unfold partM; rw [if_neg h1, if_neg h2, if_neg h3, if_neg h4])
    rw [HE.out]
    clear HCr HRe HSe HAc
    go_enter Try.func57, Try.ntmps57
    go_wp2_with fail
    go_ret
    exact ⟨_, rfl, evsAt_nil _, HT.out.mono (Nat.le_add_right _ _), HK0.out.mono (fun _ _ f => f.elim)⟩
end
end Go.Proofs.Ytccoeccibokecaa
