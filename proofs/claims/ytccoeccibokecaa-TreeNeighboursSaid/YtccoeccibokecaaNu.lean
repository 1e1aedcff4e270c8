/- Two nodes compared. -/
import Derived.Test.YtccoeccibokecaaNt
namespace Go.Proofs.Ytccoeccibokecaa
open Go.ChangeShapes Go.WideShapes Go.ChangeAt Go.RowKit Go.Maps
set_option linter.unusedVariables false
set_option linter.unusedSimpArgs false
deriving instance DecidableEq for Nd
theorem RowsA.kept0 {w w' : World} {v : Value} {l : List AR} (h : RowsA w v l) (hk : Kept (fun _ => False) w w') : RowsA w' v l := by
  obtain ⟨a, cap, hv, hc⟩ := h.ex
  refine ⟨⟨a, cap, hv, fun i hi => ?_⟩, h.room⟩
  obtain ⟨g, off, ha, hg, h1, h2⟩ := hc i hi
  have hb := hk.block g hg (fun f => f)
  exact ⟨g, off, ha, Nat.lt_of_lt_of_le hg hk.size, by rw [World.cell?_of_block (w := w) hb]; exact h1, by rw [World.cell?_of_block (w := w) hb]; exact h2⟩
theorem RowsA.shape {w : World} {v : Value} {l : List AR} (h : RowsA w v l) : ∃ a n cap, v = .slice a n cap := by
  obtain ⟨a, cap, hv, _⟩ := h.ex; exact ⟨_, _, _, hv⟩
set_option maxRecDepth 100000 in
set_option maxHeartbeats 4000000 in
theorem samenode_any {w : World} {n1 n2 : Nd} {v1 v2 : Value} (h1 : RowsA w v1 n1.acl) (h2 : RowsA w v2 n2.acl) :
    Calls Try.prog 37 #[nodeV n1 v1, nodeV n2 v2] w fun e w' => e = .returned (.bool (decide (n1 = n2))) ∧ Kept (fun _ => False) w w' := by
  obtain ⟨a, an, ac, rfl⟩ := h1.shape
  obtain ⟨b, bn, bc, rfl⟩ := h2.shape
  obtain ⟨d1, l1, ⟨cz1, mz1, pz1, vr1, cv1, av1, ow1⟩⟩ := n1
  obtain ⟨d2, l2, ⟨cz2, mz2, pz2, vr2, cv2, av2, ow2⟩⟩ := n2
  unfold nodeV
  dsimp only at h1 h2 ⊢
  have hk : Kept (fun _ => False) w ((w.alloc (nodeO d1 a an ac ⟨cz1, mz1, pz1, vr1, cv1, av1, ow1⟩)).alloc (nodeO d2 b bn bc ⟨cz2, mz2, pz2, vr2, cv2, av2, ow2⟩)) := ((Kept.refl _ w).alloc _).alloc _
  have HK := Lib.hid hk
  have HEQ := Lib.hid (acleq_any (h1.kept0 hk) (h2.kept0 hk))
  clear h1 h2 hk
  have HF : Hid (∀ {x : Nd} {y : Nd}, x ≠ y → decide (x = y) = false) := Lib.hid (fun h => by simp [h])
  by_cases hd : d1 = d2
  case neg =>
    have b1 : (d1.toList == d2.toList) = false := str_ne hd
    have HN := Lib.hid (HF.out (x := ⟨d1, l1, ⟨cz1, mz1, pz1, vr1, cv1, av1, ow1⟩⟩) (y := ⟨d2, l2, ⟨cz2, mz2, pz2, vr2, cv2, av2, ow2⟩⟩) (fun e => hd (by injection e)))
    go_enter Try.func37, Try.ntmps37
    go_wp2
    go_ret
    exact ⟨ret_bool HN.out.symm, HK.out⟩
  subst hd
  by_cases h : cz1 = cz2
  case neg =>
    have HN := Lib.hid (HF.out (x := ⟨d1, l1, ⟨cz1, mz1, pz1, vr1, cv1, av1, ow1⟩⟩) (y := ⟨d1, l2, ⟨cz2, mz2, pz2, vr2, cv2, av2, ow2⟩⟩) (fun e => h (by injection e with _ _ e3; injection e3)))
    go_enter Try.func37, Try.ntmps37
    go_wp2
    go_ret
    exact ⟨ret_bool HN.out.symm, HK.out⟩
  subst h
  by_cases h : mz1 = mz2
  case neg =>
    have HN := Lib.hid (HF.out (x := ⟨d1, l1, ⟨cz1, mz1, pz1, vr1, cv1, av1, ow1⟩⟩) (y := ⟨d1, l2, ⟨cz1, mz2, pz2, vr2, cv2, av2, ow2⟩⟩) (fun e => h (by injection e with _ _ e3; injection e3)))
    go_enter Try.func37, Try.ntmps37
    go_wp2
    go_ret
    exact ⟨ret_bool HN.out.symm, HK.out⟩
  subst h
  by_cases h : pz1 = pz2
  case neg =>
    have HN := Lib.hid (HF.out (x := ⟨d1, l1, ⟨cz1, mz1, pz1, vr1, cv1, av1, ow1⟩⟩) (y := ⟨d1, l2, ⟨cz1, mz1, pz2, vr2, cv2, av2, ow2⟩⟩) (fun e => h (by injection e with _ _ e3; injection e3)))
    go_enter Try.func37, Try.ntmps37
    go_wp2
    go_ret
    exact ⟨ret_bool HN.out.symm, HK.out⟩
  subst h
  by_cases h : vr1 = vr2
  case neg =>
    have HN := Lib.hid (HF.out (x := ⟨d1, l1, ⟨cz1, mz1, pz1, vr1, cv1, av1, ow1⟩⟩) (y := ⟨d1, l2, ⟨cz1, mz1, pz1, vr2, cv2, av2, ow2⟩⟩) (fun e => h (by injection e with _ _ e3; injection e3)))
    go_enter Try.func37, Try.ntmps37
    go_wp2
    go_ret
    exact ⟨ret_bool HN.out.symm, HK.out⟩
  subst h
  by_cases h : cv1 = cv2
  case neg =>
    have HN := Lib.hid (HF.out (x := ⟨d1, l1, ⟨cz1, mz1, pz1, vr1, cv1, av1, ow1⟩⟩) (y := ⟨d1, l2, ⟨cz1, mz1, pz1, vr1, cv2, av2, ow2⟩⟩) (fun e => h (by injection e with _ _ e3; injection e3)))
    go_enter Try.func37, Try.ntmps37
    go_wp2
    go_ret
    exact ⟨ret_bool HN.out.symm, HK.out⟩
  subst h
  by_cases h : av1 = av2
  case neg =>
    have HN := Lib.hid (HF.out (x := ⟨d1, l1, ⟨cz1, mz1, pz1, vr1, cv1, av1, ow1⟩⟩) (y := ⟨d1, l2, ⟨cz1, mz1, pz1, vr1, cv1, av2, ow2⟩⟩) (fun e => h (by injection e with _ _ e3; injection e3)))
    go_enter Try.func37, Try.ntmps37
    go_wp2
    go_ret
    exact ⟨ret_bool HN.out.symm, HK.out⟩
  subst h
  by_cases h : ow1 = ow2
  case neg =>
    have HN := Lib.hid (HF.out (x := ⟨d1, l1, ⟨cz1, mz1, pz1, vr1, cv1, av1, ow1⟩⟩) (y := ⟨d1, l2, ⟨cz1, mz1, pz1, vr1, cv1, av1, ow2⟩⟩) (fun e => h (by injection e with _ _ e3; injection e3)))
    go_enter Try.func37, Try.ntmps37
    go_wp2
    go_ret
    exact ⟨ret_bool HN.out.symm, HK.out⟩
  subst h
  have HN : Hid (decide ((⟨d1, l1, ⟨cz1, mz1, pz1, vr1, cv1, av1, ow1⟩⟩ : Nd) = ⟨d1, l2, ⟨cz1, mz1, pz1, vr1, cv1, av1, ow1⟩⟩) = decide (l1 = l2)) := Lib.hid (by simp)
  go_enter Try.func37, Try.ntmps37
  go_wp2_with fail
  refine HEQ.out.mono ?_
  rintro e w5 ⟨rfl, n, rfl⟩
  go_wp2_with fail
  go_ret
  exact ⟨ret_bool (by rw [HN.out]), HK.out.drewN n⟩
end Go.Proofs.Ytccoeccibokecaa
