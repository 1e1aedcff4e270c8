/- Add. -/
import Derived.Test.YtjpoebajljbocaaEe
namespace Go.Proofs.Ytjpoebajljbocaa
open Go.ChangeShapes Go.WideShapes Go.ChangeAt Go.RowKit Go.Maps
set_option linter.unusedVariables false
set_option linter.unusedSimpArgs false
theorem ret_intW {a b : Int} (h : a = b) : Ending.returned (.int .i64 a) = .returned (.int .i64 b) := by rw [h]
section
variable {w w' : World} {q : WQ} {L : WL} {D : DV} {E : Int → DV}
theorem addE_bad {o : ByteArray → Int} {i k : Int} {p : ByteArray} (h : i < 1 ∨ k < 1 ∨ 3 < k ∨ o p ≠ 0) : addE o L i k p = 1 ∧ addW o L i k p = L := by
  unfold addE addW; rw [if_pos h, if_pos h]; exact ⟨rfl, rfl⟩
theorem addE_there {o : ByteArray → Int} {i k : Int} {p : ByteArray} (h : ¬ (i < 1 ∨ k < 1 ∨ 3 < k ∨ o p ≠ 0)) (hm : (k, p) ∈ listW L i) : addE o L i k p = 0 ∧ addW o L i k p = L := by
  unfold addE addW; rw [if_neg h, if_neg h, if_pos hm, if_pos hm]; exact ⟨rfl, rfl⟩
theorem addE_full {o : ByteArray → Int} {i k : Int} {p : ByteArray} (h : ¬ (i < 1 ∨ k < 1 ∨ 3 < k ∨ o p ≠ 0)) (hm : (k, p) ∉ listW L i) (hf : 64 ≤ countW L i) : addE o L i k p = 91 ∧ addW o L i k p = L := by
  unfold addE addW; rw [if_neg h, if_neg h, if_neg hm, if_neg hm, if_pos hf, if_pos hf]; exact ⟨rfl, rfl⟩
theorem addE_new {o : ByteArray → Int} {i k : Int} {p : ByteArray} (h : ¬ (i < 1 ∨ k < 1 ∨ 3 < k ∨ o p ≠ 0)) (hm : (k, p) ∉ listW L i) (hf : ¬ 64 ≤ countW L i) : addE o L i k p = 0 ∧ addW o L i k p = setW L i (listW L i ++ [(k, p)]) := by
  unfold addE addW; rw [if_neg h, if_neg h, if_neg hm, if_neg hm, if_neg hf, if_neg hf]; exact ⟨rfl, rfl⟩
/-- what the two look-ups give, whatever world that keeps the table -/
theorem WD.lookTwo (h : WD w q L D E) {i : Int} (hi : I64 i) {x : Wt} (hx : Fit1 x) : ∃ m : Option Nat, ∀ W, Kept (fun _ => False) w W →
    (W.cell? ⟨q.t, 0, none⟩ = some (.map (some q.m)) ∧ (Instr.lookup 118 (.map (some q.m)) (.int .i64 i) false).run Try.prog W = .ok (.map m) W ∧
     (Instr.lookup 127 (.map m) (.agg #[.int .i64 x.1, .string x.2]) true).run Try.prog W = .ok (.tuple #[.agg #[], .bool (decide (x ∈ listW L i))]) W) := by
  cases hb : q.B i with
  | none =>
    refine ⟨none, fun W hk => ?_⟩
    have hW := h.kept0 hk
    have := hW.look1 hi
    rw [hb] at this
    refine ⟨hW.two.1, this, ?_⟩
    have h0 := h.noneB.1 hb
    rw [h0]
    have := look_none (w := W) hx
    unfold wv at this
    rw [this]; simp
  | some k =>
    refine ⟨some k, fun W hk => ?_⟩
    have hW := h.kept0 hk
    have := hW.look1 hi
    rw [hb] at this
    exact ⟨hW.two.1, this, hW.lookB hb hx⟩
set_option maxRecDepth 100000 in
set_option maxHeartbeats 2000000 in
theorem add_any (h : WAt w q L) (i k : Int) (p : ByteArray) (hi : I64 i) (hp : p.size ≤ 140737488355328) (hLl : L.length < 4611686018427387904) :
    Calls Try.prog 29 #[.pointer (some ⟨q.t, 0, none⟩), .int .i64 i, .int .i64 k, .string p] w fun e w' =>
      e = .returned (.int .i64 (addE checkS L i k p)) ∧ MovedW w q (addW checkS L i k p) w' := by
  have HH := Lib.hid h
  by_cases h1 : i < 1
  · have HE := Lib.hid (addE_bad (L := L) (o := checkS) (i := i) (k := k) (p := p) (.inl h1))
    have b1 : decide (i < 1) = true := by simpa using h1
    clear h
    go_enter Try.func29, Try.ntmps29
    go_wp2_with fail
    go_ret
    rw [HE.out.1, HE.out.2]
    exact ⟨rfl, MovedW.same HH.out (Kept.refl _ _)⟩
  · have b1 : decide (i < 1) = false := by simpa using h1
    have HW := Lib.hid (isWatch_any k p hp w)
    by_cases hw : isW k p = true
    · have hn : ¬ (i < 1 ∨ k < 1 ∨ 3 < k ∨ checkS p ≠ 0) := by
        unfold isW at hw
        simp only [Bool.and_eq_true, decide_eq_true_eq] at hw
        rintro (h | h | h | h)
        · exact h1 h
        · omega
        · omega
        · exact h hw.2.2
      have hk3 : 1 ≤ k ∧ k ≤ 3 := by omega
      rw [hw] at HW
      have hfit : Fit1 (k, p) := ⟨by show I64 k; unfold I64; omega, by unfold maxLen; exact Nat.le_trans hp (by decide)⟩
      obtain ⟨D, E, h⟩ := h
      obtain ⟨m, hm⟩ := h.lookTwo hi hfit
      have HL2 := Lib.hid hm
      have HN := Lib.hid hn
      have HF := Lib.hid hfit
      have HCN := Lib.hid (fun W (hk : Kept (fun _ => False) w W) => (h.kept0 hk).count i hi)
      have hok := (h.ok.add (o := checkS) (i := i) (k := k) (p := p) hi.2 hp)
      have HOK := Lib.hid hok
      clear h hm hn hfit hw hok
      go_enter Try.func29, Try.ntmps29
      go_wp2_with (first
        | (go_at_call 55; refine HW.out.mono ?_; rintro e w1 ⟨rfl, hk1⟩; have HK1 := Lib.hid hk1; clear hk1)
        | fail)
      have hkA : Kept (fun _ => False) w (w1.alloc (BoxW (k, p))) := HK1.out.alloc _
      have hbx := heap_alloc_new w1 (BoxW (k, p))
      unfold BoxW at hkA hbx
      have HKA := Lib.hid hkA
      have HBX := Lib.hid hbx
      generalize hsz : w1.heap.size = sz at *
      generalize hw2 : w1.alloc _ = w2 at *
      have HSZ := Lib.hid hsz
      clear hkA hbx hw2 hsz
      obtain ⟨c0, l0, l1⟩ := HL2.out _ HKA.out.drew
      obtain ⟨c0', l0', l1'⟩ := HL2.out _ (HKA.out.alloc (.cells #[] 124)).drew
      obtain ⟨x0, x1⟩ := box2_kept ((Kept.refl (fun _ => False) w2).drew) HBX.out (fun f => f)
      obtain ⟨x0', x1'⟩ := box2_kept (((Kept.refl (fun _ => False) w2).alloc (.cells #[] 124)).drew) HBX.out (fun f => f)
      by_cases hmem : (k, p) ∈ listW L i
      · have HE := Lib.hid (addE_there HN.out hmem)
        simp only [hmem, decide_true] at l1 l1'
        clear hmem
        go_region
        all_goals go_wp2_with fail
        all_goals go_ret
        all_goals
          rw [HE.out.1, HE.out.2]
          exact ⟨rfl, MovedW.same HH.out ((HKA.out.alloc _).drew)⟩
      · by_cases hfull : 64 ≤ countW L i
        · have HE := Lib.hid (addE_full HN.out hmem hfull)
          simp only [hmem, decide_false] at l1 l1'
          have HC := Lib.hid (HCN.out _ (HKA.out.alloc (.cells #[] 124)).drew)
          obtain ⟨cn, hcn⟩ : ∃ cn, countW L i = cn := ⟨_, rfl⟩
          rw [hcn] at HC hfull
          have hf' : ((cn : Int) ≥ 64) := by omega
          clear hmem hcn
          go_region
          all_goals go_wp2_with (first
            | (go_at_call 30; refine HC.out.mono ?_; rintro e w3 ⟨rfl, rfl⟩)
            | fail)
          all_goals go_ret
          all_goals
            rw [HE.out.1, HE.out.2]
            exact ⟨rfl, MovedW.same HH.out ((HKA.out.alloc _).drew)⟩
        · have HE := Lib.hid (addE_new HN.out hmem hfull)
          simp only [hmem, decide_false] at l1 l1'
          have HC := Lib.hid (HCN.out _ (HKA.out.alloc (.cells #[] 124)).drew)
          rw [HE.out.2] at HOK
          have HP := Lib.hid (put_any (HH.out.kept0 (HKA.out.alloc (.cells #[] 124)).drew) (i := i) (x := (k, p)) ⟨by omega, hi.2⟩ HF.out hmem HOK.out hLl)
          obtain ⟨cn, hcn⟩ : ∃ cn, countW L i = cn := ⟨_, rfl⟩
          rw [hcn] at HC hfull
          have hf' : decide ((cn : Int) ≥ 64) = false := by simp; omega
          have hf'' : decide ((64 : Int) ≤ cn) = false := by simp; omega
          have hf3 : ¬ ((64 : Int) ≤ cn) := by omega
          clear hmem hcn hfull
          go_region
          all_goals go_wp2_with (first
            | (go_at_call 30; refine HC.out.mono ?_; rintro e w3 ⟨rfl, rfl⟩)
            | (go_at_call 56; refine HP.out.mono ?_; rintro e w3 ⟨rfl, hm3⟩; have HM3 := Lib.hid hm3; clear hm3)
            | fail)
          all_goals go_ret
          all_goals
            rw [HE.out.1, HE.out.2]
            exact ⟨rfl, MovedW.ahead ((HKA.out.alloc _).drew) HM3.out⟩
    · have hw : isW k p = false := by simpa using hw
      have hb : k < 1 ∨ 3 < k ∨ checkS p ≠ 0 := by
        unfold isW at hw
        by_cases e1 : 1 ≤ k
        · by_cases e3 : k ≤ 3
          · right; right; intro e; simp [e1, e3, e] at hw
          · right; left; omega
        · left; omega
      have HE := Lib.hid (addE_bad (L := L) (o := checkS) (i := i) (k := k) (p := p) (.inr hb))
      rw [hw] at HW
      clear h hb hw
      go_enter Try.func29, Try.ntmps29
      go_wp2_with (first
        | (go_at_call 55; refine HW.out.mono ?_; rintro e w1 ⟨rfl, hk1⟩)
        | fail)
      go_ret
      rw [HE.out.1, HE.out.2]
      exact ⟨rfl, MovedW.same HH.out hk1⟩
end
end Go.Proofs.Ytjpoebajljbocaa
