/- New, Open, Touch, Close. -/
import Derived.Test.YtlfcccckghnffaaSc
namespace Go.Proofs.Ytlfcccckghnffaa
open Go.ChangeShapes Go.WideShapes Go.ChangeAt Go.RowKit Go.Maps
set_option linter.unusedVariables false
set_option linter.unusedSimpArgs false
def Moved (w : World) (q : SQ) (L : SL) (c : Nat) (w' : World) : Prop := ∃ q', SAt w' q' L c ∧ q'.t = q.t ∧ (∀ k, SQs q' k → SQs q k ∨ w.heap.size ≤ k) ∧ Kept (SQs q) w w'
def SPost (w : World) (q : SQ) (L : SL) (c : Nat) (r : Int) (e : Ending) (w' : World) : Prop := e = .returned (.int .i64 r) ∧ Moved w q L c w'
section
variable {w w1 w' : World} {q q1 : SQ} {L : SL} {c : Nat} {D : DV} {E : Int → DV}
theorem Moved.same (h : SAt w q L c) (hk : Kept (fun _ => False) w w') : Moved w q L c w' := ⟨q, h.kept0 hk, rfl, fun k hk => .inl hk, hk.mono (fun _ _ f => f.elim)⟩
theorem Moved.mono (h : Moved w q L c w') {c' : Nat} (hc : c ≤ c') : Moved w q L c' w' := by obtain ⟨q', h1, h2⟩ := h; exact ⟨q', h1.mono hc, h2⟩
theorem Moved.ahead (h0 : Kept (fun _ => False) w w1) (h : Moved w1 q L c w') : Moved w q L c w' := by
  obtain ⟨q', h1, h2, h3, h4⟩ := h
  refine ⟨q', h1, h2, fun k hk => ?_, (h0.mono (fun _ _ f => f.elim)).trans h4⟩
  rcases h3 k hk with h | h
  · exact .inl h
  · have := h0.size; exact .inr (by omega)
theorem Moved.then' (h1 : ∀ k, SQs q1 k → SQs q k ∨ w.heap.size ≤ k) (ht : q1.t = q.t) (hk : Kept (SQs q) w w1) (h : Moved w1 q1 L c w') : Moved w q L c w' := by
  obtain ⟨q', a1, a2, a3, a4⟩ := h
  refine ⟨q', a1, a2.trans ht, fun k hk' => ?_, hk.trans' a4 (fun k hk' hs => ?_)⟩
  · rcases a3 k hk' with h | h
    · exact h1 k h
    · have := hk.size; exact .inr (by omega)
  · rcases h1 k hs with h | h
    · exact h
    · omega
set_option maxHeartbeats 400000 in
theorem close_any (h : SAt w q L c) (i : Int) (hi : I64 i) :
    Calls Try.prog 20 #[.pointer (some ⟨q.t, 0, none⟩), .int .i64 i] w (SPost w q (delL L i) c (closeE L i)) := by
  have HD := Lib.hid (dead_any h i hi)
  have HH := Lib.hid h
  cases hg : getL L i with
  | none =>
    have HG := Lib.hid hg
    have HE : Hid (deadN L i = 0 ∧ deadE L i = 90 ∧ closeE L i = 90) := Lib.hid (by unfold deadN deadE closeE; rw [hg]; simp)
    have HL := Lib.hid (del_none h.ok.up hg)
    clear h hg
    go_enter Try.func20, Try.ntmps20
    go_wp2_with (first
      | (go_at_call 11; refine HD.out.mono ?_; rintro e w1 ⟨rfl, hk1⟩; rw [HE.out.1, HE.out.2.1]; have HK1 := Lib.hid hk1; clear hk1)
      | go_in)
    go_ret
    rw [HL.out, HE.out.2.2]
    exact ⟨rfl, Moved.same HH.out HK1.out⟩
  | some s =>
    have HG := Lib.hid hg
    have HE : Hid (deadN L i = s.dl ∧ deadE L i = 0 ∧ closeE L i = 0) := Lib.hid (by unfold deadN deadE closeE; rw [hg]; simp)
    clear h hg
    go_enter Try.func20, Try.ntmps20
    go_wp2_with (first
      | (go_at_call 11; refine HD.out.mono ?_; rintro e w1 ⟨rfl, hk1⟩; rw [HE.out.1, HE.out.2.1]; have HK1 := Lib.hid hk1; clear hk1)
      | (go_at_call 29; refine (take_any (HH.out.kept0 HK1.out) HG.out hi).mono ?_; rintro e w2 ⟨rfl, hm2⟩; have HM2 := Lib.hid hm2; clear hm2)
      | go_in)
    go_ret
    rw [HE.out.2.2]
    exact ⟨rfl, Moved.ahead HK1.out HM2.out⟩
set_option maxHeartbeats 1000000 in
theorem touch_any (h : SAt w q L c) (i now : Int) (hi : I64 i) (hc : c < 4611686018427387904) :
    Calls Try.prog 19 #[.pointer (some ⟨q.t, 0, none⟩), .int .i64 i, .int .i64 now] w (SPost w q (touchL L i now) (c + 1) (touchE L i now)) := by
  have HD := Lib.hid (dead_any h i hi)
  have HH := Lib.hid h
  cases hg : getL L i with
  | none =>
    have HE : Hid (deadN L i = 0 ∧ deadE L i = 90 ∧ touchE L i now = 90 ∧ touchL L i now = L) := Lib.hid (by unfold deadN deadE touchE touchL; rw [hg]; simp)
    clear h hg
    go_enter Try.func19, Try.ntmps19
    go_wp2_with (first
      | (go_at_call 11; refine HD.out.mono ?_; rintro e w1 ⟨rfl, hk1⟩; rw [HE.out.1, HE.out.2.1]; have HK1 := Lib.hid hk1; clear hk1)
      | go_in)
    go_ret
    rw [HE.out.2.2.1, HE.out.2.2.2]
    exact ⟨rfl, (Moved.same HH.out HK1.out).mono (Nat.le_succ c)⟩
  | some s =>
    have HG := Lib.hid hg
    have hid := getL_id hg
    cases hn : okNow now with
    | false =>
      have HE : Hid (deadN L i = s.dl ∧ deadE L i = 0 ∧ touchE L i now = 1 ∧ touchL L i now = L) := Lib.hid (by unfold deadN deadE touchE touchL; rw [hg]; simp [hn])
      have HT : Hid (∀ w, Calls Try.prog 28 #[.int .i64 now] w fun e w' => e = .returned (.bool false) ∧ w' = w) := Lib.hid (fun w => hn ▸ isTime_any now w)
      clear h hg hn hid
      go_enter Try.func19, Try.ntmps19
      go_wp2_with (first
        | (go_at_call 11; refine HD.out.mono ?_; rintro e w1 ⟨rfl, hk1⟩; rw [HE.out.1, HE.out.2.1]; have HK1 := Lib.hid hk1; clear hk1)
        | (go_at_call 28; refine (HT.out _).mono ?_; rintro e w2 ⟨rfl, rfl⟩)
        | go_in)
      go_ret
      rw [HE.out.2.2.1, HE.out.2.2.2]
      exact ⟨rfl, (Moved.same HH.out HK1.out).mono (Nat.le_succ c)⟩
    | true =>
      have hn' : 0 ≤ now ∧ now ≤ 1099511627776 := by simpa [okNow] using hn
      obtain ⟨n0, n1⟩ := hn'
      have ht := h.ok.to s (getL_mem hg)
      obtain ⟨t0, t1⟩ := ht
      have HT : Hid (∀ w, Calls Try.prog 28 #[.int .i64 now] w fun e w' => e = .returned (.bool true) ∧ w' = w) := Lib.hid (fun w => hn ▸ isTime_any now w)
      have HDL := Lib.hid (fun w => deadline_any now s.to w n0 n1 t0 t1)
      have hse := ends_le n0 n1 t0 t1
      have hsd := h.ok.dl s (getL_mem hg)
      have HLK : Hid (∀ W, Kept (fun _ => False) w W → ∃ k, (Instr.lookup 46 (.map (some q.m)) (.int .i64 s.dl) false).run Try.prog W = .ok (.map (some k)) W ∧ (Instr.lookup 53 (.map (some k)) (.int .i64 i) false).run Try.prog W = .ok (.int .i64 s.to) W ∧ W.cell? ⟨q.t, 0, none⟩ = some (.map (some q.m)) ∧ W.frozen? ⟨q.t, 0, none⟩ = false) := Lib.hid (fun W hk => by
        obtain ⟨D, E, h⟩ := h
        have h := h.kept0 hk
        obtain ⟨k, hk, hlk⟩ := h.find hg
        have h1 := look_in1 (h.b _ _ hk) hi
        rw [hlk] at h1
        exact ⟨k, out1 h.m (h.ok.dl64 (getL_mem hg)) (by rw [h.D, hk]; rfl), h1, h.two⟩)
      obtain ⟨z, hz⟩ : ∃ z, endsI now s.to = z := ⟨_, rfl⟩
      by_cases hr : s.dl < endsI now s.to
      · have HE : Hid (deadN L i = s.dl ∧ deadE L i = 0 ∧ touchE L i now = 0 ∧ touchL L i now = putL L ⟨i, s.to, z⟩) := Lib.hid (by unfold deadN deadE touchE touchL; rw [hg]; have hr' := hr; rw [hz] at hr'; simp [hn, hz, hr'])
        have hok : SlOk (touchL L i now) := h.ok.touch i now
        rw [HE.out.2.2.2] at hok
        have hup : putL (delL L i) ⟨i, s.to, z⟩ = putL L ⟨i, s.to, z⟩ := put_del h.ok.up ⟨i, s.to, z⟩
        rw [← hup] at hok
        have HOK := Lib.hid hok
        have HUP := Lib.hid hup
        have hdn : getL (delL L i) i = none := by rw [getL_del, if_pos rfl]
        have HDN := Lib.hid hdn
        rw [hz] at hr hse HDL
        have hz64 : I64 z := by unfold I64; omega
        have HZ := Lib.hid hz64
        clear h hg hn hid hok hup hdn hz hz64
        go_enter Try.func19, Try.ntmps19
        go_wp2_with (first
          | (go_at_call 11; refine HD.out.mono ?_; rintro e w1 ⟨rfl, hk1⟩; rw [HE.out.1, HE.out.2.1]; have HK1 := Lib.hid hk1; clear hk1)
          | (go_at_call 28; refine (HT.out _).mono ?_; rintro e w2 ⟨rfl, rfl⟩; obtain ⟨k, hl1, hl2, c0, f0⟩ := HLK.out _ HK1.out)
          | (go_at_call 31; refine (HDL.out _).mono ?_; rintro e w2 ⟨rfl, rfl⟩)
          | (go_at_call 29; refine (take_any (HH.out.kept0 HK1.out) HG.out hi).mono ?_; rintro e w2 ⟨rfl, q2, hq2, ht2, hb2, hk2⟩; rw [← ht2]; have HQ2 := Lib.hid hq2; have HT2 := Lib.hid ht2; have HB2 := Lib.hid hb2; have HK2 := Lib.hid hk2; clear hq2 ht2 hb2 hk2 hl1 hl2 c0 f0)
          | (go_at_call 30; refine (put_any (s := ⟨i, s.to, z⟩) HQ2.out HDN.out hi HZ.out HOK.out hc).mono ?_; rintro e w3 ⟨rfl, hm3⟩; have HM3 := Lib.hid hm3; clear hm3)
          | go_in)
        go_ret
        rw [HE.out.2.2.1, HE.out.2.2.2, ← HUP.out]
        exact ⟨rfl, Moved.ahead HK1.out (Moved.then' HB2.out HT2.out HK2.out HM3.out)⟩
      · have HE : Hid (deadN L i = s.dl ∧ deadE L i = 0 ∧ touchE L i now = 0 ∧ touchL L i now = L) := Lib.hid (by unfold deadN deadE touchE touchL; rw [hg]; simp [hn, hr])
        rw [hz] at hr hse HDL
        have b1 : decide (z > s.dl) = false := by simpa using hr
        have b2 : decide (s.dl < z) = false := by simpa using hr
        clear h hg hn hid hz
        go_enter Try.func19, Try.ntmps19
        go_wp2_with (first
          | (go_at_call 11; refine HD.out.mono ?_; rintro e w1 ⟨rfl, hk1⟩; rw [HE.out.1, HE.out.2.1]; have HK1 := Lib.hid hk1; clear hk1)
          | (go_at_call 28; refine (HT.out _).mono ?_; rintro e w2 ⟨rfl, rfl⟩; obtain ⟨k, hl1, hl2, c0, f0⟩ := HLK.out _ HK1.out)
          | (go_at_call 31; refine (HDL.out _).mono ?_; rintro e w2 ⟨rfl, rfl⟩)
          | go_in)
        go_ret
        rw [HE.out.2.2.1, HE.out.2.2.2]
        exact ⟨rfl, (Moved.same HH.out HK1.out).mono (Nat.le_succ c)⟩
theorem zrow_shape {B : Nat} {v : Value} {l : List Int} (h : ZRow B w v l) : ∃ a c, v = .slice a l.length c := by
  rcases h.2 with ⟨e1, e2⟩ | ⟨g, cap, cur, e1, _⟩
  · exact ⟨none, 0, by rw [e1, e2]⟩
  · exact ⟨_, _, e1⟩
theorem new_any (w : World) : Calls Try.prog 7 #[] w fun e w' => ∃ q, e = .returned (.pointer (some ⟨q.t, 0, none⟩)) ∧ SAt w' q [] 0 ∧ (∀ k, SQs q k → w.heap.size ≤ k) ∧ Kept (fun _ => False) w w' := by
  have hmm := @run_makeMap Try.prog 46 w
  go_enter Try.func7, Try.ntmps7
  go_wp2
  go_ret
  refine ⟨⟨w.heap.size + 1, w.heap.size, fun _ => none⟩, by simp, ⟨.map [], fun _ => .map [], ?_⟩, ?_, ((Kept.refl _ w).alloc _).alloc _⟩
  · refine ⟨?_, (World.ownsMap_made w _ _ _).alloc _, fun a => lookV_empty _, (fun a k h => by cases h), (fun a k h => by cases h), fun a => ?_, (fun a a' k h => by cases h), (fun a k h => by cases h), slOk_nil⟩
    · have := World.alloc_heap_new (w.alloc (.map #[] 0)) (.cells #[.map (some w.heap.size)] 48)
      simpa using this
    · constructor
      · intro h; cases h
      · rintro ⟨i, s, h, _⟩; cases h
  · rintro k (rfl | rfl | ⟨a, ha⟩)
    · exact Nat.le_succ _
    · exact Nat.le_refl _
    · cases ha
set_option maxHeartbeats 1000000 in
theorem open_any (h : SAt w q L c) (i to now : Int) (hi : I64 i) (hc : c < 4611686018427387904) :
    Calls Try.prog 18 #[.pointer (some ⟨q.t, 0, none⟩), .int .i64 i, .int .i64 to, .int .i64 now] w (SPost w q (openL L i to now) (c + 1) (openE L i to now)) := by
  have HD := Lib.hid (dead_any h i hi)
  have HH := Lib.hid h
  have HT := Lib.hid (fun w => isTime_any now w)
  cases ho : okOpen i to now with
  | false =>
    have HE : Hid (openE L i to now = 1 ∧ openL L i to now = L) := Lib.hid (by unfold openE openL; simp [ho])
    have HM := Lib.hid ((Moved.same h (Kept.refl _ w)).mono (Nat.le_succ c))
    by_cases h1 : i < 1
    · clear h ho
      go_enter Try.func18, Try.ntmps18
      go_wp2
      go_ret
      rw [HE.out.1, HE.out.2]
      exact ⟨rfl, HM.out⟩
    · have b1 : decide (i < 1) = false := by simpa using h1
      by_cases h2 : to < 4
      · clear h ho
        go_enter Try.func18, Try.ntmps18
        go_wp2
        go_ret
        rw [HE.out.1, HE.out.2]
        exact ⟨rfl, HM.out⟩
      · have b2 : decide (to < 4) = false := by simpa using h2
        by_cases h3 : 60 < to
        · clear h ho
          go_enter Try.func18, Try.ntmps18
          go_wp2
          go_ret
          rw [HE.out.1, HE.out.2]
          exact ⟨rfl, HM.out⟩
        · have b3 : decide (to > 60) = false := by simpa using h3
          have b4 : decide (60 < to) = false := by simpa using h3
          have hn : okNow now = false := by
            cases hn : okNow now with
            | false => rfl
            | true =>
              have hn' : 0 ≤ now ∧ now ≤ 1099511627776 := by simpa [okNow] using hn
              have : okOpen i to now = true := by unfold okOpen; simp only [decide_eq_true_eq]; omega
              rw [ho] at this; cases this
          have HT0 : Hid (∀ w, Calls Try.prog 28 #[.int .i64 now] w fun e w' => e = .returned (.bool false) ∧ w' = w) := Lib.hid (fun w => hn ▸ isTime_any now w)
          clear h ho hn
          go_enter Try.func18, Try.ntmps18
          go_wp2_with (first
            | (go_at_call 28; refine (HT0.out _).mono ?_; rintro e w2 ⟨rfl, rfl⟩)
            | go_in)
          go_ret
          rw [HE.out.1, HE.out.2]
          exact ⟨rfl, HM.out⟩
  | true =>
    have ho' : 1 ≤ i ∧ 4 ≤ to ∧ to ≤ 60 ∧ 0 ≤ now ∧ now ≤ 1099511627776 := by simpa [okOpen] using ho
    obtain ⟨i1, t0, t1, n0, n1⟩ := ho'
    have hn : okNow now = true := by simp [okNow, n0, n1]
    have HT1 : Hid (∀ w, Calls Try.prog 28 #[.int .i64 now] w fun e w' => e = .returned (.bool true) ∧ w' = w) := Lib.hid (fun w => hn ▸ isTime_any now w)
    have b1 : decide (i < 1) = false := by simp; omega
    have b2 : decide (to < 4) = false := by simp; omega
    have b3 : decide (to > 60) = false := by simp; omega
    have b4 : decide (60 < to) = false := by simp; omega
    have hse := ends_le n0 n1 t0 t1
    have HDL := Lib.hid (fun w => deadline_any now to w n0 n1 t0 t1)
    obtain ⟨z, hz⟩ : ∃ z, endsI now to = z := ⟨_, rfl⟩
    have hok : SlOk (openL L i to now) := h.ok.open' i to now
    rw [hz] at hse HDL
    have hz64 : I64 z := by unfold I64; omega
    have HZ := Lib.hid hz64
    cases hg : getL L i with
    | some s =>
      have hid := getL_id hg
      have HG := Lib.hid hg
      have HE : Hid (deadN L i = s.dl ∧ deadE L i = 0 ∧ openE L i to now = 0 ∧ openL L i to now = putL L ⟨i, to, z⟩) := Lib.hid (by unfold deadN deadE openE openL; rw [hg]; simp [ho, hz])
      rw [HE.out.2.2.2] at hok
      have hup : putL (delL L i) ⟨i, to, z⟩ = putL L ⟨i, to, z⟩ := put_del h.ok.up ⟨i, to, z⟩
      rw [← hup] at hok
      have HOK := Lib.hid hok
      have HUP := Lib.hid hup
      have hdn : getL (delL L i) i = none := by rw [getL_del, if_pos rfl]
      have HDN := Lib.hid hdn
      clear h hg ho hn hid hok hup hdn hz hz64
      go_enter Try.func18, Try.ntmps18
      go_wp2_with (first
        | (go_at_call 28; refine (HT1.out _).mono ?_; rintro e w2 ⟨rfl, rfl⟩)
        | (go_at_call 11; refine HD.out.mono ?_; rintro e w1 ⟨rfl, hk1⟩; rw [HE.out.1, HE.out.2.1]; have HK1 := Lib.hid hk1; clear hk1)
        | (go_at_call 31; refine (HDL.out _).mono ?_; rintro e w2 ⟨rfl, rfl⟩)
        | (go_at_call 29; refine (take_any (HH.out.kept0 HK1.out) HG.out hi).mono ?_; rintro e w2 ⟨rfl, q2, hq2, ht2, hb2, hk2⟩; rw [← ht2]; have HQ2 := Lib.hid hq2; have HT2 := Lib.hid ht2; have HB2 := Lib.hid hb2; have HK2 := Lib.hid hk2; clear hq2 ht2 hb2 hk2)
        | (go_at_call 30; refine (put_any (s := ⟨i, to, z⟩) HQ2.out HDN.out hi HZ.out HOK.out hc).mono ?_; rintro e w3 ⟨rfl, hm3⟩; have HM3 := Lib.hid hm3; clear hm3)
        | go_in)
      go_ret
      rw [HE.out.2.2.1, HE.out.2.2.2, ← HUP.out]
      exact ⟨rfl, Moved.ahead HK1.out (Moved.then' HB2.out HT2.out HK2.out HM3.out)⟩
    | none =>
      have HG := Lib.hid hg
      have hlen := length_all L
      obtain ⟨n, hn16⟩ : ∃ n, (allL L).length = n := ⟨_, rfl⟩
      by_cases hf : 16 ≤ L.length
      · have hf' : 16 ≤ n := by omega
        have HE : Hid (deadN L i = 0 ∧ deadE L i = 90 ∧ openE L i to now = 91 ∧ openL L i to now = L) := Lib.hid (by unfold deadN deadE openE openL; rw [hg]; simp [ho, hf])
        have HN := Lib.hid hn16
        clear h hg ho hn hok hz hz64 hlen hn16 hf
        go_enter Try.func18, Try.ntmps18
        go_wp2_with (first
          | (go_at_call 28; refine (HT1.out _).mono ?_; rintro e w2 ⟨rfl, rfl⟩)
          | (go_at_call 11; refine HD.out.mono ?_; rintro e w1 ⟨rfl, hk1⟩; rw [HE.out.1, HE.out.2.1]; have HK1 := Lib.hid hk1; clear hk1)
          | (go_at_call 14; refine (all_any (HH.out.kept0 HK1.out)).mono ?_; rintro e w2 ⟨v, rfl, hr2, hk2⟩; have HK2 := Lib.hid (HK1.out.trans hk2); obtain ⟨va, vc, rfl⟩ := zrow_shape hr2; rw [HN.out]; clear hr2 hk2)
          | go_in)
        go_ret
        rw [HE.out.2.2.1, HE.out.2.2.2]
        exact ⟨rfl, (Moved.same HH.out HK2.out).mono (Nat.le_succ c)⟩
      · have hf' : n < 16 := by omega
        have HE : Hid (deadN L i = 0 ∧ deadE L i = 90 ∧ openE L i to now = 0 ∧ openL L i to now = putL L ⟨i, to, z⟩) := Lib.hid (by unfold deadN deadE openE openL; rw [hg]; simp [ho, hf, hz])
        have HN := Lib.hid hn16
        rw [HE.out.2.2.2] at hok
        have HOK := Lib.hid hok
        clear h hg ho hn hok hz hz64 hlen hn16 hf
        go_enter Try.func18, Try.ntmps18
        go_wp2_with (first
          | (go_at_call 28; refine (HT1.out _).mono ?_; rintro e w2 ⟨rfl, rfl⟩)
          | (go_at_call 11; refine HD.out.mono ?_; rintro e w1 ⟨rfl, hk1⟩; rw [HE.out.1, HE.out.2.1]; have HK1 := Lib.hid hk1; clear hk1)
          | (go_at_call 14; refine (all_any (HH.out.kept0 HK1.out)).mono ?_; rintro e w2 ⟨v, rfl, hr2, hk2⟩; have HK2 := Lib.hid (HK1.out.trans hk2); obtain ⟨va, vc, rfl⟩ := zrow_shape hr2; rw [HN.out]; clear hr2 hk2)
          | (go_at_call 31; refine (HDL.out _).mono ?_; rintro e w2 ⟨rfl, rfl⟩)
          | (go_at_call 30; refine (put_any (s := ⟨i, to, z⟩) (HH.out.kept0 HK2.out) HG.out hi HZ.out HOK.out hc).mono ?_; rintro e w3 ⟨rfl, hm3⟩; have HM3 := Lib.hid hm3; clear hm3)
          | go_in)
        go_ret
        rw [HE.out.2.2.1, HE.out.2.2.2]
        exact ⟨rfl, Moved.ahead HK2.out HM3.out⟩
end
end Go.Proofs.Ytlfcccckghnffaa
