/- CodecTakes: the walk. -/
import Derived.Test.YtkfpkfbahkmakaaTake
namespace Go.Proofs.Ytkfpkfbahkmakaa.codecTakes
open Go.ChangeShapes Go.WideShapes Go.ChangeAt Go.RowKit
set_option linter.unusedVariables false

structure Rel (w0 : World) (b1 : Nat) (v1 : Value) (x1 : Nat) (s : ByteArray) (b2 : Nat) (v2 : Value) (x2 : Nat) (t : ByteArray) (n : Nat) (iv : Value) (wr : World) : Prop where
  ex : ∃ (k : Nat), iv = .int .i64 k ∧ k ≤ n ∧ (∃ pos p e, Both wr b1 v1 x1 s pos p e) ∧ (∃ pos p e, Both wr b2 v2 x2 t pos p e) ∧ Old w0 wr

structure Apart (w0 : World) (b1 : Nat) (v1 : Value) (x1 : Nat) (b2 : Nat) (v2 : Value) (x2 : Nat) : Prop where
  own : ¬ WS b1 v1 x1
  row : Disj (WS b2 v2) (BS b1 x1)
  other : ¬ BS b1 x1 x2
  off : Off w0.heap.size (BS b1 x1)

theorem both_keep {w w' : World} {b1 : Nat} {v1 : Value} {x1 : Nat} {s : ByteArray} {S : Nat → Prop} (h : ∃ pos p e, Both w b1 v1 x1 s pos p e) (hk : Kept S w w') (h1 : Disj (WS b1 v1) S) (h2 : ¬ S x1) : ∃ pos p e, Both w' b1 v1 x1 s pos p e := by
  obtain ⟨pos, p, e, h⟩ := h
  exact ⟨pos, p, e, h.r.keep hk h1, h.f.keep hk h2, h.alike⟩

set_option maxRecDepth 100000 in
set_option maxHeartbeats 1000000 in
theorem walk (s t : ByteArray) (a : Option Addr) (len cap : Nat) (its : List Item) (w : World) (ws : s.size ≤ 140737488351232) (wt : t.size ≤ 140737488351232) (hI : ItemsAt w a len its) :
    Calls Try.prog 4 #[.string s, .string t, .slice a len cap] w fun e w' => e = .returned (.bool true) ∧ Below w.heap.size w w' := by
  go_enter Try.func4, Try.ntmps4
  go_wp2_with fail
  refine (awake_any _).mono ?_
  rintro e w1 ⟨rfl, hO1⟩
  go_wp2_with fail
  refine (read_any s _ (by unfold maxLen; omega)).mono ?_
  rintro e w2 ⟨b1, v1, rfl, hR2, hb1, hv1, k2⟩
  have hO2 := hO1.none k2
  have o1 := off_of hO1 hb1 hv1
  go_wp2_with fail
  refine (read_any t _ (by unfold maxLen; omega)).mono ?_
  rintro e w3 ⟨b2, v2, rfl, hQ3, hb2, hv2, k3⟩
  have hO3 := hO2.none k3
  have o2 := off_of hO2 hb2 hv2
  have hR3 := hR2.keep k3 (disj_none _)
  have d12 : Disj (WS b2 v2) (WS b1 v1) := Off.disj (fun k hk => by rcases hk with rfl | hk; exact hb2; exact hv2 k hk.symm) hR2.inn
  clear hR2 hO1 hO2 k2 k3 hb1 hv1 hb2 hv2
  go_wp2_with fail
  have hI3 := hI.below hO3.below
  have hb1 : b1 < w3.heap.size := lt_of_block hR3.at_
  have hb2 : b2 < w3.heap.size := lt_of_block hQ3.at_
  have kx : Kept (fun _ => False) w3 ((w3.alloc (.cells #[.string s, .int .i64 0, .int .i64 0] 37)).alloc (.cells #[.string t, .int .i64 0, .int .i64 0] 37)) := ((Kept.refl _ w3).alloc _).alloc _
  have hF1 : FAt ((w3.alloc (.cells #[.string s, .int .i64 0, .int .i64 0] 37)).alloc (.cells #[.string t, .int .i64 0, .int .i64 0] 37)) w3.heap.size s 0 0 :=
    ⟨by rw [Below.heap_alloc _ _ _ (by simp)]; exact heap_alloc_new w3 _, Nat.zero_le _, ws⟩
  have hF2 : FAt ((w3.alloc (.cells #[.string s, .int .i64 0, .int .i64 0] 37)).alloc (.cells #[.string t, .int .i64 0, .int .i64 0] 37)) (w3.heap.size + 1) t 0 0 :=
    ⟨by have := heap_alloc_new (w3.alloc (.cells #[.string s, .int .i64 0, .int .i64 0] 37)) (.cells #[.string t, .int .i64 0, .int .i64 0] 37)
        simpa using this, Nat.zero_le _, wt⟩
  have hB1 : Both _ b1 v1 w3.heap.size s 0 0 0 := ⟨hR3.keep kx (disj_none _), hF1, fun _ => rfl⟩
  have hB2 : Both _ b2 v2 (w3.heap.size + 1) t 0 0 0 := ⟨hQ3.keep kx (disj_none _), hF2, fun _ => rfl⟩
  have hO4 := hO3.none kx
  have i1 := hR3.inn
  have i2 := hQ3.inn
  have n11 : ¬ WS b1 v1 w3.heap.size := fun h => by have := i1 _ h; omega
  have n12 : ¬ WS b1 v1 (w3.heap.size + 1) := fun h => by have := i1 _ h; omega
  have n21 : ¬ WS b2 v2 w3.heap.size := fun h => by have := i2 _ h; omega
  have n22 : ¬ WS b2 v2 (w3.heap.size + 1) := fun h => by have := i2 _ h; omega
  have hA1 : Apart w b1 v1 w3.heap.size b2 v2 (w3.heap.size + 1) := by
    refine ⟨n11, fun k h hk => ?_, fun h => ?_, fun k hk => ?_⟩
    · rcases hk with rfl | rfl
      · exact d12 _ h (Or.inl rfl)
      · exact n21 h
    · rcases h with h | h
      · omega
      · omega
    · rcases hk with rfl | rfl
      · exact o1 _ (Or.inl rfl)
      · exact hO3.size
  have hA2 : Apart w b2 v2 (w3.heap.size + 1) b1 v1 w3.heap.size := by
    refine ⟨n22, fun k h hk => ?_, fun h => ?_, fun k hk => ?_⟩
    · rcases hk with rfl | rfl
      · exact d12 _ (Or.inl rfl) h
      · exact n12 h
    · rcases h with h | h
      · omega
      · omega
    · rcases hk with rfl | rfl
      · exact o2 _ (Or.inl rfl)
      · have := hO3.size; omega
  have hstart : Rel w b1 v1 w3.heap.size s b2 v2 (w3.heap.size + 1) t len (.int .i64 0) _ := ⟨0, rfl, Nat.zero_le _, ⟨_, _, _, hB1⟩, ⟨_, _, _, hB2⟩, hO4⟩
  clear hB1 hB2 hO4 hF1 hF2 kx n11 n12 n21 n22 i1 i2 d12 hI3 hR3 hQ3 o1 o2 hO3
  have HST := Lib.hid hstart; clear hstart
  go_wp2_with fail
  generalize hx1 : w3.heap.size = x1 at *
  generalize hx2 : x1 + 1 = x2 at *
  have HX1 := Lib.hid hx1; have HX2 := Lib.hid hx2; clear hx1 hx2
  go_loopw [12, 13] (fun iv _ wr => Rel w b1 v1 x1 s b2 v2 x2 t len iv wr) (fun iv _ _ => len - (intOf iv).toNat)
  case atStart => exact HST.out
  case round =>
    obtain ⟨k, rfl, hk, hB1, hB2, hO⟩ := hrel.ex
    clear hrel HST HX1 HX2
    have hI2 := hI.below hO.below
    by_cases hlt : k < len
    · obtain ⟨hlen, hfits, hroom, hat⟩ := hI2
      rcases hat with h0 | ⟨b, off, rfl, hb, hc⟩
      · omega
      obtain ⟨c0, c1, c2, c3⟩ := hc k (by omega)
      have hfit := hfits _ (List.getElem_mem (show k < its.length by omega))
      have hsn := hfit.n
      clear hfit
      have hkl : (k : Int) < (len : Int) := by omega
      have hnn : (0 : Int) ≤ (k : Int) := by omega
      generalize its[k] = x at c0 c1 c2 c3 hsn
      clear hc hfits hlen
      by_cases hpar : k % 2 = 0
      · have p2 : ((k : Int) % 2 == 0) = true := by simp; omega
        clear hpar
        obtain ⟨pos, p, e, hB⟩ := hB1
        go_wp2_with (go_at_call 17; refine (take_any x _ b1 v1 x1 s pos p e hB hA1.own hsn).mono ?_; rintro en w4 ⟨rfl, hB4, hk4⟩)
        exact ⟨⟨k + 1, rfl, hlt, hB4, both_keep hB2 hk4 hA1.row hA1.other, hO.step hk4 hA1.off⟩, by simp [intOf]; omega⟩
      · have p2 : ((k : Int) % 2 == 0) = false := by simp; omega
        clear hpar
        obtain ⟨pos, p, e, hB⟩ := hB2
        go_wp2_with (go_at_call 17; refine (take_any x _ b2 v2 x2 t pos p e hB hA2.own hsn).mono ?_; rintro en w4 ⟨rfl, hB4, hk4⟩)
        exact ⟨⟨k + 1, rfl, hlt, both_keep hB1 hk4 hA2.row hA2.other, hB4, hO.step hk4 hA2.off⟩, by simp [intOf]; omega⟩
    · have hkl : ¬ (k : Int) < (len : Int) := by omega
      have hsl : s.data.toList.length = s.size := by simp
      have htl : t.data.toList.length = t.size := by simp
      have HSL := Lib.hid hsl; have HTL := Lib.hid htl; clear hsl htl
      have r1 : ∀ k, RS b1 k → BS b1 x1 k := fun k h => Or.inl h
      have f1 : ∀ k, RS x1 k → BS b1 x1 k := fun k h => Or.inr h
      have r2 : ∀ k, RS b2 k → BS b2 x2 k := fun k h => Or.inl h
      have f2 : ∀ k, RS x2 k → BS b2 x2 k := fun k h => Or.inr h
      obtain ⟨pos, p, e, hB⟩ := hB1
      go_wp2_with fail
      refine (rend_e _ b1 v1 _ pos e hB.r).mono ?_
      rw [HSL.out]
      rintro en w4 ⟨rfl, hR4, k4⟩
      have hF4 := hB.f.keep k4 (fun h => hA1.own (Or.inl (show x1 = b1 from h)))
      have hB24 := both_keep hB2 (k4.mono fun k _ => r1 k) hA1.row hA1.other
      have hO4 := hO.step (k4.mono fun k _ => r1 k) hA1.off
      have hal := hB.alike
      clear hB hB2 hO k4
      have HAL := Lib.hid hal; clear hal
      go_wp2_with fail
      refine (fend_any _ x1 s p pos e hF4 HAL.out).mono ?_
      rintro en w5 ⟨p5, rfl, hF5, hp5, k5⟩
      have hR5 := hR4.keep k5 (fun k h e => hA1.own (by rw [← show k = x1 from e]; exact h))
      have hB25 := both_keep hB24 (k5.mono fun k _ => f1 k) hA1.row hA1.other
      have hO5 := hO4.step (k5.mono fun k _ => f1 k) hA1.off
      have HP5 := Lib.hid hp5; clear hp5
      clear hR4 hF4 hB24 hO4 k5 HAL
      obtain ⟨qos, q, z, hQ⟩ := hB25
      go_wp2_with fail
      refine (rend_e _ b2 v2 _ qos z hQ.r).mono ?_
      rw [HTL.out]
      rintro en w6 ⟨rfl, hR6, k6⟩
      have hF6 := hQ.f.keep k6 (fun h => hA2.own (Or.inl (show x2 = b2 from h)))
      have hR16 := hR5.keep (k6.mono fun k _ => r2 k) hA2.row
      have hF16 := hF5.keep (k6.mono fun k _ => r2 k) hA2.other
      have hO6 := hO5.step (k6.mono fun k _ => r2 k) hA2.off
      have hal := hQ.alike
      have HAL := Lib.hid hal; clear hal hQ hR5 hF5 hO5 k6
      go_wp2_with fail
      refine (fend_any _ x2 t q qos z hF6 HAL.out).mono ?_
      rintro en w7 ⟨p7, rfl, hF7, hp7, k7⟩
      have hR17 := hR16.keep (k7.mono fun k _ => f2 k) hA2.row
      have hF17 := hF16.keep (k7.mono fun k _ => f2 k) hA2.other
      have hO7 := hO6.step (k7.mono fun k _ => f2 k) hA2.off
      clear hR16 hF16 hO6 hR6 hF6 hF7 hp7 k7 HAL
      go_wp2_with fail
      refine (rend_e _ b1 v1 _ pos _ hR17).mono ?_
      rw [HSL.out]
      rintro en w8 ⟨rfl, hR8, k8⟩
      have hF8 := hF17.keep k8 (fun h => hA1.own (Or.inl (show x1 = b1 from h)))
      have hO8 := hO7.step (k8.mono fun k _ => r1 k) hA1.off
      clear hR17 hF17 hO7 k8
      go_wp2_with fail
      refine (fend_any _ x1 s p5 pos _ hF8 HP5.out).mono ?_
      rintro en w9 ⟨p9, rfl, hF9, hp9, k9⟩
      have hO9 := hO8.step (k9.mono fun k _ => f1 k) hA1.off
      clear hp9
      go_wp2_with fail
      go_ret
      exact ⟨ret_val (congrArg Value.bool (by simp)), hO9.below⟩
end Go.Proofs.Ytkfpkfbahkmakaa.codecTakes
