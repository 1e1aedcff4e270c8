/- The document's own answers of layer 2: an event, a hello, a note, read. -/
import Derived.Test.YtngcfnffbggniaaRtake
import Derived.Test.YtngcfnffbggniaaIsmall
import Derived.StillTailTactics
import Derived.Outline
namespace Go.Proofs.Ytngcfnffbggniaa
open Go.ChangeShapes Go.WideShapes Go.ChangeAt Go.RowKit
set_option linter.unusedVariables false

theorem num_fit {l : List UInt8} {p e q e' : Nat} {a : Int} (g : numF.get l p e = (a, q, e')) : I64 a := by
  have h : unzz (rSev l p e).1 = a := congrArg (·.1) g
  have hf := rSev_fit l p e
  rw [← h]
  exact ⟨unzz_lo hf, unzz_hi hf⟩
theorem rText_short (l : List UInt8) (most : Nat) (p e : Nat) : (rText l most p e).1.length ≤ most := by
  have := rCount_le l most p e
  unfold rText
  split
  · simp
  · split
    · simp only [List.length_take]; omega
    · simp
theorem text_fit {l : List UInt8} {m p e q e' : Nat} {t : ByteArray} (hm : m ≤ 100000) (g : (textF m).get l p e = (t, q, e')) : Str t := by
  have h : (⟨(rText l m p e).1.toArray⟩ : ByteArray) = t := congrArg (·.1) g
  have hf := rText_short l m p e
  rw [← h]
  unfold Str
  rw [mk_size]
  omega
theorem fnum_of {s : ByteArray} {pos e q e' : Nat} {a : Int} (g : numF.get s.data.toList pos e = (a, q, e')) : ∀ (W : World) (b p : Nat), FAt W b s p e → (e = 0 → p = pos) →
    Calls Try.prog 101 #[.pointer (some ⟨b, 0, none⟩)] W (FPost W b s (.int .i64 a) q e') := fun W b p hF hp => by
  have h := fnum_any W b s p pos e hF hp
  have h1 : unzz (rSev s.data.toList pos e).1 = a := congrArg (·.1) g
  have h2 : (rSev s.data.toList pos e).2.1 = q := congrArg (·.2.1) g
  have h3 : (rSev s.data.toList pos e).2.2 = e' := congrArg (·.2.2) g
  rw [h1, h2, h3] at h
  exact h
theorem ftext_of {s : ByteArray} {m pos e q e' : Nat} {t : ByteArray} (hm : m ≤ 100000) (g : (textF m).get s.data.toList pos e = (t, q, e')) : ∀ (W : World) (b p : Nat), FAt W b s p e → (e = 0 → p = pos) →
    Calls Try.prog 102 #[.pointer (some ⟨b, 0, none⟩), .int .i64 (m : Nat)] W (FPost W b s (.string t) q e') := fun W b p hF hp => by
  have h := ftext_any m W b s p pos e hF hp (by unfold I64; omega)
  have h1 : (⟨(rText s.data.toList m pos e).1.toArray⟩ : ByteArray) = t := congrArg (·.1) g
  have h2 : (rText s.data.toList m pos e).2.1 = q := congrArg (·.2.1) g
  have h3 : (rText s.data.toList m pos e).2.2 = e' := congrArg (·.2.2) g
  rw [h1, h2, h3] at h
  exact h
def TakeOf (W : World) (b : Nat) (s : ByteArray) (xs : List Int) (q e' : Nat) (en : Ending) (w' : World) : Prop :=
  ∃ g p', en = .returned (.slice (some ⟨g, 0, none⟩) xs.length xs.length) ∧ w'.heap[g]? = some (.cells (intsOf xs).toArray 3 (0, 0)) ∧ W.heap.size ≤ g ∧
    FAt w' b s p' e' ∧ (e' = 0 → p' = q) ∧ Kept (RS b) W w'
theorem ftake_of {s : ByteArray} {n pos e q e' : Nat} {xs : List Int} (hn : n ≤ 100000) (g : numsN n s.data.toList pos e = (xs, q, e')) : ∀ (W : World) (b p : Nat), FAt W b s p e → (e = 0 → p = pos) →
    Calls Try.prog 103 #[.pointer (some ⟨b, 0, none⟩), .int .i64 (n : Nat)] W (TakeOf W b s xs q e') := fun W b p hF hp => by
  have h := reftake_any n hn W b s p pos e hF hp
  have hl : xs.length = n := by
    have : (numsN n s.data.toList pos e).1.length = n := getN_len _ _ _ _ _
    rw [g] at this
    exact this
  unfold TkPost at h
  rw [g] at h
  unfold TakeOf
  rw [hl]
  exact h
theorem fend_of (s : ByteArray) (pos e : Nat) : ∀ (W : World) (b p : Nat), FAt W b s p e → (e = 0 → p = pos) →
    Calls Try.prog 76 #[.pointer (some ⟨b, 0, none⟩)] W (FPost W b s (.int .i64 (rEndE s.size pos e : Nat)) pos (rEndE s.size pos e)) := fun W b p hF hp => fend_any W b s p pos e hF hp
theorem fresh_reader (w : World) (s : ByteArray) (hs : s.size ≤ 140737488355328) : FAt (w.alloc (.cells #[.string s, .int .i64 0, .int .i64 0] 116)) w.heap.size s 0 0 :=
  ⟨heap_alloc_new w _, Nat.zero_le _, hs⟩

set_option maxRecDepth 100000 in
set_option maxHeartbeats 600000 in
theorem refget_event (s : ByteArray) (w : World) (hs : s.size ≤ 140737488355328) :
    Calls Try.prog 59 #[.string s] w (TakenPost eventE zEvent w (eventF.read s)) := by
  have HSZ := Lib.hid (show (Try.prog.info? 50).map (·.size) = some 3 by kernel_rfl)
  obtain ⟨v0, q0, e0, g0⟩ : ∃ a q e, numF.get s.data.toList 0 0 = (a, q, e) := ⟨_, _, _, eta3 _⟩
  obtain ⟨v1, q1, e1, g1⟩ : ∃ a q e, (textF 4096).get s.data.toList q0 e0 = (a, q, e) := ⟨_, _, _, eta3 _⟩
  obtain ⟨v2, q2, e2, g2⟩ : ∃ a q e, numF.get s.data.toList q1 e1 = (a, q, e) := ⟨_, _, _, eta3 _⟩
  have hget : eventF.get s.data.toList 0 0 = (⟨v0, v1, v2⟩, q2, e2) := by simp only [eventF, isoF, seqF, g0, g1, g2]
  have hread : eventF.read s = if rEndE s.data.toList.length q2 e2 = 0 then some ⟨v0, v1, v2⟩ else none := by unfold Fmt.read; rw [hget]
  rw [str_len] at hread
  generalize eventF.read s = ro at hread ⊢
  have HREAD := Lib.hid hread; clear hread hget
  have i0 : I64 v0 := num_fit g0
  have i1 : Str v1 := text_fit (by decide) g1
  have i2 : I64 v2 := num_fit g2
  have K0 := Lib.hid (fnum_of g0)
  have K1 := Lib.hid (ftext_of (by decide) g1)
  have K2 := Lib.hid (fnum_of g2)
  have KE := Lib.hid (fend_of s q2 e2)
  clear g0 g1 g2
  generalize hr : rEndE s.size q2 e2 = r at HREAD KE
  clear hr
  have hW : FAt ((w.alloc (.cells [.int .i64 0, .string ⟨#[]⟩, .int .i64 0].toArray 50)).alloc (.cells #[.string s, .int .i64 0, .int .i64 0] 116)) (w.heap.size + 1) s 0 0 := by
    have h := fresh_reader (w.alloc (.cells [.int .i64 0, .string ⟨#[]⟩, .int .i64 0].toArray 50)) s hs
    rwa [show (w.alloc (.cells [.int .i64 0, .string ⟨#[]⟩, .int .i64 0].toArray 50)).heap.size = w.heap.size + 1 from by simp] at h
  have hb0 : ((w.alloc (.cells [.int .i64 0, .string ⟨#[]⟩, .int .i64 0].toArray 50)).alloc (.cells #[.string s, .int .i64 0, .int .i64 0] 116)).heap[w.heap.size]? = some (.cells [.int .i64 0, .string ⟨#[]⟩, .int .i64 0].toArray 50 (0, 0)) := by
    rw [((Old.refl (w.alloc (.cells [.int .i64 0, .string ⟨#[]⟩, .int .i64 0].toArray 50))).make _).block _ (by simp) id]; exact heap_alloc_new w _
  have hO0 : Old w ((w.alloc (.cells [.int .i64 0, .string ⟨#[]⟩, .int .i64 0].toArray 50)).alloc (.cells #[.string s, .int .i64 0, .int .i64 0] 116)) := ((Old.refl w).make _).make _
  have hs0 : w.heap.size + 2 ≤ ((w.alloc (.cells [.int .i64 0, .string ⟨#[]⟩, .int .i64 0].toArray 50)).alloc (.cells #[.string s, .int .i64 0, .int .i64 0] 116)).heap.size := by simp
  have HB := Lib.hid hb0; clear hb0
  have HO := Lib.hid hO0; clear hO0
  have HS0 := Lib.hid hs0; clear hs0
  go_enter Try.func59, Try.ntmps59
  go_wp2_with fail
  refine (K0.out _ _ _ hW (fun _ => rfl)).mono ?_
  rintro en w0 ⟨p0, rfl, hF0, hp0, hk0⟩
  have HP0 := Lib.hid hp0; clear hp0
  have HB0 := Lib.hid ((hk0.block _ (lt_of_block HB.out) (fun h => by have h' : w.heap.size = w.heap.size + 1 := h; omega)).trans HB.out)
  have HO0 := Lib.hid (HO.out.step hk0 (fun k h => by have h' : k = w.heap.size + 1 := h; omega))
  have HS1 := Lib.hid (Nat.le_trans HS0.out hk0.size)
  clear hk0 HB HO HS0 hW  K0
  go_wp2_with fail
  refine (K1.out _ _ _ hF0 HP0.out).mono ?_
  rintro en w1 ⟨p1, rfl, hF1, hp1, hk1⟩
  have HP1 := Lib.hid hp1; clear hp1
  have HB1 := Lib.hid ((hk1.block _ (lt_of_block HB0.out) (fun h => by have h' : w.heap.size = w.heap.size + 1 := h; omega)).trans HB0.out)
  have HO1 := Lib.hid (HO0.out.step hk1 (fun k h => by have h' : k = w.heap.size + 1 := h; omega))
  have HS2 := Lib.hid (Nat.le_trans HS1.out hk1.size)
  clear hk1 HB0 HO0 HS1 hF0 HP0 K1
  go_wp2_with fail
  refine (K2.out _ _ _ hF1 HP1.out).mono ?_
  rintro en w2 ⟨p2, rfl, hF2, hp2, hk2⟩
  have HP2 := Lib.hid hp2; clear hp2
  have HB2 := Lib.hid ((hk2.block _ (lt_of_block HB1.out) (fun h => by have h' : w.heap.size = w.heap.size + 1 := h; omega)).trans HB1.out)
  have HO2 := Lib.hid (HO1.out.step hk2 (fun k h => by have h' : k = w.heap.size + 1 := h; omega))
  have HS3 := Lib.hid (Nat.le_trans HS2.out hk2.size)
  clear hk2 HB1 HO1 HS2 hF1 HP1 K2
  go_wp2_with fail
  refine (KE.out _ _ _ hF2 HP2.out).mono ?_
  rintro en wz ⟨pz, rfl, hFz, hpz, hkz⟩
  have HBZ := Lib.hid ((hkz.block _ (lt_of_block HB2.out) (fun h => by have h' : w.heap.size = w.heap.size + 1 := h; omega)).trans HB2.out)
  have HOZ := Lib.hid (HO2.out.step hkz (fun k h => by have h' : k = w.heap.size + 1 := h; omega))
  clear hkz hpz hFz hF2 HB2 HO2 HS3 HP2 KE
  by_cases h0 : r = 0
  · have hrd : ro = some ⟨v0, v1, v2⟩ := by rw [HREAD.out, if_pos h0]
    have HRD := Lib.hid hrd; clear hrd
    have h0' : ((r : Nat) : Int) = 0 := by omega
    generalize ((r : Nat) : Int) = ri at h0'
    subst h0'
    clear h0 HREAD
    go_wp2_with (refine wpList_store_row _ rfl 50 _ _ rfl w.heap.size _ [.int .i64 v0, .string v1, .int .i64 v2] rfl rfl HBZ.out HSZ.out rfl (by simp [Value.oneCell']) ?_)
    have hrow := setRow_heap wz w.heap.size _ ([.int .i64 v0, .string v1, .int .i64 v2] : List Value).toArray _ _ HBZ.out
    have hload := run_loadVar_row (P := Try.prog) _ w.heap.size 50 50 _ (0, 0) _ hrow Try.underlying50 rfl (by rw [List.size_toArray]; exact HSZ.out)
    exact ret_cell_tmp 2 50 3 w.heap.size _ _ Try.results59 rfl rfl hload rfl ⟨_, by rw [HRD.out]; rfl, old_setRow HOZ.out _, by rw [HRD.out]; exact ⟨rfl, i0, i1, i2⟩⟩
  · have hrd : ro = none := by rw [HREAD.out, if_neg h0]
    have HRD := Lib.hid hrd; clear hrd
    have h0' : ¬ ((r : Nat) : Int) = 0 := by omega
    generalize ((r : Nat) : Int) = ri at h0'
    clear h0 HREAD
    go_wp2_with (refine wpList_store_row _ rfl 50 _ _ rfl w.heap.size _ [.int .i64 0, .string ⟨#[]⟩, .int .i64 0] rfl rfl HBZ.out HSZ.out rfl (by simp [Value.oneCell']) ?_)
    have hrow := setRow_heap wz w.heap.size _ ([.int .i64 0, .string ⟨#[]⟩, .int .i64 0] : List Value).toArray _ _ HBZ.out
    have hload := run_loadVar_row (P := Try.prog) _ w.heap.size 50 50 _ (0, 0) _ hrow Try.underlying50 rfl (by rw [List.size_toArray]; exact HSZ.out)
    exact ret_cell_tmp 2 50 3 w.heap.size _ _ Try.results59 rfl rfl hload rfl ⟨_, by rw [HRD.out]; rfl, old_setRow HOZ.out _, by rw [HRD.out]; exact zEvent_at _ _⟩

set_option maxRecDepth 100000 in
set_option maxHeartbeats 600000 in
theorem refget_hello (s : ByteArray) (w : World) (hs : s.size ≤ 140737488355328) :
    Calls Try.prog 60 #[.string s] w (TakenPost helloE zHello w (helloF.read s)) := by
  have HSZ := Lib.hid (show (Try.prog.info? 52).map (·.size) = some 4 by kernel_rfl)
  obtain ⟨v0, q0, e0, g0⟩ : ∃ a q e, numF.get s.data.toList 0 0 = (a, q, e) := ⟨_, _, _, eta3 _⟩
  obtain ⟨v1, q1, e1, g1⟩ : ∃ a q e, numF.get s.data.toList q0 e0 = (a, q, e) := ⟨_, _, _, eta3 _⟩
  obtain ⟨v2, q2, e2, g2⟩ : ∃ a q e, numF.get s.data.toList q1 e1 = (a, q, e) := ⟨_, _, _, eta3 _⟩
  obtain ⟨v3, q3, e3, g3⟩ : ∃ a q e, (textF 4096).get s.data.toList q2 e2 = (a, q, e) := ⟨_, _, _, eta3 _⟩
  have hget : helloF.get s.data.toList 0 0 = (⟨v0, v1, v2, v3⟩, q3, e3) := by simp only [helloF, isoF, seqF, g0, g1, g2, g3]
  have hread : helloF.read s = if rEndE s.data.toList.length q3 e3 = 0 then some ⟨v0, v1, v2, v3⟩ else none := by unfold Fmt.read; rw [hget]
  rw [str_len] at hread
  generalize helloF.read s = ro at hread ⊢
  have HREAD := Lib.hid hread; clear hread hget
  have i0 : I64 v0 := num_fit g0
  have i1 : I64 v1 := num_fit g1
  have i2 : I64 v2 := num_fit g2
  have i3 : Str v3 := text_fit (by decide) g3
  have hn0 : numsN 3 s.data.toList 0 0 = ([v0, v1, v2], q2, e2) := by simp only [numsN, getN, g0, g1, g2]
  have K0 := Lib.hid (ftake_of (by decide) hn0)
  clear hn0
  have K1 := Lib.hid (ftext_of (by decide) g3)
  have KE := Lib.hid (fend_of s q3 e3)
  clear g0 g1 g2 g3
  generalize hr : rEndE s.size q3 e3 = r at HREAD KE
  clear hr
  have hW : FAt ((w.alloc (.cells [.int .i64 0, .int .i64 0, .int .i64 0, .string ⟨#[]⟩].toArray 52)).alloc (.cells #[.string s, .int .i64 0, .int .i64 0] 116)) (w.heap.size + 1) s 0 0 := by
    have h := fresh_reader (w.alloc (.cells [.int .i64 0, .int .i64 0, .int .i64 0, .string ⟨#[]⟩].toArray 52)) s hs
    rwa [show (w.alloc (.cells [.int .i64 0, .int .i64 0, .int .i64 0, .string ⟨#[]⟩].toArray 52)).heap.size = w.heap.size + 1 from by simp] at h
  have hb0 : ((w.alloc (.cells [.int .i64 0, .int .i64 0, .int .i64 0, .string ⟨#[]⟩].toArray 52)).alloc (.cells #[.string s, .int .i64 0, .int .i64 0] 116)).heap[w.heap.size]? = some (.cells [.int .i64 0, .int .i64 0, .int .i64 0, .string ⟨#[]⟩].toArray 52 (0, 0)) := by
    rw [((Old.refl (w.alloc (.cells [.int .i64 0, .int .i64 0, .int .i64 0, .string ⟨#[]⟩].toArray 52))).make _).block _ (by simp) id]; exact heap_alloc_new w _
  have hO0 : Old w ((w.alloc (.cells [.int .i64 0, .int .i64 0, .int .i64 0, .string ⟨#[]⟩].toArray 52)).alloc (.cells #[.string s, .int .i64 0, .int .i64 0] 116)) := ((Old.refl w).make _).make _
  have hs0 : w.heap.size + 2 ≤ ((w.alloc (.cells [.int .i64 0, .int .i64 0, .int .i64 0, .string ⟨#[]⟩].toArray 52)).alloc (.cells #[.string s, .int .i64 0, .int .i64 0] 116)).heap.size := by simp
  have HB := Lib.hid hb0; clear hb0
  have HO := Lib.hid hO0; clear hO0
  have HS0 := Lib.hid hs0; clear hs0
  go_enter Try.func60, Try.ntmps60
  go_wp2_with fail
  refine (K0.out _ _ _ hW (fun _ => rfl)).mono ?_
  rintro en w0 ⟨t0, p0, rfl, hblk0, hgt0, hF0, hp0, hk0⟩
  have HP0 := Lib.hid hp0; clear hp0
  have HB0 := Lib.hid ((hk0.block _ (lt_of_block HB.out) (fun h => by have h' : w.heap.size = w.heap.size + 1 := h; omega)).trans HB.out)
  have HO0 := Lib.hid (HO.out.step hk0 (fun k h => by have h' : k = w.heap.size + 1 := h; omega))
  have HS1 := Lib.hid (Nat.le_trans HS0.out hk0.size)
  have HT0 := Lib.hid hblk0
  have HG0 : Hid (w.heap.size + 2 ≤ t0) := Lib.hid (Nat.le_trans HS0.out hgt0)
  clear hblk0 hgt0
  clear hk0 HB HO HS0 hW  K0
  go_wp2_with fail
  refine (K1.out _ _ _ hF0 HP0.out).mono ?_
  rintro en w1 ⟨p1, rfl, hF1, hp1, hk1⟩
  have HP1 := Lib.hid hp1; clear hp1
  have HB1 := Lib.hid ((hk1.block _ (lt_of_block HB0.out) (fun h => by have h' : w.heap.size = w.heap.size + 1 := h; omega)).trans HB0.out)
  have HO1 := Lib.hid (HO0.out.step hk1 (fun k h => by have h' : k = w.heap.size + 1 := h; omega))
  have HS2 := Lib.hid (Nat.le_trans HS1.out hk1.size)
  replace HT0 := Lib.hid ((hk1.block _ (lt_of_block HT0.out) (fun h => by have h' : t0 = w.heap.size + 1 := h; have := HG0.out; omega)).trans HT0.out)
  clear hk1 HB0 HO0 HS1 hF0 HP0 K1
  go_wp2_with fail
  refine (KE.out _ _ _ hF1 HP1.out).mono ?_
  rintro en wz ⟨pz, rfl, hFz, hpz, hkz⟩
  have HBZ := Lib.hid ((hkz.block _ (lt_of_block HB1.out) (fun h => by have h' : w.heap.size = w.heap.size + 1 := h; omega)).trans HB1.out)
  have HOZ := Lib.hid (HO1.out.step hkz (fun k h => by have h' : k = w.heap.size + 1 := h; omega))
  have HTZ0 := Lib.hid ((hkz.block _ (lt_of_block HT0.out) (fun h => by have h' : t0 = w.heap.size + 1 := h; have := HG0.out; omega)).trans HT0.out)
  clear hkz hpz hFz hF1 HB1 HO1 HS2 HP1 KE HT0
  by_cases h0 : r = 0
  · have hrd : ro = some ⟨v0, v1, v2, v3⟩ := by rw [HREAD.out, if_pos h0]
    have HRD := Lib.hid hrd; clear hrd
    have h0' : ((r : Nat) : Int) = 0 := by omega
    generalize ((r : Nat) : Int) = ri at h0'
    subst h0'
    clear h0 HREAD
    have c0_0 : wz.cell? ⟨t0, 0, none⟩ = some (.int .i64 v0) := cell_of_row _ _ 0 _ _ _ HTZ0.out
    have c0_1 : wz.cell? ⟨t0, 1, none⟩ = some (.int .i64 v1) := cell_of_row _ _ 1 _ _ _ HTZ0.out
    have c0_2 : wz.cell? ⟨t0, 2, none⟩ = some (.int .i64 v2) := cell_of_row _ _ 2 _ _ _ HTZ0.out
    go_wp2_with fail
    go_still_tail 11, (by kernel_rfl)
    change wpList _ _ _ _ _ wz.drew
    have HBY : Hid (wz.drew.heap[w.heap.size]? = some (.cells [.int .i64 0, .int .i64 0, .int .i64 0, .string ⟨#[]⟩].toArray 52 (0, 0))) := HBZ
    have HOY := Lib.hid (Old.drew HOZ.out)
    generalize wz.drew = wy at HBY HOY ⊢
    go_wp2_with (refine wpList_store_row _ rfl 52 _ _ rfl w.heap.size _ [.int .i64 v0, .int .i64 v1, .int .i64 v2, .string v3] rfl rfl HBY.out HSZ.out rfl (by simp [Value.oneCell']) ?_)
    have hrow := setRow_heap wy w.heap.size _ ([.int .i64 v0, .int .i64 v1, .int .i64 v2, .string v3] : List Value).toArray _ _ HBY.out
    have hload := run_loadVar_row (P := Try.prog) _ w.heap.size 52 52 _ (0, 0) _ hrow Try.underlying52 rfl (by rw [List.size_toArray]; exact HSZ.out)
    exact ret_cell_tmp 2 52 3 w.heap.size _ _ Try.results60 rfl rfl hload rfl ⟨_, by rw [HRD.out]; rfl, old_setRow HOY.out _, by rw [HRD.out]; exact ⟨rfl, i0, i1, i2, i3⟩⟩
  · have hrd : ro = none := by rw [HREAD.out, if_neg h0]
    have HRD := Lib.hid hrd; clear hrd
    have h0' : ¬ ((r : Nat) : Int) = 0 := by omega
    generalize ((r : Nat) : Int) = ri at h0'
    clear h0 HREAD
    go_wp2_with (refine wpList_store_row _ rfl 52 _ _ rfl w.heap.size _ [.int .i64 0, .int .i64 0, .int .i64 0, .string ⟨#[]⟩] rfl rfl HBZ.out HSZ.out rfl (by simp [Value.oneCell']) ?_)
    have hrow := setRow_heap wz w.heap.size _ ([.int .i64 0, .int .i64 0, .int .i64 0, .string ⟨#[]⟩] : List Value).toArray _ _ HBZ.out
    have hload := run_loadVar_row (P := Try.prog) _ w.heap.size 52 52 _ (0, 0) _ hrow Try.underlying52 rfl (by rw [List.size_toArray]; exact HSZ.out)
    exact ret_cell_tmp 2 52 3 w.heap.size _ _ Try.results60 rfl rfl hload rfl ⟨_, by rw [HRD.out]; rfl, old_setRow HOZ.out _, by rw [HRD.out]; exact zHello_at _ _⟩

set_option maxRecDepth 100000 in
set_option maxHeartbeats 600000 in
theorem refget_note (s : ByteArray) (w : World) (hs : s.size ≤ 140737488355328) :
    Calls Try.prog 61 #[.string s] w (TakenPost noteE zNote w (noteF.read s)) := by
  have HSZ := Lib.hid (show (Try.prog.info? 54).map (·.size) = some 6 by kernel_rfl)
  obtain ⟨v0, q0, e0, g0⟩ : ∃ a q e, numF.get s.data.toList 0 0 = (a, q, e) := ⟨_, _, _, eta3 _⟩
  obtain ⟨v1, q1, e1, g1⟩ : ∃ a q e, numF.get s.data.toList q0 e0 = (a, q, e) := ⟨_, _, _, eta3 _⟩
  obtain ⟨v2, q2, e2, g2⟩ : ∃ a q e, numF.get s.data.toList q1 e1 = (a, q, e) := ⟨_, _, _, eta3 _⟩
  obtain ⟨v3, q3, e3, g3⟩ : ∃ a q e, numF.get s.data.toList q2 e2 = (a, q, e) := ⟨_, _, _, eta3 _⟩
  obtain ⟨v4, q4, e4, g4⟩ : ∃ a q e, numF.get s.data.toList q3 e3 = (a, q, e) := ⟨_, _, _, eta3 _⟩
  obtain ⟨v5, q5, e5, g5⟩ : ∃ a q e, numF.get s.data.toList q4 e4 = (a, q, e) := ⟨_, _, _, eta3 _⟩
  have hget : noteF.get s.data.toList 0 0 = (⟨v0, v1, v2, v3, v4, v5⟩, q5, e5) := by simp only [noteF, isoF, seqF, g0, g1, g2, g3, g4, g5]
  have hread : noteF.read s = if rEndE s.data.toList.length q5 e5 = 0 then some ⟨v0, v1, v2, v3, v4, v5⟩ else none := by unfold Fmt.read; rw [hget]
  rw [str_len] at hread
  generalize noteF.read s = ro at hread ⊢
  have HREAD := Lib.hid hread; clear hread hget
  have i0 : I64 v0 := num_fit g0
  have i1 : I64 v1 := num_fit g1
  have i2 : I64 v2 := num_fit g2
  have i3 : I64 v3 := num_fit g3
  have i4 : I64 v4 := num_fit g4
  have i5 : I64 v5 := num_fit g5
  have hn0 : numsN 6 s.data.toList 0 0 = ([v0, v1, v2, v3, v4, v5], q5, e5) := by simp only [numsN, getN, g0, g1, g2, g3, g4, g5]
  have K0 := Lib.hid (ftake_of (by decide) hn0)
  clear hn0
  have KE := Lib.hid (fend_of s q5 e5)
  clear g0 g1 g2 g3 g4 g5
  generalize hr : rEndE s.size q5 e5 = r at HREAD KE
  clear hr
  have hW : FAt ((w.alloc (.cells [.int .i64 0, .int .i64 0, .int .i64 0, .int .i64 0, .int .i64 0, .int .i64 0].toArray 54)).alloc (.cells #[.string s, .int .i64 0, .int .i64 0] 116)) (w.heap.size + 1) s 0 0 := by
    have h := fresh_reader (w.alloc (.cells [.int .i64 0, .int .i64 0, .int .i64 0, .int .i64 0, .int .i64 0, .int .i64 0].toArray 54)) s hs
    rwa [show (w.alloc (.cells [.int .i64 0, .int .i64 0, .int .i64 0, .int .i64 0, .int .i64 0, .int .i64 0].toArray 54)).heap.size = w.heap.size + 1 from by simp] at h
  have hb0 : ((w.alloc (.cells [.int .i64 0, .int .i64 0, .int .i64 0, .int .i64 0, .int .i64 0, .int .i64 0].toArray 54)).alloc (.cells #[.string s, .int .i64 0, .int .i64 0] 116)).heap[w.heap.size]? = some (.cells [.int .i64 0, .int .i64 0, .int .i64 0, .int .i64 0, .int .i64 0, .int .i64 0].toArray 54 (0, 0)) := by
    rw [((Old.refl (w.alloc (.cells [.int .i64 0, .int .i64 0, .int .i64 0, .int .i64 0, .int .i64 0, .int .i64 0].toArray 54))).make _).block _ (by simp) id]; exact heap_alloc_new w _
  have hO0 : Old w ((w.alloc (.cells [.int .i64 0, .int .i64 0, .int .i64 0, .int .i64 0, .int .i64 0, .int .i64 0].toArray 54)).alloc (.cells #[.string s, .int .i64 0, .int .i64 0] 116)) := ((Old.refl w).make _).make _
  have hs0 : w.heap.size + 2 ≤ ((w.alloc (.cells [.int .i64 0, .int .i64 0, .int .i64 0, .int .i64 0, .int .i64 0, .int .i64 0].toArray 54)).alloc (.cells #[.string s, .int .i64 0, .int .i64 0] 116)).heap.size := by simp
  have HB := Lib.hid hb0; clear hb0
  have HO := Lib.hid hO0; clear hO0
  have HS0 := Lib.hid hs0; clear hs0
  go_enter Try.func61, Try.ntmps61
  go_wp2_with fail
  refine (K0.out _ _ _ hW (fun _ => rfl)).mono ?_
  rintro en w0 ⟨t0, p0, rfl, hblk0, hgt0, hF0, hp0, hk0⟩
  have HP0 := Lib.hid hp0; clear hp0
  have HB0 := Lib.hid ((hk0.block _ (lt_of_block HB.out) (fun h => by have h' : w.heap.size = w.heap.size + 1 := h; omega)).trans HB.out)
  have HO0 := Lib.hid (HO.out.step hk0 (fun k h => by have h' : k = w.heap.size + 1 := h; omega))
  have HS1 := Lib.hid (Nat.le_trans HS0.out hk0.size)
  have HT0 := Lib.hid hblk0
  have HG0 : Hid (w.heap.size + 2 ≤ t0) := Lib.hid (Nat.le_trans HS0.out hgt0)
  clear hblk0 hgt0
  clear hk0 HB HO HS0 hW  K0
  go_wp2_with fail
  refine (KE.out _ _ _ hF0 HP0.out).mono ?_
  rintro en wz ⟨pz, rfl, hFz, hpz, hkz⟩
  have HBZ := Lib.hid ((hkz.block _ (lt_of_block HB0.out) (fun h => by have h' : w.heap.size = w.heap.size + 1 := h; omega)).trans HB0.out)
  have HOZ := Lib.hid (HO0.out.step hkz (fun k h => by have h' : k = w.heap.size + 1 := h; omega))
  have HTZ0 := Lib.hid ((hkz.block _ (lt_of_block HT0.out) (fun h => by have h' : t0 = w.heap.size + 1 := h; have := HG0.out; omega)).trans HT0.out)
  clear hkz hpz hFz hF0 HB0 HO0 HS1 HP0 KE HT0
  by_cases h0 : r = 0
  · have hrd : ro = some ⟨v0, v1, v2, v3, v4, v5⟩ := by rw [HREAD.out, if_pos h0]
    have HRD := Lib.hid hrd; clear hrd
    have h0' : ((r : Nat) : Int) = 0 := by omega
    generalize ((r : Nat) : Int) = ri at h0'
    subst h0'
    clear h0 HREAD
    have c0_0 : wz.cell? ⟨t0, 0, none⟩ = some (.int .i64 v0) := cell_of_row _ _ 0 _ _ _ HTZ0.out
    have c0_1 : wz.cell? ⟨t0, 1, none⟩ = some (.int .i64 v1) := cell_of_row _ _ 1 _ _ _ HTZ0.out
    have c0_2 : wz.cell? ⟨t0, 2, none⟩ = some (.int .i64 v2) := cell_of_row _ _ 2 _ _ _ HTZ0.out
    have c0_3 : wz.cell? ⟨t0, 3, none⟩ = some (.int .i64 v3) := cell_of_row _ _ 3 _ _ _ HTZ0.out
    have c0_4 : wz.cell? ⟨t0, 4, none⟩ = some (.int .i64 v4) := cell_of_row _ _ 4 _ _ _ HTZ0.out
    have c0_5 : wz.cell? ⟨t0, 5, none⟩ = some (.int .i64 v5) := cell_of_row _ _ 5 _ _ _ HTZ0.out
    go_wp2_with fail
    go_still_tail 19, (by kernel_rfl)
    change wpList _ _ _ _ _ wz.drew
    have HBY : Hid (wz.drew.heap[w.heap.size]? = some (.cells [.int .i64 0, .int .i64 0, .int .i64 0, .int .i64 0, .int .i64 0, .int .i64 0].toArray 54 (0, 0))) := HBZ
    have HOY := Lib.hid (Old.drew HOZ.out)
    generalize wz.drew = wy at HBY HOY ⊢
    go_wp2_with (refine wpList_store_row _ rfl 54 _ _ rfl w.heap.size _ [.int .i64 v0, .int .i64 v1, .int .i64 v2, .int .i64 v3, .int .i64 v4, .int .i64 v5] rfl rfl HBY.out HSZ.out rfl (by simp [Value.oneCell']) ?_)
    have hrow := setRow_heap wy w.heap.size _ ([.int .i64 v0, .int .i64 v1, .int .i64 v2, .int .i64 v3, .int .i64 v4, .int .i64 v5] : List Value).toArray _ _ HBY.out
    have hload := run_loadVar_row (P := Try.prog) _ w.heap.size 54 54 _ (0, 0) _ hrow Try.underlying54 rfl (by rw [List.size_toArray]; exact HSZ.out)
    exact ret_cell_tmp 2 54 3 w.heap.size _ _ Try.results61 rfl rfl hload rfl ⟨_, by rw [HRD.out]; rfl, old_setRow HOY.out _, by rw [HRD.out]; exact ⟨rfl, i0, i1, i2, i3, i4, i5⟩⟩
  · have hrd : ro = none := by rw [HREAD.out, if_neg h0]
    have HRD := Lib.hid hrd; clear hrd
    have h0' : ¬ ((r : Nat) : Int) = 0 := by omega
    generalize ((r : Nat) : Int) = ri at h0'
    clear h0 HREAD
    go_wp2_with (refine wpList_store_row _ rfl 54 _ _ rfl w.heap.size _ [.int .i64 0, .int .i64 0, .int .i64 0, .int .i64 0, .int .i64 0, .int .i64 0] rfl rfl HBZ.out HSZ.out rfl (by simp [Value.oneCell']) ?_)
    have hrow := setRow_heap wz w.heap.size _ ([.int .i64 0, .int .i64 0, .int .i64 0, .int .i64 0, .int .i64 0, .int .i64 0] : List Value).toArray _ _ HBZ.out
    have hload := run_loadVar_row (P := Try.prog) _ w.heap.size 54 54 _ (0, 0) _ hrow Try.underlying54 rfl (by rw [List.size_toArray]; exact HSZ.out)
    exact ret_cell_tmp 2 54 3 w.heap.size _ _ Try.results61 rfl rfl hload rfl ⟨_, by rw [HRD.out]; rfl, old_setRow HOZ.out _, by rw [HRD.out]; exact zNote_at _ _⟩

end Go.Proofs.Ytngcfnffbggniaa
