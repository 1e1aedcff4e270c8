/- step of layer 3: one call on both. -/
import Derived.Test.YtpobflionjndcaaDf
namespace Go.Proofs.Ytpobflionjndcaa
open Go.ChangeShapes Go.WideShapes Go.ChangeAt Go.RowKit
open Go.Maps Go.Sort Go.Shelf Go.Proofs
set_option linter.unusedVariables false
set_option linter.unusedSimpArgs false

structure OpS where
  k : Int
  n : Int
  f : Int
  short : Bool
  other : Bool
  how : List Int
structure OpS.Fits (o : OpS) : Prop where
  n1 : -9223372036854775808 ≤ o.n
  n2 : o.n ≤ 9223372036854775807
  f1 : -9223372036854775808 ≤ o.f
  f2 : o.f ≤ 9223372036854775807
  h : o.how.length * 8 ≤ 140737488351232
def OpS.cells (o : OpS) (hv : Value) : List Value := [.int .i64 o.k, .int .i64 o.n, .int .i64 o.f, .bool o.short, .bool o.other, hv]
def OpS.text (o : OpS) : List UInt8 := if o.short then (filledL o.f).drop 1 else filledL o.f
def stepD (d : DSt) (o : OpS) : DSt :=
  if o.k = 1 then (writeD d o.n o.text).1 else if o.k = 2 then (syncD d).1 else if o.k = 4 then (armD d o.f).1 else if o.k = 5 then crashD d o.how else d

theorem Pq.less {B : Nat} {X X' : Nat → Prop} {b : Nat} {q : RB4} {d : DSt} {r : RSt} {w : World} (h : Pq B X' b q d r w) (hs : ∀ g, X g → X' g) : Pq B X b q d r w := by
  obtain ⟨sb, mb, nn, hD, e1, e2⟩ := h.dx.ex
  exact ⟨⟨sb, mb, nn, hD, e1, fun k hx => e2 k (hx.imp (hs k) id)⟩, h.rf, h.lo, fun g hg => h.far g (hs g hg)⟩
structure SPost (B : Nat) (X : Nat → Prop) (b : Nat) (q : RB4) (d : DSt) (w : World) (e : Ending) (w' : World) : Prop where
  e : e = .returned (.bool true)
  ex : ∃ r, Pq B X b q d r w' ∧ Sim d r
  kept : Kept (OutX B X) w w'
theorem Ps.post {B : Nat} {X X' : Nat → Prop} {ob : Nat} {cs : List Value} {b : Nat} {q : RB4} {d : DSt} {r : RSt} {w w' : World} (h : Ps w B X X' ob cs b q d r w') (hs : Sim d r) {v : Bool} (hv : v = true) : SPost B X b q d w (.returned (.bool v)) w' :=
  ⟨by rw [hv], ⟨r, h.pq.less h.sub, hs⟩, h.kept⟩
theorem Pq.box {B : Nat} {X : Nat → Prop} {b : Nat} {q : RB4} {d : DSt} {r : RSt} {w : World} (h : Pq B X b q d r w) (cs : List Value) : Ps w B X (fun k => X k ∨ k = w.heap.size) w.heap.size cs b q d r (w.alloc (.cells cs.toArray 33)) := by
  have hk : Kept (fun _ => False) w (w.alloc (.cells cs.toArray 33)) := (Kept.refl _ w).alloc _
  exact ⟨h.more hk (Nat.le_refl _) (by simp), fun _ hx => .inl hx, .inr rfl, heap_alloc_new w _, hk.mono (fun _ _ f => f.elim)⟩

section
variable {B : Nat} {X : Nat → Prop} {b : Nat} {q : RB4} {d : DSt} {r : RSt} {w : World}
set_option maxRecDepth 100000 in
set_option maxHeartbeats 2000000 in
theorem step_write (h : Pq B X b q d r w) (hs : Sim d r) (o : OpS) (hf : o.Fits) (hk : o.k = 1) (ha : d.acts < 4611686018427387902) (hv : Value) :
    Calls Try.prog 10 #[.pointer (some ⟨b, 0, none⟩), .pointer (some ⟨q.x, 0, none⟩), .agg #[.int .i64 o.k, .int .i64 o.n, .int .i64 o.f, .bool o.short, .bool o.other, hv]] w (SPost B X b q (stepD d o) w) := by
  obtain ⟨k, n, f, short, other, how⟩ := o
  obtain rfl : k = 1 := hk
  have hN := hs.N
  obtain ⟨f1, f2⟩ : -9223372036854775808 ≤ f ∧ f ≤ 9223372036854775807 := ⟨hf.f1, hf.f2⟩
  have HF := Lib.hid (filled_any f)
  obtain ⟨s, hss⟩ : ∃ s : ByteArray, s.data.toList = OpS.text ⟨1, n, f, short, other, how⟩ := ⟨⟨(OpS.text ⟨1, n, f, short, other, how⟩).toArray⟩, rfl⟩
  obtain ⟨e1, hsim⟩ := sim_write hs n s.data.toList ha
  obtain ⟨v, hv1⟩ : ∃ v, (writeD d n s.data.toList).2 = v := ⟨_, rfl⟩
  rw [hv1] at e1
  have HV1 := Lib.hid hv1
  have HV2 := Lib.hid e1
  have HST : Hid (stepD d ⟨1, n, f, short, other, how⟩ = (writeD d n s.data.toList).1) := Lib.hid (by rw [hss]; rfl)
  have HSIM := Lib.hid hsim
  have HB : Hid (Ps w B X (fun k => X k ∨ k = w.heap.size) w.heap.size [.int .i64 1, .int .i64 n, .int .i64 f, .bool short, .bool other, hv] b q d r (w.alloc (.cells #[.int .i64 1, .int .i64 n, .int .i64 f, .bool short, .bool other, hv] 33))) := Lib.hid (h.box [.int .i64 1, .int .i64 n, .int .i64 f, .bool short, .bool other, hv])
  have HL : Hid ((filledL f).length = 64) := Lib.hid (filledL_len f)
  clear hv1 e1 hsim hs h hf
  obtain ⟨t, ht⟩ : ∃ t : ByteArray, (⟨(filledL f).toArray⟩ : ByteArray) = t := ⟨_, rfl⟩
  have HT := Lib.hid ht
  have htl : t.data.toList = filledL f := by rw [← ht]
  cases short
  · have hst : t = s := by
      apply ByteArray.ext; apply Array.ext'; rw [htl, hss]; rfl
    have HTS := Lib.hid hst
    clear hss HL ht htl hst
    go_enter Try.func10, Try.ntmps10
    go_wp2_with fail
    refine (HF.out _ f1 f2).mono ?_
    rintro e w2 ⟨rfl, hk2⟩
    rw [HT.out, HTS.out]
    have HP2 := Lib.hid (HB.out.kept0 hk2)
    have c1 : w2.cell? ⟨w.heap.size, 1, none⟩ = some (.int .i64 n) := HP2.out.cell 1
    have c3 : w2.cell? ⟨w.heap.size, 3, none⟩ = some (.bool false) := HP2.out.cell 3
    have hp2 := HP2.out.drew
    clear hk2 HB
    go_wp2_with fail
    go_region_held3 (fun w' => w'.cell? ⟨w.heap.size, 1, none⟩ = some (.int .i64 n)) (first | assumption | go_keep | exact Ps.cell (by assumption) 1)
      (first
        | (go_at_call 16; refine (ps_write (by assumption) _ _ (by omega) HV1.out).mono ?_; rintro e w5 ⟨rfl, hp5⟩)
        | (go_at_call 24; refine (ps_xwrite (by assumption) _ _ (by omega) HV2.out).mono ?_; rintro e w5 ⟨rfl, hp5⟩))
    all_goals go_wp2_with fail
    all_goals go_ret
    all_goals (rw [HST.out]; exact Ps.post (by assumption) HSIM.out (by simp))
  · have hcut : ∀ V, Sem.run Try.prog (Instr.slice 9 (.string t) (some (.int .i64 1)) none none) V = .ok (.string s) V := fun V => by
      have h := dropS V (l := filledL f) (c := 1) (by decide) HL.out
      rw [ht] at h
      have e : t.extract 1 64 = s := by
        apply ByteArray.ext; apply Array.ext'
        rw [hss, ByteArray.data_extract, Array.toList_extract, htl]
        show List.extract (filledL f) 1 64 = (filledL f).drop 1
        simp only [List.extract]
        exact List.take_of_length_le (by rw [List.length_drop, HL.out]; exact Nat.le_refl _)
      rw [← e]; exact h
    have HCUT := Lib.hid hcut
    clear hss ht htl hcut HL
    go_enter Try.func10, Try.ntmps10
    go_wp2_with fail
    refine (HF.out _ f1 f2).mono ?_
    rintro e w2 ⟨rfl, hk2⟩
    rw [HT.out]
    have HP2 := Lib.hid (HB.out.kept0 hk2)
    have c1 : w2.cell? ⟨w.heap.size, 1, none⟩ = some (.int .i64 n) := HP2.out.cell 1
    have c3 : w2.cell? ⟨w.heap.size, 3, none⟩ = some (.bool true) := HP2.out.cell 3
    have hp2 := HP2.out.drew
    have hcut := HCUT.out
    clear hk2 HB
    go_wp2_with fail
    clear hcut
    go_region_held3 (fun w' => w'.cell? ⟨w.heap.size, 1, none⟩ = some (.int .i64 n)) (first | assumption | go_keep | exact Ps.cell (by assumption) 1)
      (first
        | (go_at_call 16; refine (ps_write (by assumption) _ _ (by omega) HV1.out).mono ?_; rintro e w5 ⟨rfl, hp5⟩)
        | (go_at_call 24; refine (ps_xwrite (by assumption) _ _ (by omega) HV2.out).mono ?_; rintro e w5 ⟨rfl, hp5⟩))
    all_goals go_wp2_with fail
    all_goals go_ret
    all_goals (rw [HST.out]; exact Ps.post (by assumption) HSIM.out (by simp))

set_option maxRecDepth 100000 in
set_option maxHeartbeats 2000000 in
theorem step_sync (h : Pq B X b q d r w) (hs : Sim d r) (o : OpS) (hk : o.k = 2) (ha : d.acts < 4611686018427387902) (hv : Value) :
    Calls Try.prog 10 #[.pointer (some ⟨b, 0, none⟩), .pointer (some ⟨q.x, 0, none⟩), .agg #[.int .i64 o.k, .int .i64 o.n, .int .i64 o.f, .bool o.short, .bool o.other, hv]] w (SPost B X b q (stepD d o) w) := by
  obtain ⟨k, n, f, short, other, how⟩ := o
  obtain rfl : k = 2 := hk
  have hN := hs.N
  obtain ⟨e1, hsim⟩ := sim_sync hs ha
  obtain ⟨v, hv1⟩ : ∃ v, (syncD d).2 = v := ⟨_, rfl⟩
  rw [hv1] at e1
  have HV1 := Lib.hid hv1
  have HV2 := Lib.hid e1
  have HST : Hid (stepD d ⟨2, n, f, short, other, how⟩ = (syncD d).1) := Lib.hid rfl
  have HSIM := Lib.hid hsim
  have HB : Hid (Ps w B X (fun k => X k ∨ k = w.heap.size) w.heap.size [.int .i64 2, .int .i64 n, .int .i64 f, .bool short, .bool other, hv] b q d r (w.alloc (.cells #[.int .i64 2, .int .i64 n, .int .i64 f, .bool short, .bool other, hv] 33))) := Lib.hid (h.box [.int .i64 2, .int .i64 n, .int .i64 f, .bool short, .bool other, hv])
  clear hv1 e1 hsim hs h
  go_enter Try.func10, Try.ntmps10
  go_wp2_with fail
  refine (ps_sync HB.out (by omega) HV1.out).mono ?_
  rintro e w2 ⟨rfl, hp2⟩
  go_wp2_with fail
  refine (ps_xsync hp2 (by omega) HV2.out).mono ?_
  rintro e w3 ⟨rfl, hp3⟩
  go_wp2_with fail
  go_ret
  rw [HST.out]
  exact Ps.post hp3 HSIM.out (by simp)

set_option maxRecDepth 100000 in
set_option maxHeartbeats 2000000 in
theorem step_read (h : Pq B X b q d r w) (hs : Sim d r) (o : OpS) (hk : o.k = 3) (hv : Value) :
    Calls Try.prog 10 #[.pointer (some ⟨b, 0, none⟩), .pointer (some ⟨q.x, 0, none⟩), .agg #[.int .i64 o.k, .int .i64 o.n, .int .i64 o.f, .bool o.short, .bool o.other, hv]] w (SPost B X b q (stepD d o) w) := by
  obtain ⟨k, n, f, short, other, how⟩ := o
  obtain rfl : k = 3 := hk
  have e0 := sim_read hs n
  obtain ⟨s, hs1⟩ : ∃ s : ByteArray, (⟨(readD d n).1.toArray⟩ : ByteArray) = s := ⟨_, rfl⟩
  obtain ⟨v, hv1⟩ : ∃ v, (readD d n).2 = v := ⟨_, rfl⟩
  have HS1 := Lib.hid hs1
  have HV1 := Lib.hid hv1
  rw [← e0] at hs1 hv1
  have HS2 := Lib.hid hs1
  have HV2 := Lib.hid hv1
  have HST : Hid (stepD d ⟨3, n, f, short, other, how⟩ = d) := Lib.hid rfl
  have HSIM := Lib.hid hs
  have HB : Hid (Ps w B X (fun k => X k ∨ k = w.heap.size) w.heap.size [.int .i64 3, .int .i64 n, .int .i64 f, .bool short, .bool other, hv] b q d r (w.alloc (.cells #[.int .i64 3, .int .i64 n, .int .i64 f, .bool short, .bool other, hv] 33))) := Lib.hid (h.box [.int .i64 3, .int .i64 n, .int .i64 f, .bool short, .bool other, hv])
  clear hv1 hs1 e0 hs h
  go_enter Try.func10, Try.ntmps10
  go_wp2_with (first
    | (go_at_call 21; refine (pq_read HB.out.pq _ HS1.out HV1.out).mono ?_; rintro e w' ⟨rfl, rfl⟩)
    | (go_at_call 26; refine (pq_xread HB.out.pq _ HS2.out HV2.out).mono ?_; rintro e w' ⟨rfl, rfl⟩))
  go_ret
  rw [HST.out]
  exact Ps.post HB.out HSIM.out (by simp)

set_option maxRecDepth 100000 in
set_option maxHeartbeats 2000000 in
theorem step_arm (h : Pq B X b q d r w) (hs : Sim d r) (o : OpS) (hf : o.Fits) (hk : o.k = 4) (ha : d.acts < 4611686018427387902) (hv : Value) :
    Calls Try.prog 10 #[.pointer (some ⟨b, 0, none⟩), .pointer (some ⟨q.x, 0, none⟩), .agg #[.int .i64 o.k, .int .i64 o.n, .int .i64 o.f, .bool o.short, .bool o.other, hv]] w (SPost B X b q (stepD d o) w) := by
  obtain ⟨k, n, f, short, other, how⟩ := o
  obtain rfl : k = 4 := hk
  have hN := hs.N
  obtain ⟨f1, f2⟩ : -9223372036854775808 ≤ f ∧ f ≤ 9223372036854775807 := ⟨hf.f1, hf.f2⟩
  obtain ⟨e1, hsim⟩ := sim_arm hs f
  obtain ⟨v, hv1⟩ : ∃ v, (armD d f).2 = v := ⟨_, rfl⟩
  rw [hv1] at e1
  have HV1 := Lib.hid hv1
  have HV2 := Lib.hid e1
  have HST : Hid (stepD d ⟨4, n, f, short, other, how⟩ = (armD d f).1) := Lib.hid rfl
  have HSIM := Lib.hid hsim
  have HB : Hid (Ps w B X (fun k => X k ∨ k = w.heap.size) w.heap.size [.int .i64 4, .int .i64 n, .int .i64 f, .bool short, .bool other, hv] b q d r (w.alloc (.cells #[.int .i64 4, .int .i64 n, .int .i64 f, .bool short, .bool other, hv] 33))) := Lib.hid (h.box [.int .i64 4, .int .i64 n, .int .i64 f, .bool short, .bool other, hv])
  clear hv1 e1 hsim hs h hf
  have hp2 := HB.out.drew
  go_enter Try.func10, Try.ntmps10
  go_wp2_with fail
  go_region_held3 (fun w' => w'.cell? ⟨w.heap.size, 2, none⟩ = some (.int .i64 f)) (first | assumption | go_keep | exact Ps.cell (by assumption) 2)
    (first
      | (go_at_call 18; refine (ps_arm (by assumption) _ (by omega) HV1.out).mono ?_; rintro e w5 ⟨rfl, hp5⟩)
      | (go_at_call 27; refine (ps_xarm (by assumption) _ (by omega) (by omega) HV2.out).mono ?_; rintro e w5 ⟨rfl, hp5⟩))
  all_goals go_wp2_with fail
  all_goals go_ret
  all_goals (rw [HST.out]; exact Ps.post (by assumption) HSIM.out (by simp))

set_option maxRecDepth 100000 in
set_option maxHeartbeats 2000000 in
theorem step_none (h : Pq B X b q d r w) (hs : Sim d r) (o : OpS) (hk : ∀ i, 1 ≤ i → i ≤ 7 → o.k ≠ i) (hv : Value) :
    Calls Try.prog 10 #[.pointer (some ⟨b, 0, none⟩), .pointer (some ⟨q.x, 0, none⟩), .agg #[.int .i64 o.k, .int .i64 o.n, .int .i64 o.f, .bool o.short, .bool o.other, hv]] w (SPost B X b q (stepD d o) w) := by
  obtain ⟨k, n, f, short, other, how⟩ := o
  have e (i : Int) (h1 : 1 ≤ i) (h2 : i ≤ 7) : ((k == i) = false) := by simpa using hk i h1 h2
  have g1 := e 1 (by decide) (by decide)
  have g2 := e 2 (by decide) (by decide)
  have g3 := e 3 (by decide) (by decide)
  have g4 := e 4 (by decide) (by decide)
  have g5 := e 5 (by decide) (by decide)
  have g6 := e 6 (by decide) (by decide)
  have g7 := e 7 (by decide) (by decide)
  have HST : Hid (stepD d ⟨k, n, f, short, other, how⟩ = d) := Lib.hid (by
    have h1 := hk 1 (by decide) (by decide)
    have h2 := hk 2 (by decide) (by decide)
    have h4 := hk 4 (by decide) (by decide)
    have h5 := hk 5 (by decide) (by decide)
    unfold stepD
    rw [if_neg h1, if_neg h2, if_neg h4, if_neg h5])
  have HSIM := Lib.hid hs
  have HB : Hid (Ps w B X (fun k => X k ∨ k = w.heap.size) w.heap.size [.int .i64 k, .int .i64 n, .int .i64 f, .bool short, .bool other, hv] b q d r (w.alloc (.cells #[.int .i64 k, .int .i64 n, .int .i64 f, .bool short, .bool other, hv] 33))) := Lib.hid (h.box [.int .i64 k, .int .i64 n, .int .i64 f, .bool short, .bool other, hv])
  clear hs h e hk
  go_enter Try.func10, Try.ntmps10
  go_wp2_with fail
  go_ret
  rw [HST.out]
  exact Ps.post HB.out HSIM.out rfl
end
end Go.Proofs.Ytpobflionjndcaa
