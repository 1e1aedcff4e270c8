/- Arm, Crash and Open of a log's disk. -/
import Derived.Test.YtcjfpddmpiggoaaGreatJtz
import Derived.Test.YtcjfpddmpiggoaaGreatDx
import Derived.Deep.RegionHeld3
namespace Go.Proofs.YtcjfpddmpiggoaaGreat
set_option linter.unusedVariables false
set_option linter.unusedSimpArgs false
theorem crash_at {d : DSt} (hb : Base d) (how : List Int) (i : Nat) : (d.O i = none ∧ (crashD d how).S i = d.S i) ∨ ∃ o b, d.O i = some o ∧ b ≤ 64 ∧ (crashD d how).S i = (d.S i).take b ++ o.drop b := by
  show (d.O i = none ∧ crashF d.O how d.S (pendL d.n d.O) 0 i = d.S i) ∨ ∃ o b, d.O i = some o ∧ b ≤ 64 ∧ crashF d.O how d.S (pendL d.n d.O) 0 i = (d.S i).take b ++ o.drop b
  cases hO : d.O i with
  | none => exact .inl ⟨rfl, crashF_out _ _ _ _ _ _ (by rw [pend_mem]; simp [hO])⟩
  | some o =>
    obtain ⟨hn, hol⟩ := hb.olen i o hO
    have hsl := hb.len i hn
    obtain ⟨f, hf⟩ := crashF_in d.O how (pendL d.n d.O) d.S 0 i (pend_nodupN _ _) ((pend_mem _ _ _).2 ⟨hn, by simp [hO]⟩)
    right
    rw [hf]
    have ho : oldL d.O i = o := by unfold oldL; rw [hO]; rfl
    rw [ho]
    unfold behindL
    split
    · exact ⟨o, 64, rfl, Nat.le_refl _, by rw [List.take_of_length_le (Nat.le_of_eq hsl), List.drop_of_length_le (Nat.le_of_eq hol), List.append_nil]⟩
    · split
      · exact ⟨o, fateN f / 3 % 65, rfl, by omega, rfl⟩
      · exact ⟨o, 0, rfl, by omega, by simp⟩
theorem crash_none {d : DSt} (hb : Base d) (how : List Int) {i : Nat} (h : d.O i = none) : (crashD d how).S i = d.S i := by
  rcases crash_at hb how i with ⟨_, e⟩ | ⟨o, b, e, _⟩
  · exact e
  · rw [h] at e; cases e
theorem Base.crash {d : DSt} (hb : Base d) (how : List Int) : Base (crashD d how) := by
  refine ⟨hb.lo, hb.hi, fun i hi => ?_, fun i o ho => by cases ho⟩
  have hsl := hb.len i hi
  rcases crash_at hb how i with ⟨_, e⟩ | ⟨o, b, e1, hb2, e⟩
  · rw [e]; exact hsl
  · have hol := (hb.olen i o e1).2
    rw [e, List.length_append, List.length_take, List.length_drop, hsl, hol]; omega
theorem area_crash {d : DSt} {m : MSt} {recs : List ByteArray} (hb : Base d) (hA : Area d m recs) (hP : Pend d m) (how : List Int) : Area (crashD d how) m recs := by
  refine hA.turn rfl (fun p hp => ?_)
  obtain ⟨i, j, hj, rfl⟩ : ∃ i j, j < 64 ∧ p = i * 64 + j := ⟨p / 64, p % 64, by omega, by omega⟩
  rw [byteS_at _ _ _ _ hj, byteS_at _ _ _ _ hj]
  rcases crash_at hb how (startN d m.ar + i) with ⟨_, e⟩ | ⟨o, b, e1, hb2, e⟩
  · rw [e]
  · have hpp := hP i j o e1 hj hp
    obtain ⟨hn, hol⟩ := hb.olen _ o e1
    rw [e, torn_get (hb.len _ hn) hol hb2]
    split
    · rfl
    · exact hpp
theorem pend_crash (d : DSt) (m : MSt) (how : List Int) : Pend (crashD d how) m := fun i j o ho => by cases ho
theorem Half.crash {d : DSt} {m : MSt} {recs : List ByteArray} (h : Half d m recs) (how : List Int) : Half (crashD d how) m recs :=
  ⟨h.base.crash how, area_crash h.base h.A h.P how, pend_crash d m how, by rw [crash_none h.base how (h.om _ (by omega))]; exact h.mrk, by rw [crash_none h.base how (h.om _ (by omega))]; exact h.oth, fun i _ => rfl⟩
theorem Two.crash {d : DSt} {m m' : MSt} {recs recs' : List ByteArray} (h : Two d m recs m' recs') (how : List Int) : Half (crashD d how) m recs ∨ Half (crashD d how) m' recs' := by
  obtain ⟨o, ho, ht⟩ := h.old
  have hc := h.c
  have hm1 : 1 - m'.c % 2 = m.c % 2 := by omega
  have hm2 : 1 - m.c % 2 = m'.c % 2 := by omega
  have hkeep : (crashD d how).S (m.c % 2) = markL m := by rw [crash_none h.base how h.om]; exact h.mrk
  have hx : (crashD d how).S (m'.c % 2) = markL m' ∨ Tn ((crashD d how).S (m'.c % 2)) m'.c := by
    rcases crash_at h.base how (m'.c % 2) with ⟨e, _⟩ | ⟨o2, b, e1, hb2, e⟩
    · rw [ho] at e; cases e
    · rw [ho] at e1
      obtain rfl := Option.some.inj e1
      rw [e, h.mrk']
      exact ht.tear hb2
  rcases hx with hx | hx
  · right
    exact ⟨h.base.crash how, area_crash h.base h.A' h.P' how, pend_crash d m' how, hx, by rw [hm1, hkeep]; exact tn_mark (h.A.sm h.base) (by omega) (by have := h.A'.c2; omega), fun i _ => rfl⟩
  · left
    exact ⟨h.base.crash how, area_crash h.base h.A h.P how, pend_crash d m how, hkeep, by rw [hm2, ← hc]; exact hx, fun i _ => rfl⟩
end Go.Proofs.YtcjfpddmpiggoaaGreat

namespace Go.Proofs.YtcjfpddmpiggoaaGreat
open Go.ChangeShapes Go.WideShapes Go.ChangeAt Go.RowKit
set_option linter.unusedVariables false
set_option linter.unusedSimpArgs false
/-- its answer: the records, the two numbers, whether -/
def behG (k n f : Int) (l : List Int) (g : LSt) : List ByteArray × Int × Int × Bool :=
  if k = 2 then (g.recs, g.m.a, g.m.b, true)
  else if k = 3 then (if n < 0 then (g.recs.take g.m.nu, g.m.a, g.m.b, false) else if (g.recs.length : Int) < n then (g.recs.take g.m.nu, g.m.a, g.m.b, false) else (g.recs.take n.toNat, g.m.a, g.m.b, true))
  else if k = 4 then (manyL l, g.m.a, g.m.b, true)
  else if k = 5 then (g.recs.take g.m.nu, n, f, decide (0 ≤ n) && decide (0 ≤ f))
  else (g.recs.take g.m.nu, g.m.a, g.m.b, false)
theorem ret_box_tmp {P : Program} {fn : Func} {R : Ending → World → Prop} {a : Act} {w : World} (A t s : Nat) (g : Nat) (cells : Array Value) (v : Value) (hres : fn.results = #[.cell A t, .tmp s]) (hA : a.tmps.getD A undef = .pointer (some ⟨g, 0, none⟩)) (hs : a.tmps.getD s undef = v)
    (hload : (loadVar t ⟨g, 0, none⟩).run P w = .ok (.agg cells) w) (hd : a.defers = []) (hR : R (.returned (.tuple #[.agg cells, v])) w) : bodyPost P fn R .ret a w :=
  bodyPost_ret (v := .tuple #[.agg cells, v]) (by
    have h1 : a.tmps[A]?.getD undef = .pointer (some ⟨g, 0, none⟩) := (by simpa using hA)
    have h2 : a.tmps[s]?.getD undef = v := (by simpa using hs)
    simp [results, hres, h1, h2, asAddr, hload]) hd hR
theorem five_cells {w : World} {g : Nat} {a0 a1 a2 a3 a4 : Value} {T : TypeId} (h : w.heap[g]? = some (.cells #[a0, a1, a2, a3, a4] T (0, 0))) :
    w.cell? ⟨g, 0, none⟩ = some a0 ∧ w.cell? ⟨g, 1, none⟩ = some a1 ∧ w.cell? ⟨g, 2, none⟩ = some a2 ∧ w.cell? ⟨g, 3, none⟩ = some a3 := by
  refine ⟨?_, ?_, ?_, ?_⟩ <;> rw [cell_of_row w g _ _ _ (0, 0) h] <;> rfl
theorem TsAt.cut {w : World} {ok : Nat → Prop} {a : Option Addr} {c : Nat} {l : List ByteArray} (h : TsAt w ok (.slice a l.length c) l) {n : Nat} (hn : n ≤ l.length) : TsAt w ok (.slice a (l.take n).length c) (l.take n) := by
  obtain ⟨a', c', e, hc⟩ := h.ex
  injection e with e1 e2 e3
  subst e1 e3
  refine ⟨⟨a, c, rfl, fun i hi => ?_⟩⟩
  have hil : i < l.length := by rw [List.length_take] at hi; omega
  obtain ⟨g, off, h1, h2, h3⟩ := hc i hil
  exact ⟨g, off, h1, h2, by rw [List.getElem_take]; exact h3⟩
section
variable {Z : Nat → Prop} {w w' : World} {lb db : Nat} {g : LSt} {d : DSt}
def BehPost (w : World) (r : List ByteArray × Int × Int × Bool) (e : Ending) (w' : World) : Prop :=
  ∃ a c, e = .returned (.tuple #[.agg #[.slice a r.1.length c, .int .i64 r.2.1, .int .i64 r.2.2.1], .bool r.2.2.2]) ∧ TsAt w' (fun k => w.heap.size ≤ k) (.slice a r.1.length c) r.1 ∧ Kept (fun _ => False) w w'
set_option maxRecDepth 100000 in
set_option maxHeartbeats 4000000 in
theorem behind_2 (hw : Wl Z w lb db g d) (hg : Good d g) (n f : Int) (hn1 : -9223372036854775808 ≤ n) (hn2 : n ≤ 9223372036854775807) (hf1 : -9223372036854775808 ≤ f) (hf2 : f ≤ 9223372036854775807) {ok : Nat → Prop} {a4 : Option Addr} {c4 : Nat} {l : List Int} (hL : NumAt w ok (.slice a4 l.length c4) l) (hok : ∀ k, ok k → k < w.heap.size) (hll : l.length * 8 ≤ 140737488351232) (a5 : Option Addr) (n5 c5 : Nat) :
    Calls Tryz.prog 11 #[.pointer (some ⟨lb, 0, none⟩), .agg #[.int .i64 2, .int .i64 n, .int .i64 f, .slice a4 l.length c4, .slice a5 n5 c5]] w (BehPost w (behG 2 n f l g)) := by
  obtain ⟨B1, hB1⟩ : ∃ B1, w.heap.size = B1 := ⟨_, rfl⟩
  have hb1 : (w.alloc (.cells #[.int .i64 2, .int .i64 n, .int .i64 f, .slice a4 l.length c4, .slice a5 n5 c5] 34)).heap[B1]? = some (.cells #[.int .i64 2, .int .i64 n, .int .i64 f, .slice a4 l.length c4, .slice a5 n5 c5] 34 (0, 0)) := by rw [← hB1]; exact heap_alloc_new w _
  obtain ⟨B2, hB2⟩ : ∃ B2, (w.alloc (.cells #[.int .i64 2, .int .i64 n, .int .i64 f, .slice a4 l.length c4, .slice a5 n5 c5] 34)).heap.size = B2 := ⟨_, rfl⟩
  have hb2 : ((w.alloc (.cells #[.int .i64 2, .int .i64 n, .int .i64 f, .slice a4 l.length c4, .slice a5 n5 c5] 34)).alloc (.cells #[.slice none 0 0, .int .i64 0, .int .i64 0] 39)).heap[B2]? = some (.cells #[.slice none 0 0, .int .i64 0, .int .i64 0] 39 (0, 0)) := by rw [← hB2]; exact heap_alloc_new _ _
  have hka : Kept (fun _ => False) w (w.alloc (.cells #[.int .i64 2, .int .i64 n, .int .i64 f, .slice a4 l.length c4, .slice a5 n5 c5] 34)) := (Kept.refl _ w).alloc _
  have hkb : Kept (fun _ => False) (w.alloc (.cells #[.int .i64 2, .int .i64 n, .int .i64 f, .slice a4 l.length c4, .slice a5 n5 c5] 34)) ((w.alloc (.cells #[.int .i64 2, .int .i64 n, .int .i64 f, .slice a4 l.length c4, .slice a5 n5 c5] 34)).alloc (.cells #[.slice none 0 0, .int .i64 0, .int .i64 0] 39)) := (Kept.refl _ _).alloc _
  have hb1' := (hkb.block B1 (lt_of_block hb1) id).trans hb1
  have hkw := hka.trans hkb
  have hnb : B2 = B1 + 1 := by rw [← hB2, ← hB1]; simp
  obtain ⟨W1, hW1⟩ : ∃ W1, (w.alloc (.cells #[.int .i64 2, .int .i64 n, .int .i64 f, .slice a4 l.length c4, .slice a5 n5 c5] 34)).alloc (.cells #[.slice none 0 0, .int .i64 0, .int .i64 0] 39) = W1 := ⟨_, rfl⟩
  rw [hW1] at hb1' hb2 hkw
  have hw1 := hw.kept0 hkw
  have HW1 := Lib.hid hw1
  have HL1 := Lib.hid (hL.kept hkw (fun _ _ x => x))
  have HOK : Hid (∀ k, ok k → k < W1.heap.size) := Lib.hid (fun k hk => Nat.lt_of_lt_of_le (hok k hk) hkw.size)
  have HB1 := Lib.hid hb1'
  have HB2 := Lib.hid hb2
  have HKW := Lib.hid hkw
  have HBE : Hid (w.heap.size = B1) := Lib.hid hB1
  have HNB : Hid (B2 = B1 + 1) := Lib.hid hnb
  have HWE := Lib.hid hW1
  have HTF := Lib.hid (told_false hw1 hg)
  have HG := Lib.hid hg
  have hnu := hg.nu
  clear hw hg hL hok hb1 hb1' hb2 hB1 hB2 hka hkb hkw hnb hW1 hw1
  go_enter Tryz.func11, Tryz.ntmps11
  go_wp2_with fail
  rw [HWE.out]
  refine HTF.out.mono ?_
  rintro e w2 ⟨a2, c2, rfl, ht2, hk2, hc2⟩
  have ht3 := ht2.kept ((Kept.refl (fun _ => False) w2).alloc (.cells #[.slice a2 (toldL g false).length c2, .int .i64 g.m.a, .int .i64 g.m.b] 39)) (fun _ _ x => x)
  have hk3 : Kept (fun _ => False) W1 (w2.alloc (.cells #[.slice a2 (toldL g false).length c2, .int .i64 g.m.a, .int .i64 g.m.b] 39)) := hk2.alloc _
  have HB3 : Hid ((w2.alloc (.cells #[.slice a2 (toldL g false).length c2, .int .i64 g.m.a, .int .i64 g.m.b] 39)).heap[w2.heap.size]? = some (.cells #[.slice a2 (toldL g false).length c2, .int .i64 g.m.a, .int .i64 g.m.b] 39 (0, 0))) := Lib.hid (heap_alloc_new w2 _)
  have HT3 := Lib.hid ht3
  have HK3 := Lib.hid hk3
  have HTT := Lib.hid (told_true (HW1.out.kept0 hk3) HG.out)
  clear ht2 hk2 ht3 hk3 hc2
  have hto : toldL g true = g.recs := rfl
  go_wp2_with fail
  refine HTT.out.mono ?_
  rintro e w4 ⟨a7, c7, rfl, ht4, hk4, hc7⟩
  rw [hto] at ht4 ⊢
  rw [HBE.out, ← HNB.out]
  have ht5 := ht4.kept ((Kept.refl (fun _ => False) w4).alloc (.cells #[.slice a7 g.recs.length c7, .int .i64 g.m.a, .int .i64 g.m.b] 39)) (fun _ _ x => x)
  have hk5 : Kept (fun _ => False) (w2.alloc (.cells #[.slice a2 (toldL g false).length c2, .int .i64 g.m.a, .int .i64 g.m.b] 39)) (w4.alloc (.cells #[.slice a7 g.recs.length c7, .int .i64 g.m.a, .int .i64 g.m.b] 39)) := hk4.alloc _
  have hkk := HK3.out.trans hk5
  have hq1 := (hkk.block B1 (lt_of_block HB1.out) id).trans HB1.out
  have hq2 := (hkk.block B2 (lt_of_block HB2.out) id).trans HB2.out
  have hq3 := (hk5.block _ (lt_of_block HB3.out) id).trans HB3.out
  have hq4 : (w4.alloc (.cells #[.slice a7 g.recs.length c7, .int .i64 g.m.a, .int .i64 g.m.b] 39)).heap[w4.heap.size]? = some (.cells #[.slice a7 g.recs.length c7, .int .i64 g.m.a, .int .i64 g.m.b] 39 (0, 0)) := heap_alloc_new w4 _
  have HT5 := Lib.hid (ht5.mono (ok' := fun k => w.heap.size ≤ k ∧ k ≠ B2) (fun k hk => by
    have h1 := HBE.out
    have h2 := HNB.out
    have h3 : (w2.alloc (.cells #[.slice a2 (toldL g false).length c2, .int .i64 g.m.a, .int .i64 g.m.b] 39)).heap.size ≤ k := hk
    have h4 := HK3.out.size
    have h5 := lt_of_block HB2.out
    omega))
  have HT2 := Lib.hid ((HT3.out.kept hk5 (fun _ _ x => x)).mono (ok' := fun k => w.heap.size ≤ k ∧ k ≠ B2) (fun k hk => by
    have h1 := HBE.out
    have h2 := HNB.out
    have h3 : W1.heap.size ≤ k := hk
    have h5 := lt_of_block HB2.out
    omega))
  have HKK := Lib.hid (HKW.out.trans hkk)
  have HL5 := Lib.hid (HL1.out.kept hkk (fun _ _ x => x))
  have HOK5 : Hid (∀ k, ok k → k < (w4.alloc (.cells #[.slice a7 g.recs.length c7, .int .i64 g.m.a, .int .i64 g.m.b] 39)).heap.size) := Lib.hid (fun k hk => Nat.lt_of_lt_of_le (HOK.out k hk) hkk.size)
  obtain ⟨x0, x1, x2, x3⟩ := five_cells hq1
  obtain ⟨y0, y1, y2, ff⟩ := three_of hq2
  obtain ⟨z0, z1, z2, _⟩ := three_of hq3
  obtain ⟨u0, u1, u2, _⟩ := three_of hq4
  have f0 := ff 0
  have f1 := ff 1
  have f2 := ff 2
  have HQ2 := Lib.hid hq2
  have HZ2 := Lib.hid hq3
  have HZ1 := Lib.hid hq1
  rw [hto] at hc7
  have HC7 := Lib.hid hc7
  clear hc7 ht4 ht5 hk4 hk5 hkk hq1 hq2 hq3 hq4 ff HTT HTF
  go_wp2_with fail
  have h9 := heap_set (i := 2) (.int .i64 g.m.b) (heap_set (i := 1) (.int .i64 g.m.a) (heap_set (i := 0) (.slice a7 g.recs.length c7) (show (w4.alloc (.cells #[.slice a7 g.recs.length c7, .int .i64 g.m.a, .int .i64 g.m.b] 39)).heap[B2]? = some (.cells [.slice none 0 0, .int .i64 0, .int .i64 0].toArray 39 (0, 0)) from HQ2.out)))
  have hk9 : Kept (fun k => k = B2) (w4.alloc (.cells #[.slice a7 g.recs.length c7, .int .i64 g.m.a, .int .i64 g.m.b] 39)) ((((w4.alloc (.cells #[.slice a7 g.recs.length c7, .int .i64 g.m.a, .int .i64 g.m.b] 39)).setCell ⟨B2, 0, none⟩ (.slice a7 g.recs.length c7)).setCell ⟨B2, 1, none⟩ (.int .i64 g.m.a)).setCell ⟨B2, 2, none⟩ (.int .i64 g.m.b)) := ((kept_set (w4.alloc (.cells #[.slice a7 g.recs.length c7, .int .i64 g.m.a, .int .i64 g.m.b] 39)) B2 0 _).trans (kept_set _ B2 1 _)).trans (kept_set _ B2 2 _)
  have H9 := Lib.hid h9
  have HK9 := Lib.hid hk9
  clear h9 hk9
  generalize ((((w4.alloc (.cells #[.slice a7 g.recs.length c7, .int .i64 g.m.a, .int .i64 g.m.b] 39)).setCell ⟨B2, 0, none⟩ (.slice a7 g.recs.length c7)).setCell ⟨B2, 1, none⟩ (.int .i64 g.m.a)).setCell ⟨B2, 2, none⟩ (.int .i64 g.m.b)) = w9 at H9 HK9 ⊢
  have hload := run_loadVar_row (P := Tryz.prog) _ B2 39  39 _ (0, 0) _ H9.out Tryz.underlying39 rfl state_info
  have hfin : Kept (fun _ => False) w w9 := by
    have h0 : Kept (fun k => k = B2) w w9 := (HKK.out.mono (fun _ _ f => f.elim)).trans HK9.out
    exact ⟨h0.os, h0.tape, h0.output, h0.size, fun k hk _ => h0.block k hk (by have := HBE.out; have := HNB.out; show ¬ (k = B2); omega)⟩
  refine ret_box_tmp 4 39 5 B2 _ (.bool true) Tryz.results11 ?_ ?_ hload ?_ ?_
  exact rfl
  exact rfl
  exact rfl
  exact ⟨a7, c7, rfl, (HT5.out.kept HK9.out (fun k hk e => hk.2 e)).mono (fun k hk => hk.1), hfin⟩
set_option maxRecDepth 100000 in
set_option maxHeartbeats 4000000 in
theorem behind_1 (hw : Wl Z w lb db g d) (hg : Good d g) (n f : Int) (hn1 : -9223372036854775808 ≤ n) (hn2 : n ≤ 9223372036854775807) (hf1 : -9223372036854775808 ≤ f) (hf2 : f ≤ 9223372036854775807) {ok : Nat → Prop} {a4 : Option Addr} {c4 : Nat} {l : List Int} (hL : NumAt w ok (.slice a4 l.length c4) l) (hok : ∀ k, ok k → k < w.heap.size) (hll : l.length * 8 ≤ 140737488351232) (a5 : Option Addr) (n5 c5 : Nat) :
    Calls Tryz.prog 11 #[.pointer (some ⟨lb, 0, none⟩), .agg #[.int .i64 1, .int .i64 n, .int .i64 f, .slice a4 l.length c4, .slice a5 n5 c5]] w (BehPost w (behG 1 n f l g)) := by
  obtain ⟨B1, hB1⟩ : ∃ B1, w.heap.size = B1 := ⟨_, rfl⟩
  have hb1 : (w.alloc (.cells #[.int .i64 1, .int .i64 n, .int .i64 f, .slice a4 l.length c4, .slice a5 n5 c5] 34)).heap[B1]? = some (.cells #[.int .i64 1, .int .i64 n, .int .i64 f, .slice a4 l.length c4, .slice a5 n5 c5] 34 (0, 0)) := by rw [← hB1]; exact heap_alloc_new w _
  obtain ⟨B2, hB2⟩ : ∃ B2, (w.alloc (.cells #[.int .i64 1, .int .i64 n, .int .i64 f, .slice a4 l.length c4, .slice a5 n5 c5] 34)).heap.size = B2 := ⟨_, rfl⟩
  have hb2 : ((w.alloc (.cells #[.int .i64 1, .int .i64 n, .int .i64 f, .slice a4 l.length c4, .slice a5 n5 c5] 34)).alloc (.cells #[.slice none 0 0, .int .i64 0, .int .i64 0] 39)).heap[B2]? = some (.cells #[.slice none 0 0, .int .i64 0, .int .i64 0] 39 (0, 0)) := by rw [← hB2]; exact heap_alloc_new _ _
  have hka : Kept (fun _ => False) w (w.alloc (.cells #[.int .i64 1, .int .i64 n, .int .i64 f, .slice a4 l.length c4, .slice a5 n5 c5] 34)) := (Kept.refl _ w).alloc _
  have hkb : Kept (fun _ => False) (w.alloc (.cells #[.int .i64 1, .int .i64 n, .int .i64 f, .slice a4 l.length c4, .slice a5 n5 c5] 34)) ((w.alloc (.cells #[.int .i64 1, .int .i64 n, .int .i64 f, .slice a4 l.length c4, .slice a5 n5 c5] 34)).alloc (.cells #[.slice none 0 0, .int .i64 0, .int .i64 0] 39)) := (Kept.refl _ _).alloc _
  have hb1' := (hkb.block B1 (lt_of_block hb1) id).trans hb1
  have hkw := hka.trans hkb
  have hnb : B2 = B1 + 1 := by rw [← hB2, ← hB1]; simp
  obtain ⟨W1, hW1⟩ : ∃ W1, (w.alloc (.cells #[.int .i64 1, .int .i64 n, .int .i64 f, .slice a4 l.length c4, .slice a5 n5 c5] 34)).alloc (.cells #[.slice none 0 0, .int .i64 0, .int .i64 0] 39) = W1 := ⟨_, rfl⟩
  rw [hW1] at hb1' hb2 hkw
  have hw1 := hw.kept0 hkw
  have HW1 := Lib.hid hw1
  have HL1 := Lib.hid (hL.kept hkw (fun _ _ x => x))
  have HOK : Hid (∀ k, ok k → k < W1.heap.size) := Lib.hid (fun k hk => Nat.lt_of_lt_of_le (hok k hk) hkw.size)
  have HB1 := Lib.hid hb1'
  have HB2 := Lib.hid hb2
  have HKW := Lib.hid hkw
  have HBE : Hid (w.heap.size = B1) := Lib.hid hB1
  have HNB : Hid (B2 = B1 + 1) := Lib.hid hnb
  have HWE := Lib.hid hW1
  have HTF := Lib.hid (told_false hw1 hg)
  have HG := Lib.hid hg
  have hnu := hg.nu
  clear hw hg hL hok hb1 hb1' hb2 hB1 hB2 hka hkb hkw hnb hW1 hw1
  go_enter Tryz.func11, Tryz.ntmps11
  go_wp2_with fail
  rw [HWE.out]
  refine HTF.out.mono ?_
  rintro e w2 ⟨a2, c2, rfl, ht2, hk2, hc2⟩
  have ht3 := ht2.kept ((Kept.refl (fun _ => False) w2).alloc (.cells #[.slice a2 (toldL g false).length c2, .int .i64 g.m.a, .int .i64 g.m.b] 39)) (fun _ _ x => x)
  have hk3 : Kept (fun _ => False) W1 (w2.alloc (.cells #[.slice a2 (toldL g false).length c2, .int .i64 g.m.a, .int .i64 g.m.b] 39)) := hk2.alloc _
  have HB3 : Hid ((w2.alloc (.cells #[.slice a2 (toldL g false).length c2, .int .i64 g.m.a, .int .i64 g.m.b] 39)).heap[w2.heap.size]? = some (.cells #[.slice a2 (toldL g false).length c2, .int .i64 g.m.a, .int .i64 g.m.b] 39 (0, 0))) := Lib.hid (heap_alloc_new w2 _)
  have HT3 := Lib.hid ht3
  have HK3 := Lib.hid hk3
  have HTT := Lib.hid (told_true (HW1.out.kept0 hk3) HG.out)
  clear ht2 hk2 ht3 hk3 hc2
  have hto : toldL g true = g.recs := rfl
  go_wp2_with fail
  refine HTT.out.mono ?_
  rintro e w4 ⟨a7, c7, rfl, ht4, hk4, hc7⟩
  rw [hto] at ht4 ⊢
  rw [HBE.out, ← HNB.out]
  have ht5 := ht4.kept ((Kept.refl (fun _ => False) w4).alloc (.cells #[.slice a7 g.recs.length c7, .int .i64 g.m.a, .int .i64 g.m.b] 39)) (fun _ _ x => x)
  have hk5 : Kept (fun _ => False) (w2.alloc (.cells #[.slice a2 (toldL g false).length c2, .int .i64 g.m.a, .int .i64 g.m.b] 39)) (w4.alloc (.cells #[.slice a7 g.recs.length c7, .int .i64 g.m.a, .int .i64 g.m.b] 39)) := hk4.alloc _
  have hkk := HK3.out.trans hk5
  have hq1 := (hkk.block B1 (lt_of_block HB1.out) id).trans HB1.out
  have hq2 := (hkk.block B2 (lt_of_block HB2.out) id).trans HB2.out
  have hq3 := (hk5.block _ (lt_of_block HB3.out) id).trans HB3.out
  have hq4 : (w4.alloc (.cells #[.slice a7 g.recs.length c7, .int .i64 g.m.a, .int .i64 g.m.b] 39)).heap[w4.heap.size]? = some (.cells #[.slice a7 g.recs.length c7, .int .i64 g.m.a, .int .i64 g.m.b] 39 (0, 0)) := heap_alloc_new w4 _
  have HT5 := Lib.hid (ht5.mono (ok' := fun k => w.heap.size ≤ k ∧ k ≠ B2) (fun k hk => by
    have h1 := HBE.out
    have h2 := HNB.out
    have h3 : (w2.alloc (.cells #[.slice a2 (toldL g false).length c2, .int .i64 g.m.a, .int .i64 g.m.b] 39)).heap.size ≤ k := hk
    have h4 := HK3.out.size
    have h5 := lt_of_block HB2.out
    omega))
  have HT2 := Lib.hid ((HT3.out.kept hk5 (fun _ _ x => x)).mono (ok' := fun k => w.heap.size ≤ k ∧ k ≠ B2) (fun k hk => by
    have h1 := HBE.out
    have h2 := HNB.out
    have h3 : W1.heap.size ≤ k := hk
    have h5 := lt_of_block HB2.out
    omega))
  have HKK := Lib.hid (HKW.out.trans hkk)
  have HL5 := Lib.hid (HL1.out.kept hkk (fun _ _ x => x))
  have HOK5 : Hid (∀ k, ok k → k < (w4.alloc (.cells #[.slice a7 g.recs.length c7, .int .i64 g.m.a, .int .i64 g.m.b] 39)).heap.size) := Lib.hid (fun k hk => Nat.lt_of_lt_of_le (HOK.out k hk) hkk.size)
  obtain ⟨x0, x1, x2, x3⟩ := five_cells hq1
  obtain ⟨y0, y1, y2, ff⟩ := three_of hq2
  obtain ⟨z0, z1, z2, _⟩ := three_of hq3
  obtain ⟨u0, u1, u2, _⟩ := three_of hq4
  have f0 := ff 0
  have f1 := ff 1
  have f2 := ff 2
  have HQ2 := Lib.hid hq2
  have HZ2 := Lib.hid hq3
  have HZ1 := Lib.hid hq1
  rw [hto] at hc7
  have HC7 := Lib.hid hc7
  clear hc7 ht4 ht5 hk4 hk5 hkk hq1 hq2 hq3 hq4 ff HTT HTF
  go_wp2_with fail
  have h9 := heap_set (i := 2) (.int .i64 g.m.b) (heap_set (i := 1) (.int .i64 g.m.a) (heap_set (i := 0) (.slice a2 (toldL g false).length c2) (show (w4.alloc (.cells #[.slice a7 g.recs.length c7, .int .i64 g.m.a, .int .i64 g.m.b] 39)).heap[B2]? = some (.cells [.slice none 0 0, .int .i64 0, .int .i64 0].toArray 39 (0, 0)) from HQ2.out)))
  have hk9 : Kept (fun k => k = B2) (w4.alloc (.cells #[.slice a7 g.recs.length c7, .int .i64 g.m.a, .int .i64 g.m.b] 39)) ((((w4.alloc (.cells #[.slice a7 g.recs.length c7, .int .i64 g.m.a, .int .i64 g.m.b] 39)).setCell ⟨B2, 0, none⟩ (.slice a2 (toldL g false).length c2)).setCell ⟨B2, 1, none⟩ (.int .i64 g.m.a)).setCell ⟨B2, 2, none⟩ (.int .i64 g.m.b)) := ((kept_set (w4.alloc (.cells #[.slice a7 g.recs.length c7, .int .i64 g.m.a, .int .i64 g.m.b] 39)) B2 0 _).trans (kept_set _ B2 1 _)).trans (kept_set _ B2 2 _)
  have H9 := Lib.hid h9
  have HK9 := Lib.hid hk9
  clear h9 hk9
  generalize ((((w4.alloc (.cells #[.slice a7 g.recs.length c7, .int .i64 g.m.a, .int .i64 g.m.b] 39)).setCell ⟨B2, 0, none⟩ (.slice a2 (toldL g false).length c2)).setCell ⟨B2, 1, none⟩ (.int .i64 g.m.a)).setCell ⟨B2, 2, none⟩ (.int .i64 g.m.b)) = w9 at H9 HK9 ⊢
  have hload := run_loadVar_row (P := Tryz.prog) _ B2 39  39 _ (0, 0) _ H9.out Tryz.underlying39 rfl state_info
  have hfin : Kept (fun _ => False) w w9 := by
    have h0 : Kept (fun k => k = B2) w w9 := (HKK.out.mono (fun _ _ f => f.elim)).trans HK9.out
    exact ⟨h0.os, h0.tape, h0.output, h0.size, fun k hk _ => h0.block k hk (by have := HBE.out; have := HNB.out; show ¬ (k = B2); omega)⟩
  refine ret_box_tmp 4 39 5 B2 _ (.bool false) Tryz.results11 ?_ ?_ hload ?_ ?_
  exact rfl
  exact rfl
  exact rfl
  exact ⟨a2, c2, rfl, (HT2.out.kept HK9.out (fun k hk e => hk.2 e)).mono (fun k hk => hk.1), hfin⟩
set_option maxRecDepth 100000 in
set_option maxHeartbeats 4000000 in
theorem behind_3_a (hw : Wl Z w lb db g d) (hg : Good d g) (n f : Int) (hn1 : -9223372036854775808 ≤ n) (hn2 : n ≤ 9223372036854775807) (hf1 : -9223372036854775808 ≤ f) (hf2 : f ≤ 9223372036854775807) {ok : Nat → Prop} {a4 : Option Addr} {c4 : Nat} {l : List Int} (hL : NumAt w ok (.slice a4 l.length c4) l) (hok : ∀ k, ok k → k < w.heap.size) (hll : l.length * 8 ≤ 140737488351232) (a5 : Option Addr) (n5 c5 : Nat) (hh : n < 0) :
    Calls Tryz.prog 11 #[.pointer (some ⟨lb, 0, none⟩), .agg #[.int .i64 3, .int .i64 n, .int .i64 f, .slice a4 l.length c4, .slice a5 n5 c5]] w (BehPost w (behG 3 n f l g)) := by
  have HBH : Hid (behG 3 n f l g = (g.recs.take g.m.nu, ((g.m.a : Nat) : Int), ((g.m.b : Nat) : Int), false)) := Lib.hid (by unfold behG; rw [if_neg (by decide), if_pos rfl, if_pos hh])
  obtain ⟨B1, hB1⟩ : ∃ B1, w.heap.size = B1 := ⟨_, rfl⟩
  have hb1 : (w.alloc (.cells #[.int .i64 3, .int .i64 n, .int .i64 f, .slice a4 l.length c4, .slice a5 n5 c5] 34)).heap[B1]? = some (.cells #[.int .i64 3, .int .i64 n, .int .i64 f, .slice a4 l.length c4, .slice a5 n5 c5] 34 (0, 0)) := by rw [← hB1]; exact heap_alloc_new w _
  obtain ⟨B2, hB2⟩ : ∃ B2, (w.alloc (.cells #[.int .i64 3, .int .i64 n, .int .i64 f, .slice a4 l.length c4, .slice a5 n5 c5] 34)).heap.size = B2 := ⟨_, rfl⟩
  have hb2 : ((w.alloc (.cells #[.int .i64 3, .int .i64 n, .int .i64 f, .slice a4 l.length c4, .slice a5 n5 c5] 34)).alloc (.cells #[.slice none 0 0, .int .i64 0, .int .i64 0] 39)).heap[B2]? = some (.cells #[.slice none 0 0, .int .i64 0, .int .i64 0] 39 (0, 0)) := by rw [← hB2]; exact heap_alloc_new _ _
  have hka : Kept (fun _ => False) w (w.alloc (.cells #[.int .i64 3, .int .i64 n, .int .i64 f, .slice a4 l.length c4, .slice a5 n5 c5] 34)) := (Kept.refl _ w).alloc _
  have hkb : Kept (fun _ => False) (w.alloc (.cells #[.int .i64 3, .int .i64 n, .int .i64 f, .slice a4 l.length c4, .slice a5 n5 c5] 34)) ((w.alloc (.cells #[.int .i64 3, .int .i64 n, .int .i64 f, .slice a4 l.length c4, .slice a5 n5 c5] 34)).alloc (.cells #[.slice none 0 0, .int .i64 0, .int .i64 0] 39)) := (Kept.refl _ _).alloc _
  have hb1' := (hkb.block B1 (lt_of_block hb1) id).trans hb1
  have hkw := hka.trans hkb
  have hnb : B2 = B1 + 1 := by rw [← hB2, ← hB1]; simp
  obtain ⟨W1, hW1⟩ : ∃ W1, (w.alloc (.cells #[.int .i64 3, .int .i64 n, .int .i64 f, .slice a4 l.length c4, .slice a5 n5 c5] 34)).alloc (.cells #[.slice none 0 0, .int .i64 0, .int .i64 0] 39) = W1 := ⟨_, rfl⟩
  rw [hW1] at hb1' hb2 hkw
  have hw1 := hw.kept0 hkw
  have HW1 := Lib.hid hw1
  have HL1 := Lib.hid (hL.kept hkw (fun _ _ x => x))
  have HOK : Hid (∀ k, ok k → k < W1.heap.size) := Lib.hid (fun k hk => Nat.lt_of_lt_of_le (hok k hk) hkw.size)
  have HB1 := Lib.hid hb1'
  have HB2 := Lib.hid hb2
  have HKW := Lib.hid hkw
  have HBE : Hid (w.heap.size = B1) := Lib.hid hB1
  have HNB : Hid (B2 = B1 + 1) := Lib.hid hnb
  have HWE := Lib.hid hW1
  have HTF := Lib.hid (told_false hw1 hg)
  have HG := Lib.hid hg
  have hnu := hg.nu
  clear hw hg hL hok hb1 hb1' hb2 hB1 hB2 hka hkb hkw hnb hW1 hw1
  go_enter Tryz.func11, Tryz.ntmps11
  go_wp2_with fail
  rw [HWE.out]
  refine HTF.out.mono ?_
  rintro e w2 ⟨a2, c2, rfl, ht2, hk2, hc2⟩
  have ht3 := ht2.kept ((Kept.refl (fun _ => False) w2).alloc (.cells #[.slice a2 (toldL g false).length c2, .int .i64 g.m.a, .int .i64 g.m.b] 39)) (fun _ _ x => x)
  have hk3 : Kept (fun _ => False) W1 (w2.alloc (.cells #[.slice a2 (toldL g false).length c2, .int .i64 g.m.a, .int .i64 g.m.b] 39)) := hk2.alloc _
  have HB3 : Hid ((w2.alloc (.cells #[.slice a2 (toldL g false).length c2, .int .i64 g.m.a, .int .i64 g.m.b] 39)).heap[w2.heap.size]? = some (.cells #[.slice a2 (toldL g false).length c2, .int .i64 g.m.a, .int .i64 g.m.b] 39 (0, 0))) := Lib.hid (heap_alloc_new w2 _)
  have HT3 := Lib.hid ht3
  have HK3 := Lib.hid hk3
  have HTT := Lib.hid (told_true (HW1.out.kept0 hk3) HG.out)
  clear ht2 hk2 ht3 hk3 hc2
  have hto : toldL g true = g.recs := rfl
  go_wp2_with fail
  refine HTT.out.mono ?_
  rintro e w4 ⟨a7, c7, rfl, ht4, hk4, hc7⟩
  rw [hto] at ht4 ⊢
  rw [HBE.out, ← HNB.out]
  have ht5 := ht4.kept ((Kept.refl (fun _ => False) w4).alloc (.cells #[.slice a7 g.recs.length c7, .int .i64 g.m.a, .int .i64 g.m.b] 39)) (fun _ _ x => x)
  have hk5 : Kept (fun _ => False) (w2.alloc (.cells #[.slice a2 (toldL g false).length c2, .int .i64 g.m.a, .int .i64 g.m.b] 39)) (w4.alloc (.cells #[.slice a7 g.recs.length c7, .int .i64 g.m.a, .int .i64 g.m.b] 39)) := hk4.alloc _
  have hkk := HK3.out.trans hk5
  have hq1 := (hkk.block B1 (lt_of_block HB1.out) id).trans HB1.out
  have hq2 := (hkk.block B2 (lt_of_block HB2.out) id).trans HB2.out
  have hq3 := (hk5.block _ (lt_of_block HB3.out) id).trans HB3.out
  have hq4 : (w4.alloc (.cells #[.slice a7 g.recs.length c7, .int .i64 g.m.a, .int .i64 g.m.b] 39)).heap[w4.heap.size]? = some (.cells #[.slice a7 g.recs.length c7, .int .i64 g.m.a, .int .i64 g.m.b] 39 (0, 0)) := heap_alloc_new w4 _
  have HT5 := Lib.hid (ht5.mono (ok' := fun k => w.heap.size ≤ k ∧ k ≠ B2) (fun k hk => by
    have h1 := HBE.out
    have h2 := HNB.out
    have h3 : (w2.alloc (.cells #[.slice a2 (toldL g false).length c2, .int .i64 g.m.a, .int .i64 g.m.b] 39)).heap.size ≤ k := hk
    have h4 := HK3.out.size
    have h5 := lt_of_block HB2.out
    omega))
  have HT2 := Lib.hid ((HT3.out.kept hk5 (fun _ _ x => x)).mono (ok' := fun k => w.heap.size ≤ k ∧ k ≠ B2) (fun k hk => by
    have h1 := HBE.out
    have h2 := HNB.out
    have h3 : W1.heap.size ≤ k := hk
    have h5 := lt_of_block HB2.out
    omega))
  have HKK := Lib.hid (HKW.out.trans hkk)
  have HL5 := Lib.hid (HL1.out.kept hkk (fun _ _ x => x))
  have HOK5 : Hid (∀ k, ok k → k < (w4.alloc (.cells #[.slice a7 g.recs.length c7, .int .i64 g.m.a, .int .i64 g.m.b] 39)).heap.size) := Lib.hid (fun k hk => Nat.lt_of_lt_of_le (HOK.out k hk) hkk.size)
  obtain ⟨x0, x1, x2, x3⟩ := five_cells hq1
  obtain ⟨y0, y1, y2, ff⟩ := three_of hq2
  obtain ⟨z0, z1, z2, _⟩ := three_of hq3
  obtain ⟨u0, u1, u2, _⟩ := three_of hq4
  have f0 := ff 0
  have f1 := ff 1
  have f2 := ff 2
  have HQ2 := Lib.hid hq2
  have HZ2 := Lib.hid hq3
  have HZ1 := Lib.hid hq1
  rw [hto] at hc7
  have HC7 := Lib.hid hc7
  clear hc7 ht4 ht5 hk4 hk5 hkk hq1 hq2 hq3 hq4 ff HTT HTF
  have hlt : n < 0 := by omega
  go_wp2_with fail
  have h9 := heap_set (i := 2) (.int .i64 g.m.b) (heap_set (i := 1) (.int .i64 g.m.a) (heap_set (i := 0) (.slice a2 (toldL g false).length c2) (show (w4.alloc (.cells #[.slice a7 g.recs.length c7, .int .i64 g.m.a, .int .i64 g.m.b] 39)).heap[B2]? = some (.cells [.slice none 0 0, .int .i64 0, .int .i64 0].toArray 39 (0, 0)) from HQ2.out)))
  have hk9 : Kept (fun k => k = B2) (w4.alloc (.cells #[.slice a7 g.recs.length c7, .int .i64 g.m.a, .int .i64 g.m.b] 39)) ((((w4.alloc (.cells #[.slice a7 g.recs.length c7, .int .i64 g.m.a, .int .i64 g.m.b] 39)).setCell ⟨B2, 0, none⟩ (.slice a2 (toldL g false).length c2)).setCell ⟨B2, 1, none⟩ (.int .i64 g.m.a)).setCell ⟨B2, 2, none⟩ (.int .i64 g.m.b)) := ((kept_set (w4.alloc (.cells #[.slice a7 g.recs.length c7, .int .i64 g.m.a, .int .i64 g.m.b] 39)) B2 0 _).trans (kept_set _ B2 1 _)).trans (kept_set _ B2 2 _)
  have H9 := Lib.hid h9
  have HK9 := Lib.hid hk9
  clear h9 hk9
  generalize ((((w4.alloc (.cells #[.slice a7 g.recs.length c7, .int .i64 g.m.a, .int .i64 g.m.b] 39)).setCell ⟨B2, 0, none⟩ (.slice a2 (toldL g false).length c2)).setCell ⟨B2, 1, none⟩ (.int .i64 g.m.a)).setCell ⟨B2, 2, none⟩ (.int .i64 g.m.b)) = w9 at H9 HK9 ⊢
  have hload := run_loadVar_row (P := Tryz.prog) _ B2 39  39 _ (0, 0) _ H9.out Tryz.underlying39 rfl state_info
  have hfin : Kept (fun _ => False) w w9 := by
    have h0 : Kept (fun k => k = B2) w w9 := (HKK.out.mono (fun _ _ f => f.elim)).trans HK9.out
    exact ⟨h0.os, h0.tape, h0.output, h0.size, fun k hk _ => h0.block k hk (by have := HBE.out; have := HNB.out; show ¬ (k = B2); omega)⟩
  refine ret_box_tmp 4 39 5 B2 _ (.bool false) Tryz.results11 ?_ ?_ hload ?_ ?_
  exact rfl
  exact rfl
  exact rfl
  show BehPost _ (behG 3 n f l g) _ _
  rw [HBH.out]
  exact ⟨a2, c2, rfl, (HT2.out.kept HK9.out (fun k hk e => hk.2 e)).mono (fun k hk => hk.1), hfin⟩
set_option maxRecDepth 100000 in
set_option maxHeartbeats 4000000 in
theorem behind_3_b (hw : Wl Z w lb db g d) (hg : Good d g) (n f : Int) (hn1 : -9223372036854775808 ≤ n) (hn2 : n ≤ 9223372036854775807) (hf1 : -9223372036854775808 ≤ f) (hf2 : f ≤ 9223372036854775807) {ok : Nat → Prop} {a4 : Option Addr} {c4 : Nat} {l : List Int} (hL : NumAt w ok (.slice a4 l.length c4) l) (hok : ∀ k, ok k → k < w.heap.size) (hll : l.length * 8 ≤ 140737488351232) (a5 : Option Addr) (n5 c5 : Nat) (hh : ¬ n < 0) (hh2 : (g.recs.length : Int) < n) :
    Calls Tryz.prog 11 #[.pointer (some ⟨lb, 0, none⟩), .agg #[.int .i64 3, .int .i64 n, .int .i64 f, .slice a4 l.length c4, .slice a5 n5 c5]] w (BehPost w (behG 3 n f l g)) := by
  have HBH : Hid (behG 3 n f l g = (g.recs.take g.m.nu, ((g.m.a : Nat) : Int), ((g.m.b : Nat) : Int), false)) := Lib.hid (by unfold behG; rw [if_neg (by decide), if_pos rfl, if_neg hh, if_pos hh2])
  obtain ⟨B1, hB1⟩ : ∃ B1, w.heap.size = B1 := ⟨_, rfl⟩
  have hb1 : (w.alloc (.cells #[.int .i64 3, .int .i64 n, .int .i64 f, .slice a4 l.length c4, .slice a5 n5 c5] 34)).heap[B1]? = some (.cells #[.int .i64 3, .int .i64 n, .int .i64 f, .slice a4 l.length c4, .slice a5 n5 c5] 34 (0, 0)) := by rw [← hB1]; exact heap_alloc_new w _
  obtain ⟨B2, hB2⟩ : ∃ B2, (w.alloc (.cells #[.int .i64 3, .int .i64 n, .int .i64 f, .slice a4 l.length c4, .slice a5 n5 c5] 34)).heap.size = B2 := ⟨_, rfl⟩
  have hb2 : ((w.alloc (.cells #[.int .i64 3, .int .i64 n, .int .i64 f, .slice a4 l.length c4, .slice a5 n5 c5] 34)).alloc (.cells #[.slice none 0 0, .int .i64 0, .int .i64 0] 39)).heap[B2]? = some (.cells #[.slice none 0 0, .int .i64 0, .int .i64 0] 39 (0, 0)) := by rw [← hB2]; exact heap_alloc_new _ _
  have hka : Kept (fun _ => False) w (w.alloc (.cells #[.int .i64 3, .int .i64 n, .int .i64 f, .slice a4 l.length c4, .slice a5 n5 c5] 34)) := (Kept.refl _ w).alloc _
  have hkb : Kept (fun _ => False) (w.alloc (.cells #[.int .i64 3, .int .i64 n, .int .i64 f, .slice a4 l.length c4, .slice a5 n5 c5] 34)) ((w.alloc (.cells #[.int .i64 3, .int .i64 n, .int .i64 f, .slice a4 l.length c4, .slice a5 n5 c5] 34)).alloc (.cells #[.slice none 0 0, .int .i64 0, .int .i64 0] 39)) := (Kept.refl _ _).alloc _
  have hb1' := (hkb.block B1 (lt_of_block hb1) id).trans hb1
  have hkw := hka.trans hkb
  have hnb : B2 = B1 + 1 := by rw [← hB2, ← hB1]; simp
  obtain ⟨W1, hW1⟩ : ∃ W1, (w.alloc (.cells #[.int .i64 3, .int .i64 n, .int .i64 f, .slice a4 l.length c4, .slice a5 n5 c5] 34)).alloc (.cells #[.slice none 0 0, .int .i64 0, .int .i64 0] 39) = W1 := ⟨_, rfl⟩
  rw [hW1] at hb1' hb2 hkw
  have hw1 := hw.kept0 hkw
  have HW1 := Lib.hid hw1
  have HL1 := Lib.hid (hL.kept hkw (fun _ _ x => x))
  have HOK : Hid (∀ k, ok k → k < W1.heap.size) := Lib.hid (fun k hk => Nat.lt_of_lt_of_le (hok k hk) hkw.size)
  have HB1 := Lib.hid hb1'
  have HB2 := Lib.hid hb2
  have HKW := Lib.hid hkw
  have HBE : Hid (w.heap.size = B1) := Lib.hid hB1
  have HNB : Hid (B2 = B1 + 1) := Lib.hid hnb
  have HWE := Lib.hid hW1
  have HTF := Lib.hid (told_false hw1 hg)
  have HG := Lib.hid hg
  have hnu := hg.nu
  clear hw hg hL hok hb1 hb1' hb2 hB1 hB2 hka hkb hkw hnb hW1 hw1
  go_enter Tryz.func11, Tryz.ntmps11
  go_wp2_with fail
  rw [HWE.out]
  refine HTF.out.mono ?_
  rintro e w2 ⟨a2, c2, rfl, ht2, hk2, hc2⟩
  have ht3 := ht2.kept ((Kept.refl (fun _ => False) w2).alloc (.cells #[.slice a2 (toldL g false).length c2, .int .i64 g.m.a, .int .i64 g.m.b] 39)) (fun _ _ x => x)
  have hk3 : Kept (fun _ => False) W1 (w2.alloc (.cells #[.slice a2 (toldL g false).length c2, .int .i64 g.m.a, .int .i64 g.m.b] 39)) := hk2.alloc _
  have HB3 : Hid ((w2.alloc (.cells #[.slice a2 (toldL g false).length c2, .int .i64 g.m.a, .int .i64 g.m.b] 39)).heap[w2.heap.size]? = some (.cells #[.slice a2 (toldL g false).length c2, .int .i64 g.m.a, .int .i64 g.m.b] 39 (0, 0))) := Lib.hid (heap_alloc_new w2 _)
  have HT3 := Lib.hid ht3
  have HK3 := Lib.hid hk3
  have HTT := Lib.hid (told_true (HW1.out.kept0 hk3) HG.out)
  clear ht2 hk2 ht3 hk3 hc2
  have hto : toldL g true = g.recs := rfl
  go_wp2_with fail
  refine HTT.out.mono ?_
  rintro e w4 ⟨a7, c7, rfl, ht4, hk4, hc7⟩
  rw [hto] at ht4 ⊢
  rw [HBE.out, ← HNB.out]
  have ht5 := ht4.kept ((Kept.refl (fun _ => False) w4).alloc (.cells #[.slice a7 g.recs.length c7, .int .i64 g.m.a, .int .i64 g.m.b] 39)) (fun _ _ x => x)
  have hk5 : Kept (fun _ => False) (w2.alloc (.cells #[.slice a2 (toldL g false).length c2, .int .i64 g.m.a, .int .i64 g.m.b] 39)) (w4.alloc (.cells #[.slice a7 g.recs.length c7, .int .i64 g.m.a, .int .i64 g.m.b] 39)) := hk4.alloc _
  have hkk := HK3.out.trans hk5
  have hq1 := (hkk.block B1 (lt_of_block HB1.out) id).trans HB1.out
  have hq2 := (hkk.block B2 (lt_of_block HB2.out) id).trans HB2.out
  have hq3 := (hk5.block _ (lt_of_block HB3.out) id).trans HB3.out
  have hq4 : (w4.alloc (.cells #[.slice a7 g.recs.length c7, .int .i64 g.m.a, .int .i64 g.m.b] 39)).heap[w4.heap.size]? = some (.cells #[.slice a7 g.recs.length c7, .int .i64 g.m.a, .int .i64 g.m.b] 39 (0, 0)) := heap_alloc_new w4 _
  have HT5 := Lib.hid (ht5.mono (ok' := fun k => w.heap.size ≤ k ∧ k ≠ B2) (fun k hk => by
    have h1 := HBE.out
    have h2 := HNB.out
    have h3 : (w2.alloc (.cells #[.slice a2 (toldL g false).length c2, .int .i64 g.m.a, .int .i64 g.m.b] 39)).heap.size ≤ k := hk
    have h4 := HK3.out.size
    have h5 := lt_of_block HB2.out
    omega))
  have HT2 := Lib.hid ((HT3.out.kept hk5 (fun _ _ x => x)).mono (ok' := fun k => w.heap.size ≤ k ∧ k ≠ B2) (fun k hk => by
    have h1 := HBE.out
    have h2 := HNB.out
    have h3 : W1.heap.size ≤ k := hk
    have h5 := lt_of_block HB2.out
    omega))
  have HKK := Lib.hid (HKW.out.trans hkk)
  have HL5 := Lib.hid (HL1.out.kept hkk (fun _ _ x => x))
  have HOK5 : Hid (∀ k, ok k → k < (w4.alloc (.cells #[.slice a7 g.recs.length c7, .int .i64 g.m.a, .int .i64 g.m.b] 39)).heap.size) := Lib.hid (fun k hk => Nat.lt_of_lt_of_le (HOK.out k hk) hkk.size)
  obtain ⟨x0, x1, x2, x3⟩ := five_cells hq1
  obtain ⟨y0, y1, y2, ff⟩ := three_of hq2
  obtain ⟨z0, z1, z2, _⟩ := three_of hq3
  obtain ⟨u0, u1, u2, _⟩ := three_of hq4
  have f0 := ff 0
  have f1 := ff 1
  have f2 := ff 2
  have HQ2 := Lib.hid hq2
  have HZ2 := Lib.hid hq3
  have HZ1 := Lib.hid hq1
  rw [hto] at hc7
  have HC7 := Lib.hid hc7
  clear hc7 ht4 ht5 hk4 hk5 hkk hq1 hq2 hq3 hq4 ff HTT HTF
  have hlt : ¬ n < 0 := by omega
  have hlt2 : (g.recs.length : Int) < n := by omega
  go_wp2_with fail
  have h9 := heap_set (i := 2) (.int .i64 g.m.b) (heap_set (i := 1) (.int .i64 g.m.a) (heap_set (i := 0) (.slice a2 (toldL g false).length c2) (show (w4.alloc (.cells #[.slice a7 g.recs.length c7, .int .i64 g.m.a, .int .i64 g.m.b] 39)).heap[B2]? = some (.cells [.slice none 0 0, .int .i64 0, .int .i64 0].toArray 39 (0, 0)) from HQ2.out)))
  have hk9 : Kept (fun k => k = B2) (w4.alloc (.cells #[.slice a7 g.recs.length c7, .int .i64 g.m.a, .int .i64 g.m.b] 39)) ((((w4.alloc (.cells #[.slice a7 g.recs.length c7, .int .i64 g.m.a, .int .i64 g.m.b] 39)).setCell ⟨B2, 0, none⟩ (.slice a2 (toldL g false).length c2)).setCell ⟨B2, 1, none⟩ (.int .i64 g.m.a)).setCell ⟨B2, 2, none⟩ (.int .i64 g.m.b)) := ((kept_set (w4.alloc (.cells #[.slice a7 g.recs.length c7, .int .i64 g.m.a, .int .i64 g.m.b] 39)) B2 0 _).trans (kept_set _ B2 1 _)).trans (kept_set _ B2 2 _)
  have H9 := Lib.hid h9
  have HK9 := Lib.hid hk9
  clear h9 hk9
  generalize ((((w4.alloc (.cells #[.slice a7 g.recs.length c7, .int .i64 g.m.a, .int .i64 g.m.b] 39)).setCell ⟨B2, 0, none⟩ (.slice a2 (toldL g false).length c2)).setCell ⟨B2, 1, none⟩ (.int .i64 g.m.a)).setCell ⟨B2, 2, none⟩ (.int .i64 g.m.b)) = w9 at H9 HK9 ⊢
  have hload := run_loadVar_row (P := Tryz.prog) _ B2 39  39 _ (0, 0) _ H9.out Tryz.underlying39 rfl state_info
  have hfin : Kept (fun _ => False) w w9 := by
    have h0 : Kept (fun k => k = B2) w w9 := (HKK.out.mono (fun _ _ f => f.elim)).trans HK9.out
    exact ⟨h0.os, h0.tape, h0.output, h0.size, fun k hk _ => h0.block k hk (by have := HBE.out; have := HNB.out; show ¬ (k = B2); omega)⟩
  refine ret_box_tmp 4 39 5 B2 _ (.bool false) Tryz.results11 ?_ ?_ hload ?_ ?_
  exact rfl
  exact rfl
  exact rfl
  show BehPost _ (behG 3 n f l g) _ _
  rw [HBH.out]
  exact ⟨a2, c2, rfl, (HT2.out.kept HK9.out (fun k hk e => hk.2 e)).mono (fun k hk => hk.1), hfin⟩
set_option maxRecDepth 100000 in
set_option maxHeartbeats 4000000 in
theorem behind_3_c (hw : Wl Z w lb db g d) (hg : Good d g) (n f : Int) (hn1 : -9223372036854775808 ≤ n) (hn2 : n ≤ 9223372036854775807) (hf1 : -9223372036854775808 ≤ f) (hf2 : f ≤ 9223372036854775807) {ok : Nat → Prop} {a4 : Option Addr} {c4 : Nat} {l : List Int} (hL : NumAt w ok (.slice a4 l.length c4) l) (hok : ∀ k, ok k → k < w.heap.size) (hll : l.length * 8 ≤ 140737488351232) (a5 : Option Addr) (n5 c5 : Nat) (hh : ¬ n < 0) (hh2 : ¬ (g.recs.length : Int) < n) :
    Calls Tryz.prog 11 #[.pointer (some ⟨lb, 0, none⟩), .agg #[.int .i64 3, .int .i64 n, .int .i64 f, .slice a4 l.length c4, .slice a5 n5 c5]] w (BehPost w (behG 3 n f l g)) := by
  have HMN : Hid (n.toNat ≤ g.recs.length) := Lib.hid (by omega)
  have HMT : Hid ((g.recs.take n.toNat).length = n.toNat) := Lib.hid (by rw [List.length_take]; omega)
  have HBH : Hid (behG 3 n f l g = (g.recs.take n.toNat, ((g.m.a : Nat) : Int), ((g.m.b : Nat) : Int), true)) := Lib.hid (by unfold behG; rw [if_neg (by decide), if_pos rfl, if_neg hh, if_neg hh2])
  obtain ⟨B1, hB1⟩ : ∃ B1, w.heap.size = B1 := ⟨_, rfl⟩
  have hb1 : (w.alloc (.cells #[.int .i64 3, .int .i64 n, .int .i64 f, .slice a4 l.length c4, .slice a5 n5 c5] 34)).heap[B1]? = some (.cells #[.int .i64 3, .int .i64 n, .int .i64 f, .slice a4 l.length c4, .slice a5 n5 c5] 34 (0, 0)) := by rw [← hB1]; exact heap_alloc_new w _
  obtain ⟨B2, hB2⟩ : ∃ B2, (w.alloc (.cells #[.int .i64 3, .int .i64 n, .int .i64 f, .slice a4 l.length c4, .slice a5 n5 c5] 34)).heap.size = B2 := ⟨_, rfl⟩
  have hb2 : ((w.alloc (.cells #[.int .i64 3, .int .i64 n, .int .i64 f, .slice a4 l.length c4, .slice a5 n5 c5] 34)).alloc (.cells #[.slice none 0 0, .int .i64 0, .int .i64 0] 39)).heap[B2]? = some (.cells #[.slice none 0 0, .int .i64 0, .int .i64 0] 39 (0, 0)) := by rw [← hB2]; exact heap_alloc_new _ _
  have hka : Kept (fun _ => False) w (w.alloc (.cells #[.int .i64 3, .int .i64 n, .int .i64 f, .slice a4 l.length c4, .slice a5 n5 c5] 34)) := (Kept.refl _ w).alloc _
  have hkb : Kept (fun _ => False) (w.alloc (.cells #[.int .i64 3, .int .i64 n, .int .i64 f, .slice a4 l.length c4, .slice a5 n5 c5] 34)) ((w.alloc (.cells #[.int .i64 3, .int .i64 n, .int .i64 f, .slice a4 l.length c4, .slice a5 n5 c5] 34)).alloc (.cells #[.slice none 0 0, .int .i64 0, .int .i64 0] 39)) := (Kept.refl _ _).alloc _
  have hb1' := (hkb.block B1 (lt_of_block hb1) id).trans hb1
  have hkw := hka.trans hkb
  have hnb : B2 = B1 + 1 := by rw [← hB2, ← hB1]; simp
  obtain ⟨W1, hW1⟩ : ∃ W1, (w.alloc (.cells #[.int .i64 3, .int .i64 n, .int .i64 f, .slice a4 l.length c4, .slice a5 n5 c5] 34)).alloc (.cells #[.slice none 0 0, .int .i64 0, .int .i64 0] 39) = W1 := ⟨_, rfl⟩
  rw [hW1] at hb1' hb2 hkw
  have hw1 := hw.kept0 hkw
  have HW1 := Lib.hid hw1
  have HL1 := Lib.hid (hL.kept hkw (fun _ _ x => x))
  have HOK : Hid (∀ k, ok k → k < W1.heap.size) := Lib.hid (fun k hk => Nat.lt_of_lt_of_le (hok k hk) hkw.size)
  have HB1 := Lib.hid hb1'
  have HB2 := Lib.hid hb2
  have HKW := Lib.hid hkw
  have HBE : Hid (w.heap.size = B1) := Lib.hid hB1
  have HNB : Hid (B2 = B1 + 1) := Lib.hid hnb
  have HWE := Lib.hid hW1
  have HTF := Lib.hid (told_false hw1 hg)
  have HG := Lib.hid hg
  have hnu := hg.nu
  clear hw hg hL hok hb1 hb1' hb2 hB1 hB2 hka hkb hkw hnb hW1 hw1
  go_enter Tryz.func11, Tryz.ntmps11
  go_wp2_with fail
  rw [HWE.out]
  refine HTF.out.mono ?_
  rintro e w2 ⟨a2, c2, rfl, ht2, hk2, hc2⟩
  have ht3 := ht2.kept ((Kept.refl (fun _ => False) w2).alloc (.cells #[.slice a2 (toldL g false).length c2, .int .i64 g.m.a, .int .i64 g.m.b] 39)) (fun _ _ x => x)
  have hk3 : Kept (fun _ => False) W1 (w2.alloc (.cells #[.slice a2 (toldL g false).length c2, .int .i64 g.m.a, .int .i64 g.m.b] 39)) := hk2.alloc _
  have HB3 : Hid ((w2.alloc (.cells #[.slice a2 (toldL g false).length c2, .int .i64 g.m.a, .int .i64 g.m.b] 39)).heap[w2.heap.size]? = some (.cells #[.slice a2 (toldL g false).length c2, .int .i64 g.m.a, .int .i64 g.m.b] 39 (0, 0))) := Lib.hid (heap_alloc_new w2 _)
  have HT3 := Lib.hid ht3
  have HK3 := Lib.hid hk3
  have HTT := Lib.hid (told_true (HW1.out.kept0 hk3) HG.out)
  clear ht2 hk2 ht3 hk3 hc2
  have hto : toldL g true = g.recs := rfl
  go_wp2_with fail
  refine HTT.out.mono ?_
  rintro e w4 ⟨a7, c7, rfl, ht4, hk4, hc7⟩
  rw [hto] at ht4 ⊢
  rw [HBE.out, ← HNB.out]
  have ht5 := ht4.kept ((Kept.refl (fun _ => False) w4).alloc (.cells #[.slice a7 g.recs.length c7, .int .i64 g.m.a, .int .i64 g.m.b] 39)) (fun _ _ x => x)
  have hk5 : Kept (fun _ => False) (w2.alloc (.cells #[.slice a2 (toldL g false).length c2, .int .i64 g.m.a, .int .i64 g.m.b] 39)) (w4.alloc (.cells #[.slice a7 g.recs.length c7, .int .i64 g.m.a, .int .i64 g.m.b] 39)) := hk4.alloc _
  have hkk := HK3.out.trans hk5
  have hq1 := (hkk.block B1 (lt_of_block HB1.out) id).trans HB1.out
  have hq2 := (hkk.block B2 (lt_of_block HB2.out) id).trans HB2.out
  have hq3 := (hk5.block _ (lt_of_block HB3.out) id).trans HB3.out
  have hq4 : (w4.alloc (.cells #[.slice a7 g.recs.length c7, .int .i64 g.m.a, .int .i64 g.m.b] 39)).heap[w4.heap.size]? = some (.cells #[.slice a7 g.recs.length c7, .int .i64 g.m.a, .int .i64 g.m.b] 39 (0, 0)) := heap_alloc_new w4 _
  have HT5 := Lib.hid (ht5.mono (ok' := fun k => w.heap.size ≤ k ∧ k ≠ B2) (fun k hk => by
    have h1 := HBE.out
    have h2 := HNB.out
    have h3 : (w2.alloc (.cells #[.slice a2 (toldL g false).length c2, .int .i64 g.m.a, .int .i64 g.m.b] 39)).heap.size ≤ k := hk
    have h4 := HK3.out.size
    have h5 := lt_of_block HB2.out
    omega))
  have HT2 := Lib.hid ((HT3.out.kept hk5 (fun _ _ x => x)).mono (ok' := fun k => w.heap.size ≤ k ∧ k ≠ B2) (fun k hk => by
    have h1 := HBE.out
    have h2 := HNB.out
    have h3 : W1.heap.size ≤ k := hk
    have h5 := lt_of_block HB2.out
    omega))
  have HKK := Lib.hid (HKW.out.trans hkk)
  have HL5 := Lib.hid (HL1.out.kept hkk (fun _ _ x => x))
  have HOK5 : Hid (∀ k, ok k → k < (w4.alloc (.cells #[.slice a7 g.recs.length c7, .int .i64 g.m.a, .int .i64 g.m.b] 39)).heap.size) := Lib.hid (fun k hk => Nat.lt_of_lt_of_le (HOK.out k hk) hkk.size)
  obtain ⟨x0, x1, x2, x3⟩ := five_cells hq1
  obtain ⟨y0, y1, y2, ff⟩ := three_of hq2
  obtain ⟨z0, z1, z2, _⟩ := three_of hq3
  obtain ⟨u0, u1, u2, _⟩ := three_of hq4
  have f0 := ff 0
  have f1 := ff 1
  have f2 := ff 2
  have HQ2 := Lib.hid hq2
  have HZ2 := Lib.hid hq3
  have HZ1 := Lib.hid hq1
  rw [hto] at hc7
  have HC7 := Lib.hid hc7
  clear hc7 ht4 ht5 hk4 hk5 hkk hq1 hq2 hq3 hq4 ff HTT HTF
  have hcut : ∀ V, Sem.run Tryz.prog (Instr.slice 37 (.slice a7 g.recs.length c7) none (some (.int .i64 n)) none) V = .ok (.slice a7 n.toNat c7) V := fun V => by
    have hc := HC7.out
    obtain ⟨m, hm⟩ : ∃ m : Nat, n = (m : Int) := ⟨n.toNat, by omega⟩
    have hm2 : m ≤ c7 := by omega
    subst hm
    go_simp
  have hlt : ¬ n < 0 := by omega
  have hlt2 : ¬ (g.recs.length : Int) < n := by omega
  go_wp2_with fail
  go_region
  go_wp2_with fail
  have h9 := heap_set (i := 2) (.int .i64 g.m.b) (heap_set (i := 1) (.int .i64 g.m.a) (heap_set (i := 0) (.slice a7 n.toNat c7) (show (w4.alloc (.cells #[.slice a7 g.recs.length c7, .int .i64 g.m.a, .int .i64 g.m.b] 39)).heap[B2]? = some (.cells [.slice none 0 0, .int .i64 0, .int .i64 0].toArray 39 (0, 0)) from HQ2.out)))
  have hk9 : Kept (fun k => k = B2) (w4.alloc (.cells #[.slice a7 g.recs.length c7, .int .i64 g.m.a, .int .i64 g.m.b] 39)) ((((w4.alloc (.cells #[.slice a7 g.recs.length c7, .int .i64 g.m.a, .int .i64 g.m.b] 39)).setCell ⟨B2, 0, none⟩ (.slice a7 n.toNat c7)).setCell ⟨B2, 1, none⟩ (.int .i64 g.m.a)).setCell ⟨B2, 2, none⟩ (.int .i64 g.m.b)) := ((kept_set (w4.alloc (.cells #[.slice a7 g.recs.length c7, .int .i64 g.m.a, .int .i64 g.m.b] 39)) B2 0 _).trans (kept_set _ B2 1 _)).trans (kept_set _ B2 2 _)
  have H9 := Lib.hid (show (((((w4.alloc (.cells #[.slice a7 g.recs.length c7, .int .i64 g.m.a, .int .i64 g.m.b] 39)).setCell ⟨B2, 0, none⟩ (.slice a7 n.toNat c7)).setCell ⟨B2, 1, none⟩ (.int .i64 g.m.a)).setCell ⟨B2, 2, none⟩ (.int .i64 g.m.b))).drew.heap[B2]? = _ from h9)
  have HK9 := Lib.hid hk9.drew
  clear h9 hk9
  generalize ((((w4.alloc (.cells #[.slice a7 g.recs.length c7, .int .i64 g.m.a, .int .i64 g.m.b] 39)).setCell ⟨B2, 0, none⟩ (.slice a7 n.toNat c7)).setCell ⟨B2, 1, none⟩ (.int .i64 g.m.a)).setCell ⟨B2, 2, none⟩ (.int .i64 g.m.b)).drew = w9 at H9 HK9 ⊢
  have hload := run_loadVar_row (P := Tryz.prog) _ B2 39  39 _ (0, 0) _ H9.out Tryz.underlying39 rfl state_info
  have hfin : Kept (fun _ => False) w w9 := by
    have h0 : Kept (fun k => k = B2) w w9 := (HKK.out.mono (fun _ _ f => f.elim)).trans HK9.out
    exact ⟨h0.os, h0.tape, h0.output, h0.size, fun k hk _ => h0.block k hk (by have := HBE.out; have := HNB.out; show ¬ (k = B2); omega)⟩
  refine ret_box_tmp 4 39 5 B2 _ (.bool true) Tryz.results11 ?_ ?_ hload ?_ ?_
  exact rfl
  exact rfl
  exact rfl
  show BehPost _ (behG 3 n f l g) _ _
  rw [HBH.out]
  exact ⟨a7, c7, by rw [HMT.out]; rfl, ((HT5.out.cut HMN.out).kept HK9.out (fun k hk e => hk.2 e)).mono (fun k hk => hk.1), hfin⟩
set_option maxRecDepth 100000 in
set_option maxHeartbeats 4000000 in
theorem behind_4 (hw : Wl Z w lb db g d) (hg : Good d g) (n f : Int) (hn1 : -9223372036854775808 ≤ n) (hn2 : n ≤ 9223372036854775807) (hf1 : -9223372036854775808 ≤ f) (hf2 : f ≤ 9223372036854775807) {ok : Nat → Prop} {a4 : Option Addr} {c4 : Nat} {l : List Int} (hL : NumAt w ok (.slice a4 l.length c4) l) (hok : ∀ k, ok k → k < w.heap.size) (hll : l.length * 8 ≤ 140737488351232) (a5 : Option Addr) (n5 c5 : Nat) :
    Calls Tryz.prog 11 #[.pointer (some ⟨lb, 0, none⟩), .agg #[.int .i64 4, .int .i64 n, .int .i64 f, .slice a4 l.length c4, .slice a5 n5 c5]] w (BehPost w (behG 4 n f l g)) := by
  have HBH : Hid (behG 4 n f l g = (manyL l, ((g.m.a : Nat) : Int), ((g.m.b : Nat) : Int), true)) := Lib.hid rfl
  obtain ⟨B1, hB1⟩ : ∃ B1, w.heap.size = B1 := ⟨_, rfl⟩
  have hb1 : (w.alloc (.cells #[.int .i64 4, .int .i64 n, .int .i64 f, .slice a4 l.length c4, .slice a5 n5 c5] 34)).heap[B1]? = some (.cells #[.int .i64 4, .int .i64 n, .int .i64 f, .slice a4 l.length c4, .slice a5 n5 c5] 34 (0, 0)) := by rw [← hB1]; exact heap_alloc_new w _
  obtain ⟨B2, hB2⟩ : ∃ B2, (w.alloc (.cells #[.int .i64 4, .int .i64 n, .int .i64 f, .slice a4 l.length c4, .slice a5 n5 c5] 34)).heap.size = B2 := ⟨_, rfl⟩
  have hb2 : ((w.alloc (.cells #[.int .i64 4, .int .i64 n, .int .i64 f, .slice a4 l.length c4, .slice a5 n5 c5] 34)).alloc (.cells #[.slice none 0 0, .int .i64 0, .int .i64 0] 39)).heap[B2]? = some (.cells #[.slice none 0 0, .int .i64 0, .int .i64 0] 39 (0, 0)) := by rw [← hB2]; exact heap_alloc_new _ _
  have hka : Kept (fun _ => False) w (w.alloc (.cells #[.int .i64 4, .int .i64 n, .int .i64 f, .slice a4 l.length c4, .slice a5 n5 c5] 34)) := (Kept.refl _ w).alloc _
  have hkb : Kept (fun _ => False) (w.alloc (.cells #[.int .i64 4, .int .i64 n, .int .i64 f, .slice a4 l.length c4, .slice a5 n5 c5] 34)) ((w.alloc (.cells #[.int .i64 4, .int .i64 n, .int .i64 f, .slice a4 l.length c4, .slice a5 n5 c5] 34)).alloc (.cells #[.slice none 0 0, .int .i64 0, .int .i64 0] 39)) := (Kept.refl _ _).alloc _
  have hb1' := (hkb.block B1 (lt_of_block hb1) id).trans hb1
  have hkw := hka.trans hkb
  have hnb : B2 = B1 + 1 := by rw [← hB2, ← hB1]; simp
  obtain ⟨W1, hW1⟩ : ∃ W1, (w.alloc (.cells #[.int .i64 4, .int .i64 n, .int .i64 f, .slice a4 l.length c4, .slice a5 n5 c5] 34)).alloc (.cells #[.slice none 0 0, .int .i64 0, .int .i64 0] 39) = W1 := ⟨_, rfl⟩
  rw [hW1] at hb1' hb2 hkw
  have hw1 := hw.kept0 hkw
  have HW1 := Lib.hid hw1
  have HL1 := Lib.hid (hL.kept hkw (fun _ _ x => x))
  have HOK : Hid (∀ k, ok k → k < W1.heap.size) := Lib.hid (fun k hk => Nat.lt_of_lt_of_le (hok k hk) hkw.size)
  have HB1 := Lib.hid hb1'
  have HB2 := Lib.hid hb2
  have HKW := Lib.hid hkw
  have HBE : Hid (w.heap.size = B1) := Lib.hid hB1
  have HNB : Hid (B2 = B1 + 1) := Lib.hid hnb
  have HWE := Lib.hid hW1
  have HTF := Lib.hid (told_false hw1 hg)
  have HG := Lib.hid hg
  have hnu := hg.nu
  clear hw hg hL hok hb1 hb1' hb2 hB1 hB2 hka hkb hkw hnb hW1 hw1
  go_enter Tryz.func11, Tryz.ntmps11
  go_wp2_with fail
  rw [HWE.out]
  refine HTF.out.mono ?_
  rintro e w2 ⟨a2, c2, rfl, ht2, hk2, hc2⟩
  have ht3 := ht2.kept ((Kept.refl (fun _ => False) w2).alloc (.cells #[.slice a2 (toldL g false).length c2, .int .i64 g.m.a, .int .i64 g.m.b] 39)) (fun _ _ x => x)
  have hk3 : Kept (fun _ => False) W1 (w2.alloc (.cells #[.slice a2 (toldL g false).length c2, .int .i64 g.m.a, .int .i64 g.m.b] 39)) := hk2.alloc _
  have HB3 : Hid ((w2.alloc (.cells #[.slice a2 (toldL g false).length c2, .int .i64 g.m.a, .int .i64 g.m.b] 39)).heap[w2.heap.size]? = some (.cells #[.slice a2 (toldL g false).length c2, .int .i64 g.m.a, .int .i64 g.m.b] 39 (0, 0))) := Lib.hid (heap_alloc_new w2 _)
  have HT3 := Lib.hid ht3
  have HK3 := Lib.hid hk3
  have HTT := Lib.hid (told_true (HW1.out.kept0 hk3) HG.out)
  clear ht2 hk2 ht3 hk3 hc2
  have hto : toldL g true = g.recs := rfl
  go_wp2_with fail
  refine HTT.out.mono ?_
  rintro e w4 ⟨a7, c7, rfl, ht4, hk4, hc7⟩
  rw [hto] at ht4 ⊢
  rw [HBE.out, ← HNB.out]
  have ht5 := ht4.kept ((Kept.refl (fun _ => False) w4).alloc (.cells #[.slice a7 g.recs.length c7, .int .i64 g.m.a, .int .i64 g.m.b] 39)) (fun _ _ x => x)
  have hk5 : Kept (fun _ => False) (w2.alloc (.cells #[.slice a2 (toldL g false).length c2, .int .i64 g.m.a, .int .i64 g.m.b] 39)) (w4.alloc (.cells #[.slice a7 g.recs.length c7, .int .i64 g.m.a, .int .i64 g.m.b] 39)) := hk4.alloc _
  have hkk := HK3.out.trans hk5
  have hq1 := (hkk.block B1 (lt_of_block HB1.out) id).trans HB1.out
  have hq2 := (hkk.block B2 (lt_of_block HB2.out) id).trans HB2.out
  have hq3 := (hk5.block _ (lt_of_block HB3.out) id).trans HB3.out
  have hq4 : (w4.alloc (.cells #[.slice a7 g.recs.length c7, .int .i64 g.m.a, .int .i64 g.m.b] 39)).heap[w4.heap.size]? = some (.cells #[.slice a7 g.recs.length c7, .int .i64 g.m.a, .int .i64 g.m.b] 39 (0, 0)) := heap_alloc_new w4 _
  have HT5 := Lib.hid (ht5.mono (ok' := fun k => w.heap.size ≤ k ∧ k ≠ B2) (fun k hk => by
    have h1 := HBE.out
    have h2 := HNB.out
    have h3 : (w2.alloc (.cells #[.slice a2 (toldL g false).length c2, .int .i64 g.m.a, .int .i64 g.m.b] 39)).heap.size ≤ k := hk
    have h4 := HK3.out.size
    have h5 := lt_of_block HB2.out
    omega))
  have HT2 := Lib.hid ((HT3.out.kept hk5 (fun _ _ x => x)).mono (ok' := fun k => w.heap.size ≤ k ∧ k ≠ B2) (fun k hk => by
    have h1 := HBE.out
    have h2 := HNB.out
    have h3 : W1.heap.size ≤ k := hk
    have h5 := lt_of_block HB2.out
    omega))
  have HKK := Lib.hid (HKW.out.trans hkk)
  have HL5 := Lib.hid (HL1.out.kept hkk (fun _ _ x => x))
  have HOK5 : Hid (∀ k, ok k → k < (w4.alloc (.cells #[.slice a7 g.recs.length c7, .int .i64 g.m.a, .int .i64 g.m.b] 39)).heap.size) := Lib.hid (fun k hk => Nat.lt_of_lt_of_le (HOK.out k hk) hkk.size)
  obtain ⟨x0, x1, x2, x3⟩ := five_cells hq1
  obtain ⟨y0, y1, y2, ff⟩ := three_of hq2
  obtain ⟨z0, z1, z2, _⟩ := three_of hq3
  obtain ⟨u0, u1, u2, _⟩ := three_of hq4
  have f0 := ff 0
  have f1 := ff 1
  have f2 := ff 2
  have HQ2 := Lib.hid hq2
  have HZ2 := Lib.hid hq3
  have HZ1 := Lib.hid hq1
  rw [hto] at hc7
  have HC7 := Lib.hid hc7
  clear hc7 ht4 ht5 hk4 hk5 hkk hq1 hq2 hq3 hq4 ff HTT HTF
  go_wp2_with fail
  refine (many_any HL5.out HOK5.out hll).mono ?_
  rintro e w6 ⟨v6, rfl, hr6, hk6⟩
  have HT6 := Lib.hid ((ts_row hr6).mono (ok' := fun k => w.heap.size ≤ k ∧ k ≠ B2) (fun k hk => by
    have h1 := HKK.out.size
    have h2 := (hr6.lt k hk).1
    have h3 := lt_of_block HQ2.out
    omega))
  obtain ⟨a6, c6, rfl⟩ := slice_of_row hr6
  have HKK6 := Lib.hid (HKK.out.trans hk6)
  have HQ6 := Lib.hid ((hk6.block B2 (lt_of_block HQ2.out) id).trans HQ2.out)
  obtain ⟨z0', z1', z2', _⟩ := three_of ((hk6.block _ (lt_of_block HZ2.out) id).trans HZ2.out)
  obtain ⟨y0', y1', y2', ff'⟩ := three_of HQ6.out
  have f0' := ff' 0
  have f1' := ff' 1
  have f2' := ff' 2
  clear hr6 hk6 ff' x0 x1 x2 x3 y0 y1 y2 z0 z1 z2 u0 u1 u2 f0 f1 f2
  go_wp2_with fail
  have h9 := heap_set (i := 2) (.int .i64 g.m.b) (heap_set (i := 1) (.int .i64 g.m.a) (heap_set (i := 0) (.slice a6 (manyL l).length c6) (show w6.heap[B2]? = some (.cells [.slice none 0 0, .int .i64 0, .int .i64 0].toArray 39 (0, 0)) from HQ6.out)))
  have hk9 : Kept (fun k => k = B2) w6 (((w6.setCell ⟨B2, 0, none⟩ (.slice a6 (manyL l).length c6)).setCell ⟨B2, 1, none⟩ (.int .i64 g.m.a)).setCell ⟨B2, 2, none⟩ (.int .i64 g.m.b)) := ((kept_set w6 B2 0 _).trans (kept_set _ B2 1 _)).trans (kept_set _ B2 2 _)
  have H9 := Lib.hid h9
  have HK9 := Lib.hid hk9
  clear h9 hk9
  generalize (((w6.setCell ⟨B2, 0, none⟩ (.slice a6 (manyL l).length c6)).setCell ⟨B2, 1, none⟩ (.int .i64 g.m.a)).setCell ⟨B2, 2, none⟩ (.int .i64 g.m.b)) = w9 at H9 HK9 ⊢
  have hload := run_loadVar_row (P := Tryz.prog) _ B2 39  39 _ (0, 0) _ H9.out Tryz.underlying39 rfl state_info
  have hfin : Kept (fun _ => False) w w9 := by
    have h0 : Kept (fun k => k = B2) w w9 := (HKK6.out.mono (fun _ _ f => f.elim)).trans HK9.out
    exact ⟨h0.os, h0.tape, h0.output, h0.size, fun k hk _ => h0.block k hk (by have := HBE.out; have := HNB.out; show ¬ (k = B2); omega)⟩
  refine ret_box_tmp 4 39 5 B2 _ (.bool true) Tryz.results11 ?_ ?_ hload ?_ ?_
  exact rfl
  exact rfl
  exact rfl
  show BehPost _ (behG 4 n f l g) _ _
  rw [HBH.out]
  exact ⟨a6, c6, rfl, (HT6.out.kept HK9.out (fun k hk e => hk.2 e)).mono (fun k hk => hk.1), hfin⟩
set_option maxRecDepth 100000 in
set_option maxHeartbeats 4000000 in
theorem behind_5_a (hw : Wl Z w lb db g d) (hg : Good d g) (n f : Int) (hn1 : -9223372036854775808 ≤ n) (hn2 : n ≤ 9223372036854775807) (hf1 : -9223372036854775808 ≤ f) (hf2 : f ≤ 9223372036854775807) {ok : Nat → Prop} {a4 : Option Addr} {c4 : Nat} {l : List Int} (hL : NumAt w ok (.slice a4 l.length c4) l) (hok : ∀ k, ok k → k < w.heap.size) (hll : l.length * 8 ≤ 140737488351232) (a5 : Option Addr) (n5 c5 : Nat) (h50 : 0 ≤ n) (h51 : 0 ≤ f) :
    Calls Tryz.prog 11 #[.pointer (some ⟨lb, 0, none⟩), .agg #[.int .i64 5, .int .i64 n, .int .i64 f, .slice a4 l.length c4, .slice a5 n5 c5]] w (BehPost w (behG 5 n f l g)) := by
  have HBH : Hid (behG 5 n f l g = (g.recs.take g.m.nu, n, f, true)) := Lib.hid (by have e : behG 5 n f l g = (g.recs.take g.m.nu, n, f, decide (0 ≤ n) && decide (0 ≤ f)) := rfl; rw [e]; simp [h50, h51]; try omega)
  obtain ⟨B1, hB1⟩ : ∃ B1, w.heap.size = B1 := ⟨_, rfl⟩
  have hb1 : (w.alloc (.cells #[.int .i64 5, .int .i64 n, .int .i64 f, .slice a4 l.length c4, .slice a5 n5 c5] 34)).heap[B1]? = some (.cells #[.int .i64 5, .int .i64 n, .int .i64 f, .slice a4 l.length c4, .slice a5 n5 c5] 34 (0, 0)) := by rw [← hB1]; exact heap_alloc_new w _
  obtain ⟨B2, hB2⟩ : ∃ B2, (w.alloc (.cells #[.int .i64 5, .int .i64 n, .int .i64 f, .slice a4 l.length c4, .slice a5 n5 c5] 34)).heap.size = B2 := ⟨_, rfl⟩
  have hb2 : ((w.alloc (.cells #[.int .i64 5, .int .i64 n, .int .i64 f, .slice a4 l.length c4, .slice a5 n5 c5] 34)).alloc (.cells #[.slice none 0 0, .int .i64 0, .int .i64 0] 39)).heap[B2]? = some (.cells #[.slice none 0 0, .int .i64 0, .int .i64 0] 39 (0, 0)) := by rw [← hB2]; exact heap_alloc_new _ _
  have hka : Kept (fun _ => False) w (w.alloc (.cells #[.int .i64 5, .int .i64 n, .int .i64 f, .slice a4 l.length c4, .slice a5 n5 c5] 34)) := (Kept.refl _ w).alloc _
  have hkb : Kept (fun _ => False) (w.alloc (.cells #[.int .i64 5, .int .i64 n, .int .i64 f, .slice a4 l.length c4, .slice a5 n5 c5] 34)) ((w.alloc (.cells #[.int .i64 5, .int .i64 n, .int .i64 f, .slice a4 l.length c4, .slice a5 n5 c5] 34)).alloc (.cells #[.slice none 0 0, .int .i64 0, .int .i64 0] 39)) := (Kept.refl _ _).alloc _
  have hb1' := (hkb.block B1 (lt_of_block hb1) id).trans hb1
  have hkw := hka.trans hkb
  have hnb : B2 = B1 + 1 := by rw [← hB2, ← hB1]; simp
  obtain ⟨W1, hW1⟩ : ∃ W1, (w.alloc (.cells #[.int .i64 5, .int .i64 n, .int .i64 f, .slice a4 l.length c4, .slice a5 n5 c5] 34)).alloc (.cells #[.slice none 0 0, .int .i64 0, .int .i64 0] 39) = W1 := ⟨_, rfl⟩
  rw [hW1] at hb1' hb2 hkw
  have hw1 := hw.kept0 hkw
  have HW1 := Lib.hid hw1
  have HL1 := Lib.hid (hL.kept hkw (fun _ _ x => x))
  have HOK : Hid (∀ k, ok k → k < W1.heap.size) := Lib.hid (fun k hk => Nat.lt_of_lt_of_le (hok k hk) hkw.size)
  have HB1 := Lib.hid hb1'
  have HB2 := Lib.hid hb2
  have HKW := Lib.hid hkw
  have HBE : Hid (w.heap.size = B1) := Lib.hid hB1
  have HNB : Hid (B2 = B1 + 1) := Lib.hid hnb
  have HWE := Lib.hid hW1
  have HTF := Lib.hid (told_false hw1 hg)
  have HG := Lib.hid hg
  have hnu := hg.nu
  clear hw hg hL hok hb1 hb1' hb2 hB1 hB2 hka hkb hkw hnb hW1 hw1
  go_enter Tryz.func11, Tryz.ntmps11
  go_wp2_with fail
  rw [HWE.out]
  refine HTF.out.mono ?_
  rintro e w2 ⟨a2, c2, rfl, ht2, hk2, hc2⟩
  have ht3 := ht2.kept ((Kept.refl (fun _ => False) w2).alloc (.cells #[.slice a2 (toldL g false).length c2, .int .i64 g.m.a, .int .i64 g.m.b] 39)) (fun _ _ x => x)
  have hk3 : Kept (fun _ => False) W1 (w2.alloc (.cells #[.slice a2 (toldL g false).length c2, .int .i64 g.m.a, .int .i64 g.m.b] 39)) := hk2.alloc _
  have HB3 : Hid ((w2.alloc (.cells #[.slice a2 (toldL g false).length c2, .int .i64 g.m.a, .int .i64 g.m.b] 39)).heap[w2.heap.size]? = some (.cells #[.slice a2 (toldL g false).length c2, .int .i64 g.m.a, .int .i64 g.m.b] 39 (0, 0))) := Lib.hid (heap_alloc_new w2 _)
  have HT3 := Lib.hid ht3
  have HK3 := Lib.hid hk3
  have HTT := Lib.hid (told_true (HW1.out.kept0 hk3) HG.out)
  clear ht2 hk2 ht3 hk3 hc2
  have hto : toldL g true = g.recs := rfl
  go_wp2_with fail
  refine HTT.out.mono ?_
  rintro e w4 ⟨a7, c7, rfl, ht4, hk4, hc7⟩
  rw [hto] at ht4 ⊢
  rw [HBE.out, ← HNB.out]
  have ht5 := ht4.kept ((Kept.refl (fun _ => False) w4).alloc (.cells #[.slice a7 g.recs.length c7, .int .i64 g.m.a, .int .i64 g.m.b] 39)) (fun _ _ x => x)
  have hk5 : Kept (fun _ => False) (w2.alloc (.cells #[.slice a2 (toldL g false).length c2, .int .i64 g.m.a, .int .i64 g.m.b] 39)) (w4.alloc (.cells #[.slice a7 g.recs.length c7, .int .i64 g.m.a, .int .i64 g.m.b] 39)) := hk4.alloc _
  have hkk := HK3.out.trans hk5
  have hq1 := (hkk.block B1 (lt_of_block HB1.out) id).trans HB1.out
  have hq2 := (hkk.block B2 (lt_of_block HB2.out) id).trans HB2.out
  have hq3 := (hk5.block _ (lt_of_block HB3.out) id).trans HB3.out
  have hq4 : (w4.alloc (.cells #[.slice a7 g.recs.length c7, .int .i64 g.m.a, .int .i64 g.m.b] 39)).heap[w4.heap.size]? = some (.cells #[.slice a7 g.recs.length c7, .int .i64 g.m.a, .int .i64 g.m.b] 39 (0, 0)) := heap_alloc_new w4 _
  have HT5 := Lib.hid (ht5.mono (ok' := fun k => w.heap.size ≤ k ∧ k ≠ B2) (fun k hk => by
    have h1 := HBE.out
    have h2 := HNB.out
    have h3 : (w2.alloc (.cells #[.slice a2 (toldL g false).length c2, .int .i64 g.m.a, .int .i64 g.m.b] 39)).heap.size ≤ k := hk
    have h4 := HK3.out.size
    have h5 := lt_of_block HB2.out
    omega))
  have HT2 := Lib.hid ((HT3.out.kept hk5 (fun _ _ x => x)).mono (ok' := fun k => w.heap.size ≤ k ∧ k ≠ B2) (fun k hk => by
    have h1 := HBE.out
    have h2 := HNB.out
    have h3 : W1.heap.size ≤ k := hk
    have h5 := lt_of_block HB2.out
    omega))
  have HKK := Lib.hid (HKW.out.trans hkk)
  have HL5 := Lib.hid (HL1.out.kept hkk (fun _ _ x => x))
  have HOK5 : Hid (∀ k, ok k → k < (w4.alloc (.cells #[.slice a7 g.recs.length c7, .int .i64 g.m.a, .int .i64 g.m.b] 39)).heap.size) := Lib.hid (fun k hk => Nat.lt_of_lt_of_le (HOK.out k hk) hkk.size)
  obtain ⟨x0, x1, x2, x3⟩ := five_cells hq1
  obtain ⟨y0, y1, y2, ff⟩ := three_of hq2
  obtain ⟨z0, z1, z2, _⟩ := three_of hq3
  obtain ⟨u0, u1, u2, _⟩ := three_of hq4
  have f0 := ff 0
  have f1 := ff 1
  have f2 := ff 2
  have HQ2 := Lib.hid hq2
  have HZ2 := Lib.hid hq3
  have HZ1 := Lib.hid hq1
  rw [hto] at hc7
  have HC7 := Lib.hid hc7
  clear hc7 ht4 ht5 hk4 hk5 hkk hq1 hq2 hq3 hq4 ff HTT HTF
  have hd0 : decide (0 ≤ n) = true := by simp; omega
  have hd1 : decide (0 ≤ f) = true := by simp; omega
  have hne : ¬ (B1 = B2) := by have := HNB.out; omega
  have hne2 : ¬ (B2 = B1) := by have := HNB.out; omega
  go_wp2_with fail
  go_region
  go_wp2_with fail
  have h9 := heap_set (i := 2) (.int .i64 f) (heap_set (i := 1) (.int .i64 n) (heap_set (i := 0) (.slice a2 (toldL g false).length c2) (show (w4.alloc (.cells #[.slice a7 g.recs.length c7, .int .i64 g.m.a, .int .i64 g.m.b] 39)).heap[B2]? = some (.cells [.slice none 0 0, .int .i64 0, .int .i64 0].toArray 39 (0, 0)) from HQ2.out)))
  have hk9 : Kept (fun k => k = B2) (w4.alloc (.cells #[.slice a7 g.recs.length c7, .int .i64 g.m.a, .int .i64 g.m.b] 39)) ((((w4.alloc (.cells #[.slice a7 g.recs.length c7, .int .i64 g.m.a, .int .i64 g.m.b] 39)).setCell ⟨B2, 0, none⟩ (.slice a2 (toldL g false).length c2)).setCell ⟨B2, 1, none⟩ (.int .i64 n)).setCell ⟨B2, 2, none⟩ (.int .i64 f)) := ((kept_set (w4.alloc (.cells #[.slice a7 g.recs.length c7, .int .i64 g.m.a, .int .i64 g.m.b] 39)) B2 0 _).trans (kept_set _ B2 1 _)).trans (kept_set _ B2 2 _)
  have H9 := Lib.hid (show (((((w4.alloc (.cells #[.slice a7 g.recs.length c7, .int .i64 g.m.a, .int .i64 g.m.b] 39)).setCell ⟨B2, 0, none⟩ (.slice a2 (toldL g false).length c2)).setCell ⟨B2, 1, none⟩ (.int .i64 n)).setCell ⟨B2, 2, none⟩ (.int .i64 f))).drew.heap[B2]? = _ from h9)
  have HK9 := Lib.hid hk9.drew
  clear h9 hk9
  generalize ((((w4.alloc (.cells #[.slice a7 g.recs.length c7, .int .i64 g.m.a, .int .i64 g.m.b] 39)).setCell ⟨B2, 0, none⟩ (.slice a2 (toldL g false).length c2)).setCell ⟨B2, 1, none⟩ (.int .i64 n)).setCell ⟨B2, 2, none⟩ (.int .i64 f)).drew = w9 at H9 HK9 ⊢
  have hload := run_loadVar_row (P := Tryz.prog) _ B2 39  39 _ (0, 0) _ H9.out Tryz.underlying39 rfl state_info
  have hfin : Kept (fun _ => False) w w9 := by
    have h0 : Kept (fun k => k = B2) w w9 := (HKK.out.mono (fun _ _ f => f.elim)).trans HK9.out
    exact ⟨h0.os, h0.tape, h0.output, h0.size, fun k hk _ => h0.block k hk (by have := HBE.out; have := HNB.out; show ¬ (k = B2); omega)⟩
  refine ret_box_tmp 4 39 5 B2 _ (.bool true) Tryz.results11 ?_ ?_ hload ?_ ?_
  exact rfl
  exact rfl
  exact rfl
  show BehPost _ (behG 5 n f l g) _ _
  rw [HBH.out]
  exact ⟨a2, c2, rfl, (HT2.out.kept HK9.out (fun k hk e => hk.2 e)).mono (fun k hk => hk.1), hfin⟩
set_option maxRecDepth 100000 in
set_option maxHeartbeats 4000000 in
theorem behind_5_b (hw : Wl Z w lb db g d) (hg : Good d g) (n f : Int) (hn1 : -9223372036854775808 ≤ n) (hn2 : n ≤ 9223372036854775807) (hf1 : -9223372036854775808 ≤ f) (hf2 : f ≤ 9223372036854775807) {ok : Nat → Prop} {a4 : Option Addr} {c4 : Nat} {l : List Int} (hL : NumAt w ok (.slice a4 l.length c4) l) (hok : ∀ k, ok k → k < w.heap.size) (hll : l.length * 8 ≤ 140737488351232) (a5 : Option Addr) (n5 c5 : Nat) (h50 : n < 0) (h51 : True) :
    Calls Tryz.prog 11 #[.pointer (some ⟨lb, 0, none⟩), .agg #[.int .i64 5, .int .i64 n, .int .i64 f, .slice a4 l.length c4, .slice a5 n5 c5]] w (BehPost w (behG 5 n f l g)) := by
  have HBH : Hid (behG 5 n f l g = (g.recs.take g.m.nu, n, f, false)) := Lib.hid (by have e : behG 5 n f l g = (g.recs.take g.m.nu, n, f, decide (0 ≤ n) && decide (0 ≤ f)) := rfl; rw [e]; simp [h50, h51]; try omega)
  obtain ⟨B1, hB1⟩ : ∃ B1, w.heap.size = B1 := ⟨_, rfl⟩
  have hb1 : (w.alloc (.cells #[.int .i64 5, .int .i64 n, .int .i64 f, .slice a4 l.length c4, .slice a5 n5 c5] 34)).heap[B1]? = some (.cells #[.int .i64 5, .int .i64 n, .int .i64 f, .slice a4 l.length c4, .slice a5 n5 c5] 34 (0, 0)) := by rw [← hB1]; exact heap_alloc_new w _
  obtain ⟨B2, hB2⟩ : ∃ B2, (w.alloc (.cells #[.int .i64 5, .int .i64 n, .int .i64 f, .slice a4 l.length c4, .slice a5 n5 c5] 34)).heap.size = B2 := ⟨_, rfl⟩
  have hb2 : ((w.alloc (.cells #[.int .i64 5, .int .i64 n, .int .i64 f, .slice a4 l.length c4, .slice a5 n5 c5] 34)).alloc (.cells #[.slice none 0 0, .int .i64 0, .int .i64 0] 39)).heap[B2]? = some (.cells #[.slice none 0 0, .int .i64 0, .int .i64 0] 39 (0, 0)) := by rw [← hB2]; exact heap_alloc_new _ _
  have hka : Kept (fun _ => False) w (w.alloc (.cells #[.int .i64 5, .int .i64 n, .int .i64 f, .slice a4 l.length c4, .slice a5 n5 c5] 34)) := (Kept.refl _ w).alloc _
  have hkb : Kept (fun _ => False) (w.alloc (.cells #[.int .i64 5, .int .i64 n, .int .i64 f, .slice a4 l.length c4, .slice a5 n5 c5] 34)) ((w.alloc (.cells #[.int .i64 5, .int .i64 n, .int .i64 f, .slice a4 l.length c4, .slice a5 n5 c5] 34)).alloc (.cells #[.slice none 0 0, .int .i64 0, .int .i64 0] 39)) := (Kept.refl _ _).alloc _
  have hb1' := (hkb.block B1 (lt_of_block hb1) id).trans hb1
  have hkw := hka.trans hkb
  have hnb : B2 = B1 + 1 := by rw [← hB2, ← hB1]; simp
  obtain ⟨W1, hW1⟩ : ∃ W1, (w.alloc (.cells #[.int .i64 5, .int .i64 n, .int .i64 f, .slice a4 l.length c4, .slice a5 n5 c5] 34)).alloc (.cells #[.slice none 0 0, .int .i64 0, .int .i64 0] 39) = W1 := ⟨_, rfl⟩
  rw [hW1] at hb1' hb2 hkw
  have hw1 := hw.kept0 hkw
  have HW1 := Lib.hid hw1
  have HL1 := Lib.hid (hL.kept hkw (fun _ _ x => x))
  have HOK : Hid (∀ k, ok k → k < W1.heap.size) := Lib.hid (fun k hk => Nat.lt_of_lt_of_le (hok k hk) hkw.size)
  have HB1 := Lib.hid hb1'
  have HB2 := Lib.hid hb2
  have HKW := Lib.hid hkw
  have HBE : Hid (w.heap.size = B1) := Lib.hid hB1
  have HNB : Hid (B2 = B1 + 1) := Lib.hid hnb
  have HWE := Lib.hid hW1
  have HTF := Lib.hid (told_false hw1 hg)
  have HG := Lib.hid hg
  have hnu := hg.nu
  clear hw hg hL hok hb1 hb1' hb2 hB1 hB2 hka hkb hkw hnb hW1 hw1
  go_enter Tryz.func11, Tryz.ntmps11
  go_wp2_with fail
  rw [HWE.out]
  refine HTF.out.mono ?_
  rintro e w2 ⟨a2, c2, rfl, ht2, hk2, hc2⟩
  have ht3 := ht2.kept ((Kept.refl (fun _ => False) w2).alloc (.cells #[.slice a2 (toldL g false).length c2, .int .i64 g.m.a, .int .i64 g.m.b] 39)) (fun _ _ x => x)
  have hk3 : Kept (fun _ => False) W1 (w2.alloc (.cells #[.slice a2 (toldL g false).length c2, .int .i64 g.m.a, .int .i64 g.m.b] 39)) := hk2.alloc _
  have HB3 : Hid ((w2.alloc (.cells #[.slice a2 (toldL g false).length c2, .int .i64 g.m.a, .int .i64 g.m.b] 39)).heap[w2.heap.size]? = some (.cells #[.slice a2 (toldL g false).length c2, .int .i64 g.m.a, .int .i64 g.m.b] 39 (0, 0))) := Lib.hid (heap_alloc_new w2 _)
  have HT3 := Lib.hid ht3
  have HK3 := Lib.hid hk3
  have HTT := Lib.hid (told_true (HW1.out.kept0 hk3) HG.out)
  clear ht2 hk2 ht3 hk3 hc2
  have hto : toldL g true = g.recs := rfl
  go_wp2_with fail
  refine HTT.out.mono ?_
  rintro e w4 ⟨a7, c7, rfl, ht4, hk4, hc7⟩
  rw [hto] at ht4 ⊢
  rw [HBE.out, ← HNB.out]
  have ht5 := ht4.kept ((Kept.refl (fun _ => False) w4).alloc (.cells #[.slice a7 g.recs.length c7, .int .i64 g.m.a, .int .i64 g.m.b] 39)) (fun _ _ x => x)
  have hk5 : Kept (fun _ => False) (w2.alloc (.cells #[.slice a2 (toldL g false).length c2, .int .i64 g.m.a, .int .i64 g.m.b] 39)) (w4.alloc (.cells #[.slice a7 g.recs.length c7, .int .i64 g.m.a, .int .i64 g.m.b] 39)) := hk4.alloc _
  have hkk := HK3.out.trans hk5
  have hq1 := (hkk.block B1 (lt_of_block HB1.out) id).trans HB1.out
  have hq2 := (hkk.block B2 (lt_of_block HB2.out) id).trans HB2.out
  have hq3 := (hk5.block _ (lt_of_block HB3.out) id).trans HB3.out
  have hq4 : (w4.alloc (.cells #[.slice a7 g.recs.length c7, .int .i64 g.m.a, .int .i64 g.m.b] 39)).heap[w4.heap.size]? = some (.cells #[.slice a7 g.recs.length c7, .int .i64 g.m.a, .int .i64 g.m.b] 39 (0, 0)) := heap_alloc_new w4 _
  have HT5 := Lib.hid (ht5.mono (ok' := fun k => w.heap.size ≤ k ∧ k ≠ B2) (fun k hk => by
    have h1 := HBE.out
    have h2 := HNB.out
    have h3 : (w2.alloc (.cells #[.slice a2 (toldL g false).length c2, .int .i64 g.m.a, .int .i64 g.m.b] 39)).heap.size ≤ k := hk
    have h4 := HK3.out.size
    have h5 := lt_of_block HB2.out
    omega))
  have HT2 := Lib.hid ((HT3.out.kept hk5 (fun _ _ x => x)).mono (ok' := fun k => w.heap.size ≤ k ∧ k ≠ B2) (fun k hk => by
    have h1 := HBE.out
    have h2 := HNB.out
    have h3 : W1.heap.size ≤ k := hk
    have h5 := lt_of_block HB2.out
    omega))
  have HKK := Lib.hid (HKW.out.trans hkk)
  have HL5 := Lib.hid (HL1.out.kept hkk (fun _ _ x => x))
  have HOK5 : Hid (∀ k, ok k → k < (w4.alloc (.cells #[.slice a7 g.recs.length c7, .int .i64 g.m.a, .int .i64 g.m.b] 39)).heap.size) := Lib.hid (fun k hk => Nat.lt_of_lt_of_le (HOK.out k hk) hkk.size)
  obtain ⟨x0, x1, x2, x3⟩ := five_cells hq1
  obtain ⟨y0, y1, y2, ff⟩ := three_of hq2
  obtain ⟨z0, z1, z2, _⟩ := three_of hq3
  obtain ⟨u0, u1, u2, _⟩ := three_of hq4
  have f0 := ff 0
  have f1 := ff 1
  have f2 := ff 2
  have HQ2 := Lib.hid hq2
  have HZ2 := Lib.hid hq3
  have HZ1 := Lib.hid hq1
  rw [hto] at hc7
  have HC7 := Lib.hid hc7
  clear hc7 ht4 ht5 hk4 hk5 hkk hq1 hq2 hq3 hq4 ff HTT HTF
  have hd0 : decide (0 ≤ n) = false := by simp; omega
  have hd2 : ¬ (0 ≤ n) := by omega
  have hne : ¬ (B1 = B2) := by have := HNB.out; omega
  have hne2 : ¬ (B2 = B1) := by have := HNB.out; omega
  go_wp2_with fail
  go_region
  go_wp2_with fail
  have h9 := heap_set (i := 2) (.int .i64 f) (heap_set (i := 1) (.int .i64 n) (heap_set (i := 0) (.slice a2 (toldL g false).length c2) (show (w4.alloc (.cells #[.slice a7 g.recs.length c7, .int .i64 g.m.a, .int .i64 g.m.b] 39)).heap[B2]? = some (.cells [.slice none 0 0, .int .i64 0, .int .i64 0].toArray 39 (0, 0)) from HQ2.out)))
  have hk9 : Kept (fun k => k = B2) (w4.alloc (.cells #[.slice a7 g.recs.length c7, .int .i64 g.m.a, .int .i64 g.m.b] 39)) ((((w4.alloc (.cells #[.slice a7 g.recs.length c7, .int .i64 g.m.a, .int .i64 g.m.b] 39)).setCell ⟨B2, 0, none⟩ (.slice a2 (toldL g false).length c2)).setCell ⟨B2, 1, none⟩ (.int .i64 n)).setCell ⟨B2, 2, none⟩ (.int .i64 f)) := ((kept_set (w4.alloc (.cells #[.slice a7 g.recs.length c7, .int .i64 g.m.a, .int .i64 g.m.b] 39)) B2 0 _).trans (kept_set _ B2 1 _)).trans (kept_set _ B2 2 _)
  have H9 := Lib.hid (show (((((w4.alloc (.cells #[.slice a7 g.recs.length c7, .int .i64 g.m.a, .int .i64 g.m.b] 39)).setCell ⟨B2, 0, none⟩ (.slice a2 (toldL g false).length c2)).setCell ⟨B2, 1, none⟩ (.int .i64 n)).setCell ⟨B2, 2, none⟩ (.int .i64 f))).drew.heap[B2]? = _ from h9)
  have HK9 := Lib.hid hk9.drew
  clear h9 hk9
  generalize ((((w4.alloc (.cells #[.slice a7 g.recs.length c7, .int .i64 g.m.a, .int .i64 g.m.b] 39)).setCell ⟨B2, 0, none⟩ (.slice a2 (toldL g false).length c2)).setCell ⟨B2, 1, none⟩ (.int .i64 n)).setCell ⟨B2, 2, none⟩ (.int .i64 f)).drew = w9 at H9 HK9 ⊢
  have hload := run_loadVar_row (P := Tryz.prog) _ B2 39  39 _ (0, 0) _ H9.out Tryz.underlying39 rfl state_info
  have hfin : Kept (fun _ => False) w w9 := by
    have h0 : Kept (fun k => k = B2) w w9 := (HKK.out.mono (fun _ _ f => f.elim)).trans HK9.out
    exact ⟨h0.os, h0.tape, h0.output, h0.size, fun k hk _ => h0.block k hk (by have := HBE.out; have := HNB.out; show ¬ (k = B2); omega)⟩
  refine ret_box_tmp 4 39 5 B2 _ (.bool false) Tryz.results11 ?_ ?_ hload ?_ ?_
  exact rfl
  exact rfl
  exact rfl
  show BehPost _ (behG 5 n f l g) _ _
  rw [HBH.out]
  exact ⟨a2, c2, rfl, (HT2.out.kept HK9.out (fun k hk e => hk.2 e)).mono (fun k hk => hk.1), hfin⟩
set_option maxRecDepth 100000 in
set_option maxHeartbeats 4000000 in
theorem behind_5_c (hw : Wl Z w lb db g d) (hg : Good d g) (n f : Int) (hn1 : -9223372036854775808 ≤ n) (hn2 : n ≤ 9223372036854775807) (hf1 : -9223372036854775808 ≤ f) (hf2 : f ≤ 9223372036854775807) {ok : Nat → Prop} {a4 : Option Addr} {c4 : Nat} {l : List Int} (hL : NumAt w ok (.slice a4 l.length c4) l) (hok : ∀ k, ok k → k < w.heap.size) (hll : l.length * 8 ≤ 140737488351232) (a5 : Option Addr) (n5 c5 : Nat) (h50 : 0 ≤ n) (h51 : f < 0) :
    Calls Tryz.prog 11 #[.pointer (some ⟨lb, 0, none⟩), .agg #[.int .i64 5, .int .i64 n, .int .i64 f, .slice a4 l.length c4, .slice a5 n5 c5]] w (BehPost w (behG 5 n f l g)) := by
  have HBH : Hid (behG 5 n f l g = (g.recs.take g.m.nu, n, f, false)) := Lib.hid (by have e : behG 5 n f l g = (g.recs.take g.m.nu, n, f, decide (0 ≤ n) && decide (0 ≤ f)) := rfl; rw [e]; simp [h50, h51]; try omega)
  obtain ⟨B1, hB1⟩ : ∃ B1, w.heap.size = B1 := ⟨_, rfl⟩
  have hb1 : (w.alloc (.cells #[.int .i64 5, .int .i64 n, .int .i64 f, .slice a4 l.length c4, .slice a5 n5 c5] 34)).heap[B1]? = some (.cells #[.int .i64 5, .int .i64 n, .int .i64 f, .slice a4 l.length c4, .slice a5 n5 c5] 34 (0, 0)) := by rw [← hB1]; exact heap_alloc_new w _
  obtain ⟨B2, hB2⟩ : ∃ B2, (w.alloc (.cells #[.int .i64 5, .int .i64 n, .int .i64 f, .slice a4 l.length c4, .slice a5 n5 c5] 34)).heap.size = B2 := ⟨_, rfl⟩
  have hb2 : ((w.alloc (.cells #[.int .i64 5, .int .i64 n, .int .i64 f, .slice a4 l.length c4, .slice a5 n5 c5] 34)).alloc (.cells #[.slice none 0 0, .int .i64 0, .int .i64 0] 39)).heap[B2]? = some (.cells #[.slice none 0 0, .int .i64 0, .int .i64 0] 39 (0, 0)) := by rw [← hB2]; exact heap_alloc_new _ _
  have hka : Kept (fun _ => False) w (w.alloc (.cells #[.int .i64 5, .int .i64 n, .int .i64 f, .slice a4 l.length c4, .slice a5 n5 c5] 34)) := (Kept.refl _ w).alloc _
  have hkb : Kept (fun _ => False) (w.alloc (.cells #[.int .i64 5, .int .i64 n, .int .i64 f, .slice a4 l.length c4, .slice a5 n5 c5] 34)) ((w.alloc (.cells #[.int .i64 5, .int .i64 n, .int .i64 f, .slice a4 l.length c4, .slice a5 n5 c5] 34)).alloc (.cells #[.slice none 0 0, .int .i64 0, .int .i64 0] 39)) := (Kept.refl _ _).alloc _
  have hb1' := (hkb.block B1 (lt_of_block hb1) id).trans hb1
  have hkw := hka.trans hkb
  have hnb : B2 = B1 + 1 := by rw [← hB2, ← hB1]; simp
  obtain ⟨W1, hW1⟩ : ∃ W1, (w.alloc (.cells #[.int .i64 5, .int .i64 n, .int .i64 f, .slice a4 l.length c4, .slice a5 n5 c5] 34)).alloc (.cells #[.slice none 0 0, .int .i64 0, .int .i64 0] 39) = W1 := ⟨_, rfl⟩
  rw [hW1] at hb1' hb2 hkw
  have hw1 := hw.kept0 hkw
  have HW1 := Lib.hid hw1
  have HL1 := Lib.hid (hL.kept hkw (fun _ _ x => x))
  have HOK : Hid (∀ k, ok k → k < W1.heap.size) := Lib.hid (fun k hk => Nat.lt_of_lt_of_le (hok k hk) hkw.size)
  have HB1 := Lib.hid hb1'
  have HB2 := Lib.hid hb2
  have HKW := Lib.hid hkw
  have HBE : Hid (w.heap.size = B1) := Lib.hid hB1
  have HNB : Hid (B2 = B1 + 1) := Lib.hid hnb
  have HWE := Lib.hid hW1
  have HTF := Lib.hid (told_false hw1 hg)
  have HG := Lib.hid hg
  have hnu := hg.nu
  clear hw hg hL hok hb1 hb1' hb2 hB1 hB2 hka hkb hkw hnb hW1 hw1
  go_enter Tryz.func11, Tryz.ntmps11
  go_wp2_with fail
  rw [HWE.out]
  refine HTF.out.mono ?_
  rintro e w2 ⟨a2, c2, rfl, ht2, hk2, hc2⟩
  have ht3 := ht2.kept ((Kept.refl (fun _ => False) w2).alloc (.cells #[.slice a2 (toldL g false).length c2, .int .i64 g.m.a, .int .i64 g.m.b] 39)) (fun _ _ x => x)
  have hk3 : Kept (fun _ => False) W1 (w2.alloc (.cells #[.slice a2 (toldL g false).length c2, .int .i64 g.m.a, .int .i64 g.m.b] 39)) := hk2.alloc _
  have HB3 : Hid ((w2.alloc (.cells #[.slice a2 (toldL g false).length c2, .int .i64 g.m.a, .int .i64 g.m.b] 39)).heap[w2.heap.size]? = some (.cells #[.slice a2 (toldL g false).length c2, .int .i64 g.m.a, .int .i64 g.m.b] 39 (0, 0))) := Lib.hid (heap_alloc_new w2 _)
  have HT3 := Lib.hid ht3
  have HK3 := Lib.hid hk3
  have HTT := Lib.hid (told_true (HW1.out.kept0 hk3) HG.out)
  clear ht2 hk2 ht3 hk3 hc2
  have hto : toldL g true = g.recs := rfl
  go_wp2_with fail
  refine HTT.out.mono ?_
  rintro e w4 ⟨a7, c7, rfl, ht4, hk4, hc7⟩
  rw [hto] at ht4 ⊢
  rw [HBE.out, ← HNB.out]
  have ht5 := ht4.kept ((Kept.refl (fun _ => False) w4).alloc (.cells #[.slice a7 g.recs.length c7, .int .i64 g.m.a, .int .i64 g.m.b] 39)) (fun _ _ x => x)
  have hk5 : Kept (fun _ => False) (w2.alloc (.cells #[.slice a2 (toldL g false).length c2, .int .i64 g.m.a, .int .i64 g.m.b] 39)) (w4.alloc (.cells #[.slice a7 g.recs.length c7, .int .i64 g.m.a, .int .i64 g.m.b] 39)) := hk4.alloc _
  have hkk := HK3.out.trans hk5
  have hq1 := (hkk.block B1 (lt_of_block HB1.out) id).trans HB1.out
  have hq2 := (hkk.block B2 (lt_of_block HB2.out) id).trans HB2.out
  have hq3 := (hk5.block _ (lt_of_block HB3.out) id).trans HB3.out
  have hq4 : (w4.alloc (.cells #[.slice a7 g.recs.length c7, .int .i64 g.m.a, .int .i64 g.m.b] 39)).heap[w4.heap.size]? = some (.cells #[.slice a7 g.recs.length c7, .int .i64 g.m.a, .int .i64 g.m.b] 39 (0, 0)) := heap_alloc_new w4 _
  have HT5 := Lib.hid (ht5.mono (ok' := fun k => w.heap.size ≤ k ∧ k ≠ B2) (fun k hk => by
    have h1 := HBE.out
    have h2 := HNB.out
    have h3 : (w2.alloc (.cells #[.slice a2 (toldL g false).length c2, .int .i64 g.m.a, .int .i64 g.m.b] 39)).heap.size ≤ k := hk
    have h4 := HK3.out.size
    have h5 := lt_of_block HB2.out
    omega))
  have HT2 := Lib.hid ((HT3.out.kept hk5 (fun _ _ x => x)).mono (ok' := fun k => w.heap.size ≤ k ∧ k ≠ B2) (fun k hk => by
    have h1 := HBE.out
    have h2 := HNB.out
    have h3 : W1.heap.size ≤ k := hk
    have h5 := lt_of_block HB2.out
    omega))
  have HKK := Lib.hid (HKW.out.trans hkk)
  have HL5 := Lib.hid (HL1.out.kept hkk (fun _ _ x => x))
  have HOK5 : Hid (∀ k, ok k → k < (w4.alloc (.cells #[.slice a7 g.recs.length c7, .int .i64 g.m.a, .int .i64 g.m.b] 39)).heap.size) := Lib.hid (fun k hk => Nat.lt_of_lt_of_le (HOK.out k hk) hkk.size)
  obtain ⟨x0, x1, x2, x3⟩ := five_cells hq1
  obtain ⟨y0, y1, y2, ff⟩ := three_of hq2
  obtain ⟨z0, z1, z2, _⟩ := three_of hq3
  obtain ⟨u0, u1, u2, _⟩ := three_of hq4
  have f0 := ff 0
  have f1 := ff 1
  have f2 := ff 2
  have HQ2 := Lib.hid hq2
  have HZ2 := Lib.hid hq3
  have HZ1 := Lib.hid hq1
  rw [hto] at hc7
  have HC7 := Lib.hid hc7
  clear hc7 ht4 ht5 hk4 hk5 hkk hq1 hq2 hq3 hq4 ff HTT HTF
  have hd0 : decide (0 ≤ n) = true := by simp; omega
  have hd1 : decide (0 ≤ f) = false := by simp; omega
  have hd2 : ¬ (0 ≤ f) := by omega
  have hne : ¬ (B1 = B2) := by have := HNB.out; omega
  have hne2 : ¬ (B2 = B1) := by have := HNB.out; omega
  go_wp2_with fail
  go_region
  go_wp2_with fail
  have h9 := heap_set (i := 2) (.int .i64 f) (heap_set (i := 1) (.int .i64 n) (heap_set (i := 0) (.slice a2 (toldL g false).length c2) (show (w4.alloc (.cells #[.slice a7 g.recs.length c7, .int .i64 g.m.a, .int .i64 g.m.b] 39)).heap[B2]? = some (.cells [.slice none 0 0, .int .i64 0, .int .i64 0].toArray 39 (0, 0)) from HQ2.out)))
  have hk9 : Kept (fun k => k = B2) (w4.alloc (.cells #[.slice a7 g.recs.length c7, .int .i64 g.m.a, .int .i64 g.m.b] 39)) ((((w4.alloc (.cells #[.slice a7 g.recs.length c7, .int .i64 g.m.a, .int .i64 g.m.b] 39)).setCell ⟨B2, 0, none⟩ (.slice a2 (toldL g false).length c2)).setCell ⟨B2, 1, none⟩ (.int .i64 n)).setCell ⟨B2, 2, none⟩ (.int .i64 f)) := ((kept_set (w4.alloc (.cells #[.slice a7 g.recs.length c7, .int .i64 g.m.a, .int .i64 g.m.b] 39)) B2 0 _).trans (kept_set _ B2 1 _)).trans (kept_set _ B2 2 _)
  have H9 := Lib.hid (show (((((w4.alloc (.cells #[.slice a7 g.recs.length c7, .int .i64 g.m.a, .int .i64 g.m.b] 39)).setCell ⟨B2, 0, none⟩ (.slice a2 (toldL g false).length c2)).setCell ⟨B2, 1, none⟩ (.int .i64 n)).setCell ⟨B2, 2, none⟩ (.int .i64 f))).drew.heap[B2]? = _ from h9)
  have HK9 := Lib.hid hk9.drew
  clear h9 hk9
  generalize ((((w4.alloc (.cells #[.slice a7 g.recs.length c7, .int .i64 g.m.a, .int .i64 g.m.b] 39)).setCell ⟨B2, 0, none⟩ (.slice a2 (toldL g false).length c2)).setCell ⟨B2, 1, none⟩ (.int .i64 n)).setCell ⟨B2, 2, none⟩ (.int .i64 f)).drew = w9 at H9 HK9 ⊢
  have hload := run_loadVar_row (P := Tryz.prog) _ B2 39  39 _ (0, 0) _ H9.out Tryz.underlying39 rfl state_info
  have hfin : Kept (fun _ => False) w w9 := by
    have h0 : Kept (fun k => k = B2) w w9 := (HKK.out.mono (fun _ _ f => f.elim)).trans HK9.out
    exact ⟨h0.os, h0.tape, h0.output, h0.size, fun k hk _ => h0.block k hk (by have := HBE.out; have := HNB.out; show ¬ (k = B2); omega)⟩
  refine ret_box_tmp 4 39 5 B2 _ (.bool false) Tryz.results11 ?_ ?_ hload ?_ ?_
  exact rfl
  exact rfl
  exact rfl
  show BehPost _ (behG 5 n f l g) _ _
  rw [HBH.out]
  exact ⟨a2, c2, rfl, (HT2.out.kept HK9.out (fun k hk e => hk.2 e)).mono (fun k hk => hk.1), hfin⟩
end
end Go.Proofs.YtcjfpddmpiggoaaGreat

namespace Go.Proofs.YtcjfpddmpiggoaaGreat
open Go.ChangeShapes Go.WideShapes Go.ChangeAt Go.RowKit
set_option linter.unusedVariables false
set_option linter.unusedSimpArgs false
abbrev Beh := List ByteArray × Int × Int × Bool
structure Last (d : DSt) (g : LSt) (k : Int) (v : Int) (L : LSt) (d' : DSt) (b : Beh) : Prop where
  ok : v ≠ 2 → Good d' L ∧ L.m.c ≤ g.m.c + 1
  acts : d'.acts ≤ d.acts + 1100000
  same : v = 0 → b.2.2.2 = true → k ≠ 5 → sameB L b.1 b.2.1 b.2.2.1 = true
  die : v = 2 → ∀ how, ∃ m recs, Half (crashD d' how) m recs ∧ m.c ≤ g.m.c + 1 ∧ ((recs = g.recs.take g.m.nu ∧ m.a = g.m.a ∧ m.b = g.m.b) ∨ (b.2.2.2 = true ∧ recs = b.1 ∧ (m.a : Int) = b.2.1 ∧ (m.b : Int) = b.2.2.1))
theorem last_ref {d : DSt} {g : LSt} {k v : Int} {b : Beh} (hg : Good d g) (hv : v ≠ 2) (hs : v = 0 → b.2.2.2 = true → k ≠ 5 → sameB g b.1 b.2.1 b.2.2.1 = true) : Last d g k v g d b :=
  ⟨fun _ => ⟨hg, by omega⟩, by omega, hs, fun h => absurd h hv⟩
theorem last_out {d : DSt} {g : LSt} {k : Int} {r : DSt × Int} {L G : LSt} {b : Beh} (h : Out d g r L G) (hc : G.m.c ≤ g.m.c + 1)
    (hs : b.2.2.2 = true → k ≠ 5 → sameB G b.1 b.2.1 b.2.2.1 = true)
    (hn : G.m.c = g.m.c + 1 → b.2.2.2 = true ∧ G.recs.take G.m.nu = b.1 ∧ (G.m.a : Int) = b.2.1 ∧ (G.m.b : Int) = b.2.2.1) : Last d g k r.2 L r.1 b := by
  refine ⟨fun h2 => ?_, h.acts, fun h0 => ?_, fun h2 how => ?_⟩
  · obtain ⟨_, rfl, hg⟩ := h.ok h2
    exact ⟨hg, hc⟩
  · obtain ⟨_, rfl, hg⟩ := h.ok (by rw [h0]; decide)
    exact hs
  · rcases (h.die h2).2 with hh | hh
    · exact ⟨_, _, hh.crash how, by omega, .inl ⟨rfl, rfl, rfl⟩⟩
    · obtain ⟨e1, e2, e3, e4⟩ := hn hh.c
      rcases hh.crash how with h3 | h3
      · exact ⟨_, _, h3, by omega, .inl ⟨rfl, rfl, rfl⟩⟩
      · exact ⟨_, _, h3, hc, .inr ⟨e1, e2, e3, e4⟩⟩
theorem same_of {G : LSt} {l : List ByteArray} {a b : Int} (h1 : G.recs = l) (h2 : (G.m.a : Int) = a) (h3 : (G.m.b : Int) = b) (h4 : G.m.nu = G.recs.length) : sameB G l a b = true := by
  unfold sameB; simp [h1, h2, h3, h4]
theorem do_last {d : DSt} {g : LSt} (hf : Fine d g) (k n f : Int) (hk : 1 ≤ k ∧ k ≤ 5) (hn : n ≤ 9223372036854775807) (hff : f ≤ 9223372036854775807) (l : List Int) :
    Last d g k (doG k n f l g d).1 (doG k n f l g d).2.1 (doG k n f l g d).2.2 (behG k n f l g) := by
  have hc : g.m.c + 2 < 4294967296 := by have := hf.c; omega
  have hg := hf.good
  rcases (show k = 1 ∨ k = 2 ∨ k = 3 ∨ k = 4 ∨ k = 5 by omega) with rfl | rfl | rfl | rfl | rfl
  · show Last d g 1 _ _ _ (g.recs.take g.m.nu, ((g.m.a : Nat) : Int), ((g.m.b : Nat) : Int), false)
    unfold doG
    rw [if_pos rfl]
    split
    · exact last_ref hg (by show (33 : Int) ≠ 2; decide) (fun _ h => by cases h)
    · split
      · exact last_ref hg (by show (30 : Int) ≠ 2; decide) (fun _ h => by cases h)
      · exact last_out (append_out hg _ (by omega)) (by show g.m.c ≤ _; omega) (fun h => by cases h) (fun h => absurd (show g.m.c = g.m.c + 1 from h) (by omega))
  · show Last d g 2 _ _ _ (g.recs, ((g.m.a : Nat) : Int), ((g.m.b : Nat) : Int), true)
    unfold doG
    rw [if_neg (by decide), if_pos rfl]
    split
    · rename_i hall
      exact last_ref hg (by show (0 : Int) ≠ 2; decide) (fun _ _ _ => same_of rfl rfl rfl hall)
    · exact last_out (sync_out hg hc) (Nat.le_refl _) (fun _ _ => same_of rfl rfl rfl rfl) (fun _ => ⟨rfl, List.take_length, rfl, rfl⟩)
  · show Last d g 3 _ _ _ (if n < 0 then (g.recs.take g.m.nu, ((g.m.a : Nat) : Int), ((g.m.b : Nat) : Int), false) else if (g.recs.length : Int) < n then (g.recs.take g.m.nu, ((g.m.a : Nat) : Int), ((g.m.b : Nat) : Int), false) else (g.recs.take n.toNat, ((g.m.a : Nat) : Int), ((g.m.b : Nat) : Int), true))
    unfold doG
    rw [if_neg (by decide), if_neg (by decide), if_pos rfl]
    by_cases h1 : n < 0
    · rw [if_pos h1, if_pos h1]
      exact last_ref hg (by show (32 : Int) ≠ 2; decide) (fun _ h => by cases h)
    · rw [if_neg h1, if_neg h1]
      by_cases h2 : (g.recs.length : Int) < n
      · rw [if_pos h2, if_pos h2]
        exact last_ref hg (by show (32 : Int) ≠ 2; decide) (fun _ h => by cases h)
      · rw [if_neg h2, if_neg h2]
        exact last_out (cut_out hg _ hc) (Nat.le_refl _) (fun _ _ => same_of rfl rfl rfl rfl) (fun _ => ⟨rfl, List.take_length, rfl, rfl⟩)
  · show Last d g 4 _ _ _ (manyL l, ((g.m.a : Nat) : Int), ((g.m.b : Nat) : Int), true)
    unfold doG
    rw [if_neg (by decide), if_neg (by decide), if_neg (by decide), if_pos rfl]
    split
    · exact last_ref hg (by show (33 : Int) ≠ 2; decide) (fun h => by cases h)
    · rename_i hb
      split
      · exact last_ref hg (by show (30 : Int) ≠ 2; decide) (fun h => by cases h)
      · exact last_out (renew_out hg _ ((allB_iff _).1 (by simpa using hb)) (by omega) hc) (Nat.le_refl _) (fun _ _ => same_of rfl rfl rfl rfl) (fun _ => ⟨rfl, List.take_length, rfl, rfl⟩)
  · show Last d g 5 _ _ _ (g.recs.take g.m.nu, n, f, decide (0 ≤ n) && decide (0 ≤ f))
    unfold doG
    rw [if_neg (by decide), if_neg (by decide), if_neg (by decide), if_neg (by decide), if_pos rfl]
    split
    · exact last_ref hg (by show (1 : Int) ≠ 2; decide) (fun h => by cases h)
    · split
      · exact last_ref hg (by show (1 : Int) ≠ 2; decide) (fun h => by cases h)
      · rename_i h1 h2
        exact last_out (mark_out hg _ _ (by omega) (by omega) hc) (Nat.le_refl _) (fun _ h => absurd rfl h) (fun _ => ⟨by simp; omega, rfl, by show ((n.toNat : Nat) : Int) = n; omega, by show ((f.toNat : Nat) : Int) = f; omega⟩)
section
variable {Z : Nat → Prop} {w w' : World} {lb db : Nat} {g : LSt} {d : DSt}
theorem lbehind_any (hw : Wl Z w lb db g d) (hg : Good d g) (K n f : Int) (hK : 1 ≤ K ∧ K ≤ 5) (hn1 : -9223372036854775808 ≤ n) (hn2 : n ≤ 9223372036854775807) (hf1 : -9223372036854775808 ≤ f) (hf2 : f ≤ 9223372036854775807) {ok : Nat → Prop} {a4 : Option Addr} {c4 : Nat} {l : List Int} (hL : NumAt w ok (.slice a4 l.length c4) l) (hok : ∀ k, ok k → k < w.heap.size) (hll : l.length * 8 ≤ 140737488351232) (a5 : Option Addr) (n5 c5 : Nat) :
    Calls Tryz.prog 11 #[.pointer (some ⟨lb, 0, none⟩), .agg #[.int .i64 K, .int .i64 n, .int .i64 f, .slice a4 l.length c4, .slice a5 n5 c5]] w (BehPost w (behG K n f l g)) := by
  rcases (show K = 1 ∨ K = 2 ∨ K = 3 ∨ K = 4 ∨ K = 5 by omega) with rfl | rfl | rfl | rfl | rfl
  · exact behind_1 hw hg n f hn1 hn2 hf1 hf2 hL hok hll a5 n5 c5
  · exact behind_2 hw hg n f hn1 hn2 hf1 hf2 hL hok hll a5 n5 c5
  · by_cases h1 : n < 0
    · exact behind_3_a hw hg n f hn1 hn2 hf1 hf2 hL hok hll a5 n5 c5 h1
    · by_cases h2 : (g.recs.length : Int) < n
      · exact behind_3_b hw hg n f hn1 hn2 hf1 hf2 hL hok hll a5 n5 c5 h1 h2
      · exact behind_3_c hw hg n f hn1 hn2 hf1 hf2 hL hok hll a5 n5 c5 h1 h2
  · exact behind_4 hw hg n f hn1 hn2 hf1 hf2 hL hok hll a5 n5 c5
  · by_cases h1 : n < 0
    · exact behind_5_b hw hg n f hn1 hn2 hf1 hf2 hL hok hll a5 n5 c5 h1 trivial
    · by_cases h2 : f < 0
      · exact behind_5_c hw hg n f hn1 hn2 hf1 hf2 hL hok hll a5 n5 c5 (by omega) h2
      · exact behind_5_a hw hg n f hn1 hn2 hf1 hf2 hL hok hll a5 n5 c5 (by omega) (by omega)
end
end Go.Proofs.YtcjfpddmpiggoaaGreat

namespace Go.Proofs.YtcjfpddmpiggoaaGreat
open Go.ChangeShapes Go.WideShapes Go.ChangeAt Go.RowKit
set_option linter.unusedVariables false
set_option linter.unusedSimpArgs false
theorem five_all {w : World} {g : Nat} {a0 a1 a2 a3 a4 : Value} {T : TypeId} (h : w.heap[g]? = some (.cells #[a0, a1, a2, a3, a4] T (0, 0))) :
    w.cell? ⟨g, 0, none⟩ = some a0 ∧ w.cell? ⟨g, 1, none⟩ = some a1 ∧ w.cell? ⟨g, 2, none⟩ = some a2 ∧ w.cell? ⟨g, 3, none⟩ = some a3 ∧ w.cell? ⟨g, 4, none⟩ = some a4 := by
  refine ⟨?_, ?_, ?_, ?_, ?_⟩ <;> rw [cell_of_row w g _ _ _ (0, 0) h] <;> rfl
section
variable {Z : Nat → Prop} {w w' : World} {lb db : Nat} {g : LSt} {d : DSt}
theorem Good.armed (h : Good d g) (k : Nat) : Good { d with left := k } g := by
  refine ⟨h.half.same rfl rfl rfl, h.nu, h.used, h.usp, h.area, h.small, h.dead, h.doubt⟩
theorem warm (hw : Wl Z w lb db g d) (hg : Good d g) (k : Nat) (hk : k ≤ 100) : Calls Tryz.prog 9 #[.pointer (some ⟨db, 0, none⟩), .int .i64 k] w fun e w' => e = .returned (.int .i64 0) ∧ Wl Z w' lb db g { d with left := k } ∧ Kept Z w w' := by
  obtain ⟨sb, mb, nn, rv, hP⟩ := hw.open_
  have ha : armD d k = ({ d with left := k }, 0) := by
    unfold armD
    rw [hg.dead]
    simp only [Bool.false_eq_true, if_false]
    rw [if_neg (by omega)]
    simp
  refine (arm_any hP.d (k : Int) (by omega)).mono ?_
  rw [ha]
  rintro e w' ⟨rfl, hD, hk⟩
  refine ⟨rfl, ⟨sb, mb, nn, rv, hD, hP.l.kept hk (fun e => hP.ap (.inl e)) (fun k hk e => hP.ow k (.inl e) hk), ⟨hP.b1, hP.b2, hP.b3⟩, hP.ap, fun k hk' => hP.nw k (Nat.le_trans hk.size hk')⟩, hk.mono (fun k _ e => hP.b2 k (.inl e))⟩
/-- a disk of a log that is gone -/
structure Wd (Z : Nat → Prop) (w : World) (db : Nat) (d : DSt) : Prop where
  disk : ∃ sb mb nn, DAt w db sb mb nn d ∧ ∀ k, DB db sb mb k → Z k
  nw : ∀ k, w.heap.size ≤ k → Z k
theorem Wq.gone {v : Int} (h : Wq Z w lb db g d v) : Wd Z w db d := ⟨h.disk, h.nw⟩
theorem Wl.gone (h : Wl Z w lb db g d) : Wd Z w db d := (h.whole 0).gone
theorem wcrash (h : Wd Z w db d) {ok : Nat → Prop} {hv : Value} {how : List Int} (hh : NumAt w ok hv how) (hok : ∀ k, ok k → ¬ Z k) : Calls Tryz.prog 14 #[.pointer (some ⟨db, 0, none⟩), hv] w fun e w' => e = .returned (.tuple #[]) ∧ Wd Z w' db (crashD d how) ∧ Kept Z w w' := by
  obtain ⟨sb, mb, nn, hD, hz⟩ := h.disk
  obtain ⟨a, cap, hv', hc⟩ := hh.ex
  have hH : HowAt w (fun k => ¬ DB db sb mb k) hv how := ⟨⟨a, cap, hv', fun i hi => by
    obtain ⟨g, off, h1, h2, h3⟩ := hc i hi
    exact ⟨g, off, h1, fun hb => hok g h2 (hz g hb), h3⟩⟩, hh.wf⟩
  refine (crash_any hD hH).mono ?_
  rintro e w' ⟨rfl, ⟨mb', hD', hm⟩, hk⟩
  refine ⟨rfl, ⟨⟨sb, mb', 0, hD', ?_⟩, fun k hk' => h.nw k (Nat.le_trans hk.size hk')⟩, hk.mono (fun k _ e => hz k (e.elim .inl (fun e => .inr (.inl e))))⟩
  rintro k (e | e | e)
  · exact hz k (.inl e)
  · exact hz k (.inr (.inl e))
  · exact h.nw k (by omega)
def Again (Z : Nat → Prop) (w : World) (db : Nat) (m : MSt) (recs : List ByteArray) (d : DSt) (e : Ending) (w' : World) : Prop :=
  ∃ lb', e = .returned (.tuple #[.pointer (some ⟨lb', 0, none⟩), .int .i64 0]) ∧ Wl Z w' lb' db ⟨m, recs, m.le, false⟩ d ∧ Kept Z w w'
theorem wreopen (h : Wd Z w db d) {m : MSt} {recs : List ByteArray} (hH : Half d m recs) (hd : d.dead = false) : Calls Tryz.prog 15 #[.pointer (some ⟨db, 0, none⟩)] w (Again Z w db m recs d) := by
  obtain ⟨sb, mb, nn, hD, hz⟩ := h.disk
  refine (open_any hD hz h.nw hd).mono ?_
  rintro e w' ⟨p, v, rfl, h1, _, hk⟩
  obtain ⟨rfl, lb', rfl, hlb, hwl⟩ := h1 _ _ hH.stands
  refine ⟨lb', rfl, ?_, hk⟩
  have e : openL m (recs.map fun r => r.data.toList) = ⟨m, recs, m.le, false⟩ := by unfold openL; rw [bytesOf_id]
  rw [← e]; exact hwl
/-- behind k calls of a log, whatever its disk did -/
structure Live (d : DSt) (g : LSt) (k : Nat) : Prop where
  good : Good d g
  c : g.m.c ≤ k + 1
  acts : d.acts ≤ 10 + k * 1100000
theorem Live.fine {k : Nat} (h : Live d g k) (hk : k ≤ 1000) : Fine d g := ⟨h.good, by have := h.c; omega, by have := h.acts; omega⟩
theorem Live.up {k : Nat} (h : Live d g k) {d' : DSt} {g' : LSt} (hg : Good d' g') (hc : g'.m.c ≤ g.m.c + 1) (ha : d'.acts ≤ d.acts + 1100000) : Live d' g' (k + 1) :=
  ⟨hg, by have := h.c; omega, by have := h.acts; omega⟩
theorem same_half {m : MSt} {recs l : List ByteArray} {a b : Int} {d : DSt} (hH : Half d m recs) (h1 : recs = l) (h2 : (m.a : Int) = a) (h3 : (m.b : Int) = b) : sameB ⟨m, recs, m.le, false⟩ l a b = true := by
  unfold sameB; simp [h1, h2, h3]; rw [← h1]; exact hH.A.nu
theorem numnil (w : World) (ok : Nat → Prop) : NumAt w ok (.slice none 0 0) [] := ⟨⟨none, 0, rfl, fun i hi => by simp at hi⟩, fun x hx => by cases hx⟩
end
end Go.Proofs.YtcjfpddmpiggoaaGreat
