/- does: a call of a log, whatever it is. -/
import Derived.Test.YtcjfpddmpiggoaaGreatJta
namespace Go.Proofs.YtcjfpddmpiggoaaGreat
open Go.ChangeShapes Go.WideShapes Go.ChangeAt Go.RowKit
set_option linter.unusedVariables false
set_option linter.unusedSimpArgs false
def allB (l : List ByteArray) : Bool := l.all fun s => decide (s.size ≤ 4000)
theorem allB_iff (l : List ByteArray) : allB l = true ↔ Alls l := by simp [allB, Alls]
/-- what a call answers, and the log and the disk behind it -/
def doG (k n f : Int) (l : List Int) (g : LSt) (d : DSt) : Int × LSt × DSt :=
  if k = 1 then (if 4000 < (wbytes n f).size then (33, g, d) else if roomZ g.used d < ((wbytes n f).size : Int) then (30, g, d) else ((wriD (g.add (wbytes n f)) d g.used (recL (wbytes n f))).2, g.add (wbytes n f), (wriD (g.add (wbytes n f)) d g.used (recL (wbytes n f))).1))
  else if k = 2 then (if g.m.nu = g.recs.length then (0, g, d) else ((setD g d).2, setL g d, (setD g d).1))
  else if k = 3 then (if n < 0 then (32, g, d) else if (g.recs.length : Int) < n then (32, g, d) else ((setD (g.held (g.recs.take n.toNat)) d).2, setL (g.held (g.recs.take n.toNat)) d, (setD (g.held (g.recs.take n.toNat)) d).1))
  else if k = 4 then (if allB (manyL l) = false then (33, g, d) else if spaceN d < sizeN (manyL l) then (30, g, d) else ((renD g d (manyL l)).2, renL g d (manyL l), (renD g d (manyL l)).1))
  else if k = 5 then (if n < 0 then (1, g, d) else if f < 0 then (1, g, d) else ((advD (g.put n.toNat f.toNat) d).2, (g.put n.toNat f.toNat).bump, (advD (g.put n.toNat f.toNat) d).1))
  else (0, g, d)
section
variable {Z : Nat → Prop} {w w' : World} {lb db : Nat} {g : LSt} {d : DSt}
def DoPost (Z : Nat → Prop) (w : World) (lb db : Nat) (r : Int × LSt × DSt) (e : Ending) (w' : World) : Prop :=
  e = .returned (.int .i64 r.1) ∧ Wq Z w' lb db r.2.1 r.2.2 r.1 ∧ Kept Z w w'
/-- what the calls ask of a log -/
structure Fine (d : DSt) (g : LSt) : Prop where
  good : Good d g
  c : g.m.c < 4000000000
  acts : d.acts ≤ 4600000000000000000
theorem Fine.sp {d : DSt} {g : LSt} (h : Fine d g) : g.used ≤ 1048512 ∧ g.recs.length ≤ 1048512 ∧ sizeN g.recs ≤ 1048512 ∧ g.m.nu ≤ 1048512 := by
  have h1 := h.good.usp
  have h2 := h.good.half.base.space
  have h3 := h.good.used
  have h4 := sizeN_len g.recs
  have h5 := h.good.nu
  omega
theorem fits_all {d : DSt} {g g1 : LSt} (h : Fine d g) (hc : g1.m.c = g.m.c) (har : g1.m.ar ≤ 1) (hu : g1.used ≤ 2000000) (hl : g1.recs.length ≤ 2000000) (ha : g1.m.a = g.m.a) (hb : g1.m.b = g.m.b) : g1.all.bump.m.Fits := by
  have h1 := h.c
  have h2 := h.good.half.A.a
  have h3 := h.good.half.A.b
  exact ⟨by show g1.m.c + 1 ≤ _; omega, by show g1.m.ar ≤ _; omega, by show g1.used ≤ _; omega, by show g1.recs.length ≤ _; omega, by show g1.m.a ≤ _; omega, by show g1.m.b ≤ _; omega⟩
theorem Wq.of {v : Int} (h : Wl Z w lb db g d) : Wq Z w lb db g d v := h.whole v
theorem wl_own {rv : Value} {sb mb nn : Nat} (h : Wl Z w lb db g d) : ∀ k, w.heap.size ≤ k → Z k := by
  obtain ⟨_, _, _, _, _, _, _, _, h5⟩ := h.ex; exact h5
set_option maxRecDepth 100000 in
set_option maxHeartbeats 2000000 in
theorem does_1 (hw : Wl Z w lb db g d) (hf : Fine d g) (n f : Int) (hn1 : -9223372036854775808 ≤ n) (hn2 : n ≤ 9223372036854775807) (hf1 : -9223372036854775808 ≤ f) (hf2 : f ≤ 9223372036854775807) {ok : Nat → Prop} {a4 : Option Addr} {c4 : Nat} {l : List Int} (hL : NumAt w ok (.slice a4 l.length c4) l) (hok : ∀ k, ok k → k < w.heap.size ∧ ¬ Z k) (hll : l.length * 8 ≤ 140737488351232) (a5 : Option Addr) (n5 c5 : Nat) :
    Calls Tryz.prog 12 #[.pointer (some ⟨lb, 0, none⟩), .agg #[.int .i64 1, .int .i64 n, .int .i64 f, .slice a4 l.length c4, .slice a5 n5 c5]] w (DoPost Z w lb db (doG 1 n f l g d)) := by
  have hk0 : Kept (fun _ => False) w (w.alloc (.cells #[.int .i64 1, .int .i64 n, .int .i64 f, .slice a4 l.length c4, .slice a5 n5 c5] 34)) := (Kept.refl _ w).alloc _
  have hw1 := hw.kept0 hk0
  have HK0 := Lib.hid (hk0.mono (T := Z) (fun _ _ x => x.elim))
  have HKK := Lib.hid hk0
  have hL1 := hL.kept hk0 (fun _ _ x => x)
  have HW1 := Lib.hid hw1
  have HL1 := Lib.hid hL1
  have HOK : Hid (∀ k, ok k → k < (w.alloc (.cells #[.int .i64 1, .int .i64 n, .int .i64 f, .slice a4 l.length c4, .slice a5 n5 c5] 34)).heap.size) := Lib.hid (fun k hk => Nat.lt_of_lt_of_le (hok k hk).1 hk0.size)
  have HOZ := Lib.hid hok
  have HF := Lib.hid hf
  have hsp := hf.sp
  have hdb := hf.good.doubt
  have har := hf.good.half.A.ar
  have hcc := hf.c
  have hac := hf.acts
  have hsz := wbytes_size n f
  have hszb : (wbytes n f).size < 4002 := by rw [hsz]; omega
  have HBY := Lib.hid (fun V => wbytes_any n f V hn1 hn2 hf1 hf2)
  obtain ⟨s, hs⟩ : ∃ s, wbytes n f = s := ⟨_, rfl⟩
  rw [hs] at hszb HBY
  have HS := Lib.hid hs
  clear hsz hs
  by_cases h1 : 4000 < s.size
  · have HD : Hid (doG 1 n f l g d = (33, g, d)) := Lib.hid (by unfold doG; rw [if_pos rfl, HS.out, if_pos h1])
    clear hw hk0 hw1 hL hL1 hok hf
    go_enter Tryz.func12, Tryz.ntmps12
    go_wp2_with fail
    refine (HBY.out _).mono ?_
    rintro e w2 ⟨rfl, hk2⟩
    have HW2 := Lib.hid (HW1.out.kept0 hk2)
    have HK2 := Lib.hid (HK0.out.trans (hk2.mono (fun _ _ x => x.elim)))
    clear hk2
    go_wp2_with fail
    refine (wappend_long HW2.out hdb s h1).mono ?_
    rintro e w5 ⟨rfl, hq5, hk5⟩
    have HQ := Lib.hid hq5
    have HK5 := Lib.hid (HK2.out.trans hk5)
    clear hq5 hk5
    go_wp2_with fail
    go_ret
    rw [HD.out]
    exact ⟨rfl, HQ.out.whole _, HK5.out⟩
  · by_cases h2 : roomZ g.used d < (s.size : Int)
    · have HD : Hid (doG 1 n f l g d = (30, g, d)) := Lib.hid (by unfold doG; rw [if_pos rfl, HS.out, if_neg h1, if_pos h2])
      have H2 := Lib.hid h2
      clear h2
      clear hw hk0 hw1 hL hL1 hok hf
      go_enter Tryz.func12, Tryz.ntmps12
      go_wp2_with fail
      refine (HBY.out _).mono ?_
      rintro e w2 ⟨rfl, hk2⟩
      have HW2 := Lib.hid (HW1.out.kept0 hk2)
      have HK2 := Lib.hid (HK0.out.trans (hk2.mono (fun _ _ x => x.elim)))
      clear hk2
      go_wp2_with fail
      refine (wappend_full HW2.out hdb s (by omega) H2.out (by omega)).mono ?_
      rintro e w5 ⟨rfl, hq5, hk5⟩
      have HQ := Lib.hid hq5
      have HK5 := Lib.hid (HK2.out.trans hk5)
      clear hq5 hk5
      go_wp2_with fail
      go_ret
      rw [HD.out]
      exact ⟨rfl, HQ.out.whole _, HK5.out⟩
    · have HD : Hid (doG 1 n f l g d = ((wriD (g.add s) d g.used (recL s)).2, g.add s, (wriD (g.add s) d g.used (recL s)).1)) := Lib.hid (by unfold doG; rw [if_pos rfl, HS.out, if_neg h1, if_neg h2])
      have H2 : Hid ((s.size : Int) ≤ roomZ g.used d) := Lib.hid (by omega)
      clear h2
      clear hw hk0 hw1 hL hL1 hok hf
      go_enter Tryz.func12, Tryz.ntmps12
      go_wp2_with fail
      refine (HBY.out _).mono ?_
      rintro e w2 ⟨rfl, hk2⟩
      have HW2 := Lib.hid (HW1.out.kept0 hk2)
      have HK2 := Lib.hid (HK0.out.trans (hk2.mono (fun _ _ x => x.elim)))
      clear hk2
      go_wp2_with fail
      refine (wappend_go HW2.out hdb s (by omega) H2.out har (by omega) (by omega) (by omega)).mono ?_
      rintro e w5 ⟨rfl, hq5, hk5⟩
      have HQ := Lib.hid hq5
      have HK5 := Lib.hid (HK2.out.trans hk5)
      clear hq5 hk5
      go_wp2_with fail
      go_ret
      rw [HD.out]
      exact ⟨rfl, HQ.out, HK5.out⟩
set_option maxRecDepth 100000 in
set_option maxHeartbeats 2000000 in
theorem does_2 (hw : Wl Z w lb db g d) (hf : Fine d g) (n f : Int) (hn1 : -9223372036854775808 ≤ n) (hn2 : n ≤ 9223372036854775807) (hf1 : -9223372036854775808 ≤ f) (hf2 : f ≤ 9223372036854775807) {ok : Nat → Prop} {a4 : Option Addr} {c4 : Nat} {l : List Int} (hL : NumAt w ok (.slice a4 l.length c4) l) (hok : ∀ k, ok k → k < w.heap.size ∧ ¬ Z k) (hll : l.length * 8 ≤ 140737488351232) (a5 : Option Addr) (n5 c5 : Nat) :
    Calls Tryz.prog 12 #[.pointer (some ⟨lb, 0, none⟩), .agg #[.int .i64 2, .int .i64 n, .int .i64 f, .slice a4 l.length c4, .slice a5 n5 c5]] w (DoPost Z w lb db (doG 2 n f l g d)) := by
  have hk0 : Kept (fun _ => False) w (w.alloc (.cells #[.int .i64 2, .int .i64 n, .int .i64 f, .slice a4 l.length c4, .slice a5 n5 c5] 34)) := (Kept.refl _ w).alloc _
  have hw1 := hw.kept0 hk0
  have HK0 := Lib.hid (hk0.mono (T := Z) (fun _ _ x => x.elim))
  have HKK := Lib.hid hk0
  have hL1 := hL.kept hk0 (fun _ _ x => x)
  have HW1 := Lib.hid hw1
  have HL1 := Lib.hid hL1
  have HOK : Hid (∀ k, ok k → k < (w.alloc (.cells #[.int .i64 2, .int .i64 n, .int .i64 f, .slice a4 l.length c4, .slice a5 n5 c5] 34)).heap.size) := Lib.hid (fun k hk => Nat.lt_of_lt_of_le (hok k hk).1 hk0.size)
  have HOZ := Lib.hid hok
  have HF := Lib.hid hf
  have hsp := hf.sp
  have hdb := hf.good.doubt
  have har := hf.good.half.A.ar
  have hcc := hf.c
  have hac := hf.acts
  by_cases h1 : g.m.nu = g.recs.length
  · have HD : Hid (doG 2 n f l g d = (0, g, d)) := Lib.hid (by unfold doG; rw [if_neg (by decide), if_pos rfl, if_pos h1])
    have H1 := Lib.hid h1
    clear h1
    clear hw hk0 hw1 hL hL1 hok hf
    go_enter Tryz.func12, Tryz.ntmps12
    go_wp2_with fail
    refine (wsync_all HW1.out hdb H1.out).mono ?_
    rintro e w5 ⟨rfl, hq5, hk5⟩
    have HQ := Lib.hid hq5
    have HK5 := Lib.hid (HK0.out.trans hk5)
    clear hq5 hk5
    go_wp2_with fail
    go_ret
    rw [HD.out]
    exact ⟨rfl, HQ.out.whole _, HK5.out⟩
  · have HD : Hid (doG 2 n f l g d = ((setD g d).2, setL g d, (setD g d).1)) := Lib.hid (by unfold doG; rw [if_neg (by decide), if_pos rfl, if_neg h1])
    have H1 := Lib.hid h1
    have HFI := Lib.hid (fits_all (g1 := g) hf rfl har (by omega) (by omega) rfl rfl)
    clear h1
    clear hw hk0 hw1 hL hL1 hok hf
    go_enter Tryz.func12, Tryz.ntmps12
    go_wp2_with fail
    refine (wsync_go HW1.out hdb H1.out (by omega) HFI.out (by omega)).mono ?_
    rintro e w5 ⟨rfl, hq5, hk5⟩
    have HQ := Lib.hid hq5
    have HK5 := Lib.hid (HK0.out.trans hk5)
    clear hq5 hk5
    go_wp2_with fail
    go_ret
    rw [HD.out]
    exact ⟨rfl, HQ.out, HK5.out⟩
set_option maxRecDepth 100000 in
set_option maxHeartbeats 2000000 in
theorem does_3 (hw : Wl Z w lb db g d) (hf : Fine d g) (n f : Int) (hn1 : -9223372036854775808 ≤ n) (hn2 : n ≤ 9223372036854775807) (hf1 : -9223372036854775808 ≤ f) (hf2 : f ≤ 9223372036854775807) {ok : Nat → Prop} {a4 : Option Addr} {c4 : Nat} {l : List Int} (hL : NumAt w ok (.slice a4 l.length c4) l) (hok : ∀ k, ok k → k < w.heap.size ∧ ¬ Z k) (hll : l.length * 8 ≤ 140737488351232) (a5 : Option Addr) (n5 c5 : Nat) :
    Calls Tryz.prog 12 #[.pointer (some ⟨lb, 0, none⟩), .agg #[.int .i64 3, .int .i64 n, .int .i64 f, .slice a4 l.length c4, .slice a5 n5 c5]] w (DoPost Z w lb db (doG 3 n f l g d)) := by
  have hk0 : Kept (fun _ => False) w (w.alloc (.cells #[.int .i64 3, .int .i64 n, .int .i64 f, .slice a4 l.length c4, .slice a5 n5 c5] 34)) := (Kept.refl _ w).alloc _
  have hw1 := hw.kept0 hk0
  have HK0 := Lib.hid (hk0.mono (T := Z) (fun _ _ x => x.elim))
  have HKK := Lib.hid hk0
  have hL1 := hL.kept hk0 (fun _ _ x => x)
  have HW1 := Lib.hid hw1
  have HL1 := Lib.hid hL1
  have HOK : Hid (∀ k, ok k → k < (w.alloc (.cells #[.int .i64 3, .int .i64 n, .int .i64 f, .slice a4 l.length c4, .slice a5 n5 c5] 34)).heap.size) := Lib.hid (fun k hk => Nat.lt_of_lt_of_le (hok k hk).1 hk0.size)
  have HOZ := Lib.hid hok
  have HF := Lib.hid hf
  have hsp := hf.sp
  have hdb := hf.good.doubt
  have har := hf.good.half.A.ar
  have hcc := hf.c
  have hac := hf.acts
  by_cases h1 : n < 0
  · have HD : Hid (doG 3 n f l g d = (32, g, d)) := Lib.hid (by unfold doG; rw [if_neg (by decide), if_neg (by decide), if_pos rfl, if_pos h1])
    clear hw hk0 hw1 hL hL1 hok hf
    go_enter Tryz.func12, Tryz.ntmps12
    go_wp2_with fail
    refine (wcut_low HW1.out hdb n h1).mono ?_
    rintro e w5 ⟨rfl, hq5, hk5⟩
    have HQ := Lib.hid hq5
    have HK5 := Lib.hid (HK0.out.trans hk5)
    clear hq5 hk5
    go_wp2_with fail
    go_ret
    rw [HD.out]
    exact ⟨rfl, HQ.out.whole _, HK5.out⟩
  · by_cases h2 : (g.recs.length : Int) < n
    · have HD : Hid (doG 3 n f l g d = (32, g, d)) := Lib.hid (by unfold doG; rw [if_neg (by decide), if_neg (by decide), if_pos rfl, if_neg h1, if_pos h2])
      clear hw hk0 hw1 hL hL1 hok hf
      go_enter Tryz.func12, Tryz.ntmps12
      go_wp2_with fail
      refine (wcut_high HW1.out hdb n (by omega) h2).mono ?_
      rintro e w5 ⟨rfl, hq5, hk5⟩
      have HQ := Lib.hid hq5
      have HK5 := Lib.hid (HK0.out.trans hk5)
      clear hq5 hk5
      go_wp2_with fail
      go_ret
      rw [HD.out]
      exact ⟨rfl, HQ.out.whole _, HK5.out⟩
    · obtain ⟨q, rfl⟩ := Int.eq_ofNat_of_zero_le (show 0 ≤ n by omega)
      have hq : q ≤ g.recs.length := by omega
      have hz := sizeN_mono g.recs q
      have hlt : (g.recs.take q).length ≤ g.recs.length := by rw [List.length_take]; omega
      have HD : Hid (doG 3 q f l g d = ((setD (g.held (g.recs.take q)) d).2, setL (g.held (g.recs.take q)) d, (setD (g.held (g.recs.take q)) d).1)) := Lib.hid (by unfold doG; rw [if_neg (by decide), if_neg (by decide), if_pos rfl, if_neg h1, if_neg h2, Int.toNat_natCast])
      have HFI := Lib.hid (fits_all (g1 := g.held (g.recs.take q)) hf rfl har (by show sizeN _ ≤ _; omega) (by show (g.recs.take q).length ≤ _; omega) rfl rfl)
      clear hz hlt
      clear hw hk0 hw1 hL hL1 hok hf
      go_enter Tryz.func12, Tryz.ntmps12
      go_wp2_with fail
      refine (wcut_go HW1.out hdb q hq (by omega) (by omega) (by omega) HFI.out (by omega)).mono ?_
      rintro e w5 ⟨rfl, hq5, hk5⟩
      have HQ := Lib.hid hq5
      have HK5 := Lib.hid (HK0.out.trans hk5)
      clear hq5 hk5
      go_wp2_with fail
      go_ret
      rw [HD.out]
      exact ⟨rfl, HQ.out, HK5.out⟩
/-- a row of texts just made, as texts -/
theorem ts_row {w : World} {B : Nat} {v : Value} {l : List ByteArray} (h : w.ownsRow B 9 1 v l.length (l.map Value.string)) : TsAt w (fun k => v.ownBlock = some k) v l := by
  rcases h.2 with ⟨hv, h0⟩ | ⟨gg, cap, cur, hv, hb, hh, h1, h2, h3, h4⟩
  · exact ⟨⟨none, 0, by rw [hv, h0], fun i hi => by omega⟩⟩
  · refine ⟨⟨some ⟨gg, 0, none⟩, cap, hv, fun i hi => ⟨gg, 0, rfl, by rw [hv]; rfl, ?_⟩⟩⟩
    have e : cur.toList.take (l.length * 1) = l.map Value.string := h4
    simp only [World.cell?, hh, Nat.zero_add]
    have e2 : (cur.toList.take (l.length * 1))[i]? = some (.string l[i]) := by rw [e, List.getElem?_map, List.getElem?_eq_getElem hi]; rfl
    rw [List.getElem?_take, if_pos (by omega)] at e2
    rw [← Array.getElem?_toList]; exact e2
/-- a log beside a row that was just made -/
theorem apart_row {w w2 : World} {v : Value} {l : List ByteArray} (h : Wl Z w lb db g d) (hr : w2.ownsRow w.heap.size 9 1 v l.length (l.map Value.string)) (hk : Kept (fun _ => False) w w2) :
    ∃ Z2 : Nat → Prop, ((∀ k, Z2 k → Z k) ∧ ∀ k, w2.heap.size ≤ k → Z k) ∧ Wl Z2 w2 lb db g d ∧ True ∧ ∀ k, v.ownBlock = some k → k < w2.heap.size ∧ ¬ Z2 k := by
  refine ⟨fun k => Z k ∧ v.ownBlock ≠ some k, ⟨fun k hk => hk.1, ?_⟩, ?_, trivial, fun k hk => ⟨(hr.lt k hk).2, fun hz => hz.2 hk⟩⟩
  · obtain ⟨_, _, _, _, _, _, _, _, h5⟩ := h.ex
    exact fun k hk' => h5 k (Nat.le_trans hk.size hk')
  · obtain ⟨sb, mb, nn, rv, hD, hL, ⟨a1, a2, a3⟩, a4, a5⟩ := h.ex
    have hno : ∀ k, k < w.heap.size → v.ownBlock ≠ some k := fun k hlt e => by have := (hr.lt k e).1; omega
    exact ⟨sb, mb, nn, rv, hD.kept hk (fun _ _ x => x), hL.kept hk id (fun _ _ x => x), ⟨⟨a1, hno _ (lt_of_block hL.at_)⟩, fun k hk' => ⟨a2 k hk', hno _ (hD.inn k hk')⟩, fun k hk' => ⟨a3 k hk', hno _ (hL.row.lt k hk').2⟩⟩, a4,
      fun k hk' => ⟨a5 k (Nat.le_trans hk.size hk'), fun e => by have := (hr.lt k e).2; omega⟩⟩
theorem Wq.mono {v : Int} {Z2 : Nat → Prop} (h : Wq Z2 w lb db g d v) (hz : ∀ k, Z2 k → Z k) {n0 : Nat} (hn : ∀ k, n0 ≤ k → Z k) : Wq Z w lb db g d v := by
  obtain ⟨sb, mb, nn, hD, hD2⟩ := h.disk
  exact ⟨fun hv => (h.log hv).mono hz, ⟨sb, mb, nn, hD, fun k hk => hz k (hD2 k hk)⟩, fun k hk => hz k (h.nw k hk)⟩
set_option maxRecDepth 100000 in
set_option maxHeartbeats 2000000 in
theorem does_4 (hw : Wl Z w lb db g d) (hf : Fine d g) (n f : Int) (hn1 : -9223372036854775808 ≤ n) (hn2 : n ≤ 9223372036854775807) (hf1 : -9223372036854775808 ≤ f) (hf2 : f ≤ 9223372036854775807) {ok : Nat → Prop} {a4 : Option Addr} {c4 : Nat} {l : List Int} (hL : NumAt w ok (.slice a4 l.length c4) l) (hok : ∀ k, ok k → k < w.heap.size ∧ ¬ Z k) (hll : l.length * 8 ≤ 140737488351232) (a5 : Option Addr) (n5 c5 : Nat) :
    Calls Tryz.prog 12 #[.pointer (some ⟨lb, 0, none⟩), .agg #[.int .i64 4, .int .i64 n, .int .i64 f, .slice a4 l.length c4, .slice a5 n5 c5]] w (DoPost Z w lb db (doG 4 n f l g d)) := by
  have hk0 : Kept (fun _ => False) w (w.alloc (.cells #[.int .i64 4, .int .i64 n, .int .i64 f, .slice a4 l.length c4, .slice a5 n5 c5] 34)) := (Kept.refl _ w).alloc _
  have hw1 := hw.kept0 hk0
  have HK0 := Lib.hid (hk0.mono (T := Z) (fun _ _ x => x.elim))
  have HKK := Lib.hid hk0
  have hL1 := hL.kept hk0 (fun _ _ x => x)
  have HW1 := Lib.hid hw1
  have HL1 := Lib.hid hL1
  have HOK : Hid (∀ k, ok k → k < (w.alloc (.cells #[.int .i64 4, .int .i64 n, .int .i64 f, .slice a4 l.length c4, .slice a5 n5 c5] 34)).heap.size) := Lib.hid (fun k hk => Nat.lt_of_lt_of_le (hok k hk).1 hk0.size)
  have HOZ := Lib.hid hok
  have HF := Lib.hid hf
  have hsp := hf.sp
  have hdb := hf.good.doubt
  have har := hf.good.half.A.ar
  have hcc := hf.c
  have hac := hf.acts
  have hml : (manyL l).length ≤ 20 := by rw [manyL_len]; omega
  by_cases h1 : allB (manyL l) = false
  · have HD : Hid (doG 4 n f l g d = (33, g, d)) := Lib.hid (by unfold doG; rw [if_neg (by decide), if_neg (by decide), if_neg (by decide), if_pos rfl, if_pos h1])
    have H1 : Hid (¬ Alls (manyL l)) := Lib.hid (fun h => by rw [← allB_iff, h1] at h; cases h)
    clear h1
    clear hw hk0 hw1 hL hL1 hok hf
    go_enter Tryz.func12, Tryz.ntmps12
    go_wp2_with fail
    refine (many_any HL1.out HOK.out hll).mono ?_
    rintro e w2 ⟨v2, rfl, hr2, hk2⟩
    have HW2 := Lib.hid (HW1.out.kept0 hk2)
    have HK2 := Lib.hid (HK0.out.trans (hk2.mono (fun _ _ x => x.elim)))
    have HT2 := Lib.hid (ts_row hr2)
    obtain ⟨ao2, c2, rfl⟩ := slice_of_row hr2
    clear hk2 hr2
    go_wp2_with fail
    refine (wrenew_long HW2.out hdb HT2.out (by omega) H1.out).mono ?_
    rintro e w5 ⟨rfl, hq5, hk5⟩
    have HQ := Lib.hid hq5
    have HK5 := Lib.hid (HK2.out.trans hk5)
    clear hq5 hk5
    go_wp2_with fail
    go_ret
    rw [HD.out]
    exact ⟨rfl, HQ.out.whole _, HK5.out⟩
  · have H1 : Hid (Alls (manyL l)) := Lib.hid ((allB_iff _).1 (by simpa using h1))
    have hsm : sizeN (manyL l) ≤ 100000 := by
      have h3 : ∀ (x : List ByteArray), (∀ s ∈ x, s.size ≤ 4000) → sizeN x ≤ x.length * 4006 := by
        intro x hx
        induction x with
        | nil => simp [sizeN]
        | cons s x ih =>
          have := ih (fun y hy => hx y (by simp [hy]))
          have := hx s (by simp)
          simp only [sizeN, List.map_cons, List.sum_cons, List.length_cons] at *
          omega
      have := h3 _ H1.out
      omega
    by_cases h2 : spaceN d < sizeN (manyL l)
    · have HD : Hid (doG 4 n f l g d = (30, g, d)) := Lib.hid (by unfold doG; rw [if_neg (by decide), if_neg (by decide), if_neg (by decide), if_pos rfl, if_neg h1, if_pos h2])
      have H2 := Lib.hid h2
      clear h1 h2
      clear hw hk0 hw1 hL hL1 hok hf
      go_enter Tryz.func12, Tryz.ntmps12
      go_wp2_with fail
      refine (many_any HL1.out HOK.out hll).mono ?_
      rintro e w2 ⟨v2, rfl, hr2, hk2⟩
      have HW2 := Lib.hid (HW1.out.kept0 hk2)
      have HK2 := Lib.hid (HK0.out.trans (hk2.mono (fun _ _ x => x.elim)))
      have HT2 := Lib.hid (ts_row hr2)
      obtain ⟨ao2, c2, rfl⟩ := slice_of_row hr2
      clear hk2 hr2
      go_wp2_with fail
      refine (wrenew_full HW2.out hdb HT2.out (by omega) H1.out H2.out (by omega)).mono ?_
      rintro e w5 ⟨rfl, hq5, hk5⟩
      have HQ := Lib.hid hq5
      have HK5 := Lib.hid (HK2.out.trans hk5)
      clear hq5 hk5
      go_wp2_with fail
      go_ret
      rw [HD.out]
      exact ⟨rfl, HQ.out.whole _, HK5.out⟩
    · have HD : Hid (doG 4 n f l g d = ((renD g d (manyL l)).2, renL g d (manyL l), (renD g d (manyL l)).1)) := Lib.hid (by unfold doG; rw [if_neg (by decide), if_neg (by decide), if_neg (by decide), if_pos rfl, if_neg h1, if_neg h2])
      have H2 : Hid (sizeN (manyL l) ≤ spaceN d) := Lib.hid (by omega)
      have HFI := Lib.hid (fits_all (g1 := g.ren (manyL l)) hf rfl (by show 1 - g.m.ar ≤ 1; omega) (by show sizeN _ ≤ _; omega) (by show (manyL l).length ≤ _; omega) rfl rfl)
      clear h1 h2
      clear hw hk0 hw1 hL hL1 hok hf
      go_enter Tryz.func12, Tryz.ntmps12
      go_wp2_with fail
      refine (many_any HL1.out HOK.out hll).mono ?_
      rintro e w2 ⟨v2, rfl, hr2, hk2⟩
      obtain ⟨Z2, hz2, hw2, hk22, hok2⟩ := apart_row HW1.out hr2 hk2
      have HW2 := Lib.hid hw2
      have HZ2 := Lib.hid hz2
      have HOK2 := Lib.hid hok2
      have HK2 := Lib.hid (HK0.out.trans (hk2.mono (fun _ _ x => x.elim)))
      have HT2 := Lib.hid (ts_row hr2)
      obtain ⟨ao2, c2, rfl⟩ := slice_of_row hr2
      clear hk2 hr2 hk22 hz2 hw2 hok2
      go_wp2_with fail
      refine (wrenew_go HW2.out hdb HT2.out HOK2.out H1.out H2.out har (by omega) HFI.out (by omega)).mono ?_
      rintro e w5 ⟨rfl, hq5, hk5⟩
      have HQ := Lib.hid (hq5.mono HZ2.out.1 HZ2.out.2)
      have HK5 := Lib.hid (HK2.out.trans (hk5.mono (fun k _ hz => HZ2.out.1 k hz)))
      clear hq5 hk5
      go_wp2_with fail
      go_ret
      rw [HD.out]
      exact ⟨rfl, HQ.out, HK5.out⟩
set_option maxRecDepth 100000 in
set_option maxHeartbeats 2000000 in
theorem does_5 (hw : Wl Z w lb db g d) (hf : Fine d g) (n f : Int) (hn1 : -9223372036854775808 ≤ n) (hn2 : n ≤ 9223372036854775807) (hf1 : -9223372036854775808 ≤ f) (hf2 : f ≤ 9223372036854775807) {ok : Nat → Prop} {a4 : Option Addr} {c4 : Nat} {l : List Int} (hL : NumAt w ok (.slice a4 l.length c4) l) (hok : ∀ k, ok k → k < w.heap.size ∧ ¬ Z k) (hll : l.length * 8 ≤ 140737488351232) (a5 : Option Addr) (n5 c5 : Nat) :
    Calls Tryz.prog 12 #[.pointer (some ⟨lb, 0, none⟩), .agg #[.int .i64 5, .int .i64 n, .int .i64 f, .slice a4 l.length c4, .slice a5 n5 c5]] w (DoPost Z w lb db (doG 5 n f l g d)) := by
  have hk0 : Kept (fun _ => False) w (w.alloc (.cells #[.int .i64 5, .int .i64 n, .int .i64 f, .slice a4 l.length c4, .slice a5 n5 c5] 34)) := (Kept.refl _ w).alloc _
  have hw1 := hw.kept0 hk0
  have HK0 := Lib.hid (hk0.mono (T := Z) (fun _ _ x => x.elim))
  have HKK := Lib.hid hk0
  have hL1 := hL.kept hk0 (fun _ _ x => x)
  have HW1 := Lib.hid hw1
  have HL1 := Lib.hid hL1
  have HOK : Hid (∀ k, ok k → k < (w.alloc (.cells #[.int .i64 5, .int .i64 n, .int .i64 f, .slice a4 l.length c4, .slice a5 n5 c5] 34)).heap.size) := Lib.hid (fun k hk => Nat.lt_of_lt_of_le (hok k hk).1 hk0.size)
  have HOZ := Lib.hid hok
  have HF := Lib.hid hf
  have hsp := hf.sp
  have hdb := hf.good.doubt
  have har := hf.good.half.A.ar
  have hcc := hf.c
  have hac := hf.acts
  by_cases h1 : n < 0
  · have HD : Hid (doG 5 n f l g d = (1, g, d)) := Lib.hid (by unfold doG; rw [if_neg (by decide), if_neg (by decide), if_neg (by decide), if_neg (by decide), if_pos rfl, if_pos h1])
    clear hw hk0 hw1 hL hL1 hok hf
    go_enter Tryz.func12, Tryz.ntmps12
    go_wp2_with fail
    refine (wmark_a HW1.out hdb n f h1).mono ?_
    rintro e w5 ⟨rfl, hq5, hk5⟩
    have HQ := Lib.hid hq5
    have HK5 := Lib.hid (HK0.out.trans hk5)
    clear hq5 hk5
    go_wp2_with fail
    go_ret
    rw [HD.out]
    exact ⟨rfl, HQ.out.whole _, HK5.out⟩
  · by_cases h2 : f < 0
    · have HD : Hid (doG 5 n f l g d = (1, g, d)) := Lib.hid (by unfold doG; rw [if_neg (by decide), if_neg (by decide), if_neg (by decide), if_neg (by decide), if_pos rfl, if_neg h1, if_pos h2])
      clear hw hk0 hw1 hL hL1 hok hf
      go_enter Tryz.func12, Tryz.ntmps12
      go_wp2_with fail
      refine (wmark_b HW1.out hdb n f (by omega) h2).mono ?_
      rintro e w5 ⟨rfl, hq5, hk5⟩
      have HQ := Lib.hid hq5
      have HK5 := Lib.hid (HK0.out.trans hk5)
      clear hq5 hk5
      go_wp2_with fail
      go_ret
      rw [HD.out]
      exact ⟨rfl, HQ.out.whole _, HK5.out⟩
    · obtain ⟨q, rfl⟩ := Int.eq_ofNat_of_zero_le (show 0 ≤ n by omega)
      obtain ⟨p, rfl⟩ := Int.eq_ofNat_of_zero_le (show 0 ≤ f by omega)
      have HD : Hid (doG 5 q p l g d = ((advD (g.put q p) d).2, (g.put q p).bump, (advD (g.put q p) d).1)) := Lib.hid (by unfold doG; rw [if_neg (by decide), if_neg (by decide), if_neg (by decide), if_neg (by decide), if_pos rfl, if_neg h1, if_neg h2, Int.toNat_natCast, Int.toNat_natCast])
      have HFI : Hid ((g.put q p).bump.m.Fits) := Lib.hid ⟨by show g.m.c + 1 ≤ _; omega, by show g.m.ar ≤ _; omega, by show g.m.le ≤ _; have := hf.good.le_used; omega, by show g.m.nu ≤ _; omega, by show q ≤ _; omega, by show p ≤ _; omega⟩
      clear hw hk0 hw1 hL hL1 hok hf
      go_enter Tryz.func12, Tryz.ntmps12
      go_wp2_with fail
      refine (wmark_go HW1.out hdb q p (by omega) HFI.out (by omega)).mono ?_
      rintro e w5 ⟨rfl, hq5, hk5⟩
      have HQ := Lib.hid hq5
      have HK5 := Lib.hid (HK0.out.trans hk5)
      clear hq5 hk5
      go_wp2_with fail
      go_ret
      rw [HD.out]
      exact ⟨rfl, HQ.out, HK5.out⟩
end
end Go.Proofs.YtcjfpddmpiggoaaGreat
