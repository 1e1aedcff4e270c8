/- Append of a log: a record that has room. -/
import Derived.Test.YtmfngbgdmlnlcaaJae
import Derived.Maps.AppendAt
namespace Go.Proofs.Ytmfngbgdmlnlcaa
open Go.ChangeShapes Go.WideShapes Go.ChangeAt Go.RowKit
set_option linter.unusedVariables false
set_option linter.unusedSimpArgs false
def LSt.push (g : LSt) (s : ByteArray) : LSt := { g with recs := g.recs ++ [s] }
def LSt.add (g : LSt) (s : ByteArray) : LSt := { g with recs := g.recs ++ [s], used := g.used + (6 + s.size) }
theorem string_inf : ∃ i0, Try.prog.info? 9 = some i0 ∧ i0.zero = some (.string ByteArray.empty) ∧ i0.size = 1 ∧ i0.bytes = 16 := by
  have h : (Try.prog.info? 9).map (fun i => (i.zero, i.size, i.bytes)) = some (some (.string ByteArray.empty), 1, 16) := by kernel_rfl
  obtain ⟨i, hi, h2⟩ := Option.map_eq_some_iff.1 h
  simp only [Prod.mk.injEq] at h2
  exact ⟨i, hi, h2.1, h2.2.1, h2.2.2⟩
theorem ts_one {w : World} {g : Nat} {s : ByteArray} (hc : w.cell? ⟨g, 0, none⟩ = some (.string s)) : TsAt w (fun k => k = g) (.slice (some ⟨g, 0, none⟩) 1 1) [s] :=
  ⟨⟨_, _, rfl, fun i hi => by
    obtain rfl : i = 0 := by simpa using hi
    exact ⟨g, 0, rfl, rfl, hc⟩⟩⟩
theorem size_one {w : World} {g : Nat} {s : ByteArray} (hc : w.cell? ⟨g, 0, none⟩ = some (.string s)) (hs : s.size ≤ 4000) {z : Nat} (hz : 6 + s.size = z) :
    Calls Try.prog 36 #[.slice (some ⟨g, 0, none⟩) 1 1] w fun e w' => e = .returned (.int .i64 z) ∧ w = w' := by
  have h1 : sizeN [s] = z := by rw [← hz]; simp [sizeN]
  rw [← h1]
  exact wsize_any (ts_one hc) (by simp) (by rw [h1]; omega)
theorem laid_one {w : World} {g : Nat} {s : ByteArray} (hc : w.cell? ⟨g, 0, none⟩ = some (.string s)) (hs : s.size ≤ 4000) {L : ByteArray} (hL : (⟨(recL s).toArray⟩ : ByteArray) = L) :
    Calls Try.prog 38 #[.slice (some ⟨g, 0, none⟩) 1 1] w fun e w' => e = .returned (.string L) ∧ Kept (fun _ => False) w w' := by
  have h1 : laidL [s] = recL s := by simp [laidL]
  have h2 := laid_any (ts_one hc) (fun k hk => by rw [hk]; exact World.block_lt_of_cell? w _ hc) (by simp [sizeN]; omega)
  rw [h1, hL] at h2
  exact h2
theorem slice_of_row {w : World} {base : Nat} {e : TypeId} {size n : Nat} {v : Value} {xs : List Value} (h : w.ownsRow base e size v n xs) : ∃ ao cap, v = .slice ao n cap := by
  rcases h.2 with ⟨hv, h0⟩ | ⟨g, cap, cur, hv, _⟩
  · exact ⟨none, 0, by rw [hv, h0]⟩
  · exact ⟨_, _, hv⟩
section
variable {Z Z' : Nat → Prop} {w w' : World} {lb db sb mb nn : Nat} {rv : Value} {g g' : LSt} {d d' : DSt}
theorem Wp.push {w2 : World} {v' : Value} {s : ByteArray} (h : Wp Z w lb db sb mb nn rv g d) (hown : w2.ownsRow 0 9 1 v' (g.recs.length + 1) (g.recs.map Value.string ++ [.string s])) (hg : w.grownBy w2 rv.ownBlock) (hat : v'.ownBlock = rv.ownBlock ∨ v'.ownBlock = some w.heap.size) :
    Wp Z (w2.setCell ⟨lb, 7, none⟩ v') lb db sb mb nn v' (g.push s) d ∧ Kept Z w (w2.setCell ⟨lb, 7, none⟩ v') := by
  have hk : Kept (fun k => some k = rv.ownBlock) w w2 := Kept.of_grownBy hg
  have hlt := lt_of_block h.l.at_
  have hne : rv.ownBlock ≠ some lb := h.l.own_ne h.l.at_ (by decide)
  have hne' : v'.ownBlock ≠ some lb := by
    rcases hat with e | e
    · rw [e]; exact hne
    · rw [e]; intro e2; simp at e2; omega
  have hks := kept_set w2 lb 7 v'
  have hat2 : w2.heap[lb]? = some (.cells (g.cells db rv).toArray 75 (0, 0)) := by
    rw [hk.block lb hlt (fun e => hne e.symm)]; exact h.l.at_
  have hD2 : DAt w2 db sb mb nn d := h.d.kept hk (fun k hk e => h.ow k hk e.symm)
  refine ⟨⟨hD2.kept hks (fun k hk e => by have e : k = lb := e; subst e; exact h.ap hk), ⟨heap_set _ hat2, ?_⟩, h.b1, h.b2, fun k e => ?_, h.ap, fun k hk e => ?_, fun k hk' => h.nw k (Nat.le_trans hk.size (Nat.le_trans hks.size hk'))⟩, ?_⟩
  · refine rowOwn (X := fun k => k = lb) ?_ hks (fun k hk e => by have e : k = lb := e; subst e; exact hne' hk)
    have e1 : (g.push s).recs.map Value.string = g.recs.map Value.string ++ [.string s] := by simp [LSt.push]
    have e2 : (g.push s).recs.length = g.recs.length + 1 := by simp [LSt.push]
    rw [e1, e2]; exact hown
  · rcases hat with e1 | e1
    · exact h.b3 k (by rw [← e1]; exact e)
    · rw [e1] at e; obtain rfl := Option.some.inj e; exact h.nw _ (Nat.le_refl _)
  · rcases hat with e1 | e1
    · exact h.ow k hk (by rw [← e1]; exact e)
    · rw [e1] at e; obtain rfl := Option.some.inj e
      have := h.d.inn _ hk; omega
  · exact (hk.mono (fun k _ e => h.b3 k e.symm)).trans (hks.mono (fun k _ e => by have e : k = lb := e; subst e; exact h.b1))

set_option maxRecDepth 100000 in
set_option maxHeartbeats 2000000 in
theorem wappend_go (h : Wl Z w lb db g d) (hd : g.doubt = false) (s : ByteArray) (hs : s.size ≤ 4000) (hro : (s.size : Int) ≤ roomZ g.used d) (har : g.m.ar ≤ 1) (hu : g.used ≤ 1048576) (hl : g.recs.length ≤ 1048576) (ha : d.acts ≤ 4611000000000000000) :
    Calls Try.prog 13 #[.pointer (some ⟨lb, 0, none⟩), .string s] w fun e w' =>
    e = .returned (.int .i64 (wriD (g.add s) d g.used (recL s)).2) ∧ Wq Z w' lb db (g.add s) (wriD (g.add s) d g.used (recL s)).1 (wriD (g.add s) d g.used (recL s)).2 ∧ Kept Z w w' := by
  have h1 := h.box (.cells #[.int .i64 0] 25)
  have HZ : Hid (∀ k, w.heap.size ≤ k → Z k) := Lib.hid (by obtain ⟨_, _, _, _, _, _, _, _, h5⟩ := h.ex; exact h5)
  obtain ⟨sb, mb, nn, rv, hp⟩ := h1.open_
  have hb := heap_alloc_new w (.cells #[.int .i64 0] 25)
  have HB := Lib.hid hb
  obtain ⟨ra, rcap, rfl, hcap⟩ := hp.l.slice
  have HRO := Lib.hid (room_any h1 (by omega))
  obtain ⟨L, hL⟩ : ∃ L, (⟨(recL s).toArray⟩ : ByteArray) = L := ⟨_, rfl⟩
  have HLz : Hid (L.size ≤ 140000000000000) := Lib.hid (by rw [← hL]; show (recL s).length ≤ _; rw [recL_len]; omega)
  have HLL : Hid (L.data.toList = recL s) := Lib.hid (by rw [← hL])
  have HL := Lib.hid hL
  obtain ⟨R, hR⟩ : ∃ R, wriD (g.add s) d g.used (recL s) = R := ⟨_, rfl⟩
  rw [hR]
  obtain ⟨v, hv⟩ : ∃ v, R.2 = v := ⟨_, rfl⟩
  rw [hv]
  have HV := Lib.hid hv
  clear hv
  obtain ⟨z, hz⟩ : ∃ z, 6 + s.size = z := ⟨_, rfl⟩
  have HZZ := Lib.hid hz
  obtain ⟨u, hu9⟩ : ∃ u, g.used = u := ⟨_, rfl⟩
  obtain ⟨u2, hu2⟩ : ∃ u2, u + z = u2 := ⟨_, rfl⟩
  have HU : Hid ((g.add s) = { g.push s with used := u2 }) := Lib.hid (by unfold LSt.add LSt.push; rw [hz, hu9, hu2])
  have hwrap : IntKind.i64.wrap ((u : Int) + (z : Int)) = (u2 : Int) := by rw [IntKind.wrap_i64]; omega
  have HWR := Lib.hid hwrap
  have HR := Lib.hid hR
  have HUU := Lib.hid hu9
  have hsd : decide (4000 < s.size) = false := by simpa using hs
  obtain ⟨rz, hrz⟩ : ∃ rz, roomZ g.used d = rz := ⟨_, rfl⟩
  rw [hrz] at hro HRO
  have hbound : u ≤ 1048576 := by omega
  obtain ⟨t0, t1, t2, t3, t4, t5, t6⟩ := hp.seven
  have t7 : (w.alloc (.cells #[.int .i64 0] 25)).cell? ⟨lb, 7, none⟩ = some (.slice ra g.recs.length rcap) := hp.l.cell 7
  have t8 : (w.alloc (.cells #[.int .i64 0] 25)).cell? ⟨lb, 8, none⟩ = some (.int .i64 u) := by rw [← hu9]; exact hp.l.cell 8
  have t9 : (w.alloc (.cells #[.int .i64 0] 25)).cell? ⟨lb, 9, none⟩ = some (.bool false) := by rw [← hd]; exact hp.l.cell 9
  have HP := Lib.hid hp
  clear h h1 hp hb hL hR hz hu9 hu2 hwrap hrz
  go_enter_defers Try.func13, Try.ntmps13
  go_wp2_with fail
  refine (toolong_any s _).mono ?_
  rintro e w1 ⟨rfl, rfl⟩
  rw [hsd]
  go_wp2_with fail
  refine HRO.out.mono ?_
  rintro e w1 ⟨rfl, n1, rfl⟩
  have hp := HP.out.kept0 ((Kept.refl _ _).drewN n1)
  have hk : Kept (fun k => Z k ∧ k ≠ w.heap.size) (w.alloc (.cells #[.int .i64 0] 25)) ((w.alloc (.cells #[.int .i64 0] 25)).drewN n1) := (Kept.refl _ _).drewN n1
  have hsz : (w.alloc (.cells #[.int .i64 0] 25)).heap.size ≤ ((w.alloc (.cells #[.int .i64 0] 25)).drewN n1).heap.size := hk.size
  generalize ((w.alloc (.cells #[.int .i64 0] 25)).drewN n1) = W1 at hp hk hsz ⊢
  clear t0 t1 t2 t3 t4 t5 t6 t7 t8 t9 HRO
  have t7 : W1.cell? ⟨lb, 7, none⟩ = some (.slice ra g.recs.length rcap) := hp.l.cell 7
  have t8 : W1.cell? ⟨lb, 8, none⟩ = some (.int .i64 u) := by rw [← HUU.out]; exact hp.l.cell 8
  have hp1 := hp.kept0 ((Kept.refl _ _).alloc (.cells #[.string s] 9))
  have f7 : W1.frozen? ⟨lb, 7, none⟩ = false := by simp [World.frozen?, hp.l.at_]
  have HP1 := Lib.hid hp1
  have HK1 := Lib.hid (hk.alloc (.cells #[.string s] 9))
  obtain ⟨i0, si, sz, ss, sbb⟩ := string_inf
  have HSI := Lib.hid (And.intro si (And.intro sz (And.intro ss sbb)))
  have HCEL := Lib.hid (cell_one_new W1 (.string s) 9)
  have HROW := Lib.hid hp1.l.row
  have hlb : ∀ (w2 : World) (r : Option Nat), (W1.alloc (.cells #[.string s] 9)).grownBy w2 (Value.slice ra g.recs.length rcap).ownBlock → w2.frozen? ⟨lb, 7, none⟩ = false ∧ w2.cell? ⟨lb, 7, none⟩ = some (.slice ra g.recs.length rcap) := fun w2 _ hg => by
    have : w2.heap[lb]? = some (.cells (g.cells db (.slice ra g.recs.length rcap)).toArray 75 (0, 0)) := by
      rw [hg.block lb (lt_of_block hp1.l.at_) (fun e => hp1.l.own_ne hp1.l.at_ (by decide) e.symm)]; exact hp1.l.at_
    exact ⟨by simp [World.frozen?, this], by rw [cell_of_row w2 lb 7 _ _ (0, 0) this]; rfl⟩
  clear hp1 hp hk si sz ss sbb
  have HLB := Lib.hid hlb
  clear hlb
  go_wp2_with (at_builtin; refine wpList_append_own_at _ rfl _ _ 22 rfl 0 9 i0 (.string ByteArray.empty) 1 16 Try.underlying22 HSI.out.1 HSI.out.2.1 HSI.out.2.2.1 HSI.out.2.2.2 rfl (by decide) (.slice ra g.recs.length rcap) g.recs.length (g.recs.map Value.string) rfl HROW.out ⟨W1.heap.size, 0, none⟩ 1 1 [.string s] rfl rfl HCEL.out (by intro u hu; simp only [List.mem_singleton] at hu; subst hu; rfl) (by unfold maxLen; omega) (by omega) (Nat.zero_le _) (fun v' w2 hown' hg' hnil' hat' => ?_); obtain ⟨ao, cap', rfl⟩ := slice_of_row hown'; clear hnil'; have HPU := Lib.hid (HP1.out.push hown' hg' hat'); obtain ⟨f7', c7'⟩ := HLB.out w2 none hg'; clear hown' hg' hat')
  obtain ⟨hp2, hk2⟩ := HPU.out
  generalize w2.setCell ⟨lb, 7, none⟩ (.slice ao (g.recs.length + 1) cap') = w3 at hp2 hk2 ⊢
  have HK3 := Lib.hid (HK1.out.trans hk2)
  clear HPU f7' c7' HP1 HK1 HROW HCEL HLB t7 t8 f7
  have h3 : Wp (fun k => Z k ∧ k ≠ w.heap.size) ((w3.alloc (.cells #[.string s] 9)).setCell ⟨lb, 8, none⟩ (.int .i64 (u2 : Int))).drew lb db sb mb nn (.slice ao (g.recs.length + 1) cap') (g.add s) d := by
    rw [HU.out]
    exact ((hp2.kept0 ((Kept.refl _ w3).alloc _)).log (g' := { g.push s with used := u2 }) 8 (.int .i64 (u2 : Int)) rfl rfl).kept0 ((Kept.refl _ _).drew)
  have hk3 : Kept (fun k => Z k ∧ k ≠ w.heap.size) (w.alloc (.cells #[.int .i64 0] 25)) ((w3.alloc (.cells #[.string s] 9)).setCell ⟨lb, 8, none⟩ (.int .i64 (u2 : Int))).drew :=
    ((HK3.out.alloc _).setCell (a := ⟨lb, 8, none⟩) (.inl hp2.b1) _).drew
  have HP3 := Lib.hid h3
  have HKK := Lib.hid hk3
  have c8 : w3.cell? ⟨lb, 8, none⟩ = some (.int .i64 u) := by rw [← HUU.out]; exact hp2.l.cell 8
  have f8 : w3.frozen? ⟨lb, 8, none⟩ = false := by simp [World.frozen?, hp2.l.at_]
  have hpd := hp2.kept0 ((Kept.refl _ w3).drew)
  have c8d : w3.drew.cell? ⟨lb, 8, none⟩ = some (.int .i64 u) := by rw [← HUU.out]; exact hpd.l.cell 8
  have f8d : w3.drew.frozen? ⟨lb, 8, none⟩ = false := by simp [World.frozen?, hpd.l.at_]
  have hpa := hp2.kept0 ((Kept.refl _ w3).alloc (.cells #[.string s] 9))
  have c8a : (w3.alloc (.cells #[.string s] 9)).cell? ⟨lb, 8, none⟩ = some (.int .i64 u) := by rw [← HUU.out]; exact hpa.l.cell 8
  have f8a : (w3.alloc (.cells #[.string s] 9)).frozen? ⟨lb, 8, none⟩ = false := by simp [World.frozen?, hpa.l.at_]
  have HS9 := Lib.hid hs
  have hwr := HWR.out
  clear hp2 hk2 h3 hk3 hpd hpa
  refine wp_region_noPanic ?_
  go_region_law ((go_simp; go_at_call 36; refine (size_one (by simp) HS9.out HZZ.out).mono ?_; rintro e w5 ⟨rfl, rfl⟩))
  all_goals (refine NoPanic.normal ?_)
  all_goals (
    have hP3 := HP3.out
    have hKK := HKK.out
    generalize ((w3.alloc (.cells #[.string s] 9)).setCell ⟨lb, 8, none⟩ (.int .i64 (u2 : Int))).drew = w4 at hP3 hKK ⊢
    clear c8 c8d c8a f8 f8d f8a hwr HP3 HKK HK3
    have h5 := hP3.kept0 ((Kept.refl _ w4).alloc (.cells #[.string s] 9))
    have HP5 := Lib.hid h5.close
    have HK5 := Lib.hid (hKK.alloc (.cells #[.string s] 9))
    clear hP3 hKK h5
    go_wp2_with fail
    refine (laid_one (by simp) HS9.out HL.out).mono ?_
    rintro e w6 ⟨rfl, hk6⟩
    have HP6 := Lib.hid (HP5.out.kept0 hk6)
    have HK6 := Lib.hid (HK5.out.trans (hk6.mono (fun _ _ f => f.elim)))
    clear hk6 HP5 HK5
    go_wp2_with fail
    refine (wwrite_any HP6.out (g := g.add s) har u (by omega) L HLz.out ha).mono ?_
    rw [HLL.out, ← HUU.out, HR.out, HUU.out]
    rintro e w2 ⟨he, hw2, hk2⟩
    replace hk2 := HK6.out.trans hk2
    replace he := he.trans (ret_int HV.out)
    subst he
    have hb2 : w2.heap[w.heap.size]? = some (.cells #[.int .i64 0] 25 (0, 0)) := by
      rw [hk2.block w.heap.size (by simp) (fun hz => hz.2 rfl)]; exact HB.out
    have e0 : w2.cell? ⟨w.heap.size, 0, none⟩ = some (.int .i64 0) := cell_of_row _ w.heap.size 0 _ _ (0, 0) hb2
    have ef : w2.frozen? ⟨w.heap.size, 0, none⟩ = false := by simp [World.frozen?, hb2]
    have HB2 := Lib.hid hb2
    have HW2 := Lib.hid hw2
    have HK2 := Lib.hid hk2
    clear hb2 hw2 hk2 HP6 HK6
    go_wp2_with fail
    have hb3 : (w2.setCell ⟨w.heap.size, 0, none⟩ (.int .i64 v)).heap[w.heap.size]? = some (.cells [.int .i64 v].toArray 25 (0, 0)) := heap_set (c := [.int .i64 0]) _ HB2.out
    have HW3 := Lib.hid (HW2.out.kept (kept_set w2 w.heap.size 0 (.int .i64 v)) (fun k hz e => hz.2 e))
    have HK3 : Hid (Kept Z w (w2.setCell ⟨w.heap.size, 0, none⟩ (.int .i64 v))) := Lib.hid ((((Kept.refl Z w).alloc _).trans (HK2.out.monoZ (fun k hz => hz.1))).setCell (a := ⟨w.heap.size, 0, none⟩) (.inr (Nat.le_refl _)) _)
    generalize w2.setCell ⟨w.heap.size, 0, none⟩ (.int .i64 v) = w3 at hb3 HW3 HK3 ⊢
    obtain ⟨hz3, cur, hcl, hlb3⟩ := HW3.out.atLog
    refine leaves_cons (f := 34) (args := #[.pointer (some ⟨lb, 0, none⟩), .agg #[.pointer (some ⟨db, 0, none⟩), .int .i64 g.m.c, .int .i64 g.m.ar, .int .i64 g.m.le, .int .i64 g.m.nu, .int .i64 g.m.a, .int .i64 g.m.b, .slice ra g.recs.length rcap, .int .i64 u, .bool false], .pointer (some ⟨w.heap.size, 0, none⟩)]) (by simp) (by simp [go_sem]) ?_
    refine (right_all (v := v) (cur := cur) _ _ _ _ _ _ _ _ _ _ (cell_of_row _ w.heap.size 0 _ _ (0, 0) hb3) hlb3 hcl (by simp [Value.oneCell']) .returning).mono ?_
    rintro e u' w4 ⟨rfl, rfl, hk0, hk⟩
    have hc2 : w4.cell? ⟨w.heap.size, 0, none⟩ = some (.int .i64 v) := by
      rw [World.cell?_of_block (w := w3) (hk.block _ (lt_of_block hb3) (fun e => hz3.2 e.symm))]
      exact cell_of_row _ w.heap.size 0 _ _ (0, 0) hb3
    have HK : Hid (Kept Z w w4) := Lib.hid (HK3.out.trans (hk.mono (fun k _ e => by have e : k = lb := e; subst e; exact hz3.1)))
    have HW := Lib.hid (HW3.out.righted (Z' := Z) (v := v) hk0 hk (fun k hz => hz.1))
    clear hk hk0 hz3 hcl hlb3 hb3 HW3 HK3 HW2 HK2 HB2 e0 ef
    simp [Leaves, settle, results, Try.results13, go_sem, hc2]
    exact ⟨HW.out, HK.out⟩)
end
end Go.Proofs.Ytmfngbgdmlnlcaa
