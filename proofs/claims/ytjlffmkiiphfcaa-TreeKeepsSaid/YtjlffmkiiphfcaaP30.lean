/- The law's small: an act with short texts and few parts. -/
import Derived.Test.YtjlffmkiiphfcaaP28
import Derived.Test.YtjlffmkiiphfcaaP29
import Derived.Deep.CutBlock
namespace Go.Proofs.Ytjlffmkiiphfcaa
open Go.ChangeShapes Go.WideShapes Go.ChangeAt Go.RowKit Go.Maps
set_option linter.unusedVariables false
set_option linter.unusedSimpArgs false
theorem ret_box1 {P : Program} {fn : Func} {R : Ending → World → Prop} {a : Act} {w : World} (A t : Nat) (g : Nat) (cells : Array Value) (hres : fn.results = #[.cell A t]) (hA : a.tmps.getD A undef = .pointer (some ⟨g, 0, none⟩))
    (hload : (loadVar t ⟨g, 0, none⟩).run P w = .ok (.agg cells) w) (hd : a.defers = []) (hR : R (.returned (.agg cells)) w) : bodyPost P fn R .ret a w :=
  bodyPost_ret (v := .agg cells) (by
    have h1 : a.tmps[A]?.getD undef = .pointer (some ⟨g, 0, none⟩) := (by simpa using hA)
    simp [results, hres, h1, asAddr, hload]) hd hR
theorem act_row : RowTy Try.prog 22 81 5 64 := RowTy.of (z := .agg #[.int .i64 0, .int .i64 0, .int .i64 0, .string ByteArray.empty, .slice none 0 0]) Try.underlying22 (by kernel_rfl) rfl (by decide)
theorem act_info : (Try.prog.info? 81).map (·.size) = some 5 := by kernel_rfl
def opL (o : OpN) : List Value := o.cells ++ [.slice none 0 0]
def opsC (l : List OpN) : List Value := l.flatMap opL
theorem opL_len (o : OpN) : (opL o).length = 5 := rfl
theorem opsC_snoc (l : List OpN) (o : OpN) : opsC l ++ opL o = opsC (l ++ [o]) := by unfold opsC; simp
abbrev ActRow (B : Nat) (w : World) (v : Value) (l : List OpN) : Prop := w.ownsRow B 81 5 v l.length (opsC l)
theorem ActRow.subs {B : Nat} {w : World} {v : Value} {l : List OpN} (h : ActRow B w v l) : SubsD w v l := by
  obtain ⟨a, cap, hv, hc⟩ := own_cell h
  refine ⟨a, cap, hv, fun i hi => ?_⟩
  obtain ⟨g, ha, _, hg, _, _⟩ := hc (i * 5 + 0) _ (flat_at (f := opL) opL_len l i hi 0 _ rfl)
  refine ⟨g, 0, none, 0, 0, ha, hg, fun j u hu => ?_⟩
  obtain ⟨g', ha', _, _, h', _⟩ := hc (i * 5 + j) _ (flat_at (f := opL) opL_len l i hi j u hu)
  rw [ha] at ha'
  injection ha' with ha'
  injection ha' with e1
  subst e1
  rw [Nat.zero_add]; exact h'
def cut100 (s : ByteArray) : ByteArray := s.extract 0 (min (s.size : Int) 100).toNat
def cutO (o : OpN) : OpN := { o with s := cut100 o.s }
theorem cut_size (s : ByteArray) : (cut100 s).size ≤ 100 := by
  unfold cut100; rw [ByteArray.size_extract]; omega
theorem cutO_fits {o : OpN} (h : o.Fits) : (cutO o).Fits := ⟨h.a, h.b, h.c⟩
structure SmallOk (w : World) (o : OpN) (e : Ending) (w' : World) : Prop where
  ex : ∃ (v : Value) (l : List OpN), e = .returned (.agg #[.int .i64 o.a, .int .i64 o.b, .int .i64 o.c, .string (cut100 o.s), v]) ∧ SubsD w' v l ∧ (∀ k ∈ l, k.Fits) ∧ l.length ≤ 6 ∧ Kept (fun _ => False) w w'
structure SmRel (w : World) (o : OpN) (sv : Value) (n : Nat) (lv iv : Value) (wr : World) : Prop where
  ex : ∃ (i : Nat) (l : List OpN), iv = .int .i64 i ∧ i ≤ 6 ∧ i ≤ n ∧ ActRow (w.heap.size + 2) wr lv l ∧ (∀ k ∈ l, k.Fits) ∧ l.length ≤ i ∧ Kept (fun _ => False) w wr ∧
    wr.heap[w.heap.size]? = some (actO (cutO o) sv) ∧ (∃ c, wr.heap[w.heap.size + 1]? = some (.cells c 81 (0, 0)) ∧ c.size = 5) ∧ w.heap.size + 2 ≤ wr.heap.size
set_option maxRecDepth 100000 in
set_option maxHeartbeats 2000000 in
theorem small_any {w : World} (o : OpN) (ho : o.Fits) (hs : o.s.size ≤ maxLen) (va : Option Addr) (vc : Nat) (l : List OpN) (hl : SubsD w (.slice va l.length vc) l) (hf : ∀ k ∈ l, k.Fits ∧ k.s.size ≤ maxLen) (hn : l.length ≤ 140737488351232) :
    Calls Try.prog 38 #[.agg #[.int .i64 o.a, .int .i64 o.b, .int .i64 o.c, .string o.s, .slice va l.length vc]] w (SmallOk w o) := by
  have HK0 : Hid (Kept (fun _ => False) w ((w.alloc (actO o (.slice va l.length vc))).alloc (actO ⟨0, 0, 0, ⟨#[]⟩⟩ (.slice none 0 0)))) := Lib.hid (((Kept.refl _ w).alloc _).alloc _)
  have hb1 := heap_alloc_new w (actO o (.slice va l.length vc))
  have hb2 := heap_alloc_new (w.alloc (actO o (.slice va l.length vc))) (actO ⟨0, 0, 0, ⟨#[]⟩⟩ (.slice none 0 0))
  rw [show (w.alloc (actO o (.slice va l.length vc))).heap.size = w.heap.size + 1 by simp] at hb2
  have hb1' : ((w.alloc (actO o (.slice va l.length vc))).alloc (actO ⟨0, 0, 0, ⟨#[]⟩⟩ (.slice none 0 0))).heap[w.heap.size]? = some (actO o (.slice va l.length vc)) := by
    rw [Below.heap_alloc _ _ _ (by simp)]; exact hb1
  obtain ⟨a0, a1, a2, a3, a4⟩ := actB hb1'
  have HB1 := Lib.hid hb1'
  have HB2 := Lib.hid hb2
  have HL := Lib.hid hl
  have HF := Lib.hid hf
  unfold maxLen at hs
  clear hb1 hb1' hb2 hl hf
  go_enter Try.func38, Try.ntmps38
  go_upto_block 0 with fail
  obtain ⟨W0, hW0⟩ : ∃ W0, (w.alloc (actO (cutO o) (.slice va l.length vc))).alloc (actO ⟨0, 0, 0, ⟨#[]⟩⟩ (.slice none 0 0)) = W0 := ⟨_, rfl⟩
  have hk0 : Kept (fun _ => False) w W0 := by rw [← hW0]; exact ((Kept.refl _ w).alloc _).alloc _
  have hsz0 : W0.heap.size = w.heap.size + 2 := by rw [← hW0]; simp
  have hx1 : W0.heap[w.heap.size]? = some (actO (cutO o) (.slice va l.length vc)) := by
    rw [← hW0, Below.heap_alloc _ _ _ (by simp)]; exact heap_alloc_new w _
  have hx2 : W0.heap[w.heap.size + 1]? = some (actO ⟨0, 0, 0, ⟨#[]⟩⟩ (.slice none 0 0)) := by
    rw [← hW0]
    have := heap_alloc_new (w.alloc (actO (cutO o) (.slice va l.length vc))) (actO ⟨0, 0, 0, ⟨#[]⟩⟩ (.slice none 0 0))
    rw [show (w.alloc (actO (cutO o) (.slice va l.length vc))).heap.size = w.heap.size + 1 by simp] at this
    exact this
  unfold actO cutO cut100 at hW0
  simp only at hW0
  rw [hW0]
  have HX1 := Lib.hid hx1
  have HX2 := Lib.hid hx2
  have HSZ0 := Lib.hid hsz0
  have HKW := Lib.hid hk0
  clear hW0 hk0 hsz0 hx1 hx2 HK0 HB1 HB2 a0 a1 a2 a3 a4
  go_cut [3, 4] from 5 to 42 (fun v3 v4 wx => ∃ k : List OpN, ActRow (w.heap.size + 2) wx v3 k ∧ (∀ y ∈ k, y.Fits) ∧ k.length ≤ 6 ∧ Kept (fun _ => False) w wx ∧
      wx.heap[w.heap.size]? = some (actO (cutO o) (.slice va l.length vc)) ∧ (∃ c, wx.heap[w.heap.size + 1]? = some (.cells c 81 (0, 0)) ∧ c.size = 5) ∧ w.heap.size + 2 ≤ wx.heap.size)
  case first =>
    go_wp2_with fail
    go_loopw [3, 4] (fun lv iv wr => SmRel w o (.slice va l.length vc) l.length lv iv wr) (fun _ iv _ => l.length - (Go.RowKit.intOf iv).toNat)
    case atStart => exact ⟨0, [], rfl, by omega, Nat.zero_le _, World.ownsRow_nil _ _ _ _, (fun k hk => nomatch hk), Nat.zero_le _, HKW.out, HX1.out, ⟨_, HX2.out, rfl⟩, by rw [HSZ0.out]; omega⟩
    case round =>
      obtain ⟨i, k, rfl, hi6, hin, hrow, hfit, hkl, hkw, hb1, hb2, hsz⟩ := hrel.ex
      clear hrel
      have HROW := Lib.hid hrow
      have HFIT := Lib.hid hfit
      have HKR := Lib.hid hkw
      have HB1 := Lib.hid hb1
      have HB2 := Lib.hid hb2
      have HEND : Hid (∃ k : List OpN, ActRow (w.heap.size + 2) wr u3 k ∧ (∀ y ∈ k, y.Fits) ∧ k.length ≤ 6 ∧ Kept (fun _ => False) w wr ∧
        wr.heap[w.heap.size]? = some (actO (cutO o) (.slice va l.length vc)) ∧ (∃ c, wr.heap[w.heap.size + 1]? = some (.cells c 81 (0, 0)) ∧ c.size = 5) ∧ w.heap.size + 2 ≤ wr.heap.size) := Lib.hid ⟨k, hrow, hfit, by omega, hkw, hb1, hb2, hsz⟩
      obtain ⟨b0, b1, b2, b3, b4⟩ := actB hb1
      clear hrow hfit hkw hb1 hb2
      by_cases g1 : i < l.length
      · by_cases g2 : i < 6
        · obtain ⟨va', vc', ev, hcc⟩ := HL.out.ex
          injection ev with e1 e2 e3
          subst e1 e3
          obtain ⟨g, off, x, y, z, rfl, hg, hc⟩ := hcc i g1
          obtain ⟨p, hp⟩ : ∃ p, l[i] = p := ⟨_, rfl⟩
          rw [hp] at hc
          have hpm : p ∈ l := by rw [← hp]; exact List.getElem_mem g1
          have hps := (HF.out p hpm).2
          have HPF := Lib.hid (HF.out p hpm).1
          unfold maxLen at hps
          have kc : ∀ o, wr.cell? ⟨g, o, none⟩ = w.cell? ⟨g, o, none⟩ := fun o => World.cell?_of_block (w := w) (HKR.out.block g hg (fun f => f))
          have c0 : wr.cell? ⟨g, off + i * 5, none⟩ = some (.int .i64 p.a) := (kc _).trans (hc 0 _ rfl)
          have c1 : wr.cell? ⟨g, off + i * 5 + 1, none⟩ = some (.int .i64 p.b) := (kc _).trans (hc 1 _ rfl)
          have c2 : wr.cell? ⟨g, off + i * 5 + 2, none⟩ = some (.int .i64 p.c) := (kc _).trans (hc 2 _ rfl)
          have c3 : wr.cell? ⟨g, off + i * 5 + 3, none⟩ = some (.string p.s) := (kc _).trans (hc 3 _ rfl)
          have c4 : wr.cell? ⟨g, off + i * 5 + 4, none⟩ = some (.slice x y z) := (kc _).trans (hc 4 _ rfl)
          have hgr : g < wr.heap.size := Nat.lt_of_lt_of_le hg HKR.out.size
          obtain ⟨a3, cc3, hu3⟩ := own_shape HROW.out
          subst hu3
          clear hp hpm hc hcc e2 kc HEND
          go_upto_region 9 with fail
          obtain ⟨W1, hW1⟩ : ∃ W1, wr.alloc (actO (cutO p) (.slice none 0 0)) = W1 := ⟨_, rfl⟩
          have hal : Kept (fun _ => False) wr W1 := by rw [← hW1]; exact (Kept.refl _ wr).alloc _
          have HAL := Lib.hid hal
          have HRO1 := Lib.hid (ownKept HROW.out hal (fun _ _ f => f))
          have HBS : Hid (w.heap.size + 2 ≤ W1.heap.size) := Lib.hid (Nat.le_trans hsz hal.size)
          have hbx : W1.heap[wr.heap.size]? = some (actO (cutO p) (.slice none 0 0)) := by rw [← hW1]; exact heap_alloc_new wr _
          obtain ⟨d0, d1, d2, d3, d4⟩ := actB hbx
          unfold actO at hW1
          rw [show (cutO p).s = p.s.extract 0 (min (p.s.size : Int) 100).toNat from rfl] at hW1
          unfold cutO at hW1
          simp only at hW1
          rw [hW1]
          clear hal hW1 hbx c0 c1 c2 c3 c4
          go_wp2_with (first
            | (at_builtin; refine wpList_row1 act_row rfl _ _ rfl rfl HRO1.out [.int .i64 (cutO p).a, .int .i64 (cutO p).b, .int .i64 (cutO p).c, .string (cutO p).s, .slice none 0 0] rfl rfl (by simp [Value.oneCell']) (by omega) (by unfold maxLen; omega) HBS.out ?_; intro v6 w6 hown6 hg6)
            | fail)
          have hbl : ∀ b, (Value.slice a3 k.length cc3).ownBlock = some b → w.heap.size + 2 ≤ b := fun b hb => (own_lo HRO1.out hb).1
          have hk6 : Kept (fun b => w.heap.size + 2 ≤ b) wr w6 := ((HAL.out.mono (T := fun b => w.heap.size + 2 ≤ b) (fun _ _ f => f.elim)).alloc _).trans (Kept.of_grownBy hg6 |>.mono (fun b _ e => hbl b e.symm))
          go_roundw
          case rel =>
            refine ⟨i + 1, k ++ [cutO p], by go_num, by omega, by omega, ?_, ?_, by simp; omega, HKR.out.trans' hk6 (fun b hb e => by have e : w.heap.size + 2 ≤ b := e; omega), ?_, ?_, Nat.le_trans hsz hk6.size⟩
            · unfold ActRow; rw [← opsC_snoc, List.length_append]; exact hown6
            · intro y hy
              rcases List.mem_append.1 hy with hy | hy
              · exact HFIT.out y hy
              · simp at hy; subst hy; exact cutO_fits HPF.out
            · rw [hk6.block _ (by omega) (fun e => by have e : w.heap.size + 2 ≤ w.heap.size := e; omega)]; exact HB1.out
            · rw [hk6.block _ (by omega) (fun e => by have e : w.heap.size + 2 ≤ w.heap.size + 1 := e; omega)]; exact HB2.out
          case measure => simp [Go.RowKit.intOf]; omega
        · go_wp2_with fail
          go_meet
          exact HEND.out
      · go_wp2_with fail
        go_meet
        exact HEND.out
  case rest =>
  obtain ⟨k, hrow, hfit, hk6, hkw, hb1, ⟨c2, hb2, hc2⟩, hsz⟩ := hcut
  obtain ⟨w3, hw3⟩ : ∃ w3, w3 = wc := ⟨_, rfl⟩
  subst hw3
  obtain ⟨b0, b1, b2, b3, b4⟩ := actB hb1
  obtain ⟨a3, c3, hu3⟩ := own_shape hrow
  subst hu3
  have hf1 : w3.frozen? ⟨w.heap.size, 4, none⟩ = false := by simp [World.frozen?, hb1]
  have hne : ¬ w.heap.size = w.heap.size + 1 := by omega
  have hlt3 := lt_of_block hb2
  go_upto_region 11 with fail
  obtain ⟨w4, hw4⟩ : ∃ w4, w3.setCell ⟨w.heap.size, 4, none⟩ (.slice a3 k.length c3) = w4 := ⟨_, rfl⟩
  have hk4 : Kept (fun b => b = w.heap.size) w3 w4 := by rw [← hw4]; exact kept_set _ _ _ _
  have hb1' : w4.heap[w.heap.size]? = some (actO (cutO o) (.slice a3 k.length c3)) := by
    rw [← hw4]
    exact heap_set (c := [.int .i64 o.a, .int .i64 o.b, .int .i64 o.c, .string (cut100 o.s), .slice va l.length vc]) _ hb1
  have hb2' : w4.heap[w.heap.size + 1]? = some (.cells c2 81 (0, 0)) := by rw [hk4.block _ hlt3 (fun e => hne e.symm)]; exact hb2
  have hrow4 := ownKept hrow hk4 (fun b hb e => by have := (own_lo hrow hb).1; have e : b = w.heap.size := e; omega)
  have HKW4 : Hid (Kept (fun _ => False) w w4) := Lib.hid (hkw.trans' hk4 (fun b hb e => by have e : b = w.heap.size := e; omega))
  have HROW4 := Lib.hid hrow4
  have HB2' := Lib.hid hb2'
  obtain ⟨d0, d1, d2, d3, d4⟩ := actB hb1'
  rw [hw4]
  clear hw4 hk4 hb1' hb2' hrow4 hb1 hb2 hrow b0 b1 b2 b3 b4 hf1
  go_wp2_with (first
    | (refine wpList_store_row _ rfl 81 _ _ rfl (w.heap.size + 1) _ [.int .i64 (cutO o).a, .int .i64 (cutO o).b, .int .i64 (cutO o).c, .string (cutO o).s, .slice a3 k.length c3] rfl rfl HB2'.out act_info hc2 (by simp [Value.oneCell']) ?_)
    | fail)
  refine ret_box1 2 81 (w.heap.size + 1) _ ?_ ?_ (run_loadVar_row (P := Try.prog) _ (w.heap.size + 1) 81 81 _ (0, 0) _ (setRow_heap _ _ _ _ _ _ HB2'.out) Try.underlying81 rfl act_info) ?_ ?_
  exact rfl
  exact rfl
  exact rfl
  have hk9 := setRow_kept w4 (w.heap.size + 1) [.int .i64 (cutO o).a, .int .i64 (cutO o).b, .int .i64 (cutO o).c, .string (cutO o).s, .slice a3 k.length c3].toArray
  refine ⟨_, k, rfl, ?_, hfit, hk6, HKW4.out.trans' hk9 (fun b hb e => by have e : b = w.heap.size + 1 := e; omega)⟩
  exact (ActRow.subs (ownKept HROW4.out hk9 (fun b hb e => by have := (own_lo HROW4.out hb).1; have e : b = w.heap.size + 1 := e; omega)))
end Go.Proofs.Ytjlffmkiiphfcaa
