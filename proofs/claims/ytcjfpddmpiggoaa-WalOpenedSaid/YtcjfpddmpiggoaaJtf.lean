/- told, same: what a log tells, and whether it is just so. -/
import Derived.Test.YtcjfpddmpiggoaaJtd
import Derived.Laws.AppendOwnNone
namespace Go.Proofs.Ytcjfpddmpiggoaa
open Go.ChangeShapes Go.WideShapes Go.ChangeAt Go.RowKit
set_option linter.unusedVariables false
set_option linter.unusedSimpArgs false
theorem three_of {w : World} {g : Nat} {a0 a1 a2 : Value} {T : TypeId} (h : w.heap[g]? = some (.cells #[a0, a1, a2] T (0, 0))) :
    w.cell? ⟨g, 0, none⟩ = some a0 ∧ w.cell? ⟨g, 1, none⟩ = some a1 ∧ w.cell? ⟨g, 2, none⟩ = some a2 ∧ (∀ i, w.frozen? ⟨g, i, none⟩ = false) := by
  refine ⟨?_, ?_, ?_, fun i => by unfold World.frozen?; rw [h]; rfl⟩ <;> rw [cell_of_row w g _ _ _ (0, 0) h] <;> rfl
theorem state_info : (Try.prog.info? 52).map (·.size) = some 3 := by kernel_rfl
theorem TsAt.mono {w : World} {ok ok' : Nat → Prop} {v : Value} {l : List ByteArray} (h : TsAt w ok v l) (hm : ∀ k, ok k → ok' k) : TsAt w ok' v l := by
  obtain ⟨a, cap, hv, hc⟩ := h.ex
  refine ⟨⟨a, cap, hv, fun i hi => ?_⟩⟩
  obtain ⟨g, off, h1, h2, h3⟩ := hc i hi
  exact ⟨g, off, h1, hm g h2, h3⟩
def toldL (g : LSt) (all : Bool) : List ByteArray := if all then g.recs else g.recs.take g.m.nu
section
variable {Z : Nat → Prop} {w w' : World} {lb db : Nat} {g : LSt} {d : DSt}
def ToldPost (w : World) (g : LSt) (all : Bool) (e : Ending) (w' : World) : Prop :=
  ∃ a c, e = .returned (.agg #[.slice a (toldL g all).length c, .int .i64 g.m.a, .int .i64 g.m.b]) ∧ TsAt w' (fun k => w.heap.size ≤ k) (.slice a (toldL g all).length c) (toldL g all) ∧ Kept (fun _ => False) w w'
set_option maxRecDepth 100000 in
set_option maxHeartbeats 2000000 in
theorem told_true (hw : Wl Z w lb db g d) (hg : Good d g) : Calls Try.prog 18 #[.pointer (some ⟨lb, 0, none⟩), .bool true] w (ToldPost w g true) := by
  have hsp := hg.half.base.space
  have husp := hg.usp
  have hus := hg.used
  have hll := sizeN_len g.recs
  have hlen : g.recs.length ≤ 1048512 := by omega
  have hnu := hg.nu
  have HNU := Lib.hid hnu
  have hdb := hg.doubt
  have HLN : Hid ((toldL g true).length = g.recs.length) := Lib.hid (by unfold toldL; first | rfl | (simp; omega))
  have hmx : max (g.m.nu : Int) 0 = (g.m.nu : Int) := by omega
  have hmn : min (g.m.nu : Int) (g.recs.length : Int) = (g.m.nu : Int) := by omega
  obtain ⟨B1, hB1⟩ : ∃ B1, w.heap.size = B1 := ⟨_, rfl⟩
  have hb1 : (w.alloc (.cells #[.slice none 0 0, .int .i64 0, .int .i64 0] 52)).heap[B1]? = some (.cells #[.slice none 0 0, .int .i64 0, .int .i64 0] 52 (0, 0)) := by rw [← hB1]; exact heap_alloc_new w _
  have hkw : Kept (fun _ => False) w (w.alloc (.cells #[.slice none 0 0, .int .i64 0, .int .i64 0] 52)) := (Kept.refl _ w).alloc _
  have hlt1 := lt_of_block hb1
  have hw1 := hw.kept0 hkw
  have HBE : Hid (w.heap.size = B1) := Lib.hid hB1
  obtain ⟨W1, hW1⟩ : ∃ W1, w.alloc (.cells #[.slice none 0 0, .int .i64 0, .int .i64 0] 52) = W1 := ⟨_, rfl⟩
  rw [hW1] at hb1 hkw hlt1 hw1
  have HB1 := Lib.hid hb1
  have HKW := Lib.hid hkw
  have HLT := Lib.hid hlt1
  have HW1 := Lib.hid hw1
  have HWE := Lib.hid hW1
  clear hw hg hsp husp hus hll hB1 hb1 hkw hlt1 hw1 hW1 hnu
  go_enter Try.func18, Try.ntmps18
  go_wp2_with fail
  rw [HWE.out]
  refine (records_any HW1.out hdb (by omega)).mono ?_
  rintro e w2 ⟨v', rfl, hr, hk2⟩
  have HR := Lib.hid hr
  have HK2 := Lib.hid hk2
  obtain ⟨ao, cap, rfl⟩ := slice_of_row hr
  clear hr hk2
  rw [HBE.out]
  go_wp2_with fail
  refine (marks_any (HW1.out.kept0 HK2.out)).mono ?_
  rintro e w3 ⟨rfl, n3, rfl⟩
  have HK3 := Lib.hid (HK2.out.drewN n3)
  have HR3 := Lib.hid (rowKept HR.out ((Kept.refl (fun _ => False) w2).drewN n3) (fun _ _ f => f))
  have HW3 := Lib.hid ((HW1.out.kept0 HK2.out).drewN n3)
  clear HK2 HR
  generalize w2.drewN n3 = w3 at HK3 HR3 HW3 ⊢
  have HSL : Hid (W1.heap.size ≤ w3.heap.size) := Lib.hid HK3.out.size
  rcases HR3.out.2 with ⟨hv, h0⟩ | ⟨gg, cap', cur, hv, hbb, hh, h1, h2, h3, h4⟩
  · injection hv with hv1 hv2 hv3
    subst hv1 hv3
    have hnu0 : g.m.nu = 0 := by have := HNU.out; omega
    have hrz : g.recs = [] := List.length_eq_zero_iff.1 h0
    have HTE : Hid (TsAt w3 (fun k => B1 < k ∧ w.heap.size ≤ k) (.slice none 0 0) (toldL g true)) := Lib.hid (by
      have e : toldL g true = [] := by unfold toldL; rw [hrz]; simp
      rw [e]; exact ⟨⟨none, 0, rfl, fun i hi => by simp at hi⟩⟩)
    obtain ⟨i0, si, sz, ss, sbb⟩ := string_inf
    have HSI := Lib.hid si
    have HLN0 : Hid (g.recs.length = 0) := Lib.hid (by omega)
    have hnz : (g.m.nu : Int) = 0 := by omega
    have hlz : (g.recs.length : Int) = 0 := by omega
    clear hv2 hnu0 hrz h0 si sz ss sbb HR3
    have HT6 := HTE
    have HK6 := HK3
    generalize w3 = w6 at HT6 HK6 HW3 HK3 HSL HTE ⊢
    have hb6 := (HK6.out.block B1 HLT.out id).trans HB1.out
    have HB6 : Hid (w6.heap[B1]? = some (.cells [.slice none 0 0, .int .i64 0, .int .i64 0].toArray 52 (0, 0))) := Lib.hid hb6
    obtain ⟨c0, c1, c2, ff⟩ := three_of hb6
    have f0 := ff 0
    have f1 := ff 1
    have f2 := ff 2
    clear ff hb6
    go_wp2_with (at_builtin; refine wpList_append_own_none rfl _ _ 22 rfl 0 9 i0 1 Try.underlying22 HSI.out (.slice none 0 0) 0 [] rfl (World.ownsRow_nil w6 _ _ 1) rfl ?_)
    have h9 := heap_set (i := 2) (.int .i64 g.m.b) (heap_set (i := 1) (.int .i64 g.m.a) (heap_set (i := 0) (.slice none 0 0) HB6.out))
    have hk9 : Kept (fun k => k = B1) w6 (((w6.setCell ⟨B1, 0, none⟩ (.slice none 0 0)).setCell ⟨B1, 1, none⟩ (.int .i64 g.m.a)).setCell ⟨B1, 2, none⟩ (.int .i64 g.m.b)) := ((kept_set w6 B1 0 _).trans (kept_set _ B1 1 _)).trans (kept_set _ B1 2 _)
    have H9 := Lib.hid h9
    have HK9 := Lib.hid hk9
    clear h9 hk9 c0 c1 c2 f0 f1 f2
    generalize (((w6.setCell ⟨B1, 0, none⟩ (.slice none 0 0)).setCell ⟨B1, 1, none⟩ (.int .i64 g.m.a)).setCell ⟨B1, 2, none⟩ (.int .i64 g.m.b)) = w9 at H9 HK9 ⊢
    have hload := run_loadVar_row (P := Try.prog) _ B1 52 52 _ (0, 0) _ H9.out Try.underlying52 rfl state_info
    have hfin : Kept (fun _ => False) w w9 := by
      have h0 : Kept (fun k => k = B1) w w9 := (HKW.out.mono (fun _ _ f => f.elim)).trans ((HK6.out.mono (fun _ _ f => f.elim)).trans HK9.out)
      exact ⟨h0.os, h0.tape, h0.output, h0.size, fun k hk _ => h0.block k hk (by have := HBE.out; show ¬ (k = B1); omega)⟩
    exact ret_box 4 52 B1 _ Try.results18 rfl hload rfl ⟨none, 0, by rw [HLN.out, HLN0.out]; rfl, ((show TsAt w6 _ (.slice none (toldL g true).length 0) _ by rw [HLN.out, HLN0.out]; exact HT6.out).kept HK9.out (fun k hk e => by have h8 : B1 < k ∧ w.heap.size ≤ k := hk; have e : k = B1 := e; omega)).mono (fun k hk => (show B1 < k ∧ w.heap.size ≤ k from hk).2), hfin⟩
  · injection hv with hv1 hv2 hv3
    subst hv1 hv3
    have hxs := HR3.out.cells (g := gg) rfl
    have HCEL : Hid (∀ j u, ((toldL g true).map Value.string)[j]? = some u → w3.cell? ((⟨gg, 0, none⟩ : Addr).add j) = some u) := Lib.hid (fun j u hj => hxs j u (by
      rw [List.getElem?_map] at hj ⊢
      have e : (toldL g true)[j]? = some (toldL g true)[j]! → True := fun _ => trivial
      cases he : (toldL g true)[j]? with
      | none => rw [he] at hj; cases hj
      | some x =>
        rw [he] at hj
        rw [show g.recs[j]? = some x by
          unfold toldL at he
          exact he]
        exact hj))
    obtain ⟨i0, si, sz, ss, sbb⟩ := string_inf
    have HSI := Lib.hid (And.intro si (And.intro sz (And.intro ss sbb)))
    have HL2 : Hid (((toldL g true).map Value.string).length = g.recs.length * 1) := Lib.hid (by rw [List.length_map, HLN.out, Nat.mul_one])
    have HNL : Hid (g.recs.length ≤ 1048512) := Lib.hid (by have := HNU.out; omega)
    have hcp : g.recs.length ≤ cap := h1
    have hncp : g.recs.length ≤ cap := by have := HNU.out; omega
    clear hxs si sz ss sbb HR3 h1 h2 h3 h4 hh hbb
    go_wp2_with (at_builtin; refine wpList_append_own _ rfl _ _ 22 rfl w3.heap.size 9 i0 (.string ByteArray.empty) 1 16 Try.underlying22 HSI.out.1 HSI.out.2.1 HSI.out.2.2.1 HSI.out.2.2.2 rfl (by decide) (.slice none 0 0) 0 [] rfl (World.ownsRow_nil w3 _ _ 1) ⟨gg, 0, none⟩ g.recs.length cap ((toldL g true).map Value.string) rfl HL2.out HCEL.out (by intro u hu; obtain ⟨x, _, rfl⟩ := List.mem_map.1 hu; rfl) (by unfold maxLen; have := HNL.out; omega) (by have := HNL.out; omega) (Nat.le_refl _) (fun v6 w6 hown6 hg6 hnil6 => ?_); rw [Nat.zero_add, List.nil_append, ← HLN.out] at hown6; have HT6 : Hid (TsAt w6 (fun k => B1 < k ∧ w.heap.size ≤ k) v6 (toldL g true)) := Lib.hid ((ts_row hown6).mono (fun k hk => by have := (hown6.lt k hk).1; have := HSL.out; have := HLT.out; have := HBE.out; omega)); have HK6 := Lib.hid (HK3.out.trans ((Kept.of_grownBy hg6).mono (fun j _ e => by simp [Value.ownBlock] at e))); obtain ⟨ao6, c6, rfl⟩ := slice_of_row hown6; clear hown6 hg6 hnil6; have hb6 := (HK6.out.block B1 HLT.out id).trans HB1.out; have HB6 : Hid (w6.heap[B1]? = some (.cells [.slice none 0 0, .int .i64 0, .int .i64 0].toArray 52 (0, 0))) := Lib.hid hb6; obtain ⟨c0, c1, c2, ff⟩ := three_of hb6; have f0 := ff 0; have f1 := ff 1; have f2 := ff 2; clear ff hb6)
    have h9 := heap_set (i := 2) (.int .i64 g.m.b) (heap_set (i := 1) (.int .i64 g.m.a) (heap_set (i := 0) (.slice ao6 (toldL g true).length c6) HB6.out))
    have hk9 : Kept (fun k => k = B1) w6 (((w6.setCell ⟨B1, 0, none⟩ (.slice ao6 (toldL g true).length c6)).setCell ⟨B1, 1, none⟩ (.int .i64 g.m.a)).setCell ⟨B1, 2, none⟩ (.int .i64 g.m.b)) := ((kept_set w6 B1 0 _).trans (kept_set _ B1 1 _)).trans (kept_set _ B1 2 _)
    have H9 := Lib.hid h9
    have HK9 := Lib.hid hk9
    clear h9 hk9 c0 c1 c2 f0 f1 f2
    generalize (((w6.setCell ⟨B1, 0, none⟩ (.slice ao6 (toldL g true).length c6)).setCell ⟨B1, 1, none⟩ (.int .i64 g.m.a)).setCell ⟨B1, 2, none⟩ (.int .i64 g.m.b)) = w9 at H9 HK9 ⊢
    have hload := run_loadVar_row (P := Try.prog) _ B1 52 52 _ (0, 0) _ H9.out Try.underlying52 rfl state_info
    have hfin : Kept (fun _ => False) w w9 := by
      have h0 : Kept (fun k => k = B1) w w9 := (HKW.out.mono (fun _ _ f => f.elim)).trans ((HK6.out.mono (fun _ _ f => f.elim)).trans HK9.out)
      exact ⟨h0.os, h0.tape, h0.output, h0.size, fun k hk _ => h0.block k hk (by have := HBE.out; show ¬ (k = B1); omega)⟩
    exact ret_box 4 52 B1 _ Try.results18 rfl hload rfl ⟨ao6, c6, rfl, (HT6.out.kept HK9.out (fun k hk e => by have h8 : B1 < k ∧ w.heap.size ≤ k := hk; have e : k = B1 := e; omega)).mono (fun k hk => (show B1 < k ∧ w.heap.size ≤ k from hk).2), hfin⟩
set_option maxRecDepth 100000 in
set_option maxHeartbeats 2000000 in
theorem told_false (hw : Wl Z w lb db g d) (hg : Good d g) : Calls Try.prog 18 #[.pointer (some ⟨lb, 0, none⟩), .bool false] w (ToldPost w g false) := by
  have hsp := hg.half.base.space
  have husp := hg.usp
  have hus := hg.used
  have hll := sizeN_len g.recs
  have hlen : g.recs.length ≤ 1048512 := by omega
  have hnu := hg.nu
  have HNU := Lib.hid hnu
  have hdb := hg.doubt
  have HLN : Hid ((toldL g false).length = g.m.nu) := Lib.hid (by unfold toldL; first | rfl | (simp; omega))
  have hmx : max (g.m.nu : Int) 0 = (g.m.nu : Int) := by omega
  have hmn : min (g.m.nu : Int) (g.recs.length : Int) = (g.m.nu : Int) := by omega
  obtain ⟨B1, hB1⟩ : ∃ B1, w.heap.size = B1 := ⟨_, rfl⟩
  have hb1 : (w.alloc (.cells #[.slice none 0 0, .int .i64 0, .int .i64 0] 52)).heap[B1]? = some (.cells #[.slice none 0 0, .int .i64 0, .int .i64 0] 52 (0, 0)) := by rw [← hB1]; exact heap_alloc_new w _
  have hkw : Kept (fun _ => False) w (w.alloc (.cells #[.slice none 0 0, .int .i64 0, .int .i64 0] 52)) := (Kept.refl _ w).alloc _
  have hlt1 := lt_of_block hb1
  have hw1 := hw.kept0 hkw
  have HBE : Hid (w.heap.size = B1) := Lib.hid hB1
  obtain ⟨W1, hW1⟩ : ∃ W1, w.alloc (.cells #[.slice none 0 0, .int .i64 0, .int .i64 0] 52) = W1 := ⟨_, rfl⟩
  rw [hW1] at hb1 hkw hlt1 hw1
  have HB1 := Lib.hid hb1
  have HKW := Lib.hid hkw
  have HLT := Lib.hid hlt1
  have HW1 := Lib.hid hw1
  have HWE := Lib.hid hW1
  clear hw hg hsp husp hus hll hB1 hb1 hkw hlt1 hw1 hW1 hnu
  go_enter Try.func18, Try.ntmps18
  go_wp2_with fail
  rw [HWE.out]
  refine (records_any HW1.out hdb (by omega)).mono ?_
  rintro e w2 ⟨v', rfl, hr, hk2⟩
  have HR := Lib.hid hr
  have HK2 := Lib.hid hk2
  obtain ⟨ao, cap, rfl⟩ := slice_of_row hr
  clear hr hk2
  rw [HBE.out]
  go_wp2_with fail
  refine (marks_any (HW1.out.kept0 HK2.out)).mono ?_
  rintro e w3 ⟨rfl, n3, rfl⟩
  have HK3 := Lib.hid (HK2.out.drewN n3)
  have HR3 := Lib.hid (rowKept HR.out ((Kept.refl (fun _ => False) w2).drewN n3) (fun _ _ f => f))
  have HW3 := Lib.hid ((HW1.out.kept0 HK2.out).drewN n3)
  clear HK2 HR
  generalize w2.drewN n3 = w3 at HK3 HR3 HW3 ⊢
  go_wp2_with fail
  refine (synced_any HW3.out).mono ?_
  rintro e w4 ⟨rfl, rfl⟩
  have HSL : Hid (W1.heap.size ≤ w3.heap.size) := Lib.hid HK3.out.size
  rcases HR3.out.2 with ⟨hv, h0⟩ | ⟨gg, cap', cur, hv, hbb, hh, h1, h2, h3, h4⟩
  · injection hv with hv1 hv2 hv3
    subst hv1 hv3
    have hnu0 : g.m.nu = 0 := by have := HNU.out; omega
    have hrz : g.recs = [] := List.length_eq_zero_iff.1 h0
    have HTE : Hid (TsAt w3 (fun k => B1 < k ∧ w.heap.size ≤ k) (.slice none 0 0) (toldL g false)) := Lib.hid (by
      have e : toldL g false = [] := by unfold toldL; rw [hrz]; simp
      rw [e]; exact ⟨⟨none, 0, rfl, fun i hi => by simp at hi⟩⟩)
    obtain ⟨i0, si, sz, ss, sbb⟩ := string_inf
    have HSI := Lib.hid si
    have HLN0 : Hid (g.m.nu = 0) := Lib.hid (by omega)
    have hnz : (g.m.nu : Int) = 0 := by omega
    have hlz : (g.recs.length : Int) = 0 := by omega
    clear hv2 hnu0 hrz h0 si sz ss sbb HR3
    have HT6 := HTE
    have HK6 := HK3
    generalize w3 = w6 at HT6 HK6 HW3 HK3 HSL HTE ⊢
    have hb6 := (HK6.out.block B1 HLT.out id).trans HB1.out
    have HB6 : Hid (w6.heap[B1]? = some (.cells [.slice none 0 0, .int .i64 0, .int .i64 0].toArray 52 (0, 0))) := Lib.hid hb6
    obtain ⟨c0, c1, c2, ff⟩ := three_of hb6
    have f0 := ff 0
    have f1 := ff 1
    have f2 := ff 2
    clear ff hb6
    go_wp2_with (at_builtin; refine wpList_append_own_none rfl _ _ 22 rfl 0 9 i0 1 Try.underlying22 HSI.out (.slice none 0 0) 0 [] rfl (World.ownsRow_nil w6 _ _ 1) rfl ?_)
    have h9 := heap_set (i := 2) (.int .i64 g.m.b) (heap_set (i := 1) (.int .i64 g.m.a) (heap_set (i := 0) (.slice none 0 0) HB6.out))
    have hk9 : Kept (fun k => k = B1) w6 (((w6.setCell ⟨B1, 0, none⟩ (.slice none 0 0)).setCell ⟨B1, 1, none⟩ (.int .i64 g.m.a)).setCell ⟨B1, 2, none⟩ (.int .i64 g.m.b)) := ((kept_set w6 B1 0 _).trans (kept_set _ B1 1 _)).trans (kept_set _ B1 2 _)
    have H9 := Lib.hid h9
    have HK9 := Lib.hid hk9
    clear h9 hk9 c0 c1 c2 f0 f1 f2
    generalize (((w6.setCell ⟨B1, 0, none⟩ (.slice none 0 0)).setCell ⟨B1, 1, none⟩ (.int .i64 g.m.a)).setCell ⟨B1, 2, none⟩ (.int .i64 g.m.b)) = w9 at H9 HK9 ⊢
    have hload := run_loadVar_row (P := Try.prog) _ B1 52 52 _ (0, 0) _ H9.out Try.underlying52 rfl state_info
    have hfin : Kept (fun _ => False) w w9 := by
      have h0 : Kept (fun k => k = B1) w w9 := (HKW.out.mono (fun _ _ f => f.elim)).trans ((HK6.out.mono (fun _ _ f => f.elim)).trans HK9.out)
      exact ⟨h0.os, h0.tape, h0.output, h0.size, fun k hk _ => h0.block k hk (by have := HBE.out; show ¬ (k = B1); omega)⟩
    exact ret_box 4 52 B1 _ Try.results18 rfl hload rfl ⟨none, 0, by rw [HLN.out, HLN0.out]; rfl, ((show TsAt w6 _ (.slice none (toldL g false).length 0) _ by rw [HLN.out, HLN0.out]; exact HT6.out).kept HK9.out (fun k hk e => by have h8 : B1 < k ∧ w.heap.size ≤ k := hk; have e : k = B1 := e; omega)).mono (fun k hk => (show B1 < k ∧ w.heap.size ≤ k from hk).2), hfin⟩
  · injection hv with hv1 hv2 hv3
    subst hv1 hv3
    have hxs := HR3.out.cells (g := gg) rfl
    have HCEL : Hid (∀ j u, ((toldL g false).map Value.string)[j]? = some u → w3.cell? ((⟨gg, 0, none⟩ : Addr).add j) = some u) := Lib.hid (fun j u hj => hxs j u (by
      rw [List.getElem?_map] at hj ⊢
      have e : (toldL g false)[j]? = some (toldL g false)[j]! → True := fun _ => trivial
      cases he : (toldL g false)[j]? with
      | none => rw [he] at hj; cases hj
      | some x =>
        rw [he] at hj
        rw [show g.recs[j]? = some x by
          unfold toldL at he
          rw [if_neg (by decide), List.getElem?_take] at he; split at he; exact he; cases he]
        exact hj))
    obtain ⟨i0, si, sz, ss, sbb⟩ := string_inf
    have HSI := Lib.hid (And.intro si (And.intro sz (And.intro ss sbb)))
    have HL2 : Hid (((toldL g false).map Value.string).length = g.m.nu * 1) := Lib.hid (by rw [List.length_map, HLN.out, Nat.mul_one])
    have HNL : Hid (g.m.nu ≤ 1048512) := Lib.hid (by have := HNU.out; omega)
    have hcp : g.recs.length ≤ cap := h1
    have hncp : g.m.nu ≤ cap := by have := HNU.out; omega
    clear hxs si sz ss sbb HR3 h1 h2 h3 h4 hh hbb
    go_wp2_with (at_builtin; refine wpList_append_own _ rfl _ _ 22 rfl w3.heap.size 9 i0 (.string ByteArray.empty) 1 16 Try.underlying22 HSI.out.1 HSI.out.2.1 HSI.out.2.2.1 HSI.out.2.2.2 rfl (by decide) (.slice none 0 0) 0 [] rfl (World.ownsRow_nil w3 _ _ 1) ⟨gg, 0, none⟩ g.m.nu cap ((toldL g false).map Value.string) rfl HL2.out HCEL.out (by intro u hu; obtain ⟨x, _, rfl⟩ := List.mem_map.1 hu; rfl) (by unfold maxLen; have := HNL.out; omega) (by have := HNL.out; omega) (Nat.le_refl _) (fun v6 w6 hown6 hg6 hnil6 => ?_); rw [Nat.zero_add, List.nil_append, ← HLN.out] at hown6; have HT6 : Hid (TsAt w6 (fun k => B1 < k ∧ w.heap.size ≤ k) v6 (toldL g false)) := Lib.hid ((ts_row hown6).mono (fun k hk => by have := (hown6.lt k hk).1; have := HSL.out; have := HLT.out; have := HBE.out; omega)); have HK6 := Lib.hid (HK3.out.trans ((Kept.of_grownBy hg6).mono (fun j _ e => by simp [Value.ownBlock] at e))); obtain ⟨ao6, c6, rfl⟩ := slice_of_row hown6; clear hown6 hg6 hnil6; have hb6 := (HK6.out.block B1 HLT.out id).trans HB1.out; have HB6 : Hid (w6.heap[B1]? = some (.cells [.slice none 0 0, .int .i64 0, .int .i64 0].toArray 52 (0, 0))) := Lib.hid hb6; obtain ⟨c0, c1, c2, ff⟩ := three_of hb6; have f0 := ff 0; have f1 := ff 1; have f2 := ff 2; clear ff hb6)
    have h9 := heap_set (i := 2) (.int .i64 g.m.b) (heap_set (i := 1) (.int .i64 g.m.a) (heap_set (i := 0) (.slice ao6 (toldL g false).length c6) HB6.out))
    have hk9 : Kept (fun k => k = B1) w6 (((w6.setCell ⟨B1, 0, none⟩ (.slice ao6 (toldL g false).length c6)).setCell ⟨B1, 1, none⟩ (.int .i64 g.m.a)).setCell ⟨B1, 2, none⟩ (.int .i64 g.m.b)) := ((kept_set w6 B1 0 _).trans (kept_set _ B1 1 _)).trans (kept_set _ B1 2 _)
    have H9 := Lib.hid h9
    have HK9 := Lib.hid hk9
    clear h9 hk9 c0 c1 c2 f0 f1 f2
    generalize (((w6.setCell ⟨B1, 0, none⟩ (.slice ao6 (toldL g false).length c6)).setCell ⟨B1, 1, none⟩ (.int .i64 g.m.a)).setCell ⟨B1, 2, none⟩ (.int .i64 g.m.b)) = w9 at H9 HK9 ⊢
    have hload := run_loadVar_row (P := Try.prog) _ B1 52 52 _ (0, 0) _ H9.out Try.underlying52 rfl state_info
    have hfin : Kept (fun _ => False) w w9 := by
      have h0 : Kept (fun k => k = B1) w w9 := (HKW.out.mono (fun _ _ f => f.elim)).trans ((HK6.out.mono (fun _ _ f => f.elim)).trans HK9.out)
      exact ⟨h0.os, h0.tape, h0.output, h0.size, fun k hk _ => h0.block k hk (by have := HBE.out; show ¬ (k = B1); omega)⟩
    exact ret_box 4 52 B1 _ Try.results18 rfl hload rfl ⟨ao6, c6, rfl, (HT6.out.kept HK9.out (fun k hk e => by have h8 : B1 < k ∧ w.heap.size ≤ k := hk; have e : k = B1 := e; omega)).mono (fun k hk => (show B1 < k ∧ w.heap.size ≤ k from hk).2), hfin⟩
end
end Go.Proofs.Ytcjfpddmpiggoaa
