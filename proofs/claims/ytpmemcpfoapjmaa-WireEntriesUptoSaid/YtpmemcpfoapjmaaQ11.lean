/- Entry: Put and Get. The document's own answers of layer 2: bytes read as entry. The document's own answers of layer 2: lists of rows, of texts, laid. The document's own answers of layer 2: texts, laid. The document's own answers of layer 2: a part, laid. The document's own answers of layer 2: a txn, laid. -/
import Derived.Test.YtpmemcpfoapjmaaQ06
import Derived.Test.YtpmemcpfoapjmaaQ10
import Derived.Test.YtpmemcpfoapjmaaQ07
import Derived.Outline
import Derived.Test.YtpmemcpfoapjmaaQ08
namespace Go.Proofs.Ytpmemcpfoapjmaa
open Go.ChangeShapes Go.WideShapes Go.ChangeAt Go.RowKit
set_option linter.unusedVariables false

def zEntry : Entry := ⟨0, 0, 0, ⟨⟨0, ⟨#[]⟩, ⟨#[]⟩, [], 0, 0, 0⟩, []⟩⟩
theorem zEntry_at (w : World) (ok : Nat → Prop) : entryE w ok [.int .i64 0, .int .i64 0, .int .i64 0, .int .i64 0, .string ⟨#[]⟩, .string ⟨#[]⟩, .slice none 0 0, .int .i64 0, .int .i64 0, .int .i64 0, .slice none 0 0] zEntry := ⟨_, rfl, ⟨_, ⟨_, rfl, ListR.nil _ _ _ _, i64_zero, str_empty, str_empty, i64_zero, i64_zero, i64_zero, ⟨_, _, _, rfl⟩⟩, ListR.nil _ _ _ _⟩, i64_zero, i64_zero, i64_zero⟩

set_option maxRecDepth 100000 in
theorem whole_entry (x : Entry) (cs : List Value) (ok : Nat → Prop) (w : World) (hE : entryE w ok cs x) (hi : In w ok) (hl : (entryF.lay x).length ≤ 144900000000000) :
    Calls Try.prog 14 #[.agg cs.toArray, .func (.func 15) #[] #[]] w (OldStr w (entryF.lay x)) := by
  have hfl := entryE_flat hE
  have hsz : (Try.prog.info? 28).map (·.size) = some cs.length := by rw [hfl.1]; kernel_rfl
  have HSZ := Lib.hid hsz
  have hA : Kept (fun _ => False) w (w.alloc (.cells cs.toArray 28)) := (Kept.refl _ w).alloc _
  have hO1 : Old w ((w.alloc (.cells cs.toArray 28)).alloc (.cells #[.slice none 0 0] 87)) := hA.alloc _
  have hE1 := entryE_ok.keep hE hO1 (disj_none _)
  have hi1 := hi.kept hO1
  have hW1 := new_at (w.alloc (.cells cs.toArray 28))
  have hrg : ((w.alloc (.cells cs.toArray 28)).alloc (.cells #[.slice none 0 0] 87)).rangeAt w.heap.size 0 cs := range_row (by
    rw [((Kept.refl (fun _ => False) (w.alloc (.cells cs.toArray 28))).alloc (.cells #[.slice none 0 0] 87)).block _ (by simp) id]; exact heap_alloc_new w _)
  have HRG := Lib.hid hrg
  have hws : (w.alloc (.cells cs.toArray 28)).heap.size = w.heap.size + 1 := by simp
  rw [hws] at hW1
  have hd : Disj ok (WS (w.heap.size + 1) (.slice none 0 0)) := fun g hg hs => by
    have := hi g hg
    rcases hs with hs | hs
    · omega
    · simp [Value.ownBlock] at hs
  have ho : Off w.heap.size (WS (w.heap.size + 1) (.slice none 0 0)) := fun g hs => by
    rcases hs with hs | hs
    · omega
    · simp [Value.ownBlock] at hs
  clear hfl hsz hA hE hi hrg hws
  go_enter Try.func14, Try.ntmps14
  go_wp2_with fail
  refine (new_any _).mono ?_
  rintro en w1 ⟨rfl, rfl⟩
  go_wp2_with (refine wpList_load_mid rfl 28 (.tmp 2) rfl w.heap.size 0 rfl cs _ HRG.out Try.underlying28 rfl HSZ.out ?_)
  refine (put_entry x cs ok _ _ _ [] hW1 hE1 hd hi1 (by simpa using hl)).mono ?_
  rintro en w2 ⟨v2, rfl, hW2, hk2, hs2⟩
  have hO2 := hO1.step hk2 ho
  clear hE1 hi1 hW1 hd ho hO1 hk2 hs2 HRG HSZ
  go_wp2_with fail
  refine (wbytes_any _ _ _ _ hW2).mono ?_
  rintro en w3 ⟨rfl, n3, rfl⟩
  have hO3 := hO2.drewN n3
  go_wp2_with fail
  go_ret
  exact ⟨rfl, hO3⟩

set_option maxRecDepth 100000 in
theorem PutEntry_any (x : Entry) (cs : List Value) (ok : Nat → Prop) (w : World) (hE : entryE w ok cs x) (hi : In w ok) (hl : (entryF.lay x).length ≤ 144900000000000) :
    Calls Try.prog 6 #[.agg cs.toArray] w (OldStr w (entryF.lay x)) := by
  have hfl := entryE_flat hE
  have hsz : (Try.prog.info? 28).map (·.size) = some cs.length := by rw [hfl.1]; kernel_rfl
  have HSZ := Lib.hid hsz
  have hA : Old w (w.alloc (.cells cs.toArray 28)) := (Kept.refl _ w).alloc _
  have hE1 := entryE_ok.keep hE hA (disj_none _)
  have hi1 := hi.kept hA
  have HRG := Lib.hid (range_new w cs 28)
  clear hfl hsz
  go_enter Try.func6, Try.ntmps6
  go_wp2_with (refine wpList_load_mid rfl 28 (.tmp 1) rfl w.heap.size 0 rfl cs _ HRG.out Try.underlying28 rfl HSZ.out ?_)
  refine (whole_entry x cs ok _ hE1 hi1 hl).mono ?_
  rintro en w1 ⟨rfl, hO1⟩
  have hO := hA.none hO1
  clear hA hE1 hi1 hO1
  go_wp2_with fail
  go_ret
  exact ⟨rfl, hO⟩

set_option maxRecDepth 100000 in
set_option maxHeartbeats 600000 in
theorem taken_entry (s : ByteArray) (w : World) (hs : s.size ≤ maxLen) :
    Calls Try.prog 38 #[.string s, .func (.func 39) #[] #[]] w (TakenPost entryE zEntry w (entryF.read s)) := by
  have hsz : (Try.prog.info? 28).map (·.size) = some 11 := by kernel_rfl
  have HSZ := Lib.hid hsz; clear hsz
  obtain ⟨x, q, e', hget⟩ : ∃ x q e', entryF.get s.data.toList 0 0 = (x, q, e') := ⟨_, _, _, eta3 _⟩
  have hread : entryF.read s = if rEndE s.data.toList.length q e' = 0 then some x else none := by unfold Fmt.read; rw [hget]
  generalize entryF.read s = ro at hread ⊢
  have HGET := Lib.hid hget; clear hget
  have HREAD := Lib.hid hread; clear hread
  go_enter Try.func38, Try.ntmps38
  go_wp2_with fail
  refine (read_any s _ hs).mono ?_
  rintro en w1 ⟨b, v, rfl, hR, hb, hv, hk1⟩
  have hge : w.heap.size + 1 ≤ b := by simpa using hb
  go_wp2_with fail
  refine (get_entry _ b v _ _ _ hR HGET.out).mono ?_
  rintro en w2 ⟨cs, rfl, hE2, hR2, hk2⟩
  have hfl := entryE_flat hE2
  have HFL := Lib.hid hfl.1
  have HF1 := Lib.hid hfl.2
  have hR3 := hR2.alloc (.cells cs.toArray 28)
  have HHR := Lib.hid (⟨hR, hk1, hge, hk2⟩ : RAt w1 b v s.data.toList 0 0 ∧ Kept (fun _ => False) (w.alloc (.cells #[.int .i64 0, .int .i64 0, .int .i64 0, .int .i64 0, .string ⟨#[]⟩, .string ⟨#[]⟩, .slice none 0 0, .int .i64 0, .int .i64 0, .int .i64 0, .slice none 0 0] 28)) w1 ∧ w.heap.size + 1 ≤ b ∧ Kept (RS b) w1 w2)
  clear hR hk1 hge hk2 hb hv hR2 hfl
  go_wp2_with (refine wpList_store_new w2 rfl 28 _ (.tmp 13) rfl _ cs rfl rfl (by rw [HFL.out]; exact HSZ.out) HFL.out.symm HF1.out ?_)
  refine (rend_e _ b v _ _ _ hR3).mono ?_
  rintro en w4 ⟨rfl, hR4, hk4⟩
  have st : TakenSt w w1 w2 w4 b v s.data.toList 28 #[.int .i64 0, .int .i64 0, .int .i64 0, .int .i64 0, .string ⟨#[]⟩, .string ⟨#[]⟩, .slice none 0 0, .int .i64 0, .int .i64 0, .int .i64 0, .slice none 0 0] cs := ⟨HHR.out.1, HHR.out.2.1, HHR.out.2.2.1, HHR.out.2.2.2, hk4⟩
  have HRES := Lib.hid st.res
  have HBOX := Lib.hid (range_row st.box)
  have HO := Lib.hid st.old
  have HREL := Lib.hid (st.rel entryE_ok hE2)
  clear st HHR hR3 hR4 hk4 hE2
  by_cases h0 : rEndE s.data.toList.length q e' = 0
  · have hrd : ro = some x := by rw [HREAD.out, if_pos h0]
    have HRD := Lib.hid hrd; clear hrd
    have h0' : ((rEndE s.data.toList.length q e' : Nat) : Int) = 0 := by omega
    generalize ((rEndE s.data.toList.length q e' : Nat) : Int) = r at h0'
    subst h0'
    clear h0
    go_wp2_with (first | (refine wpList_load_mid rfl 28 (.tmp 7) rfl w2.heap.size 0 rfl cs _ HBOX.out Try.underlying28 rfl (by rw [HFL.out]; exact HSZ.out) ?_) | (refine wpList_store_row _ rfl 28 _ _ rfl w.heap.size _ cs rfl rfl HRES.out (by rw [HFL.out]; exact HSZ.out) HFL.out.symm HF1.out ?_))
    have hrow := setRow_heap w4 w.heap.size _ cs.toArray _ _ HRES.out
    have hload := run_loadVar_row (P := Try.prog) _ w.heap.size 28 28 _ (0, 0) _ hrow Try.underlying28 rfl (by rw [List.size_toArray, HFL.out]; exact HSZ.out)
    exact ret_cell_tmp 4 28 5 w.heap.size _ _ Try.results38 rfl rfl hload rfl ⟨cs, by rw [HRD.out]; rfl, old_setRow HO.out _, by rw [HRD.out]; exact HREL.out _⟩
  · have hrd : ro = none := by rw [HREAD.out, if_neg h0]
    have HRD := Lib.hid hrd; clear hrd
    have h0' : ¬ ((rEndE s.data.toList.length q e' : Nat) : Int) = 0 := by omega
    generalize ((rEndE s.data.toList.length q e' : Nat) : Int) = r at h0'
    clear h0
    have hA : Old w4 (w4.alloc (.cells #[.int .i64 0, .int .i64 0, .int .i64 0, .int .i64 0, .string ⟨#[]⟩, .string ⟨#[]⟩, .slice none 0 0, .int .i64 0, .int .i64 0, .int .i64 0, .slice none 0 0] 28)) := (Kept.refl _ w4).alloc _
    have HR5 : Hid ((w4.alloc (.cells #[.int .i64 0, .int .i64 0, .int .i64 0, .int .i64 0, .string ⟨#[]⟩, .string ⟨#[]⟩, .slice none 0 0, .int .i64 0, .int .i64 0, .int .i64 0, .slice none 0 0] 28)).heap[w.heap.size]? = some (.cells #[.int .i64 0, .int .i64 0, .int .i64 0, .int .i64 0, .string ⟨#[]⟩, .string ⟨#[]⟩, .slice none 0 0, .int .i64 0, .int .i64 0, .int .i64 0, .slice none 0 0] 28 (0, 0))) := by rw [hA.block _ (lt_of_block HRES.out) id]; exact HRES.out
    obtain ⟨zl, hzl⟩ : ∃ zl : List Value, zl = [.int .i64 0, .int .i64 0, .int .i64 0, .int .i64 0, .string ⟨#[]⟩, .string ⟨#[]⟩, .slice none 0 0, .int .i64 0, .int .i64 0, .int .i64 0, .slice none 0 0] := ⟨_, rfl⟩
    have HRN : Hid ((w4.alloc (.cells #[.int .i64 0, .int .i64 0, .int .i64 0, .int .i64 0, .string ⟨#[]⟩, .string ⟨#[]⟩, .slice none 0 0, .int .i64 0, .int .i64 0, .int .i64 0, .slice none 0 0] 28)).rangeAt w4.heap.size 0 zl) := by rw [hzl]; exact range_new w4 [.int .i64 0, .int .i64 0, .int .i64 0, .int .i64 0, .string ⟨#[]⟩, .string ⟨#[]⟩, .slice none 0 0, .int .i64 0, .int .i64 0, .int .i64 0, .slice none 0 0] 28
    have HZE : Hid (∀ (W : World) (ok : Nat → Prop), entryE W ok zl zEntry) := by rw [hzl]; exact zEntry_at
    have hzf : Flat 11 zl := entryE_flat (HZE.out w (fun _ => False))
    have HZL := Lib.hid hzf.1
    have HZ1 := Lib.hid hzf.2
    clear hzl hzf
    have HO5 := Lib.hid (HO.out.none hA)
    clear hA HREL
    go_wp2_with (first | (refine wpList_load_mid rfl 28 (.tmp 8) rfl w4.heap.size 0 rfl zl _ HRN.out Try.underlying28 rfl (by rw [HZL.out]; exact HSZ.out) ?_) | (refine wpList_store_row _ rfl 28 _ _ rfl w.heap.size _ zl rfl rfl HR5.out (by rw [HZL.out]; exact HSZ.out) HZL.out.symm HZ1.out ?_))
    have hrow := setRow_heap (w4.alloc (.cells #[.int .i64 0, .int .i64 0, .int .i64 0, .int .i64 0, .string ⟨#[]⟩, .string ⟨#[]⟩, .slice none 0 0, .int .i64 0, .int .i64 0, .int .i64 0, .slice none 0 0] 28)) w.heap.size _ zl.toArray _ _ HR5.out
    have hload := run_loadVar_row (P := Try.prog) _ w.heap.size 28 28 _ (0, 0) _ hrow Try.underlying28 rfl (by rw [List.size_toArray, HZL.out]; exact HSZ.out)
    exact ret_cell_tmp 4 28 5 w.heap.size _ _ Try.results38 rfl rfl hload rfl ⟨_, by rw [HRD.out]; rfl, old_setRow HO5.out _, by rw [HRD.out]; exact HZE.out _ _⟩

set_option maxRecDepth 100000 in
theorem GetEntry_any (s : ByteArray) (w : World) (hs : s.size ≤ maxLen) :
    Calls Try.prog 19 #[.string s] w (TakenPost entryE zEntry w (entryF.read s)) := by
  have hsz : (Try.prog.info? 28).map (·.size) = some 11 := by kernel_rfl
  have HSZ := Lib.hid hsz; clear hsz
  have hbk := heap_alloc_new w (.cells #[.int .i64 0, .int .i64 0, .int .i64 0, .int .i64 0, .string ⟨#[]⟩, .string ⟨#[]⟩, .slice none 0 0, .int .i64 0, .int .i64 0, .int .i64 0, .slice none 0 0] 28)
  have hA : Old w (w.alloc (.cells #[.int .i64 0, .int .i64 0, .int .i64 0, .int .i64 0, .string ⟨#[]⟩, .string ⟨#[]⟩, .slice none 0 0, .int .i64 0, .int .i64 0, .int .i64 0, .slice none 0 0] 28)) := (Kept.refl _ w).alloc _
  go_enter Try.func19, Try.ntmps19
  go_wp2_with fail
  refine (taken_entry s _ hs).mono ?_
  rintro en w1 ⟨cs, rfl, hO1, hE1⟩
  have hfl := entryE_flat hE1
  have HFL := Lib.hid hfl.1
  have HF1 := Lib.hid hfl.2
  have HRES : Hid (w1.heap[w.heap.size]? = some (.cells #[.int .i64 0, .int .i64 0, .int .i64 0, .int .i64 0, .string ⟨#[]⟩, .string ⟨#[]⟩, .slice none 0 0, .int .i64 0, .int .i64 0, .int .i64 0, .slice none 0 0] 28 (0, 0))) := by rw [hO1.block _ (lt_of_block hbk) id]; exact hbk
  have HO := Lib.hid (hA.none hO1)
  have HE := Lib.hid (fun c => fin_E entryE_ok (w := w) hE1 (by simp) c)
  clear hbk hA hfl hO1 hE1
  go_wp2_with (refine wpList_store_row _ rfl 28 _ _ rfl w.heap.size _ cs rfl rfl HRES.out (by rw [HFL.out]; exact HSZ.out) HFL.out.symm HF1.out ?_)
  have hrow := setRow_heap w1 w.heap.size _ cs.toArray _ _ HRES.out
  have hload := run_loadVar_row (P := Try.prog) _ w.heap.size 28 28 _ (0, 0) _ hrow Try.underlying28 rfl (by rw [List.size_toArray, HFL.out]; exact HSZ.out)
  exact ret_cell_tmp 2 28 3 w.heap.size _ _ Try.results19 rfl rfl hload rfl ⟨cs, rfl, old_setRow HO.out _, HE.out _⟩

end Go.Proofs.Ytpmemcpfoapjmaa

namespace Go.Proofs.Ytpmemcpfoapjmaa
open Go.ChangeShapes Go.WideShapes Go.ChangeAt Go.RowKit
set_option linter.unusedVariables false

set_option maxRecDepth 100000 in
set_option maxHeartbeats 1600000 in
theorem refget_entry (s : ByteArray) (w : World) (hs : s.size ≤ 140737488355328) :
    Calls Try.prog 18 #[.string s] w (TakenPost entryE zEntry w (entryF.read s)) := by
  have HSZ := Lib.hid (show (Try.prog.info? 28).map (·.size) = some 11 by kernel_rfl)
  obtain ⟨x, q, e, g1⟩ : ∃ aa qq ee, entryF.get s.data.toList 0 0 = (aa, qq, ee) := ⟨_, _, _, eta3 _⟩
  have hread : entryF.read s = if rEndE s.data.toList.length q e = 0 then some x else none := by unfold Fmt.read; rw [g1]
  rw [str_len] at hread
  generalize entryF.read s = ro at hread ⊢
  have HREAD := Lib.hid hread; clear hread
  have KE := Lib.hid (fend_of s q e)
  have HE0 := Lib.hid (show rEndE s.size q e = 0 → e = 0 from fun h => (rEndE_zero h).1)
  generalize hr : rEndE s.size q e = r at HREAD KE HE0
  clear hr
  have hW : FAt ((w.alloc (.cells ([.int .i64 0, .int .i64 0, .int .i64 0, .int .i64 0, .string ⟨#[]⟩, .string ⟨#[]⟩, .slice none 0 0, .int .i64 0, .int .i64 0, .int .i64 0, .slice none 0 0] : List Value).toArray 28)).alloc (.cells #[.string s, .int .i64 0, .int .i64 0] 72)) (w.heap.size + 1) s 0 0 := by
    have h := fresh_reader (w.alloc (.cells ([.int .i64 0, .int .i64 0, .int .i64 0, .int .i64 0, .string ⟨#[]⟩, .string ⟨#[]⟩, .slice none 0 0, .int .i64 0, .int .i64 0, .int .i64 0, .slice none 0 0] : List Value).toArray 28)) s hs
    rwa [show (w.alloc (.cells ([.int .i64 0, .int .i64 0, .int .i64 0, .int .i64 0, .string ⟨#[]⟩, .string ⟨#[]⟩, .slice none 0 0, .int .i64 0, .int .i64 0, .int .i64 0, .slice none 0 0] : List Value).toArray 28)).heap.size = w.heap.size + 1 from by simp] at h
  have hb0 : ((w.alloc (.cells ([.int .i64 0, .int .i64 0, .int .i64 0, .int .i64 0, .string ⟨#[]⟩, .string ⟨#[]⟩, .slice none 0 0, .int .i64 0, .int .i64 0, .int .i64 0, .slice none 0 0] : List Value).toArray 28)).alloc (.cells #[.string s, .int .i64 0, .int .i64 0] 72)).heap[w.heap.size]? = some (.cells ([.int .i64 0, .int .i64 0, .int .i64 0, .int .i64 0, .string ⟨#[]⟩, .string ⟨#[]⟩, .slice none 0 0, .int .i64 0, .int .i64 0, .int .i64 0, .slice none 0 0] : List Value).toArray 28 (0, 0)) := by
    rw [((Old.refl (w.alloc (.cells ([.int .i64 0, .int .i64 0, .int .i64 0, .int .i64 0, .string ⟨#[]⟩, .string ⟨#[]⟩, .slice none 0 0, .int .i64 0, .int .i64 0, .int .i64 0, .slice none 0 0] : List Value).toArray 28))).make _).block _ (by simp) id]; exact heap_alloc_new w _
  have hO0 : Old w ((w.alloc (.cells ([.int .i64 0, .int .i64 0, .int .i64 0, .int .i64 0, .string ⟨#[]⟩, .string ⟨#[]⟩, .slice none 0 0, .int .i64 0, .int .i64 0, .int .i64 0, .slice none 0 0] : List Value).toArray 28)).alloc (.cells #[.string s, .int .i64 0, .int .i64 0] 72)) := ((Old.refl w).make _).make _
  have hs0 : w.heap.size + 2 ≤ ((w.alloc (.cells ([.int .i64 0, .int .i64 0, .int .i64 0, .int .i64 0, .string ⟨#[]⟩, .string ⟨#[]⟩, .slice none 0 0, .int .i64 0, .int .i64 0, .int .i64 0, .slice none 0 0] : List Value).toArray 28)).alloc (.cells #[.string s, .int .i64 0, .int .i64 0] 72)).heap.size := by simp
  have K1 := Lib.hid (reftake_entry _ _ s 0 0 0 hW (fun _ => rfl) g1)
  have HB := Lib.hid hb0; clear hb0
  have HO := Lib.hid hO0; clear hO0
  have HS0 := Lib.hid hs0; clear hs0
  clear hW g1
  go_enter Try.func18, Try.ntmps18
  go_wp2_with fail
  refine K1.out.mono ?_
  rintro en w0 ⟨cs, p0, rfl, hfl, hnl, hE0, hF0, hp0, hk0⟩
  have hA : Kept (fun _ => False) w0 (w0.alloc (.cells cs.toArray 28)) := (Kept.refl _ w0).alloc _
  have hz0 := Nat.le_trans HS0.out hk0.size
  have hbr : w0.heap[w.heap.size]? = some (.cells ([.int .i64 0, .int .i64 0, .int .i64 0, .int .i64 0, .string ⟨#[]⟩, .string ⟨#[]⟩, .slice none 0 0, .int .i64 0, .int .i64 0, .int .i64 0, .slice none 0 0] : List Value).toArray 28 (0, 0)) := (hk0.block _ (lt_of_block HB.out) (fun h => by have h' : w.heap.size = w.heap.size + 1 := h; omega)).trans HB.out
  have hbr1 := (hA.block _ (lt_of_block hbr) id).trans hbr
  have hO1 : Old w w0 := HO.out.step hk0 (fun k h => by have h' : k = w.heap.size + 1 := h; omega)
  have hO2 := hO1.none hA
  have hF1 := hF0.keep hA id
  have hbox := heap_alloc_new w0 (.cells cs.toArray 28)
  have hE1 : WkE e entryE (w0.alloc (.cells cs.toArray 28)) (fun j => w.heap.size + 2 ≤ j ∧ j ≠ w0.heap.size) cs x :=
    (WkE_ok entryE_ok).keep ((WkE_ok entryE_ok).mono hE0 (fun j hj hj' => ⟨Nat.le_trans HS0.out hj', by omega⟩)) hA (disj_none _)
  have HFL := Lib.hid hfl
  have HP0 := Lib.hid hp0
  clear hk0 hbr hO1 hF0 hE0 hfl hp0 hnl hA K1 HB HO HS0
  go_wp2_with (refine wpList_store_new w0 rfl 28 _ _ rfl _ cs rfl rfl (by rw [HFL.out.1]; exact HSZ.out) HFL.out.1.symm HFL.out.2 ?_)
  refine (KE.out _ _ _ hF1 HP0.out).mono ?_
  rintro en wz ⟨pz, rfl, hFz, hpz, hkz⟩
  have HBX := Lib.hid ((hkz.block _ (lt_of_block hbox) (fun h => by have h' : w0.heap.size = w.heap.size + 1 := h; omega)).trans hbox)
  have HRES := Lib.hid ((hkz.block _ (lt_of_block hbr1) (fun h => by have h' : w.heap.size = w.heap.size + 1 := h; omega)).trans hbr1)
  have HOZ := Lib.hid (hO2.step hkz (fun k h => by have h' : k = w.heap.size + 1 := h; omega))
  have HEZ := Lib.hid ((WkE_ok entryE_ok).keep hE1 hkz (fun j hj hs => by have := hj.1; have hs' : j = w.heap.size + 1 := hs; omega))
  clear hkz hpz hFz hF1 hbox hbr1 hO2 hE1 HP0 KE
  by_cases h0 : r = 0
  · have hrd : ro = some x := by rw [HREAD.out, if_pos h0]
    have HRD := Lib.hid hrd; clear hrd
    have HEE := Lib.hid (HE0.out h0)
    have h0' : ((r : Nat) : Int) = 0 := by omega
    generalize ((r : Nat) : Int) = ri at h0'
    subst h0'
    clear h0 HREAD HE0
    have HRG := Lib.hid (range_row HBX.out)
    have HSE2 := Lib.hid (info_len HSZ.out HFL.out.1)
    go_wp2_with (first
      | (refine wpList_load_mid rfl 28 (.tmp 5) rfl w0.heap.size 0 rfl cs _ HRG.out Try.underlying28 rfl HSE2.out ?_)
      | (refine wpList_store_row _ rfl 28 (.tmp 2) (.tmp 15) rfl w.heap.size _ cs rfl rfl HRES.out HSE2.out HFL.out.1.symm HFL.out.2 ?_))
    have hrow := setRow_heap wz w.heap.size _ cs.toArray _ _ HRES.out
    have hload := run_loadVar_row (P := Try.prog) _ w.heap.size 28 28 _ (0, 0) _ hrow Try.underlying28 rfl (by rw [List.size_toArray]; exact HSE2.out)
    refine ret_cell_tmp 2 28 3 w.heap.size _ _ Try.results18 rfl rfl hload rfl ⟨_, by rw [HRD.out]; rfl, old_setRow HOZ.out _, ?_⟩
    rw [HRD.out]
    exact entryE_ok.mono (entryE_ok.keep (HEZ.out HEE.out) (setRow_kept wz w.heap.size cs.toArray) (fun j hj hs => by have := hj.1; have hs' : j = w.heap.size := hs; omega)) (fun j _ hj => by have := hj.1; unfold New; omega)
  · have hrd : ro = none := by rw [HREAD.out, if_neg h0]
    have HRD := Lib.hid hrd; clear hrd
    have h0' : ¬ ((r : Nat) : Int) = 0 := by omega
    generalize ((r : Nat) : Int) = ri at h0'
    clear h0 HREAD HE0
    go_wp2_with (refine wpList_store_row _ rfl 28 _ _ rfl w.heap.size _ [.int .i64 0, .int .i64 0, .int .i64 0, .int .i64 0, .string ⟨#[]⟩, .string ⟨#[]⟩, .slice none 0 0, .int .i64 0, .int .i64 0, .int .i64 0, .slice none 0 0] rfl rfl HRES.out HSZ.out rfl (by simp [Value.oneCell']) ?_)
    have hrow := setRow_heap wz w.heap.size _ ([.int .i64 0, .int .i64 0, .int .i64 0, .int .i64 0, .string ⟨#[]⟩, .string ⟨#[]⟩, .slice none 0 0, .int .i64 0, .int .i64 0, .int .i64 0, .slice none 0 0] : List Value).toArray _ _ HRES.out
    have hload := run_loadVar_row (P := Try.prog) _ w.heap.size 28 28 _ (0, 0) _ hrow Try.underlying28 rfl (by rw [List.size_toArray]; exact HSZ.out)
    exact ret_cell_tmp 2 28 3 w.heap.size _ _ Try.results18 rfl rfl hload rfl ⟨_, by rw [HRD.out]; rfl, old_setRow HOZ.out _, by rw [HRD.out]; exact zEntry_at _ _⟩
end Go.Proofs.Ytpmemcpfoapjmaa

namespace Go.Proofs.Ytpmemcpfoapjmaa
open Go.ChangeShapes Go.WideShapes Go.ChangeAt Go.RowKit
set_option linter.unusedVariables false

/-- what has been laid of a list, behind pre -/
structure LaidRel {α : Type} (f : Fmt α) (pre : List UInt8) (w : World) (xs : List α) (sv iv : Value) (wr : World) : Prop where
  ex : ∃ k, iv = .int .i64 (k : Nat) ∧ k ≤ xs.length ∧ sv = .string ⟨(pre ++ layN f (xs.take k)).toArray⟩ ∧ Old w wr

theorem layN_zero {α : Type} (f : Fmt α) (pre : List UInt8) (xs : List α) : pre ++ layN f (xs.take 0) = pre := by simp [layN]

set_option maxRecDepth 100000 in
set_option maxHeartbeats 600000 in
theorem refacls_any (xs : List Acl) (sv : Value) (ok : Nat → Prop) (w : World) (hL : ListR aclE w ok 2 sv xs) (hl : ((listF aclF).lay xs).length ≤ 1000000000000000) :
    Calls Try.prog 53 #[sv] w (OldStr w ((listF aclF).lay xs)) := by
  obtain ⟨rows, ⟨A, c, rfl, hlc, hm, hat⟩, hlen, hel⟩ := hL
  unfold maxLen at hm
  have hlay : (listF aclF).lay xs = sev rows.length ++ layN aclF xs := by rw [hlen]; rfl
  rw [hlay] at hl ⊢
  rw [List.length_append] at hl
  have hlen1 : rows.length ≤ xs.length := by omega
  have hlen2 : xs.length ≤ rows.length := by omega
  clear hlen hlay
  have hst : ∀ W, Old w W → LaidRel aclF (sev rows.length) w xs (.string ⟨(sev rows.length).toArray⟩) (.int .i64 0) W := fun W h => ⟨0, rfl, Nat.zero_le _, by rw [layN_zero], h⟩
  have HST := Lib.hid hst; clear hst
  go_enter Try.func53, Try.ntmps53
  go_wp2_with fail
  refine (refcount_any rows.length _ (by unfold I64; omega)).mono ?_
  rintro e w0 ⟨rfl, hO0⟩
  rw [Int.toNat_natCast]
  have HO0 := Lib.hid hO0; clear hO0
  go_wp2_with fail
  go_loopw [3, 4] (fun sv iv wr => LaidRel aclF (sev rows.length) w xs sv iv wr) (fun _ iv _ => xs.length - (intOf iv).toNat)
  case atStart => exact HST.out _ HO0.out
  case round =>
    obtain ⟨k, rfl, hk, rfl, hO⟩ := hrel.ex
    clear hrel HST HO0
    by_cases hlt : k < xs.length
    · have hkr : k < rows.length := by omega
      rcases hat with h0 | ⟨g, off, rfl, hok, hg, hc⟩
      · simp [h0.1] at hkr
      have hE := aclE_ok.keep (hel k hlt hkr) hO (disj_none _)
      have hcell : ∀ j (hj : j < rows[k].length), wr.cell? ⟨g, off + k * 2 + j, none⟩ = some rows[k][j] := fun j hj => by
        rw [← (hc k hkr).2 j hj]; exact World.cell?_of_block (hO.block g hg id)
      have hle := layN_le (f := aclF) hlt
      have HTK := Lib.hid (layN_take (f := aclF) hlt)
      generalize rows[k] = cs at hcell hE
      generalize xs[k] = x at hle hE HTK
      clear hc hel
      obtain ⟨rfl, h0, h1⟩ := hE
      have c0 : wr.cell? ⟨g, off + k * 2, none⟩ = some (.int .i64 x.perms) := hcell 0 (by simp)
      have c1 : wr.cell? ⟨g, off + k * 2 + 1, none⟩ = some (.string x.id) := hcell 1 (by simp)
      clear hcell
      have t1 : x.id.size ≤ 9223372036854775000 := by unfold Str at h1; omega
      clear h1
      have hkl : (k : Int) < (rows.length : Int) := by omega
      have hlx : aclF.lay x = sev (zz x.perms) ++ (sev x.id.size ++ x.id.data.toList) := rfl
      obtain ⟨D, hD⟩ : ∃ D, sev rows.length ++ layN aclF (xs.take k) = D := ⟨_, rfl⟩
      have hDl : D.length + ((sev (zz x.perms)).length + ((sev x.id.size).length + x.id.data.toList.length)) ≤ 1000000000000000 := by
        rw [hlx] at hle
        simp only [List.length_append] at hle
        rw [← hD, List.length_append]; omega
      have hfin : D ++ (sev (zz x.perms) ++ (sev x.id.size ++ x.id.data.toList)) = sev rows.length ++ layN aclF (xs.take (k + 1)) := by
        rw [← hD, HTK.out, List.append_assoc, ← hlx]
      rw [hD]
      have HF := Lib.hid hfin
      clear hD hlx hle HTK hfin
      have q0 : ∀ W, Sem.run Try.prog (Op.stringOp .add ⟨D.toArray⟩ ⟨(sev (zz x.perms)).toArray⟩) W = .ok (.string ⟨(D ++ sev (zz x.perms)).toArray⟩) W := fun W => add_str _ _ _ (by omega) W
      have q1 : ∀ W, Sem.run Try.prog (Op.stringOp .add ⟨(D ++ sev (zz x.perms)).toArray⟩ ⟨(sev x.id.size ++ x.id.data.toList).toArray⟩) W = .ok (.string ⟨(D ++ (sev (zz x.perms) ++ (sev x.id.size ++ x.id.data.toList))).toArray⟩) W := fun W => by
        rw [add_str _ _ _ (by simp only [List.length_append]; omega) W, List.append_assoc]
      clear hDl
      go_upto_region 5 with fail
      go_region_held3 (fun w' => w'.cell? ⟨g, off + k * 2, none⟩ = some (.int .i64 x.perms) ∧ w'.cell? ⟨g, off + k * 2 + 1, none⟩ = some (.string x.id) ∧ Old w w')
        (((try dsimp only); (repeat' apply And.intro) <;> first | assumption | (simp only [World.cell?_drew]; assumption) | exact Old.drew (by assumption)))
        (first
          | (go_at_call 33; refine (refnum_any _ _ (by assumption)).mono ?_; rintro e w9 ⟨rfl, hO9⟩; go_split_ands; have hP9 : Old w w9 := Old.none (by assumption) hO9; have d0 : w9.cell? ⟨g, off + k * 2, none⟩ = some (.int .i64 x.perms) := Old.cell hO9 (by assumption); have d1 : w9.cell? ⟨g, off + k * 2 + 1, none⟩ = some (.string x.id) := Old.cell hO9 (by assumption); clear hO9)
          | (go_at_call 52; refine (reftext_any _ _ (by assumption)).mono ?_; rintro e w9 ⟨rfl, hO9⟩; go_split_ands; have hP9 : Old w w9 := Old.none (by assumption) hO9; have d0 : w9.cell? ⟨g, off + k * 2, none⟩ = some (.int .i64 x.perms) := Old.cell hO9 (by assumption); have d1 : w9.cell? ⟨g, off + k * 2 + 1, none⟩ = some (.string x.id) := Old.cell hO9 (by assumption); clear hO9))
      all_goals go_wp2_with fail
      all_goals go_roundw
      all_goals first
        | (case rel => exact ⟨k + 1, by go_num, hlt, by rw [HF.out], by assumption⟩)
        | (case measure => simp [intOf]; omega)
    · have hkl : ¬ (k : Int) < (rows.length : Int) := by omega
      obtain rfl : k = xs.length := by omega
      have ht : xs.take xs.length = xs := List.take_length
      rw [ht]
      go_wp2_with fail
      go_ret
      exact ⟨rfl, hO⟩
end Go.Proofs.Ytpmemcpfoapjmaa

namespace Go.Proofs.Ytpmemcpfoapjmaa
open Go.ChangeShapes Go.WideShapes Go.ChangeAt Go.RowKit
set_option linter.unusedVariables false

/-- one step of a walk: a name of its own, so that a chain of steps is found again -/
structure Stp (w w' : World) : Prop where
  old : Old w w'
theorem Old.carry {w w' : World} (h : Old w w') {g : Nat} {o : Obj} (hb : w.heap[g]? = some o) : w'.heap[g]? = some o := by
  rw [h.block g (Array.getElem?_eq_some_iff.1 hb).1 id]; exact hb
theorem Stp.carry {w w' : World} (h : Stp w w') {g : Nat} {o : Obj} (hb : w.heap[g]? = some o) : w'.heap[g]? = some o := Old.carry h.old hb
theorem carry_alloc {w : World} {o' : Obj} {g : Nat} {o : Obj} (hb : w.heap[g]? = some o) : (w.alloc o').drew.heap[g]? = some o :=
  Old.carry (((Old.refl w).make o').drew) hb
theorem new_drew (w : World) (o : Obj) : (w.alloc o).drew.heap[w.heap.size]? = some o := heap_alloc_new w o
theorem Old.undrew {w w' : World} (h : Old w w'.drew) : Old w w' := ⟨h.os, h.tape, h.output, h.size, h.block⟩
theorem carry_make {w : World} {o' : Obj} {g : Nat} {o : Obj} (hb : w.heap[g]? = some o) : (w.alloc o').heap[g]? = some o := Old.carry ((Old.refl w).make o') hb
theorem new_drew2 (w : World) (a o : Obj) : ((w.alloc a).alloc o).drew.heap[w.heap.size + 1]? = some o := by
  have h := heap_alloc_new (w.alloc a) o
  rwa [show (w.alloc a).heap.size = w.heap.size + 1 from by simp] at h
theorem new_make2 (w : World) (a o : Obj) : ((w.alloc a).alloc o).heap[w.heap.size + 1]? = some o := new_drew2 w a o
theorem carry_drew {w : World} {g : Nat} {o : Obj} (hb : w.heap[g]? = some o) : w.drew.heap[g]? = some o := hb

end Go.Proofs.Ytpmemcpfoapjmaa

namespace Go.Proofs.Ytpmemcpfoapjmaa
open Go.ChangeShapes Go.WideShapes Go.ChangeAt Go.RowKit
set_option linter.unusedVariables false


set_option maxRecDepth 100000 in
set_option maxHeartbeats 4000000 in
theorem refput_part (x : Part) (cs : List Value) (ok : Nat → Prop) (w : World) (hE : partE w ok cs x) (hl : (partF.lay x).length ≤ 1000000000000000) :
    Calls Try.prog 34 #[.agg cs.toArray] w (OldStr w (partF.lay x)) := by
  obtain ⟨vsubs, vacl, rfl, hacl, h_kind, h_path, h_data, h_owner, h_number, h_err, hsl⟩ := hE
  obtain ⟨kind, path, data, acl, owner, number, err⟩ := x
  simp only at h_kind h_path h_data h_owner h_number h_err hacl
  have hlay : partF.lay ⟨kind, path, data, acl, owner, number, err⟩ = sev (zz kind) ++ (sev path.size ++ (path.data.toList ++ (sev data.size ++ (data.data.toList ++ ((listF aclF).lay acl ++ (sev (zz owner) ++ (sev (zz number) ++ sev (zz err)))))))) := by simp only [partF, isoF, seqF, lay_num, lay_text, List.append_assoc]
  rw [hlay] at hl ⊢
  clear hlay
  obtain ⟨L0, hL0⟩ : ∃ l : List UInt8, sev (zz kind) = l := ⟨_, rfl⟩
  have K0 := Lib.hid (show ∀ W, Calls Try.prog 33 #[.int .i64 kind] W (OldStr W L0) from fun W => by rw [← hL0]; exact refnum_any _ W h_kind)
  obtain ⟨L1, hL1⟩ : ∃ l : List UInt8, sev path.size ++ path.data.toList = l := ⟨_, rfl⟩
  have K1 := Lib.hid (show ∀ W, Calls Try.prog 52 #[.string path] W (OldStr W L1) from fun W => by rw [← hL1]; exact reftext_any _ W (by unfold Str at h_path; omega))
  obtain ⟨L2, hL2⟩ : ∃ l : List UInt8, sev data.size ++ data.data.toList = l := ⟨_, rfl⟩
  have K2 := Lib.hid (show ∀ W, Calls Try.prog 52 #[.string data] W (OldStr W L2) from fun W => by rw [← hL2]; exact reftext_any _ W (by unfold Str at h_data; omega))
  obtain ⟨L3, hL3⟩ : ∃ l : List UInt8, (listF aclF).lay acl = l := ⟨_, rfl⟩
  have K3 := Lib.hid (show ∀ W, Old w W → Calls Try.prog 53 #[vacl] W (OldStr W L3) from fun W h => by
    rw [← hL3]
    exact refacls_any acl vacl ok W (hacl.keep aclE_ok h (disj_none _)) (by simp only [List.length_append] at hl; omega))
  obtain ⟨L4, hL4⟩ : ∃ l : List UInt8, sev (zz owner) ++ (sev (zz number) ++ sev (zz err)) = l := ⟨_, rfl⟩
  have K4 := Lib.hid (show ∀ (g : Nat) (W : World), W.heap[g]? = some (.cells #[.int .i64 owner, .int .i64 number, .int .i64 err] 3 (0, 0)) → Calls Try.prog 16 #[.slice (some ⟨g, 0, none⟩) 3 3] W (OldStr W L4) from fun g W hb => by rw [← hL4]; exact refnums3 owner number err g W hb h_owner h_number h_err)
  have hfin : sev (zz kind) ++ (sev path.size ++ (path.data.toList ++ (sev data.size ++ (data.data.toList ++ ((listF aclF).lay acl ++ (sev (zz owner) ++ (sev (zz number) ++ sev (zz err)))))))) = L0 ++ (L1 ++ (L2 ++ (L3 ++ L4))) := by
    rw [← hL0, ← hL1, ← hL2, ← hL3, ← hL4]
    simp only [List.append_assoc]
  rw [hfin] at hl ⊢
  simp only [List.length_append] at hl
  clear hfin hL0 hL1 hL2 hL3 hL4
  have q0 : ∀ W, Sem.run Try.prog (Op.stringOp .add ⟨(L0).toArray⟩ ⟨(L1).toArray⟩) W = .ok (.string ⟨(L0 ++ L1).toArray⟩) W := fun W => by
    rw [add_str _ _ _ (by omega) W]
  have q1 : ∀ W, Sem.run Try.prog (Op.stringOp .add ⟨(L0 ++ L1).toArray⟩ ⟨(L2).toArray⟩) W = .ok (.string ⟨(L0 ++ (L1 ++ L2)).toArray⟩) W := fun W => by
    rw [add_str _ _ _ (by simp only [List.length_append]; omega) W] <;> simp only [List.append_assoc]
  have q2 : ∀ W, Sem.run Try.prog (Op.stringOp .add ⟨(L0 ++ (L1 ++ L2)).toArray⟩ ⟨(L3).toArray⟩) W = .ok (.string ⟨(L0 ++ (L1 ++ (L2 ++ L3))).toArray⟩) W := fun W => by
    rw [add_str _ _ _ (by simp only [List.length_append]; omega) W] <;> simp only [List.append_assoc]
  have q3 : ∀ W, Sem.run Try.prog (Op.stringOp .add ⟨(L0 ++ (L1 ++ (L2 ++ L3))).toArray⟩ ⟨(L4).toArray⟩) W = .ok (.string ⟨(L0 ++ (L1 ++ (L2 ++ (L3 ++ L4)))).toArray⟩) W := fun W => by
    rw [add_str _ _ _ (by simp only [List.length_append]; omega) W] <;> simp only [List.append_assoc]
  clear hl hacl
  have hb := heap_alloc_new w (.cells #[.int .i64 kind, .string path, .string data, vacl, .int .i64 owner, .int .i64 number, .int .i64 err, vsubs] 26)
  have hO0 : Old w (w.alloc (.cells #[.int .i64 kind, .string path, .string data, vacl, .int .i64 owner, .int .i64 number, .int .i64 err, vsubs] 26)) := (Old.refl w).make _
  have c0 : (w.alloc (.cells #[.int .i64 kind, .string path, .string data, vacl, .int .i64 owner, .int .i64 number, .int .i64 err, vsubs] 26)).cell? ⟨w.heap.size, 0, none⟩ = some (.int .i64 kind) := cell_of_row _ _ 0 _ _ _ hb
  have c1 : (w.alloc (.cells #[.int .i64 kind, .string path, .string data, vacl, .int .i64 owner, .int .i64 number, .int .i64 err, vsubs] 26)).cell? ⟨w.heap.size, 1, none⟩ = some (.string path) := cell_of_row _ _ 1 _ _ _ hb
  have c2 : (w.alloc (.cells #[.int .i64 kind, .string path, .string data, vacl, .int .i64 owner, .int .i64 number, .int .i64 err, vsubs] 26)).cell? ⟨w.heap.size, 2, none⟩ = some (.string data) := cell_of_row _ _ 2 _ _ _ hb
  have c3 : (w.alloc (.cells #[.int .i64 kind, .string path, .string data, vacl, .int .i64 owner, .int .i64 number, .int .i64 err, vsubs] 26)).cell? ⟨w.heap.size, 3, none⟩ = some (vacl) := cell_of_row _ _ 3 _ _ _ hb
  have c4 : (w.alloc (.cells #[.int .i64 kind, .string path, .string data, vacl, .int .i64 owner, .int .i64 number, .int .i64 err, vsubs] 26)).cell? ⟨w.heap.size, 4, none⟩ = some (.int .i64 owner) := cell_of_row _ _ 4 _ _ _ hb
  have c5 : (w.alloc (.cells #[.int .i64 kind, .string path, .string data, vacl, .int .i64 owner, .int .i64 number, .int .i64 err, vsubs] 26)).cell? ⟨w.heap.size, 5, none⟩ = some (.int .i64 number) := cell_of_row _ _ 5 _ _ _ hb
  have c6 : (w.alloc (.cells #[.int .i64 kind, .string path, .string data, vacl, .int .i64 owner, .int .i64 number, .int .i64 err, vsubs] 26)).cell? ⟨w.heap.size, 6, none⟩ = some (.int .i64 err) := cell_of_row _ _ 6 _ _ _ hb
  clear h_kind
  clear h_path
  clear h_data
  clear h_owner
  clear h_number
  clear h_err
  generalize hw1 : w.alloc (.cells #[.int .i64 kind, .string path, .string data, vacl, .int .i64 owner, .int .i64 number, .int .i64 err, vsubs] 26) = w1 at hO0 c0 c1 c2 c3 c4 c5 c6
  clear hb
  have HW := Lib.hid hw1; clear hw1
  have HO0 := Lib.hid hO0; clear hO0
  have C0 := Lib.hid c0; clear c0
  have C1 := Lib.hid c1; clear c1
  have C2 := Lib.hid c2; clear c2
  have C3 := Lib.hid c3; clear c3
  have C4 := Lib.hid c4; clear c4
  have C5 := Lib.hid c5; clear c5
  have C6 := Lib.hid c6; clear c6
  go_enter Try.func34, Try.ntmps34
  go_upto_region 1 with fail
  rw [HW.out]
  have hO0 := HO0.out
  have c0 := C0.out; clear C0
  have c1 := C1.out; clear C1
  have c2 := C2.out; clear C2
  have c3 := C3.out; clear C3
  have c4 := C4.out; clear C4
  have c5 := C5.out; clear C5
  have c6 := C6.out; clear C6
  clear HW HO0
  go_region_held3 (fun w' => w'.cell? ⟨w.heap.size, 0, none⟩ = some (.int .i64 kind) ∧ w'.cell? ⟨w.heap.size, 1, none⟩ = some (.string path) ∧ w'.cell? ⟨w.heap.size, 2, none⟩ = some (.string data) ∧ w'.cell? ⟨w.heap.size, 3, none⟩ = some (vacl) ∧ w'.cell? ⟨w.heap.size, 4, none⟩ = some (.int .i64 owner) ∧ w'.cell? ⟨w.heap.size, 5, none⟩ = some (.int .i64 number) ∧ w'.cell? ⟨w.heap.size, 6, none⟩ = some (.int .i64 err) ∧ Old w w')
    (((try go_split_ands); (try dsimp only); (try simp only [World.cell?_drew] at *); (repeat' apply And.intro) <;> (with_reducible first | assumption | exact Old.drew (by assumption) | exact Old.make (by assumption) _ | exact Old.drew (Old.make (by assumption) _) | exact Old.drew (Old.make (Old.undrew (by assumption)) _) | exact Old.cell ((Old.refl _).make _) (by assumption) | fail)))
    (first
      | (go_at_call 16; have _t := T4; go_split_ands; refine (K4.out _ _ ?_).mono ?_; (focus ((repeat (with_reducible first | exact new_drew _ _ | exact heap_alloc_new _ _ | exact new_drew2 _ _ _ | exact new_make2 _ _ _ | refine carry_alloc ?_ | refine carry_make ?_ | (apply Stp.carry; (focus (assumption; done))))); done)); rintro e w9 ⟨rfl, hO9⟩; have hP9 : Old w w9 := Old.none (by assumption) hO9; have d0 : w9.cell? ⟨w.heap.size, 0, none⟩ = some (.int .i64 kind) := Old.cell hO9 (by assumption); have d1 : w9.cell? ⟨w.heap.size, 1, none⟩ = some (.string path) := Old.cell hO9 (by assumption); have d2 : w9.cell? ⟨w.heap.size, 2, none⟩ = some (.string data) := Old.cell hO9 (by assumption); have d3 : w9.cell? ⟨w.heap.size, 3, none⟩ = some (vacl) := Old.cell hO9 (by assumption); have d4 : w9.cell? ⟨w.heap.size, 4, none⟩ = some (.int .i64 owner) := Old.cell hO9 (by assumption); have d5 : w9.cell? ⟨w.heap.size, 5, none⟩ = some (.int .i64 number) := Old.cell hO9 (by assumption); have d6 : w9.cell? ⟨w.heap.size, 6, none⟩ = some (.int .i64 err) := Old.cell hO9 (by assumption); have hQ9 := Stp.mk hO9; clear hO9; have T5 := True.intro)
      | (go_at_call 53; have _t := T3; go_split_ands; refine (K3.out _ (by assumption)).mono ?_; rintro e w9 ⟨rfl, hO9⟩; have hP9 : Old w w9 := Old.none (by assumption) hO9; have d0 : w9.cell? ⟨w.heap.size, 0, none⟩ = some (.int .i64 kind) := Old.cell hO9 (by assumption); have d1 : w9.cell? ⟨w.heap.size, 1, none⟩ = some (.string path) := Old.cell hO9 (by assumption); have d2 : w9.cell? ⟨w.heap.size, 2, none⟩ = some (.string data) := Old.cell hO9 (by assumption); have d3 : w9.cell? ⟨w.heap.size, 3, none⟩ = some (vacl) := Old.cell hO9 (by assumption); have d4 : w9.cell? ⟨w.heap.size, 4, none⟩ = some (.int .i64 owner) := Old.cell hO9 (by assumption); have d5 : w9.cell? ⟨w.heap.size, 5, none⟩ = some (.int .i64 number) := Old.cell hO9 (by assumption); have d6 : w9.cell? ⟨w.heap.size, 6, none⟩ = some (.int .i64 err) := Old.cell hO9 (by assumption); have hQ9 := Stp.mk hO9; clear hO9; have T4 := True.intro)
      | (go_at_call 52; have _t := T2; go_split_ands; refine (K2.out _).mono ?_; rintro e w9 ⟨rfl, hO9⟩; have hP9 : Old w w9 := Old.none (by assumption) hO9; have d0 : w9.cell? ⟨w.heap.size, 0, none⟩ = some (.int .i64 kind) := Old.cell hO9 (by assumption); have d1 : w9.cell? ⟨w.heap.size, 1, none⟩ = some (.string path) := Old.cell hO9 (by assumption); have d2 : w9.cell? ⟨w.heap.size, 2, none⟩ = some (.string data) := Old.cell hO9 (by assumption); have d3 : w9.cell? ⟨w.heap.size, 3, none⟩ = some (vacl) := Old.cell hO9 (by assumption); have d4 : w9.cell? ⟨w.heap.size, 4, none⟩ = some (.int .i64 owner) := Old.cell hO9 (by assumption); have d5 : w9.cell? ⟨w.heap.size, 5, none⟩ = some (.int .i64 number) := Old.cell hO9 (by assumption); have d6 : w9.cell? ⟨w.heap.size, 6, none⟩ = some (.int .i64 err) := Old.cell hO9 (by assumption); have hQ9 := Stp.mk hO9; clear hO9; have T3 := True.intro)
      | (go_at_call 52; have _t := T1; go_split_ands; refine (K1.out _).mono ?_; rintro e w9 ⟨rfl, hO9⟩; have hP9 : Old w w9 := Old.none (by assumption) hO9; have d0 : w9.cell? ⟨w.heap.size, 0, none⟩ = some (.int .i64 kind) := Old.cell hO9 (by assumption); have d1 : w9.cell? ⟨w.heap.size, 1, none⟩ = some (.string path) := Old.cell hO9 (by assumption); have d2 : w9.cell? ⟨w.heap.size, 2, none⟩ = some (.string data) := Old.cell hO9 (by assumption); have d3 : w9.cell? ⟨w.heap.size, 3, none⟩ = some (vacl) := Old.cell hO9 (by assumption); have d4 : w9.cell? ⟨w.heap.size, 4, none⟩ = some (.int .i64 owner) := Old.cell hO9 (by assumption); have d5 : w9.cell? ⟨w.heap.size, 5, none⟩ = some (.int .i64 number) := Old.cell hO9 (by assumption); have d6 : w9.cell? ⟨w.heap.size, 6, none⟩ = some (.int .i64 err) := Old.cell hO9 (by assumption); have hQ9 := Stp.mk hO9; clear hO9; have T2 := True.intro)
      | (go_at_call 33; go_split_ands; refine (K0.out _).mono ?_; rintro e w9 ⟨rfl, hO9⟩; have hP9 : Old w w9 := Old.none (by assumption) hO9; have d0 : w9.cell? ⟨w.heap.size, 0, none⟩ = some (.int .i64 kind) := Old.cell hO9 (by assumption); have d1 : w9.cell? ⟨w.heap.size, 1, none⟩ = some (.string path) := Old.cell hO9 (by assumption); have d2 : w9.cell? ⟨w.heap.size, 2, none⟩ = some (.string data) := Old.cell hO9 (by assumption); have d3 : w9.cell? ⟨w.heap.size, 3, none⟩ = some (vacl) := Old.cell hO9 (by assumption); have d4 : w9.cell? ⟨w.heap.size, 4, none⟩ = some (.int .i64 owner) := Old.cell hO9 (by assumption); have d5 : w9.cell? ⟨w.heap.size, 5, none⟩ = some (.int .i64 number) := Old.cell hO9 (by assumption); have d6 : w9.cell? ⟨w.heap.size, 6, none⟩ = some (.int .i64 err) := Old.cell hO9 (by assumption); have hQ9 := Stp.mk hO9; clear hO9; have T1 := True.intro))
  all_goals go_wp2_with fail
  all_goals go_ret
  all_goals exact ⟨rfl, by assumption⟩

end Go.Proofs.Ytpmemcpfoapjmaa

namespace Go.Proofs.Ytpmemcpfoapjmaa
open Go.ChangeShapes Go.WideShapes Go.ChangeAt Go.RowKit
set_option linter.unusedVariables false

theorem split_txn {l : List Value} (h : l.length = 8) : ∃ v0 v1 v2 v3 v4 v5 v6 v7, l = [v0, v1, v2, v3, v4, v5, v6, v7] := by
  match l, h with
  | [v0, v1, v2, v3, v4, v5, v6, v7], _ => exact ⟨v0, v1, v2, v3, v4, v5, v6, v7, rfl⟩

set_option maxRecDepth 100000 in
set_option maxHeartbeats 2000000 in
theorem refput_txn (x : Txn) (cs : List Value) (ok : Nat → Prop) (w : World) (hE : txnE w ok cs x) (hl : (txnF.lay x).length ≤ 1000000000000000) :
    Calls Try.prog 17 #[.agg cs.toArray] w (OldStr w (txnF.lay x)) := by
  obtain ⟨vsubs, hQ, hL⟩ := hE
  have hP : partE w ok cs x.part := ⟨vsubs, hQ⟩
  have hcl : cs.length = 8 := (partE_flat hP).1
  have h7 : cs[7]? = some vsubs := by obtain ⟨vacl, rfl, _⟩ := hQ; rfl
  clear hQ
  obtain ⟨v0, v1, v2, v3, v4, v5, v6, v7, rfl⟩ := split_txn hcl
  obtain rfl : v7 = vsubs := by simpa using h7
  obtain ⟨rows, ⟨A, c, rfl, hlc, hm, hat⟩, hlen, hel⟩ := hL
  unfold maxLen at hm
  have hlay : txnF.lay x = partF.lay x.part ++ (sev rows.length ++ layN partF x.subs) := by rw [hlen]; rfl
  rw [hlay] at hl ⊢
  simp only [List.length_append] at hl
  have hlen1 : rows.length ≤ x.subs.length := by omega
  have hlen2 : x.subs.length ≤ rows.length := by omega
  clear hlen hlay
  have KP := Lib.hid (show ∀ W, Old w W → Calls Try.prog 34 #[.agg #[v0, v1, v2, v3, v4, v5, v6, (.slice A rows.length c)]] W (OldStr W (partF.lay x.part)) from fun W h => refput_part x.part _ ok W (partE_ok.keep hP h (disj_none _)) (by omega))
  have KN := Lib.hid (show ∀ W k (r : List Value) (h1 : k < x.subs.length), partE W ok r (x.subs[k]'h1) → Calls Try.prog 34 #[.agg r.toArray] W (OldStr W (partF.lay (x.subs[k]'h1))) from fun W k r h1 h => refput_part _ r ok W h (by
    have := layN_le (f := partF) h1
    omega))
  have KC := Lib.hid (show ∀ W, Calls Try.prog 35 #[.int .i64 (rows.length : Nat)] W (OldStr W (sev rows.length)) from fun W => by
    have h := refcount_any (rows.length : Nat) W (by unfold I64; omega)
    rwa [Int.toNat_natCast] at h)
  have HEL := Lib.hid hel; clear hel
  obtain ⟨L0, hL0⟩ : ∃ l : List UInt8, partF.lay x.part = l := ⟨_, rfl⟩
  obtain ⟨C0, hC0⟩ : ∃ l : List UInt8, sev rows.length = l := ⟨_, rfl⟩
  rw [hL0] at KP hl ⊢
  rw [hC0] at KC hl ⊢
  have q0 : ∀ W, Sem.run Try.prog (Op.stringOp .add ⟨L0.toArray⟩ ⟨C0.toArray⟩) W = .ok (.string ⟨(L0 ++ C0).toArray⟩) W := fun W => add_str _ _ _ (by omega) W
  clear hL0 hC0 hP
  have hO0 : Old w (w.alloc (.cells #[v0, v1, v2, v3, v4, v5, v6, (.slice A rows.length c)] 26)) := (Old.refl w).make _
  have hb := heap_alloc_new w (.cells #[v0, v1, v2, v3, v4, v5, v6, (.slice A rows.length c)] 26)
  have c0 : (w.alloc (.cells #[v0, v1, v2, v3, v4, v5, v6, (.slice A rows.length c)] 26)).cell? ⟨w.heap.size, 0, none⟩ = some (v0) := cell_of_row _ _ 0 _ _ _ hb
  have c1 : (w.alloc (.cells #[v0, v1, v2, v3, v4, v5, v6, (.slice A rows.length c)] 26)).cell? ⟨w.heap.size, 1, none⟩ = some (v1) := cell_of_row _ _ 1 _ _ _ hb
  have c2 : (w.alloc (.cells #[v0, v1, v2, v3, v4, v5, v6, (.slice A rows.length c)] 26)).cell? ⟨w.heap.size, 2, none⟩ = some (v2) := cell_of_row _ _ 2 _ _ _ hb
  have c3 : (w.alloc (.cells #[v0, v1, v2, v3, v4, v5, v6, (.slice A rows.length c)] 26)).cell? ⟨w.heap.size, 3, none⟩ = some (v3) := cell_of_row _ _ 3 _ _ _ hb
  have c4 : (w.alloc (.cells #[v0, v1, v2, v3, v4, v5, v6, (.slice A rows.length c)] 26)).cell? ⟨w.heap.size, 4, none⟩ = some (v4) := cell_of_row _ _ 4 _ _ _ hb
  have c5 : (w.alloc (.cells #[v0, v1, v2, v3, v4, v5, v6, (.slice A rows.length c)] 26)).cell? ⟨w.heap.size, 5, none⟩ = some (v5) := cell_of_row _ _ 5 _ _ _ hb
  have c6 : (w.alloc (.cells #[v0, v1, v2, v3, v4, v5, v6, (.slice A rows.length c)] 26)).cell? ⟨w.heap.size, 6, none⟩ = some (v6) := cell_of_row _ _ 6 _ _ _ hb
  have c7 : (w.alloc (.cells #[v0, v1, v2, v3, v4, v5, v6, (.slice A rows.length c)] 26)).cell? ⟨w.heap.size, 7, none⟩ = some ((.slice A rows.length c)) := cell_of_row _ _ 7 _ _ _ hb
  have HSZ0 := Lib.hid (show (Try.prog.info? 26).map (·.size) = some 8 by kernel_rfl)
  generalize hw1 : w.alloc (.cells #[v0, v1, v2, v3, v4, v5, v6, (.slice A rows.length c)] 26) = w1 at hO0 c0 c1 c2 c3 c4 c5 c6 c7
  clear hb hcl h7
  have HW := Lib.hid hw1; clear hw1
  have HO0 := Lib.hid hO0; clear hO0
  have C0 := Lib.hid c0; clear c0
  have C1 := Lib.hid c1; clear c1
  have C2 := Lib.hid c2; clear c2
  have C3 := Lib.hid c3; clear c3
  have C4 := Lib.hid c4; clear c4
  have C5 := Lib.hid c5; clear c5
  have C6 := Lib.hid c6; clear c6
  have C7 := Lib.hid c7; clear c7
  go_enter Try.func17, Try.ntmps17
  go_upto_region 1 with fail
  rw [HW.out]
  have hO0 := HO0.out; clear HO0 HW
  have c0 := C0.out; clear C0
  have c1 := C1.out; clear C1
  have c2 := C2.out; clear C2
  have c3 := C3.out; clear C3
  have c4 := C4.out; clear C4
  have c5 := C5.out; clear C5
  have c6 := C6.out; clear C6
  have c7 := C7.out; clear C7
  go_cut [3] (fun s3 wx => s3 = .string ⟨(L0 ++ C0).toArray⟩ ∧ wx.cell? ⟨w.heap.size, 7, none⟩ = some (.slice A rows.length c) ∧ Old w wx)
  case first =>
    go_region_held3 (fun w' => w'.cell? ⟨w.heap.size, 0, none⟩ = some (v0) ∧ w'.cell? ⟨w.heap.size, 1, none⟩ = some (v1) ∧ w'.cell? ⟨w.heap.size, 2, none⟩ = some (v2) ∧ w'.cell? ⟨w.heap.size, 3, none⟩ = some (v3) ∧ w'.cell? ⟨w.heap.size, 4, none⟩ = some (v4) ∧ w'.cell? ⟨w.heap.size, 5, none⟩ = some (v5) ∧ w'.cell? ⟨w.heap.size, 6, none⟩ = some (v6) ∧ w'.cell? ⟨w.heap.size, 7, none⟩ = some ((.slice A rows.length c)) ∧ Old w w')
      (((try go_split_ands); (try dsimp only); (try simp only [World.cell?_drew] at *); (repeat' apply And.intro) <;> (with_reducible first | assumption | exact Old.drew (by assumption) | fail)))
      (first
        | (go_at_call 34; go_split_ands; refine (KP.out _ (by assumption)).mono ?_; rintro e w9 ⟨rfl, hO9⟩; have hP9 : Old w w9 := Old.none (by assumption) hO9; have d0 : w9.cell? ⟨w.heap.size, 0, none⟩ = some (v0) := Old.cell hO9 (by assumption); have d1 : w9.cell? ⟨w.heap.size, 1, none⟩ = some (v1) := Old.cell hO9 (by assumption); have d2 : w9.cell? ⟨w.heap.size, 2, none⟩ = some (v2) := Old.cell hO9 (by assumption); have d3 : w9.cell? ⟨w.heap.size, 3, none⟩ = some (v3) := Old.cell hO9 (by assumption); have d4 : w9.cell? ⟨w.heap.size, 4, none⟩ = some (v4) := Old.cell hO9 (by assumption); have d5 : w9.cell? ⟨w.heap.size, 5, none⟩ = some (v5) := Old.cell hO9 (by assumption); have d6 : w9.cell? ⟨w.heap.size, 6, none⟩ = some (v6) := Old.cell hO9 (by assumption); have d7 : w9.cell? ⟨w.heap.size, 7, none⟩ = some ((.slice A rows.length c)) := Old.cell hO9 (by assumption); clear hO9)
        | (go_at_call 35; go_split_ands; refine (KC.out _).mono ?_; rintro e w9 ⟨rfl, hO9⟩; have hP9 : Old w w9 := Old.none (by assumption) hO9; have d0 : w9.cell? ⟨w.heap.size, 0, none⟩ = some (v0) := Old.cell hO9 (by assumption); have d1 : w9.cell? ⟨w.heap.size, 1, none⟩ = some (v1) := Old.cell hO9 (by assumption); have d2 : w9.cell? ⟨w.heap.size, 2, none⟩ = some (v2) := Old.cell hO9 (by assumption); have d3 : w9.cell? ⟨w.heap.size, 3, none⟩ = some (v3) := Old.cell hO9 (by assumption); have d4 : w9.cell? ⟨w.heap.size, 4, none⟩ = some (v4) := Old.cell hO9 (by assumption); have d5 : w9.cell? ⟨w.heap.size, 5, none⟩ = some (v5) := Old.cell hO9 (by assumption); have d6 : w9.cell? ⟨w.heap.size, 6, none⟩ = some (v6) := Old.cell hO9 (by assumption); have d7 : w9.cell? ⟨w.heap.size, 7, none⟩ = some ((.slice A rows.length c)) := Old.cell hO9 (by assumption); clear hO9))
    all_goals go_wp2_with fail
    all_goals go_meet
    all_goals exact ⟨rfl, by assumption, by assumption⟩
  case rest =>
  obtain ⟨rfl, d7, hOX⟩ := hcut
  clear hO0 c0 c1 c2 c3 c4 c5 c6 c7 q0 KP KC
  have HD7 := Lib.hid d7; clear d7
  have HOX := Lib.hid hOX; clear hOX
  go_wp2_with fail
  go_loopw [3, 4] (fun sv iv wr => LaidRel partF (L0 ++ C0) wc x.subs sv iv wr) (fun _ iv _ => x.subs.length - (intOf iv).toNat)
  case atStart => exact ⟨0, rfl, Nat.zero_le _, by rw [layN_zero], Old.refl _⟩
  case round =>
    obtain ⟨k, rfl, hk, rfl, hO⟩ := hrel.ex
    clear hrel
    have c7 := Old.cell hO HD7.out
    by_cases hlt : k < x.subs.length
    · have hkr : k < rows.length := by omega
      rcases hat with h0 | ⟨g, off, rfl, hok, hg, hc⟩
      · simp [h0.1] at hkr
      have hOw : Old w wr := HOX.out.none hO
      have hEk := partE_ok.keep (HEL.out k hlt hkr) hOw (disj_none _)
      have hcell : wr.rangeAt g (off + k * 8) rows[k] := fun j v hv => by
        obtain ⟨hj1, hj2⟩ := List.getElem?_eq_some_iff.1 hv
        rw [← hj2, ← (hc k hkr).2 j hj1]; exact World.cell?_of_block (hOw.block g hg id)
      have hle := layN_le (f := partF) hlt
      have HTK := Lib.hid (layN_take (f := partF) hlt)
      have HKK := Lib.hid (KN.out wr k rows[k] hlt hEk)
      have HLR := Lib.hid (partE_flat hEk).1
      have HRR := Lib.hid hcell
      clear hcell hEk
      generalize hrk : rows[k] = r at HKK HLR HRR
      generalize hxk : x.subs[k] = y at hle HTK HKK
      clear hrk hxk hc
      have hkl : (k : Int) < (rows.length : Int) := by omega
      obtain ⟨L1, hL1⟩ : ∃ l : List UInt8, partF.lay y = l := ⟨_, rfl⟩
      rw [hL1] at hle HTK HKK
      obtain ⟨D, hD⟩ : ∃ D, (L0 ++ C0) ++ layN partF (x.subs.take k) = D := ⟨_, rfl⟩
      have hDl : D.length + L1.length ≤ 1000000000000000 := by
        rw [← hD]; simp only [List.length_append]; omega
      have HF : Hid (D ++ L1 = (L0 ++ C0) ++ layN partF (x.subs.take (k + 1))) := Lib.hid (by rw [← hD, HTK.out, List.append_assoc])
      have q1 : ∀ W, Sem.run Try.prog (Op.stringOp .add ⟨D.toArray⟩ ⟨L1.toArray⟩) W = .ok (.string ⟨(D ++ L1).toArray⟩) W := fun W => add_str _ _ _ hDl W
      rw [hD]
      clear hD hDl hle HTK hL1 hOw
      go_wp2_with (first
        | (refine wpList_load_mid rfl 26 (.tmp 23) rfl g (off + k * 8) rfl r _ HRR.out Try.underlying26 rfl (by rw [HLR.out]; exact HSZ0.out) ?_)
        | (go_at_call 34; refine HKK.out.mono ?_; rintro e w9 ⟨rfl, hO9⟩; have HP := Lib.hid (hO.none hO9); clear hO9))
      go_roundw
      case rel => exact ⟨k + 1, by go_num, hlt, by rw [HF.out], HP.out⟩
      case measure => simp [intOf]; omega
    · have hkl : ¬ (k : Int) < (rows.length : Int) := by omega
      obtain rfl : k = x.subs.length := by omega
      have ht : x.subs.take x.subs.length = x.subs := List.take_length
      rw [ht]
      have HO := Lib.hid hO; clear hO
      go_wp2_with fail
      go_ret
      exact ⟨rfl, HOX.out.none HO.out⟩
end Go.Proofs.Ytpmemcpfoapjmaa
