/- Event, Hello, Note: Put and Get. The document's own answers of layer 2: an event, a hello, a note, read. The document's own answers of layer 2: what they take up, whole or wrong; lists of rows and of texts. The document's own answers of layer 2: a thing taken up field by field, in a block of its own. The document's own answers of layer 2: a list inside a thing, taken up element by element. -/
import Derived.Test.YtpmemcpfoapjmaaQ06
import Derived.Test.YtpmemcpfoapjmaaQ08
import Derived.StillTailTactics
import Derived.Outline
import Derived.Test.YtpmemcpfoapjmaaQ04
namespace Go.Proofs.Ytpmemcpfoapjmaa
open Go.ChangeShapes Go.WideShapes Go.ChangeAt Go.RowKit
set_option linter.unusedVariables false

def zEvent : Event := ⟨0, ⟨#[]⟩, 0⟩
theorem zEvent_at (w : World) (ok : Nat → Prop) : eventE w ok [.int .i64 0, .string ⟨#[]⟩, .int .i64 0] zEvent := ⟨rfl, i64_zero, str_empty, i64_zero⟩

set_option maxRecDepth 100000 in
theorem whole_event (x : Event) (cs : List Value) (ok : Nat → Prop) (w : World) (hE : eventE w ok cs x) (hi : In w ok) (hl : (eventF.lay x).length ≤ 144900000000000) :
    Calls Try.prog 21 #[.agg cs.toArray, .func (.func 22) #[] #[]] w (OldStr w (eventF.lay x)) := by
  have hfl := eventE_flat hE
  have hsz : (Try.prog.info? 37).map (·.size) = some cs.length := by rw [hfl.1]; kernel_rfl
  have HSZ := Lib.hid hsz
  have hA : Kept (fun _ => False) w (w.alloc (.cells cs.toArray 37)) := (Kept.refl _ w).alloc _
  have hO1 : Old w ((w.alloc (.cells cs.toArray 37)).alloc (.cells #[.slice none 0 0] 87)) := hA.alloc _
  have hE1 := eventE_ok.keep hE hO1 (disj_none _)
  have hi1 := hi.kept hO1
  have hW1 := new_at (w.alloc (.cells cs.toArray 37))
  have hrg : ((w.alloc (.cells cs.toArray 37)).alloc (.cells #[.slice none 0 0] 87)).rangeAt w.heap.size 0 cs := range_row (by
    rw [((Kept.refl (fun _ => False) (w.alloc (.cells cs.toArray 37))).alloc (.cells #[.slice none 0 0] 87)).block _ (by simp) id]; exact heap_alloc_new w _)
  have HRG := Lib.hid hrg
  have hws : (w.alloc (.cells cs.toArray 37)).heap.size = w.heap.size + 1 := by simp
  rw [hws] at hW1
  have hd : Disj ok (WS (w.heap.size + 1) (.slice none 0 0)) := fun g hg hs => by
    have := hi g hg
    rcases hs with hs | hs
    · omega
    · simp [Value.ownBlock] at hs
  have ho : Off w.heap.size (WS (w.heap.size + 1) (.slice none 0 0)) := fun g hs => by
    rcases hs with hs | hs
    · omega
    · simp [Value.ownBlock] at hs
  clear hfl hsz hA hE hi hrg hws
  go_enter Try.func21, Try.ntmps21
  go_wp2_with fail
  refine (new_any _).mono ?_
  rintro en w1 ⟨rfl, rfl⟩
  go_wp2_with (refine wpList_load_mid rfl 37 (.tmp 2) rfl w.heap.size 0 rfl cs _ HRG.out Try.underlying37 rfl HSZ.out ?_)
  refine (put_event x cs ok _ _ _ [] hW1 hE1 hd hi1 (by simpa using hl)).mono ?_
  rintro en w2 ⟨v2, rfl, hW2, hk2, hs2⟩
  have hO2 := hO1.step hk2 ho
  clear hE1 hi1 hW1 hd ho hO1 hk2 hs2 HRG HSZ
  go_wp2_with fail
  refine (wbytes_any _ _ _ _ hW2).mono ?_
  rintro en w3 ⟨rfl, n3, rfl⟩
  have hO3 := hO2.drewN n3
  go_wp2_with fail
  go_ret
  exact ⟨rfl, hO3⟩

set_option maxRecDepth 100000 in
theorem PutEvent_any (x : Event) (cs : List Value) (ok : Nat → Prop) (w : World) (hE : eventE w ok cs x) (hi : In w ok) (hl : (eventF.lay x).length ≤ 144900000000000) :
    Calls Try.prog 10 #[.agg cs.toArray] w (OldStr w (eventF.lay x)) := by
  have hfl := eventE_flat hE
  have hsz : (Try.prog.info? 37).map (·.size) = some cs.length := by rw [hfl.1]; kernel_rfl
  have HSZ := Lib.hid hsz
  have hA : Old w (w.alloc (.cells cs.toArray 37)) := (Kept.refl _ w).alloc _
  have hE1 := eventE_ok.keep hE hA (disj_none _)
  have hi1 := hi.kept hA
  have HRG := Lib.hid (range_new w cs 37)
  clear hfl hsz
  go_enter Try.func10, Try.ntmps10
  go_wp2_with (refine wpList_load_mid rfl 37 (.tmp 1) rfl w.heap.size 0 rfl cs _ HRG.out Try.underlying37 rfl HSZ.out ?_)
  refine (whole_event x cs ok _ hE1 hi1 hl).mono ?_
  rintro en w1 ⟨rfl, hO1⟩
  have hO := hA.none hO1
  clear hA hE1 hi1 hO1
  go_wp2_with fail
  go_ret
  exact ⟨rfl, hO⟩

set_option maxRecDepth 100000 in
set_option maxHeartbeats 600000 in
theorem taken_event (s : ByteArray) (w : World) (hs : s.size ≤ maxLen) :
    Calls Try.prog 23 #[.string s, .func (.func 24) #[] #[]] w (TakenPost eventE zEvent w (eventF.read s)) := by
  have hsz : (Try.prog.info? 37).map (·.size) = some 3 := by kernel_rfl
  have HSZ := Lib.hid hsz; clear hsz
  obtain ⟨x, q, e', hget⟩ : ∃ x q e', eventF.get s.data.toList 0 0 = (x, q, e') := ⟨_, _, _, eta3 _⟩
  have hread : eventF.read s = if rEndE s.data.toList.length q e' = 0 then some x else none := by unfold Fmt.read; rw [hget]
  generalize eventF.read s = ro at hread ⊢
  have HGET := Lib.hid hget; clear hget
  have HREAD := Lib.hid hread; clear hread
  go_enter Try.func23, Try.ntmps23
  go_wp2_with fail
  refine (read_any s _ hs).mono ?_
  rintro en w1 ⟨b, v, rfl, hR, hb, hv, hk1⟩
  have hge : w.heap.size + 1 ≤ b := by simpa using hb
  go_wp2_with fail
  refine (get_event _ b v _ _ _ hR HGET.out).mono ?_
  rintro en w2 ⟨cs, rfl, hE2, hR2, hk2⟩
  have hfl := eventE_flat hE2
  have HFL := Lib.hid hfl.1
  have HF1 := Lib.hid hfl.2
  have hR3 := hR2.alloc (.cells cs.toArray 37)
  have HHR := Lib.hid (⟨hR, hk1, hge, hk2⟩ : RAt w1 b v s.data.toList 0 0 ∧ Kept (fun _ => False) (w.alloc (.cells #[.int .i64 0, .string ⟨#[]⟩, .int .i64 0] 37)) w1 ∧ w.heap.size + 1 ≤ b ∧ Kept (RS b) w1 w2)
  clear hR hk1 hge hk2 hb hv hR2 hfl
  go_wp2_with (refine wpList_store_new w2 rfl 37 _ (.tmp 13) rfl _ cs rfl rfl (by rw [HFL.out]; exact HSZ.out) HFL.out.symm HF1.out ?_)
  refine (rend_e _ b v _ _ _ hR3).mono ?_
  rintro en w4 ⟨rfl, hR4, hk4⟩
  have st : TakenSt w w1 w2 w4 b v s.data.toList 37 #[.int .i64 0, .string ⟨#[]⟩, .int .i64 0] cs := ⟨HHR.out.1, HHR.out.2.1, HHR.out.2.2.1, HHR.out.2.2.2, hk4⟩
  have HRES := Lib.hid st.res
  have HBOX := Lib.hid (range_row st.box)
  have HO := Lib.hid st.old
  have HREL := Lib.hid (st.rel eventE_ok hE2)
  clear st HHR hR3 hR4 hk4 hE2
  by_cases h0 : rEndE s.data.toList.length q e' = 0
  · have hrd : ro = some x := by rw [HREAD.out, if_pos h0]
    have HRD := Lib.hid hrd; clear hrd
    have h0' : ((rEndE s.data.toList.length q e' : Nat) : Int) = 0 := by omega
    generalize ((rEndE s.data.toList.length q e' : Nat) : Int) = r at h0'
    subst h0'
    clear h0
    go_wp2_with (first | (refine wpList_load_mid rfl 37 (.tmp 7) rfl w2.heap.size 0 rfl cs _ HBOX.out Try.underlying37 rfl (by rw [HFL.out]; exact HSZ.out) ?_) | (refine wpList_store_row _ rfl 37 _ _ rfl w.heap.size _ cs rfl rfl HRES.out (by rw [HFL.out]; exact HSZ.out) HFL.out.symm HF1.out ?_))
    have hrow := setRow_heap w4 w.heap.size _ cs.toArray _ _ HRES.out
    have hload := run_loadVar_row (P := Try.prog) _ w.heap.size 37 37 _ (0, 0) _ hrow Try.underlying37 rfl (by rw [List.size_toArray, HFL.out]; exact HSZ.out)
    exact ret_cell_tmp 4 37 5 w.heap.size _ _ Try.results23 rfl rfl hload rfl ⟨cs, by rw [HRD.out]; rfl, old_setRow HO.out _, by rw [HRD.out]; exact HREL.out _⟩
  · have hrd : ro = none := by rw [HREAD.out, if_neg h0]
    have HRD := Lib.hid hrd; clear hrd
    have h0' : ¬ ((rEndE s.data.toList.length q e' : Nat) : Int) = 0 := by omega
    generalize ((rEndE s.data.toList.length q e' : Nat) : Int) = r at h0'
    clear h0
    have hA : Old w4 (w4.alloc (.cells #[.int .i64 0, .string ⟨#[]⟩, .int .i64 0] 37)) := (Kept.refl _ w4).alloc _
    have HR5 : Hid ((w4.alloc (.cells #[.int .i64 0, .string ⟨#[]⟩, .int .i64 0] 37)).heap[w.heap.size]? = some (.cells #[.int .i64 0, .string ⟨#[]⟩, .int .i64 0] 37 (0, 0))) := by rw [hA.block _ (lt_of_block HRES.out) id]; exact HRES.out
    obtain ⟨zl, hzl⟩ : ∃ zl : List Value, zl = [.int .i64 0, .string ⟨#[]⟩, .int .i64 0] := ⟨_, rfl⟩
    have HRN : Hid ((w4.alloc (.cells #[.int .i64 0, .string ⟨#[]⟩, .int .i64 0] 37)).rangeAt w4.heap.size 0 zl) := by rw [hzl]; exact range_new w4 [.int .i64 0, .string ⟨#[]⟩, .int .i64 0] 37
    have HZE : Hid (∀ (W : World) (ok : Nat → Prop), eventE W ok zl zEvent) := by rw [hzl]; exact zEvent_at
    have hzf : Flat 3 zl := eventE_flat (HZE.out w (fun _ => False))
    have HZL := Lib.hid hzf.1
    have HZ1 := Lib.hid hzf.2
    clear hzl hzf
    have HO5 := Lib.hid (HO.out.none hA)
    clear hA HREL
    go_wp2_with (first | (refine wpList_load_mid rfl 37 (.tmp 8) rfl w4.heap.size 0 rfl zl _ HRN.out Try.underlying37 rfl (by rw [HZL.out]; exact HSZ.out) ?_) | (refine wpList_store_row _ rfl 37 _ _ rfl w.heap.size _ zl rfl rfl HR5.out (by rw [HZL.out]; exact HSZ.out) HZL.out.symm HZ1.out ?_))
    have hrow := setRow_heap (w4.alloc (.cells #[.int .i64 0, .string ⟨#[]⟩, .int .i64 0] 37)) w.heap.size _ zl.toArray _ _ HR5.out
    have hload := run_loadVar_row (P := Try.prog) _ w.heap.size 37 37 _ (0, 0) _ hrow Try.underlying37 rfl (by rw [List.size_toArray, HZL.out]; exact HSZ.out)
    exact ret_cell_tmp 4 37 5 w.heap.size _ _ Try.results23 rfl rfl hload rfl ⟨_, by rw [HRD.out]; rfl, old_setRow HO5.out _, by rw [HRD.out]; exact HZE.out _ _⟩

set_option maxRecDepth 100000 in
theorem GetEvent_any (s : ByteArray) (w : World) (hs : s.size ≤ maxLen) :
    Calls Try.prog 11 #[.string s] w (TakenPost eventE zEvent w (eventF.read s)) := by
  have hsz : (Try.prog.info? 37).map (·.size) = some 3 := by kernel_rfl
  have HSZ := Lib.hid hsz; clear hsz
  have hbk := heap_alloc_new w (.cells #[.int .i64 0, .string ⟨#[]⟩, .int .i64 0] 37)
  have hA : Old w (w.alloc (.cells #[.int .i64 0, .string ⟨#[]⟩, .int .i64 0] 37)) := (Kept.refl _ w).alloc _
  go_enter Try.func11, Try.ntmps11
  go_wp2_with fail
  refine (taken_event s _ hs).mono ?_
  rintro en w1 ⟨cs, rfl, hO1, hE1⟩
  have hfl := eventE_flat hE1
  have HFL := Lib.hid hfl.1
  have HF1 := Lib.hid hfl.2
  have HRES : Hid (w1.heap[w.heap.size]? = some (.cells #[.int .i64 0, .string ⟨#[]⟩, .int .i64 0] 37 (0, 0))) := by rw [hO1.block _ (lt_of_block hbk) id]; exact hbk
  have HO := Lib.hid (hA.none hO1)
  have HE := Lib.hid (fun c => fin_E eventE_ok (w := w) hE1 (by simp) c)
  clear hbk hA hfl hO1 hE1
  go_wp2_with (refine wpList_store_row _ rfl 37 _ _ rfl w.heap.size _ cs rfl rfl HRES.out (by rw [HFL.out]; exact HSZ.out) HFL.out.symm HF1.out ?_)
  have hrow := setRow_heap w1 w.heap.size _ cs.toArray _ _ HRES.out
  have hload := run_loadVar_row (P := Try.prog) _ w.heap.size 37 37 _ (0, 0) _ hrow Try.underlying37 rfl (by rw [List.size_toArray, HFL.out]; exact HSZ.out)
  exact ret_cell_tmp 2 37 3 w.heap.size _ _ Try.results11 rfl rfl hload rfl ⟨cs, rfl, old_setRow HO.out _, HE.out _⟩

def zHello : Hello := ⟨0, 0, 0, ⟨#[]⟩⟩
theorem zHello_at (w : World) (ok : Nat → Prop) : helloE w ok [.int .i64 0, .int .i64 0, .int .i64 0, .string ⟨#[]⟩] zHello := ⟨rfl, i64_zero, i64_zero, i64_zero, str_empty⟩

set_option maxRecDepth 100000 in
theorem whole_hello (x : Hello) (cs : List Value) (ok : Nat → Prop) (w : World) (hE : helloE w ok cs x) (hi : In w ok) (hl : (helloF.lay x).length ≤ 144900000000000) :
    Calls Try.prog 25 #[.agg cs.toArray, .func (.func 26) #[] #[]] w (OldStr w (helloF.lay x)) := by
  have hfl := helloE_flat hE
  have hsz : (Try.prog.info? 42).map (·.size) = some cs.length := by rw [hfl.1]; kernel_rfl
  have HSZ := Lib.hid hsz
  have hA : Kept (fun _ => False) w (w.alloc (.cells cs.toArray 42)) := (Kept.refl _ w).alloc _
  have hO1 : Old w ((w.alloc (.cells cs.toArray 42)).alloc (.cells #[.slice none 0 0] 87)) := hA.alloc _
  have hE1 := helloE_ok.keep hE hO1 (disj_none _)
  have hi1 := hi.kept hO1
  have hW1 := new_at (w.alloc (.cells cs.toArray 42))
  have hrg : ((w.alloc (.cells cs.toArray 42)).alloc (.cells #[.slice none 0 0] 87)).rangeAt w.heap.size 0 cs := range_row (by
    rw [((Kept.refl (fun _ => False) (w.alloc (.cells cs.toArray 42))).alloc (.cells #[.slice none 0 0] 87)).block _ (by simp) id]; exact heap_alloc_new w _)
  have HRG := Lib.hid hrg
  have hws : (w.alloc (.cells cs.toArray 42)).heap.size = w.heap.size + 1 := by simp
  rw [hws] at hW1
  have hd : Disj ok (WS (w.heap.size + 1) (.slice none 0 0)) := fun g hg hs => by
    have := hi g hg
    rcases hs with hs | hs
    · omega
    · simp [Value.ownBlock] at hs
  have ho : Off w.heap.size (WS (w.heap.size + 1) (.slice none 0 0)) := fun g hs => by
    rcases hs with hs | hs
    · omega
    · simp [Value.ownBlock] at hs
  clear hfl hsz hA hE hi hrg hws
  go_enter Try.func25, Try.ntmps25
  go_wp2_with fail
  refine (new_any _).mono ?_
  rintro en w1 ⟨rfl, rfl⟩
  go_wp2_with (refine wpList_load_mid rfl 42 (.tmp 2) rfl w.heap.size 0 rfl cs _ HRG.out Try.underlying42 rfl HSZ.out ?_)
  refine (put_hello x cs ok _ _ _ [] hW1 hE1 hd hi1 (by simpa using hl)).mono ?_
  rintro en w2 ⟨v2, rfl, hW2, hk2, hs2⟩
  have hO2 := hO1.step hk2 ho
  clear hE1 hi1 hW1 hd ho hO1 hk2 hs2 HRG HSZ
  go_wp2_with fail
  refine (wbytes_any _ _ _ _ hW2).mono ?_
  rintro en w3 ⟨rfl, n3, rfl⟩
  have hO3 := hO2.drewN n3
  go_wp2_with fail
  go_ret
  exact ⟨rfl, hO3⟩

set_option maxRecDepth 100000 in
theorem PutHello_any (x : Hello) (cs : List Value) (ok : Nat → Prop) (w : World) (hE : helloE w ok cs x) (hi : In w ok) (hl : (helloF.lay x).length ≤ 144900000000000) :
    Calls Try.prog 12 #[.agg cs.toArray] w (OldStr w (helloF.lay x)) := by
  have hfl := helloE_flat hE
  have hsz : (Try.prog.info? 42).map (·.size) = some cs.length := by rw [hfl.1]; kernel_rfl
  have HSZ := Lib.hid hsz
  have hA : Old w (w.alloc (.cells cs.toArray 42)) := (Kept.refl _ w).alloc _
  have hE1 := helloE_ok.keep hE hA (disj_none _)
  have hi1 := hi.kept hA
  have HRG := Lib.hid (range_new w cs 42)
  clear hfl hsz
  go_enter Try.func12, Try.ntmps12
  go_wp2_with (refine wpList_load_mid rfl 42 (.tmp 1) rfl w.heap.size 0 rfl cs _ HRG.out Try.underlying42 rfl HSZ.out ?_)
  refine (whole_hello x cs ok _ hE1 hi1 hl).mono ?_
  rintro en w1 ⟨rfl, hO1⟩
  have hO := hA.none hO1
  clear hA hE1 hi1 hO1
  go_wp2_with fail
  go_ret
  exact ⟨rfl, hO⟩

def zNote : Note := ⟨0, 0, 0, 0, 0, 0⟩
theorem zNote_at (w : World) (ok : Nat → Prop) : noteE w ok [.int .i64 0, .int .i64 0, .int .i64 0, .int .i64 0, .int .i64 0, .int .i64 0] zNote := ⟨rfl, i64_zero, i64_zero, i64_zero, i64_zero, i64_zero, i64_zero⟩

set_option maxRecDepth 100000 in
theorem whole_note (x : Note) (cs : List Value) (ok : Nat → Prop) (w : World) (hE : noteE w ok cs x) (hi : In w ok) (hl : (noteF.lay x).length ≤ 144900000000000) :
    Calls Try.prog 27 #[.agg cs.toArray, .func (.func 28) #[] #[]] w (OldStr w (noteF.lay x)) := by
  have hfl := noteE_flat hE
  have hsz : (Try.prog.info? 45).map (·.size) = some cs.length := by rw [hfl.1]; kernel_rfl
  have HSZ := Lib.hid hsz
  have hA : Kept (fun _ => False) w (w.alloc (.cells cs.toArray 45)) := (Kept.refl _ w).alloc _
  have hO1 : Old w ((w.alloc (.cells cs.toArray 45)).alloc (.cells #[.slice none 0 0] 87)) := hA.alloc _
  have hE1 := noteE_ok.keep hE hO1 (disj_none _)
  have hi1 := hi.kept hO1
  have hW1 := new_at (w.alloc (.cells cs.toArray 45))
  have hrg : ((w.alloc (.cells cs.toArray 45)).alloc (.cells #[.slice none 0 0] 87)).rangeAt w.heap.size 0 cs := range_row (by
    rw [((Kept.refl (fun _ => False) (w.alloc (.cells cs.toArray 45))).alloc (.cells #[.slice none 0 0] 87)).block _ (by simp) id]; exact heap_alloc_new w _)
  have HRG := Lib.hid hrg
  have hws : (w.alloc (.cells cs.toArray 45)).heap.size = w.heap.size + 1 := by simp
  rw [hws] at hW1
  have hd : Disj ok (WS (w.heap.size + 1) (.slice none 0 0)) := fun g hg hs => by
    have := hi g hg
    rcases hs with hs | hs
    · omega
    · simp [Value.ownBlock] at hs
  have ho : Off w.heap.size (WS (w.heap.size + 1) (.slice none 0 0)) := fun g hs => by
    rcases hs with hs | hs
    · omega
    · simp [Value.ownBlock] at hs
  clear hfl hsz hA hE hi hrg hws
  go_enter Try.func27, Try.ntmps27
  go_wp2_with fail
  refine (new_any _).mono ?_
  rintro en w1 ⟨rfl, rfl⟩
  go_wp2_with (refine wpList_load_mid rfl 45 (.tmp 2) rfl w.heap.size 0 rfl cs _ HRG.out Try.underlying45 rfl HSZ.out ?_)
  refine (put_note x cs ok _ _ _ [] hW1 hE1 hd hi1 (by simpa using hl)).mono ?_
  rintro en w2 ⟨v2, rfl, hW2, hk2, hs2⟩
  have hO2 := hO1.step hk2 ho
  clear hE1 hi1 hW1 hd ho hO1 hk2 hs2 HRG HSZ
  go_wp2_with fail
  refine (wbytes_any _ _ _ _ hW2).mono ?_
  rintro en w3 ⟨rfl, n3, rfl⟩
  have hO3 := hO2.drewN n3
  go_wp2_with fail
  go_ret
  exact ⟨rfl, hO3⟩

set_option maxRecDepth 100000 in
theorem PutNote_any (x : Note) (cs : List Value) (ok : Nat → Prop) (w : World) (hE : noteE w ok cs x) (hi : In w ok) (hl : (noteF.lay x).length ≤ 144900000000000) :
    Calls Try.prog 13 #[.agg cs.toArray] w (OldStr w (noteF.lay x)) := by
  have hfl := noteE_flat hE
  have hsz : (Try.prog.info? 45).map (·.size) = some cs.length := by rw [hfl.1]; kernel_rfl
  have HSZ := Lib.hid hsz
  have hA : Old w (w.alloc (.cells cs.toArray 45)) := (Kept.refl _ w).alloc _
  have hE1 := noteE_ok.keep hE hA (disj_none _)
  have hi1 := hi.kept hA
  have HRG := Lib.hid (range_new w cs 45)
  clear hfl hsz
  go_enter Try.func13, Try.ntmps13
  go_wp2_with (refine wpList_load_mid rfl 45 (.tmp 1) rfl w.heap.size 0 rfl cs _ HRG.out Try.underlying45 rfl HSZ.out ?_)
  refine (whole_note x cs ok _ hE1 hi1 hl).mono ?_
  rintro en w1 ⟨rfl, hO1⟩
  have hO := hA.none hO1
  clear hA hE1 hi1 hO1
  go_wp2_with fail
  go_ret
  exact ⟨rfl, hO⟩

end Go.Proofs.Ytpmemcpfoapjmaa

namespace Go.Proofs.Ytpmemcpfoapjmaa
open Go.ChangeShapes Go.WideShapes Go.ChangeAt Go.RowKit
set_option linter.unusedVariables false

theorem num_fit {l : List UInt8} {p e q e' : Nat} {a : Int} (g : numF.get l p e = (a, q, e')) : I64 a := by
  have h : unzz (rSev l p e).1 = a := congrArg (·.1) g
  have hf := rSev_fit l p e
  rw [← h]
  exact ⟨unzz_lo hf, unzz_hi hf⟩
theorem rText_short (l : List UInt8) (most : Nat) (p e : Nat) : (rText l most p e).1.length ≤ most := by
  have := rCount_le l most p e
  unfold rText
  split
  · simp
  · split
    · simp only [List.length_take]; omega
    · simp
theorem text_fit {l : List UInt8} {m p e q e' : Nat} {t : ByteArray} (hm : m ≤ 100000) (g : (textF m).get l p e = (t, q, e')) : Str t := by
  have h : (⟨(rText l m p e).1.toArray⟩ : ByteArray) = t := congrArg (·.1) g
  have hf := rText_short l m p e
  rw [← h]
  unfold Str
  rw [mk_size]
  omega
theorem fnum_of {s : ByteArray} {pos e q e' : Nat} {a : Int} (g : numF.get s.data.toList pos e = (a, q, e')) : ∀ (W : World) (b p : Nat), FAt W b s p e → (e = 0 → p = pos) →
    Calls Try.prog 68 #[.pointer (some ⟨b, 0, none⟩)] W (FPost W b s (.int .i64 a) q e') := fun W b p hF hp => by
  have h := fnum_any W b s p pos e hF hp
  have h1 : unzz (rSev s.data.toList pos e).1 = a := congrArg (·.1) g
  have h2 : (rSev s.data.toList pos e).2.1 = q := congrArg (·.2.1) g
  have h3 : (rSev s.data.toList pos e).2.2 = e' := congrArg (·.2.2) g
  rw [h1, h2, h3] at h
  exact h
theorem ftext_of {s : ByteArray} {m pos e q e' : Nat} {t : ByteArray} (hm : m ≤ 100000) (g : (textF m).get s.data.toList pos e = (t, q, e')) : ∀ (W : World) (b p : Nat), FAt W b s p e → (e = 0 → p = pos) →
    Calls Try.prog 77 #[.pointer (some ⟨b, 0, none⟩), .int .i64 (m : Nat)] W (FPost W b s (.string t) q e') := fun W b p hF hp => by
  have h := ftext_any m W b s p pos e hF hp (by unfold I64; omega)
  have h1 : (⟨(rText s.data.toList m pos e).1.toArray⟩ : ByteArray) = t := congrArg (·.1) g
  have h2 : (rText s.data.toList m pos e).2.1 = q := congrArg (·.2.1) g
  have h3 : (rText s.data.toList m pos e).2.2 = e' := congrArg (·.2.2) g
  rw [h1, h2, h3] at h
  exact h
def TakeOf (W : World) (b : Nat) (s : ByteArray) (xs : List Int) (q e' : Nat) (en : Ending) (w' : World) : Prop :=
  ∃ g p', en = .returned (.slice (some ⟨g, 0, none⟩) xs.length xs.length) ∧ w'.heap[g]? = some (.cells (intsOf xs).toArray 3 (0, 0)) ∧ W.heap.size ≤ g ∧
    FAt w' b s p' e' ∧ (e' = 0 → p' = q) ∧ Kept (RS b) W w'
theorem ftake_of {s : ByteArray} {n pos e q e' : Nat} {xs : List Int} (hn : n ≤ 100000) (g : numsN n s.data.toList pos e = (xs, q, e')) : ∀ (W : World) (b p : Nat), FAt W b s p e → (e = 0 → p = pos) →
    Calls Try.prog 54 #[.pointer (some ⟨b, 0, none⟩), .int .i64 (n : Nat)] W (TakeOf W b s xs q e') := fun W b p hF hp => by
  have h := reftake_any n hn W b s p pos e hF hp
  have hl : xs.length = n := by
    have : (numsN n s.data.toList pos e).1.length = n := getN_len _ _ _ _ _
    rw [g] at this
    exact this
  unfold TkPost at h
  rw [g] at h
  unfold TakeOf
  rw [hl]
  exact h
theorem fend_of (s : ByteArray) (pos e : Nat) : ∀ (W : World) (b p : Nat), FAt W b s p e → (e = 0 → p = pos) →
    Calls Try.prog 37 #[.pointer (some ⟨b, 0, none⟩)] W (FPost W b s (.int .i64 (rEndE s.size pos e : Nat)) pos (rEndE s.size pos e)) := fun W b p hF hp => fend_any W b s p pos e hF hp
theorem fresh_reader (w : World) (s : ByteArray) (hs : s.size ≤ 140737488355328) : FAt (w.alloc (.cells #[.string s, .int .i64 0, .int .i64 0] 72)) w.heap.size s 0 0 :=
  ⟨heap_alloc_new w _, Nat.zero_le _, hs⟩

end Go.Proofs.Ytpmemcpfoapjmaa

namespace Go.Proofs.Ytpmemcpfoapjmaa
open Go.ChangeShapes Go.WideShapes Go.ChangeAt Go.RowKit
set_option linter.unusedVariables false

/-- E, if nothing is wrong -/
def WkE {α : Type} (e : Nat) (E : CellsOf α) : CellsOf α := fun w ok cs x => e = 0 → E w ok cs x
theorem WkE_ok {α : Type} {e : Nat} {E : CellsOf α} (hE : E.Ok) : (WkE e E).Ok := ⟨fun h hk hd h0 => hE.keep (h h0) hk hd, fun h hm h0 => hE.mono (h h0) hm⟩

def FGPost {α : Type} (E : CellsOf α) (n : Nat) (nl : List Nat) (w : World) (b : Nat) (s : ByteArray) (x : α) (q e' : Nat) (en : Ending) (w' : World) : Prop :=
  ∃ cs p', en = .returned (.agg cs.toArray) ∧ Flat n cs ∧ (∀ i ∈ nl, cs[i]? = some (.slice none 0 0)) ∧ WkE e' E w' (New w) cs x ∧ FAt w' b s p' e' ∧ (e' = 0 → p' = q) ∧ Kept (RS b) w w'
def FLPost {α : Type} (E : CellsOf α) (sz : Nat) (w : World) (b : Nat) (s : ByteArray) (xs : List α) (q e' : Nat) (en : Ending) (w' : World) : Prop :=
  ∃ sv p', en = .returned sv ∧ IsSl sv ∧ (e' = 0 → ListR E w' (New w) sz sv xs) ∧ FAt w' b s p' e' ∧ (e' = 0 → p' = q) ∧ Kept (RS b) w w'

theorem AccR.weak {α : Type} {E : CellsOf α} {w0 w : World} {T : TypeId} {sz : Nat} {acc : Value} {ys : List α} {e e' : Nat} (h : AccR (WkE e E) w0 w T sz acc ys) (he : e' = 0 → e = 0) : AccR (WkE e' E) w0 w T sz acc ys := by
  obtain ⟨rows, h1, h2, h3, h4⟩ := h
  exact ⟨rows, h1, h2, h3, fun i hi hi' h0 => h4 i hi hi' (he h0)⟩
theorem AccR.isSl {α : Type} {E : CellsOf α} {w0 w : World} {T : TypeId} {sz : Nat} {acc : Value} {ys : List α} (h : AccR E w0 w T sz acc ys) : IsSl acc := by
  obtain ⟨rows, h1, _⟩ := h
  rcases h1.2 with ⟨rfl, _⟩ | ⟨g, cap, cur, rfl, _⟩
  · exact ⟨_, _, _, rfl⟩
  · exact ⟨_, _, _, rfl⟩
theorem ListR.weak {α : Type} {E : CellsOf α} {w : World} {ok : Nat → Prop} {sz : Nat} {v : Value} {l : List α} {e : Nat} (h : ListR (WkE e E) w ok sz v l) : e = 0 → ListR E w ok sz v l := by
  intro h0
  obtain ⟨rows, h1, h2, h3⟩ := h
  exact ⟨rows, h1, h2, fun i hi hi' => h3 i hi hi' h0⟩

/-- at the head of a loop that takes up n things -/
structure FGetRel {α : Type} (E : CellsOf α) (f : Fmt α) (w0 : World) (b : Nat) (s : ByteArray) (T : TypeId) (sz n p e : Nat) (acc iv : Value) (wr : World) : Prop where
  ex : ∃ k p', iv = .int .i64 (k : Nat) ∧ k ≤ n ∧ AccR (WkE (getN f.get k s.data.toList p e).2.2 E) w0 wr T sz acc (getN f.get k s.data.toList p e).1 ∧
    FAt wr b s p' (getN f.get k s.data.toList p e).2.2 ∧ ((getN f.get k s.data.toList p e).2.2 = 0 → p' = (getN f.get k s.data.toList p e).2.1) ∧ Kept (RS b) w0 wr

theorem getN_wrong {α : Type} {f : Fmt α} (hf : f.Ok) {k n : Nat} (hk : k ≤ n) {l : List UInt8} {p e : Nat} (h : (getN f.get k l p e).2.2 ≠ 0) : (getN f.get n l p e).2.2 = (getN f.get k l p e).2.2 := by
  obtain ⟨m, rfl⟩ : ∃ m, n = k + m := ⟨n - k, by omega⟩
  clear hk
  induction m with
  | zero => rfl
  | succ m ih =>
    rw [show k + (m + 1) = (k + m) + 1 from rfl, getN_snoc]
    dsimp only
    rw [hf.stays _ _ _ (by rw [ih]; exact h), ih]

theorem refcnt_any (w : World) (b : Nat) (s : ByteArray) (p pos e : Nat) (hF : FAt w b s p e) (hp : e = 0 → p = pos) {n q e' : Nat} (h : rCount s.data.toList 256 pos e = (n, q, e')) :
    Calls Try.prog 70 #[.pointer (some ⟨b, 0, none⟩)] w (FPost w b s (.int .i64 n) q e') := by
  have hc := fcount_any 256 w b s p pos e hF hp (by unfold I64; omega)
  rw [h] at hc
  have HC := Lib.hid hc; clear hc
  clear h hp
  go_enter Try.func70, Try.ntmps70
  go_wp2_with fail
  refine HC.out.mono ?_
  rintro en w1 ⟨p1, rfl, hF1, hp1, hk1⟩
  have HP := Lib.hid hp1; clear hp1
  go_wp2_with fail
  go_ret
  exact ⟨p1, rfl, hF1, HP.out, hk1⟩

set_option maxRecDepth 100000 in
set_option maxHeartbeats 800000 in
theorem reftake_acls (w : World) (b : Nat) (s : ByteArray) (p pos e : Nat) (hF : FAt w b s p e) (hp : e = 0 → p = pos) {xs : List Acl} {q e' : Nat} (h : (listF aclF).get s.data.toList pos e = (xs, q, e')) :
    Calls Try.prog 78 #[.pointer (some ⟨b, 0, none⟩)] w (FLPost aclE 2 w b s xs q e') := by
  obtain ⟨i0, hi, hz0, hz1, hz2⟩ := info_parts info_acl
  have hcl := rCount_le s.data.toList 256 pos e
  rcases h1 : rCount s.data.toList 256 pos e with ⟨n, p1, e1⟩
  have HCC := Lib.hid (refcnt_any w b s p pos e hF hp h1)
  rw [h1] at hcl
  simp only [listF, h1] at h hcl
  have HH := Lib.hid h; clear h
  have HZ1 := Lib.hid hz1; clear hz1
  have HZ2 := Lib.hid hz2; clear hz2
  have HZ0 := Lib.hid hz0; clear hz0
  have HI := Lib.hid hi; clear hi
  clear h1 hp
  have hn : n ≤ 256 := by omega
  clear hcl
  have hbw := lt_of_block hF.at_
  clear hF
  go_enter Try.func78, Try.ntmps78
  go_wp2_with fail
  refine HCC.out.mono ?_
  rintro en w0 ⟨p0, rfl, hF0, hp0, hk0⟩
  have HP0 := Lib.hid hp0; clear hp0
  go_wp2_with fail
  go_loopw [3, 5] (fun acc iv wr => FGetRel aclE aclF w b s 47 2 n p1 e1 acc iv wr) (fun _ iv _ => n - (intOf iv).toNat)
  case atStart => exact ⟨0, p0, rfl, Nat.zero_le _, AccR.nil _ _ _ _ _, hF0, HP0.out, hk0⟩
  case round =>
    obtain ⟨k, pk, rfl, hkn, hacc, hFk, hpk, hK⟩ := hrel.ex
    clear hrel HCC hF0 hk0 HP0
    have c2 := hFk.c2
    by_cases hlt : k < n
    · have hkl : (k : Int) < (n : Int) := by omega
      by_cases hz : (getN aclF.get k s.data.toList p1 e1).2.2 = 0
      · rcases hgn : getN aclF.get k s.data.toList p1 e1 with ⟨ys, qk, ek⟩
        have hlen := getN_len (aclF).get k s.data.toList p1 e1
        have hsn := getN_snoc (aclF).get k s.data.toList p1 e1
        rw [hgn] at hacc hFk hpk c2 hz hlen hsn
        simp only at hacc hFk hpk c2 hz hlen hsn
        subst hz
        rcases g1 : numF.get s.data.toList qk 0 with ⟨a1, qa, ea⟩
        rcases g2 : (textF 4096).get s.data.toList qa ea with ⟨a2, qb, eb⟩
        have hone : aclF.get s.data.toList qk 0 = (⟨a1, a2⟩, qb, eb) := by simp only [aclF, isoF, seqF, g1, g2]
        rw [hone] at hsn
        simp only at hsn
        have i1 : I64 a1 := num_fit g1
        have i2 : Str a2 := text_fit (by decide) g2
        have K1 := Lib.hid (fnum_of g1)
        have K2 := Lib.hid (ftext_of (by decide) g2)
        have HSN := Lib.hid hsn
        have HPK := Lib.hid hpk
        clear hgn g1 g2 hone hsn hpk
        go_wp2_with fail
        refine (K1.out _ _ _ hFk HPK.out).mono ?_
        rintro en w1 ⟨pa, rfl, hFa, hpa, hka⟩
        have HPA := Lib.hid hpa; clear hpa
        go_wp2_with fail
        refine (K2.out _ _ _ hFa HPA.out).mono ?_
        rintro en w2 ⟨pb, rfl, hFb, hpb, hkb⟩
        have HPB := Lib.hid hpb; clear hpb
        have hka2 := hka.trans hkb
        have hacc1 := (hacc.keep (WkE_ok aclE_ok) hka2 (fun g hg hs => by have hs' : g = b := hs; have hg' : w.heap.size ≤ g := hg; omega)).weak (e' := eb) (fun _ => rfl)
        have hE2 : WkE eb aclE w2 (fun g => w.heap.size ≤ g ∧ some g ≠ u3.ownBlock) [.int .i64 a1, .string a2] ⟨a1, a2⟩ := fun _ => ⟨rfl, i1, i2⟩
        have hfl : Flat 2 [Value.int .i64 a1, Value.string a2] := ⟨rfl, by simp [Value.oneCell']⟩
        have hwl : w.heap.size ≤ w2.heap.size := Nat.le_trans hK.size hka2.size
        have hK1 := hK.trans hka2
        clear hacc hka hkb hK hka2 hFa hFk K1 K2 c2 HPA HPK
        go_wp2_with (first | (refine wpList_one rfl 22 47 (.tmp 29) rfl (.agg #[.int .i64 a1, .string a2]) [.int .i64 a1, .string a2] rfl rfl i0 _ Try.underlying22 HI.out HZ0.out (by rw [HZ1.out]; rfl) (by decide) (by decide) ?_) | (at_builtin; go_loud (refine wpList_push (WkE_ok aclE_ok) w w2 rfl (.tmp 26) (.tmp 30) 22 rfl 47 i0 _ 2 24 Try.underlying22 HI.out HZ0.out HZ1.out HZ2.out rfl (by decide) u3 _ hacc1 _ _ hE2 hfl rfl rfl (by omega) (by decide) hwl ?_); intro v' w' hacc' hk'))
        go_roundw
        case rel => exact ⟨k + 1, pb, by go_num, hlt, by rw [HSN.out]; exact hacc', by rw [HSN.out]; exact hFb.keep hk' (fun hs => by have hs' : w.heap.size ≤ b := hs; omega), by rw [HSN.out]; exact HPB.out, Kept.trans' hK1 hk' (fun g hg hs => by have hs' : w.heap.size ≤ g := hs; omega)⟩
        case measure => simp [intOf]; omega
      · have hne : (((getN aclF.get k s.data.toList p1 e1).2.2 : Nat) : Int) ≠ 0 := by omega
        have hfin : e' ≠ 0 := by
          have h2 := getN_wrong aclF_ok hkn hz
          rw [HH.out] at h2
          simp only at h2
          omega
        have hee : (getN aclF.get k s.data.toList p1 e1).2.2 = e' := by
          have h2 := getN_wrong aclF_ok hkn hz
          rw [HH.out] at h2
          exact h2.symm
        have hsl := hacc.isSl
        rw [hee] at hFk c2 hne
        have HSL := Lib.hid hsl
        clear hacc hpk hz hee hsl HH
        have hneb : (((e' : Nat) : Int) == 0) = false := by simpa using hne
        go_wp2_with fail
        go_ret
        exact ⟨_, pk, rfl, HSL.out, fun h0 => absurd h0 hfin, hFk, fun h0 => absurd h0 hfin, hK⟩
    · have hkl : ¬ (k : Int) < (n : Int) := by omega
      obtain rfl : k = n := by omega
      have hlist := hacc.list (WkE_ok aclE_ok)
      have hsl := hacc.isSl
      rw [HH.out] at hlist hFk hpk c2
      have HL := Lib.hid hlist.weak
      have HSL := Lib.hid hsl
      have HPK := Lib.hid hpk
      clear hacc hlist hpk hsl HH
      go_wp2_with fail
      go_ret
      exact ⟨_, pk, rfl, HSL.out, HL.out, hFk, HPK.out, hK⟩
end Go.Proofs.Ytpmemcpfoapjmaa

namespace Go.Proofs.Ytpmemcpfoapjmaa
open Go.ChangeShapes Go.WideShapes Go.ChangeAt Go.RowKit
set_option linter.unusedVariables false

structure FB (w : World) (b : Nat) (s : ByteArray) (T : TypeId) (zc : List Value) (W : World) (cur : List Value) (p e : Nat) : Prop where
  old : b < w.heap.size
  rd : FAt W b s p e
  kept : Kept (RS b) w W
  res : W.heap[w.heap.size]? = some (.cells zc.toArray T (0, 0))
  box : W.heap[w.heap.size + 1]? = some (.cells cur.toArray T (0, 0))

def Ok2 (w : World) : Nat → Prop := fun k => w.heap.size + 2 ≤ k

theorem FB.start {w : World} {b : Nat} {s : ByteArray} {p e : Nat} (hF : FAt w b s p e) (T : TypeId) (zc cur : List Value) : FB w b s T zc ((w.alloc (.cells zc.toArray T)).alloc (.cells cur.toArray T)) cur p e := by
  have hb := lt_of_block hF.at_
  have hK : Kept (RS b) w ((w.alloc (.cells zc.toArray T)).alloc (.cells cur.toArray T)) := ((Kept.refl _ w).alloc _).alloc _
  refine ⟨hb, hF.keep (((Kept.refl (fun _ => False) w).alloc _).alloc _) id, hK, ?_, ?_⟩
  · rw [((Old.refl (w.alloc (.cells zc.toArray T))).make _).block _ (by simp) id]; exact heap_alloc_new w _
  · have h := heap_alloc_new (w.alloc (.cells zc.toArray T)) (.cells cur.toArray T)
    rwa [show (w.alloc (.cells zc.toArray T)).heap.size = w.heap.size + 1 from by simp] at h

section
variable {w W W' : World} {b : Nat} {s : ByteArray} {T : TypeId} {zc cur : List Value} {p e p' e' : Nat}
theorem FB.size (h : FB w b s T zc W cur p e) : w.heap.size + 2 ≤ W.heap.size := by have := lt_of_block h.box; omega
theorem FB.call (h : FB w b s T zc W cur p e) (hF : FAt W' b s p' e') (hk : Kept (RS b) W W') : FB w b s T zc W' cur p' e' :=
  ⟨h.old, hF, h.kept.trans hk, by rw [hk.block _ (lt_of_block h.res) (fun hs => by have hs' : w.heap.size = b := hs; have := h.old; omega)]; exact h.res,
    by rw [hk.block _ (lt_of_block h.box) (fun hs => by have hs' : w.heap.size + 1 = b := hs; have := h.old; omega)]; exact h.box⟩
theorem FB.set (h : FB w b s T zc W cur p e) (c : List Value) : FB w b s T zc (W.setRow (w.heap.size + 1) c.toArray) c p e := by
  have hk := setRow_kept W (w.heap.size + 1) c.toArray
  have hb := h.old
  exact ⟨h.old, h.rd.keep hk (by omega), Kept.trans' h.kept hk (fun k hk1 hs => by have hs' : k = w.heap.size + 1 := hs; omega), by rw [hk.block _ (lt_of_block h.res) (by omega)]; exact h.res, setRow_heap _ _ _ _ _ _ h.box⟩
theorem FB.new {W0 : World} (h : FB w b s T zc W0 cur p e) {k : Nat} (hk : New W0 k) : Ok2 w k := Nat.le_trans h.size hk
theorem ok2_rs (hb : b < w.heap.size) : Disj (Ok2 w) (RS b) := fun k hk hs => by have hk' : w.heap.size + 2 ≤ k := hk; have hs' : k = b := hs; omega
theorem ok2_box (w : World) : Disj (Ok2 w) (fun k => k = w.heap.size + 1) := fun k hk hs => by have hk' : w.heap.size + 2 ≤ k := hk; have hs' : k = w.heap.size + 1 := hs; omega
theorem ok2_res (w : World) : Disj (Ok2 w) (fun k => k = w.heap.size) := fun k hk hs => by have hk' : w.heap.size + 2 ≤ k := hk; have hs' : k = w.heap.size := hs; omega

section
variable {α : Type} {E : CellsOf α} {sz : Nat} {sv : Value} {xs : List α} {n : Nat}
/-- a list that lies apart, if nothing was wrong when it was taken up -/
structure LB (E : CellsOf α) (w W : World) (sz : Nat) (sv : Value) (xs : List α) (n : Nat) : Prop where
  shape : IsSl sv
  list : n = 0 → ListR E W (Ok2 w) sz sv xs
theorem LB.mk' (hE : E.Ok) {W0 : World} (h : FB w b s T zc W0 cur p e) (hs : IsSl sv) (hL : n = 0 → ListR E W (New W0) sz sv xs) : LB E w W sz sv xs n :=
  ⟨hs, fun h0 => (hL h0).mono hE (fun k _ hk => h.new hk)⟩
theorem LB.call (hE : E.Ok) (h : LB E w W sz sv xs n) (hb : b < w.heap.size) (hk : Kept (RS b) W W') : LB E w W' sz sv xs n := ⟨h.shape, fun h0 => (h.list h0).keep hE hk (ok2_rs hb)⟩
theorem LB.set (hE : E.Ok) (h : LB E w W sz sv xs n) (c : Array Value) : LB E w (W.setRow (w.heap.size + 1) c) sz sv xs n := ⟨h.shape, fun h0 => (h.list h0).keep hE (setRow_kept _ _ _) (ok2_box w)⟩
theorem LB.fin (hE : E.Ok) (h : LB E w W sz sv xs n) (c : Array Value) (h0 : n = 0) : ListR E (W.setRow w.heap.size c) (New w) sz sv xs :=
  ((h.list h0).keep hE (setRow_kept _ _ _) (ok2_res w)).mono hE (fun k _ hk => by have hk' : w.heap.size + 2 ≤ k := hk; unfold New; omega)
end

/-- several numbers that lie apart -/
structure TB (w W : World) (g : Nat) (xs : List Int) : Prop where
  blk : W.heap[g]? = some (.cells (intsOf xs).toArray 3 (0, 0))
  gt : w.heap.size + 2 ≤ g
theorem TB.call {g : Nat} {xs : List Int} (h : TB w W g xs) (hb : b < w.heap.size) (hk : Kept (RS b) W W') : TB w W' g xs := ⟨by rw [hk.block _ (lt_of_block h.blk) (fun hs => by have hs' : g = b := hs; have := h.gt; omega)]; exact h.blk, h.gt⟩
theorem TB.set {g : Nat} {xs : List Int} (h : TB w W g xs) (c : Array Value) : TB w (W.setRow (w.heap.size + 1) c) g xs := ⟨by rw [(setRow_kept W (w.heap.size + 1) c).block _ (lt_of_block h.blk) (by have := h.gt; omega)]; exact h.blk, h.gt⟩
theorem TB.cell {g : Nat} {xs : List Int} (h : TB w W g xs) (j : Nat) (x : Int) (hx : xs[j]? = some x) : W.cell? ⟨g, j, none⟩ = some (.int .i64 x) := by
  rw [cell_of_row _ g j _ _ (0, 0) h.blk]
  simp [intsOf, hx]
end

theorem wpList_store_to {P : Program} {ops : Array Oper} {rest : List Oper} {op : Oper} {a : Act} {w : World} {Q : Exit → Act → World → Prop} (hgd : op.guard = none) (ty : TypeId) (x y : Operand) (ho : op.op = .store ty x y)
    (g i : Nat) (v : Value) (hx : a.eval x = .pointer (some ⟨g, i, none⟩)) (hy : a.eval y = v) (hv : v.oneCell' = true) (c : List Value) (T : TypeId) (hg : w.heap[g]? = some (.cells c.toArray T (0, 0))) (hil : i < c.length) (hi : (P.info? ty).map (·.size) = some 1)
    (c1 : List Value) (hc1 : c.set i v = c1) (w1 : World) (hw : w.setRow g c1.toArray = w1) (h : wpList P ops Q rest (a.put op.dst undef) w1) : wpList P ops Q (op :: rest) a w := by
  subst hc1
  subst hw
  exact wpList_store_at hgd ty x y ho g i v hx hy hv c T hg hil hi h

theorem back0 {α : Type} {f : Fmt α} (hf : f.Ok) {l : List UInt8} {p e q e' : Nat} {x : α} (g : f.get l p e = (x, q, e')) (h : e' = 0) : e = 0 := by
  by_cases h0 : e = 0
  · exact h0
  · have := hf.stays l p e h0
    rw [g] at this
    simp only at this
    omega

theorem facls_of {s : ByteArray} {pos e q e' : Nat} {xs : List Acl} (g : (listF aclF).get s.data.toList pos e = (xs, q, e')) : ∀ (W : World) (b p : Nat), FAt W b s p e → (e = 0 → p = pos) →
    Calls Try.prog 78 #[.pointer (some ⟨b, 0, none⟩)] W (FLPost aclE 2 W b s xs q e') := fun W b p hF hp => reftake_acls W b s p pos e hF hp g
end Go.Proofs.Ytpmemcpfoapjmaa

namespace Go.Proofs.Ytpmemcpfoapjmaa
open Go.ChangeShapes Go.WideShapes Go.ChangeAt Go.RowKit
set_option linter.unusedVariables false

/-- the reader's block and the thing's -/
def BG (b g : Nat) : Nat → Prop := fun j => j = b ∨ j = g
/-- at the head of a loop that takes up n elements into the thing in block g, its list at cell idx -/
structure SubRel {α : Type} (E : CellsOf α) (f : Fmt α) (b : Nat) (s : ByteArray) (T : TypeId) (g : Nat) (cs : List Value) (idx : Nat) (wl : World) (Te : TypeId) (sz n p e : Nat) (iv : Value) (wr : World) : Prop where
  ex : ∃ k p' acc, iv = .int .i64 (k : Nat) ∧ k ≤ n ∧ AccR (WkE (getN f.get k s.data.toList p e).2.2 E) wl wr Te sz acc (getN f.get k s.data.toList p e).1 ∧
    FAt wr b s p' (getN f.get k s.data.toList p e).2.2 ∧ ((getN f.get k s.data.toList p e).2.2 = 0 → p' = (getN f.get k s.data.toList p e).2.1) ∧
    wr.heap[g]? = some (.cells (cs.set idx acc).toArray T (0, 0)) ∧ Kept (BG b g) wl wr

/-- where the loop ends -/
structure SubEnd {α : Type} (E : CellsOf α) (b : Nat) (s : ByteArray) (T : TypeId) (g : Nat) (cs : List Value) (idx : Nat) (wl : World) (sz : Nat) (xs : List α) (q e' : Nat) (p' : Nat) (acc : Value) (wr : World) : Prop where
  rd : FAt wr b s p' e'
  pos : e' = 0 → p' = q
  shape : IsSl acc
  list : e' = 0 → ListR E wr (New wl) sz acc xs
  box : wr.heap[g]? = some (.cells (cs.set idx acc).toArray T (0, 0))
  kept : Kept (BG b g) wl wr

section
variable {α : Type} {E : CellsOf α} {f : Fmt α} {b : Nat} {s : ByteArray} {T : TypeId} {g : Nat} {cs : List Value} {idx : Nat} {wl : World} {Te : TypeId} {sz n p e : Nat}
theorem SubRel.start {p0 : Nat} (hF : FAt wl b s p0 e) (hp : e = 0 → p0 = p) (hbox : wl.heap[g]? = some (.cells cs.toArray T (0, 0))) (hnil : cs[idx]? = some (.slice none 0 0)) : SubRel E f b s T g cs idx wl Te sz n p e (.int .i64 0) wl := by
  refine ⟨0, p0, .slice none 0 0, rfl, Nat.zero_le _, AccR.nil _ _ _ _ _, hF, hp, ?_, Kept.refl _ _⟩
  obtain ⟨hi, hv⟩ := List.getElem?_eq_some_iff.1 hnil
  have : cs.set idx (.slice none 0 0) = cs := by rw [← hv]; exact List.set_getElem_self hi
  rw [this]; exact hbox

theorem SubRel.out (hE : E.Ok) (hf : f.Ok) {k p' : Nat} {acc : Value} {wr : World} {xs : List α} {q e' : Nat} (hgo : ¬ (k < n ∧ (getN f.get k s.data.toList p e).2.2 = 0)) (hk : k ≤ n) (h : getN f.get n s.data.toList p e = (xs, q, e'))
    (hacc : AccR (WkE (getN f.get k s.data.toList p e).2.2 E) wl wr Te sz acc (getN f.get k s.data.toList p e).1) (hF : FAt wr b s p' (getN f.get k s.data.toList p e).2.2)
    (hp : (getN f.get k s.data.toList p e).2.2 = 0 → p' = (getN f.get k s.data.toList p e).2.1) (hbox : wr.heap[g]? = some (.cells (cs.set idx acc).toArray T (0, 0))) (hK : Kept (BG b g) wl wr) (hT : TyOf sz Te := by unfold TyOf; decide) :
    SubEnd E b s T g cs idx wl sz xs q e' p' acc wr ∧ (getN f.get k s.data.toList p e).2.2 = e' := by
  by_cases hz : (getN f.get k s.data.toList p e).2.2 = 0
  · obtain rfl : k = n := by omega
    rw [h] at hacc hF hp hz
    simp only at hacc hF hp hz
    refine ⟨⟨hF, hp, hacc.isSl, (hacc.list (WkE_ok hE) hT).weak, hbox, hK⟩, by rw [h]⟩
  · have h2 := getN_wrong hf hk hz
    rw [h] at h2
    simp only at h2
    rw [← h2] at hF hz
    exact ⟨⟨hF, fun h0 => absurd h0 hz, hacc.isSl, fun h0 => absurd h0 hz, hbox, hK⟩, h2.symm⟩

theorem SubRel.step (hE : E.Ok) {k pb : Nat} {v' acc : Value} {w' : World} {ys : List α} {y : α} {qb eb : Nat} (hb : b < wl.heap.size) (hg : g < wl.heap.size) (hbg : b ≠ g) (hk : k < n) (hsn : getN f.get (k + 1) s.data.toList p e = (ys ++ [y], qb, eb))
    (hacc : AccR (WkE eb E) wl w' Te sz v' (ys ++ [y])) (hF : FAt w' b s pb eb) (hp : eb = 0 → pb = qb) (hbox : w'.heap[g]? = some (.cells (cs.set idx acc).toArray T (0, 0))) (hK : Kept (BG b g) wl w') :
    SubRel E f b s T g cs idx wl Te sz n p e (.int .i64 ((k : Int) + 1)) (w'.setRow g (cs.set idx v').toArray) := by
  have hs := setRow_kept w' g (cs.set idx v').toArray
  refine ⟨k + 1, pb, v', by go_num, hk, ?_, ?_, ?_, ?_, ?_⟩
  · rw [hsn]; exact hacc.keep (WkE_ok hE) hs (fun j hj hj' => by have h1 : wl.heap.size ≤ j := hj; have h2 : j = g := hj'; omega)
  · rw [hsn]; exact hF.keep hs hbg
  · rw [hsn]; exact hp
  · rw [setRow_heap _ _ _ _ _ _ hbox]
  · exact Kept.trans' hK hs (fun j _ hj => Or.inr hj)

/-- what a step's callee leaves: the accumulated list, the element, the reader and the box -/
theorem sub_call (hE : E.Ok) {wr w1 : World} {acc : Value} {ys : List α} {e' : Nat} (hb : b < wl.heap.size) (hbg : b ≠ g) (hacc : AccR (WkE 0 E) wl wr Te sz acc ys) (hk : Kept (RS b) wr w1) : AccR (WkE e' E) wl w1 Te sz acc ys :=
  (hacc.keep (WkE_ok hE) hk (fun j hj hj' => by have h1 : wl.heap.size ≤ j := hj; have h2 : j = b := hj'; omega)).weak (fun _ => rfl)
theorem sub_elem (hE : E.Ok) {wr w1 : World} {acc : Value} {ys : List α} {y : α} {c : List Value} {e' e0 : Nat} (hacc : AccR (WkE e0 E) wl wr Te sz acc ys) (hwl : wl.heap.size ≤ wr.heap.size) (h : WkE e' E w1 (New wr) c y) : WkE e' E w1 (fun j => wl.heap.size ≤ j ∧ some j ≠ acc.ownBlock) c y := by
  have hown := hacc.own
  exact (WkE_ok hE).mono h (fun j _ hj => ⟨Nat.le_trans hwl hj, fun e => by have := (hown j e.symm).2; have hj' : wr.heap.size ≤ j := hj; omega⟩)
end

/-- one row more onto a list that the call made -/
theorem run_push_at {P : Program} {α : Type} {E : CellsOf α} (hE : E.Ok) {w0 W : World} {T : TypeId} {sz bytes : Nat} {acc : Value} {ys : List α} (hacc : AccR E w0 W T sz acc ys) {B c : Nat} {cs : List Value} {y : α}
    (hB : W.heap[B]? = some (.cells cs.toArray T (0, 0))) (hEy : E W (fun g => w0.heap.size ≤ g ∧ some g ≠ acc.ownBlock) cs y) (hfl : Flat sz cs)
    (t ty : TypeId) (i : TypeInfo) (z : Value) (ht : P.underlying t = some (.slice T)) (hi : P.info? T = some i) (hz : i.zero = some z) (hsize : i.size = sz) (hby : i.bytes = bytes) (hzs : z.cells.size = sz) (hsz : 0 < sz)
    (hsm : ys.length ≤ 1000) (hbs : bytes ≤ 1000) (hw : w0.heap.size ≤ W.heap.size) :
    ∃ v' w', (Builtin.append_ #[t, t] ty #[acc, .slice (some ⟨B, 0, none⟩) 1 c]).run P W = .ok v' w' ∧ AccR E w0 w' T sz v' (ys ++ [y]) ∧ Kept (fun k => some k = acc.ownBlock) W w' := by
  have hown := hacc.own
  obtain ⟨rows, h1, h2, h3, h4⟩ := hacc
  have hbytes : (ys.length + 1) * bytes ≤ 140737488355328 := by
    have : (ys.length + 1) * bytes ≤ 1001 * 1000 := Nat.mul_le_mul (by omega) hbs
    omega
  obtain ⟨v', w', hr, o1, o2, o3⟩ := run_append_apart (P := P) W w0.heap.size t ty T i z sz bytes ht hi hz hsize hby hzs hsz acc ys.length rows.flatten h1 ⟨B, 0, none⟩ 1 c cs (by rw [hfl.1, Nat.one_mul])
    (fun j u hu => by rw [Addr.add_mid]; exact range_row hB j u hu) hfl.2 (by unfold maxLen; omega) hbytes hw
  have hk : Kept (fun k => some k = acc.ownBlock) W w' := Kept.of_grownBy o2
  have hmv : ∀ k, k < W.heap.size → w0.heap.size ≤ k ∧ some k ≠ acc.ownBlock → w0.heap.size ≤ k ∧ some k ≠ v'.ownBlock := by
    intro k hk1 hk2
    refine ⟨hk2.1, fun e => ?_⟩
    rcases o3 with o3 | o3
    · exact hk2.2 (e.trans o3)
    · have := o3 k e.symm
      omega
  refine ⟨v', w', hr, ⟨rows ++ [cs], by simpa using o1, by simp [h2], fun r hr => ?_, fun i hi' hi2 => ?_⟩, hk⟩
  · rcases List.mem_append.1 hr with hr | hr
    · exact h3 r hr
    · rw [List.mem_singleton.1 hr]; exact hfl
  · have hst : ∀ (c : List Value) (u : α), E W (fun g => w0.heap.size ≤ g ∧ some g ≠ acc.ownBlock) c u → E w' (fun g => w0.heap.size ≤ g ∧ some g ≠ v'.ownBlock) c u := fun c u hc =>
      hE.keep (hE.mono (hE.mono hc (ok' := fun g => (w0.heap.size ≤ g ∧ some g ≠ v'.ownBlock) ∧ some g ≠ acc.ownBlock) (fun k a b => ⟨hmv k a b, b.2⟩)) (fun _ _ b => b)) hk (fun k a b => a.2 b) |> fun q => hE.mono q (fun _ _ b => b.1)
    by_cases hlt : i < ys.length
    · have := hst _ _ (h4 i hlt (by omega))
      rw [List.getElem_append_left (by omega), List.getElem_append_left hlt]
      exact this
    · have hi3 : i = ys.length := by simp at hi'; omega
      subst hi3
      have := hst _ _ hEy
      rw [List.getElem_append_right (by omega), List.getElem_append_right (by omega)]
      simp only [h2, Nat.sub_self, List.getElem_cons_zero]
      exact this

theorem o_keptS {S : Nat → Prop} {w w' : World} (h : Old w w') : Kept S w w' := Kept.mono h (fun _ _ f => f.elim)
/-- the block is as it was -/
structure AsAt (g : Nat) (w w' : World) : Prop where
  eq : w'.heap[g]? = w.heap[g]?
  lt : g < w.heap.size
  le : w.heap.size ≤ w'.heap.size
theorem AsAt.refl {g : Nat} {w : World} (h : g < w.heap.size) : AsAt g w w := ⟨rfl, h, Nat.le_refl _⟩
theorem AsAt.drew {g : Nat} {w w' : World} (h : AsAt g w w') : AsAt g w w'.drew := ⟨h.eq, h.lt, h.le⟩
theorem AsAt.make {g : Nat} {w w' : World} (h : AsAt g w w') (o : Obj) : AsAt g w (w'.alloc o) := ⟨by rw [((Old.refl w').make o).block _ (Nat.lt_of_lt_of_le h.lt h.le) id]; exact h.eq, h.lt, Nat.le_trans h.le (by simp)⟩
theorem AsAt.kept {g : Nat} {w w' w2 : World} {S : Nat → Prop} (h : AsAt g w w') (hk : Kept S w' w2) (hs : ¬ S g) : AsAt g w w2 := ⟨by rw [hk.block _ (Nat.lt_of_lt_of_le h.lt h.le) hs]; exact h.eq, h.lt, Nat.le_trans h.le hk.size⟩
theorem AsAt.set {g : Nat} {w w' : World} (h : AsAt g w w') (b i : Nat) (v : Value) (hb : g ≠ b) : AsAt g w (w'.setCell ⟨b, i, none⟩ v) :=
  h.kept (Kept.setCell (S := fun j => j = b) (Kept.refl _ w') (a := ⟨b, i, none⟩) (Or.inl rfl) v) hb
theorem AsAt.cell {g : Nat} {w w' : World} (h : AsAt g w w') {cs : List Value} {T : TypeId} (hb : w.heap[g]? = some (.cells cs.toArray T (0, 0))) (i : Nat) (v : Value) (hv : cs[i]? = some v) : w'.cell? ⟨g, i, none⟩ = some v := cell_of_heap (h.eq.trans hb) hv
end Go.Proofs.Ytpmemcpfoapjmaa
