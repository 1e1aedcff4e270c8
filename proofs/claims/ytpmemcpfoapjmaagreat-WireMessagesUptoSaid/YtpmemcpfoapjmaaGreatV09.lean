/- Event, Hello, Note: Put and Get. The document's own answers of layer 2: an event, a hello, a note, read. -/
import Derived.Test.YtpmemcpfoapjmaaGreatV06
import Derived.Test.YtpmemcpfoapjmaaGreatV08
import Derived.StillTailTactics
import Derived.Outline
namespace Go.Proofs.YtpmemcpfoapjmaaGreat
open Go.ChangeShapes Go.WideShapes Go.ChangeAt Go.RowKit
set_option linter.unusedVariables false

def zEvent : Event := ⟨0, ⟨#[]⟩, 0⟩
theorem zEvent_at (w : World) (ok : Nat → Prop) : eventE w ok [.int .i64 0, .string ⟨#[]⟩, .int .i64 0] zEvent := ⟨rfl, i64_zero, str_empty, i64_zero⟩

set_option maxRecDepth 100000 in
theorem whole_event (x : Event) (cs : List Value) (ok : Nat → Prop) (w : World) (hE : eventE w ok cs x) (hi : In w ok) (hl : (eventF.lay x).length ≤ 144900000000000) :
    Calls Tryz.prog 42 #[.agg cs.toArray, .func (.func 43) #[] #[]] w (OldStr w (eventF.lay x)) := by
  have hfl := eventE_flat hE
  have hsz : (Tryz.prog.info? 46).map (·.size) = some cs.length := by rw [hfl.1]; kernel_rfl
  have HSZ := Lib.hid hsz
  have hA : Kept (fun _ => False) w (w.alloc (.cells cs.toArray 46)) := (Kept.refl _ w).alloc _
  have hO1 : Old w ((w.alloc (.cells cs.toArray 46)).alloc (.cells #[.slice none 0 0] 140)) := hA.alloc _
  have hE1 := eventE_ok.keep hE hO1 (disj_none _)
  have hi1 := hi.kept hO1
  have hW1 := new_at (w.alloc (.cells cs.toArray 46))
  have hrg : ((w.alloc (.cells cs.toArray 46)).alloc (.cells #[.slice none 0 0] 140)).rangeAt w.heap.size 0 cs := range_row (by
    rw [((Kept.refl (fun _ => False) (w.alloc (.cells cs.toArray 46))).alloc (.cells #[.slice none 0 0] 140)).block _ (by simp) id]; exact heap_alloc_new w _)
  have HRG := Lib.hid hrg
  have hws : (w.alloc (.cells cs.toArray 46)).heap.size = w.heap.size + 1 := by simp
  rw [hws] at hW1
  have hd : Disj ok (WS (w.heap.size + 1) (.slice none 0 0)) := fun g hg hs => by
    have := hi g hg
    rcases hs with hs | hs
    · omega
    · simp [Value.ownBlock] at hs
  have ho : Off w.heap.size (WS (w.heap.size + 1) (.slice none 0 0)) := fun g hs => by
    rcases hs with hs | hs
    · omega
    · simp [Value.ownBlock] at hs
  clear hfl hsz hA hE hi hrg hws
  go_enter Tryz.func42, Tryz.ntmps42
  go_wp2_with fail
  refine (new_any _).mono ?_
  rintro en w1 ⟨rfl, rfl⟩
  go_wp2_with (refine wpList_load_mid rfl 46 (.tmp 2) rfl w.heap.size 0 rfl cs _ HRG.out Tryz.underlying46 rfl HSZ.out ?_)
  refine (put_event x cs ok _ _ _ [] hW1 hE1 hd hi1 (by simpa using hl)).mono ?_
  rintro en w2 ⟨v2, rfl, hW2, hk2, hs2⟩
  have hO2 := hO1.step hk2 ho
  clear hE1 hi1 hW1 hd ho hO1 hk2 hs2 HRG HSZ
  go_wp2_with fail
  refine (wbytes_any _ _ _ _ hW2).mono ?_
  rintro en w3 ⟨rfl, n3, rfl⟩
  have hO3 := hO2.drewN n3
  go_wp2_with fail
  go_ret
  exact ⟨rfl, hO3⟩

set_option maxRecDepth 100000 in
theorem PutEvent_any (x : Event) (cs : List Value) (ok : Nat → Prop) (w : World) (hE : eventE w ok cs x) (hi : In w ok) (hl : (eventF.lay x).length ≤ 144900000000000) :
    Calls Tryz.prog 15 #[.agg cs.toArray] w (OldStr w (eventF.lay x)) := by
  have hfl := eventE_flat hE
  have hsz : (Tryz.prog.info? 46).map (·.size) = some cs.length := by rw [hfl.1]; kernel_rfl
  have HSZ := Lib.hid hsz
  have hA : Old w (w.alloc (.cells cs.toArray 46)) := (Kept.refl _ w).alloc _
  have hE1 := eventE_ok.keep hE hA (disj_none _)
  have hi1 := hi.kept hA
  have HRG := Lib.hid (range_new w cs 46)
  clear hfl hsz
  go_enter Tryz.func15, Tryz.ntmps15
  go_wp2_with (refine wpList_load_mid rfl 46 (.tmp 1) rfl w.heap.size 0 rfl cs _ HRG.out Tryz.underlying46 rfl HSZ.out ?_)
  refine (whole_event x cs ok _ hE1 hi1 hl).mono ?_
  rintro en w1 ⟨rfl, hO1⟩
  have hO := hA.none hO1
  clear hA hE1 hi1 hO1
  go_wp2_with fail
  go_ret
  exact ⟨rfl, hO⟩

set_option maxRecDepth 100000 in
set_option maxHeartbeats 600000 in
theorem taken_event (s : ByteArray) (w : World) (hs : s.size ≤ maxLen) :
    Calls Tryz.prog 44 #[.string s, .func (.func 45) #[] #[]] w (TakenPost eventE zEvent w (eventF.read s)) := by
  have hsz : (Tryz.prog.info? 46).map (·.size) = some 3 := by kernel_rfl
  have HSZ := Lib.hid hsz; clear hsz
  obtain ⟨x, q, e', hget⟩ : ∃ x q e', eventF.get s.data.toList 0 0 = (x, q, e') := ⟨_, _, _, eta3 _⟩
  have hread : eventF.read s = if rEndE s.data.toList.length q e' = 0 then some x else none := by unfold Fmt.read; rw [hget]
  generalize eventF.read s = ro at hread ⊢
  have HGET := Lib.hid hget; clear hget
  have HREAD := Lib.hid hread; clear hread
  go_enter Tryz.func44, Tryz.ntmps44
  go_wp2_with fail
  refine (read_any s _ hs).mono ?_
  rintro en w1 ⟨b, v, rfl, hR, hb, hv, hk1⟩
  have hge : w.heap.size + 1 ≤ b := by simpa using hb
  go_wp2_with fail
  refine (get_event _ b v _ _ _ hR HGET.out).mono ?_
  rintro en w2 ⟨cs, rfl, hE2, hR2, hk2⟩
  have hfl := eventE_flat hE2
  have HFL := Lib.hid hfl.1
  have HF1 := Lib.hid hfl.2
  have hR3 := hR2.alloc (.cells cs.toArray 46)
  have HHR := Lib.hid (⟨hR, hk1, hge, hk2⟩ : RAt w1 b v s.data.toList 0 0 ∧ Kept (fun _ => False) (w.alloc (.cells #[.int .i64 0, .string ⟨#[]⟩, .int .i64 0] 46)) w1 ∧ w.heap.size + 1 ≤ b ∧ Kept (RS b) w1 w2)
  clear hR hk1 hge hk2 hb hv hR2 hfl
  go_wp2_with (refine wpList_store_new w2 rfl 46 _ (.tmp 13) rfl _ cs rfl rfl (by rw [HFL.out]; exact HSZ.out) HFL.out.symm HF1.out ?_)
  refine (rend_e _ b v _ _ _ hR3).mono ?_
  rintro en w4 ⟨rfl, hR4, hk4⟩
  have st : TakenSt w w1 w2 w4 b v s.data.toList 46 #[.int .i64 0, .string ⟨#[]⟩, .int .i64 0] cs := ⟨HHR.out.1, HHR.out.2.1, HHR.out.2.2.1, HHR.out.2.2.2, hk4⟩
  have HRES := Lib.hid st.res
  have HBOX := Lib.hid (range_row st.box)
  have HO := Lib.hid st.old
  have HREL := Lib.hid (st.rel eventE_ok hE2)
  clear st HHR hR3 hR4 hk4 hE2
  by_cases h0 : rEndE s.data.toList.length q e' = 0
  · have hrd : ro = some x := by rw [HREAD.out, if_pos h0]
    have HRD := Lib.hid hrd; clear hrd
    have h0' : ((rEndE s.data.toList.length q e' : Nat) : Int) = 0 := by omega
    generalize ((rEndE s.data.toList.length q e' : Nat) : Int) = r at h0'
    subst h0'
    clear h0
    go_wp2_with (first | (refine wpList_load_mid rfl 46 (.tmp 7) rfl w2.heap.size 0 rfl cs _ HBOX.out Tryz.underlying46 rfl (by rw [HFL.out]; exact HSZ.out) ?_) | (refine wpList_store_row _ rfl 46 _ _ rfl w.heap.size _ cs rfl rfl HRES.out (by rw [HFL.out]; exact HSZ.out) HFL.out.symm HF1.out ?_))
    have hrow := setRow_heap w4 w.heap.size _ cs.toArray _ _ HRES.out
    have hload := run_loadVar_row (P := Tryz.prog) _ w.heap.size 46 46 _ (0, 0) _ hrow Tryz.underlying46 rfl (by rw [List.size_toArray, HFL.out]; exact HSZ.out)
    exact ret_cell_tmp 4 46 5 w.heap.size _ _ Tryz.results44 rfl rfl hload rfl ⟨cs, by rw [HRD.out]; rfl, old_setRow HO.out _, by rw [HRD.out]; exact HREL.out _⟩
  · have hrd : ro = none := by rw [HREAD.out, if_neg h0]
    have HRD := Lib.hid hrd; clear hrd
    have h0' : ¬ ((rEndE s.data.toList.length q e' : Nat) : Int) = 0 := by omega
    generalize ((rEndE s.data.toList.length q e' : Nat) : Int) = r at h0'
    clear h0
    have hA : Old w4 (w4.alloc (.cells #[.int .i64 0, .string ⟨#[]⟩, .int .i64 0] 46)) := (Kept.refl _ w4).alloc _
    have HR5 : Hid ((w4.alloc (.cells #[.int .i64 0, .string ⟨#[]⟩, .int .i64 0] 46)).heap[w.heap.size]? = some (.cells #[.int .i64 0, .string ⟨#[]⟩, .int .i64 0] 46 (0, 0))) := by rw [hA.block _ (lt_of_block HRES.out) id]; exact HRES.out
    obtain ⟨zl, hzl⟩ : ∃ zl : List Value, zl = [.int .i64 0, .string ⟨#[]⟩, .int .i64 0] := ⟨_, rfl⟩
    have HRN : Hid ((w4.alloc (.cells #[.int .i64 0, .string ⟨#[]⟩, .int .i64 0] 46)).rangeAt w4.heap.size 0 zl) := by rw [hzl]; exact range_new w4 [.int .i64 0, .string ⟨#[]⟩, .int .i64 0] 46
    have HZE : Hid (∀ (W : World) (ok : Nat → Prop), eventE W ok zl zEvent) := by rw [hzl]; exact zEvent_at
    have hzf : Flat 3 zl := eventE_flat (HZE.out w (fun _ => False))
    have HZL := Lib.hid hzf.1
    have HZ1 := Lib.hid hzf.2
    clear hzl hzf
    have HO5 := Lib.hid (HO.out.none hA)
    clear hA HREL
    go_wp2_with (first | (refine wpList_load_mid rfl 46 (.tmp 8) rfl w4.heap.size 0 rfl zl _ HRN.out Tryz.underlying46 rfl (by rw [HZL.out]; exact HSZ.out) ?_) | (refine wpList_store_row _ rfl 46 _ _ rfl w.heap.size _ zl rfl rfl HR5.out (by rw [HZL.out]; exact HSZ.out) HZL.out.symm HZ1.out ?_))
    have hrow := setRow_heap (w4.alloc (.cells #[.int .i64 0, .string ⟨#[]⟩, .int .i64 0] 46)) w.heap.size _ zl.toArray _ _ HR5.out
    have hload := run_loadVar_row (P := Tryz.prog) _ w.heap.size 46 46 _ (0, 0) _ hrow Tryz.underlying46 rfl (by rw [List.size_toArray, HZL.out]; exact HSZ.out)
    exact ret_cell_tmp 4 46 5 w.heap.size _ _ Tryz.results44 rfl rfl hload rfl ⟨_, by rw [HRD.out]; rfl, old_setRow HO5.out _, by rw [HRD.out]; exact HZE.out _ _⟩

set_option maxRecDepth 100000 in
theorem GetEvent_any (s : ByteArray) (w : World) (hs : s.size ≤ maxLen) :
    Calls Tryz.prog 16 #[.string s] w (TakenPost eventE zEvent w (eventF.read s)) := by
  have hsz : (Tryz.prog.info? 46).map (·.size) = some 3 := by kernel_rfl
  have HSZ := Lib.hid hsz; clear hsz
  have hbk := heap_alloc_new w (.cells #[.int .i64 0, .string ⟨#[]⟩, .int .i64 0] 46)
  have hA : Old w (w.alloc (.cells #[.int .i64 0, .string ⟨#[]⟩, .int .i64 0] 46)) := (Kept.refl _ w).alloc _
  go_enter Tryz.func16, Tryz.ntmps16
  go_wp2_with fail
  refine (taken_event s _ hs).mono ?_
  rintro en w1 ⟨cs, rfl, hO1, hE1⟩
  have hfl := eventE_flat hE1
  have HFL := Lib.hid hfl.1
  have HF1 := Lib.hid hfl.2
  have HRES : Hid (w1.heap[w.heap.size]? = some (.cells #[.int .i64 0, .string ⟨#[]⟩, .int .i64 0] 46 (0, 0))) := by rw [hO1.block _ (lt_of_block hbk) id]; exact hbk
  have HO := Lib.hid (hA.none hO1)
  have HE := Lib.hid (fun c => fin_E eventE_ok (w := w) hE1 (by simp) c)
  clear hbk hA hfl hO1 hE1
  go_wp2_with (refine wpList_store_row _ rfl 46 _ _ rfl w.heap.size _ cs rfl rfl HRES.out (by rw [HFL.out]; exact HSZ.out) HFL.out.symm HF1.out ?_)
  have hrow := setRow_heap w1 w.heap.size _ cs.toArray _ _ HRES.out
  have hload := run_loadVar_row (P := Tryz.prog) _ w.heap.size 46 46 _ (0, 0) _ hrow Tryz.underlying46 rfl (by rw [List.size_toArray, HFL.out]; exact HSZ.out)
  exact ret_cell_tmp 2 46 3 w.heap.size _ _ Tryz.results16 rfl rfl hload rfl ⟨cs, rfl, old_setRow HO.out _, HE.out _⟩

def zHello : Hello := ⟨0, 0, 0, ⟨#[]⟩⟩
theorem zHello_at (w : World) (ok : Nat → Prop) : helloE w ok [.int .i64 0, .int .i64 0, .int .i64 0, .string ⟨#[]⟩] zHello := ⟨rfl, i64_zero, i64_zero, i64_zero, str_empty⟩

set_option maxRecDepth 100000 in
theorem whole_hello (x : Hello) (cs : List Value) (ok : Nat → Prop) (w : World) (hE : helloE w ok cs x) (hi : In w ok) (hl : (helloF.lay x).length ≤ 144900000000000) :
    Calls Tryz.prog 46 #[.agg cs.toArray, .func (.func 47) #[] #[]] w (OldStr w (helloF.lay x)) := by
  have hfl := helloE_flat hE
  have hsz : (Tryz.prog.info? 51).map (·.size) = some cs.length := by rw [hfl.1]; kernel_rfl
  have HSZ := Lib.hid hsz
  have hA : Kept (fun _ => False) w (w.alloc (.cells cs.toArray 51)) := (Kept.refl _ w).alloc _
  have hO1 : Old w ((w.alloc (.cells cs.toArray 51)).alloc (.cells #[.slice none 0 0] 140)) := hA.alloc _
  have hE1 := helloE_ok.keep hE hO1 (disj_none _)
  have hi1 := hi.kept hO1
  have hW1 := new_at (w.alloc (.cells cs.toArray 51))
  have hrg : ((w.alloc (.cells cs.toArray 51)).alloc (.cells #[.slice none 0 0] 140)).rangeAt w.heap.size 0 cs := range_row (by
    rw [((Kept.refl (fun _ => False) (w.alloc (.cells cs.toArray 51))).alloc (.cells #[.slice none 0 0] 140)).block _ (by simp) id]; exact heap_alloc_new w _)
  have HRG := Lib.hid hrg
  have hws : (w.alloc (.cells cs.toArray 51)).heap.size = w.heap.size + 1 := by simp
  rw [hws] at hW1
  have hd : Disj ok (WS (w.heap.size + 1) (.slice none 0 0)) := fun g hg hs => by
    have := hi g hg
    rcases hs with hs | hs
    · omega
    · simp [Value.ownBlock] at hs
  have ho : Off w.heap.size (WS (w.heap.size + 1) (.slice none 0 0)) := fun g hs => by
    rcases hs with hs | hs
    · omega
    · simp [Value.ownBlock] at hs
  clear hfl hsz hA hE hi hrg hws
  go_enter Tryz.func46, Tryz.ntmps46
  go_wp2_with fail
  refine (new_any _).mono ?_
  rintro en w1 ⟨rfl, rfl⟩
  go_wp2_with (refine wpList_load_mid rfl 51 (.tmp 2) rfl w.heap.size 0 rfl cs _ HRG.out Tryz.underlying51 rfl HSZ.out ?_)
  refine (put_hello x cs ok _ _ _ [] hW1 hE1 hd hi1 (by simpa using hl)).mono ?_
  rintro en w2 ⟨v2, rfl, hW2, hk2, hs2⟩
  have hO2 := hO1.step hk2 ho
  clear hE1 hi1 hW1 hd ho hO1 hk2 hs2 HRG HSZ
  go_wp2_with fail
  refine (wbytes_any _ _ _ _ hW2).mono ?_
  rintro en w3 ⟨rfl, n3, rfl⟩
  have hO3 := hO2.drewN n3
  go_wp2_with fail
  go_ret
  exact ⟨rfl, hO3⟩

set_option maxRecDepth 100000 in
theorem PutHello_any (x : Hello) (cs : List Value) (ok : Nat → Prop) (w : World) (hE : helloE w ok cs x) (hi : In w ok) (hl : (helloF.lay x).length ≤ 144900000000000) :
    Calls Tryz.prog 17 #[.agg cs.toArray] w (OldStr w (helloF.lay x)) := by
  have hfl := helloE_flat hE
  have hsz : (Tryz.prog.info? 51).map (·.size) = some cs.length := by rw [hfl.1]; kernel_rfl
  have HSZ := Lib.hid hsz
  have hA : Old w (w.alloc (.cells cs.toArray 51)) := (Kept.refl _ w).alloc _
  have hE1 := helloE_ok.keep hE hA (disj_none _)
  have hi1 := hi.kept hA
  have HRG := Lib.hid (range_new w cs 51)
  clear hfl hsz
  go_enter Tryz.func17, Tryz.ntmps17
  go_wp2_with (refine wpList_load_mid rfl 51 (.tmp 1) rfl w.heap.size 0 rfl cs _ HRG.out Tryz.underlying51 rfl HSZ.out ?_)
  refine (whole_hello x cs ok _ hE1 hi1 hl).mono ?_
  rintro en w1 ⟨rfl, hO1⟩
  have hO := hA.none hO1
  clear hA hE1 hi1 hO1
  go_wp2_with fail
  go_ret
  exact ⟨rfl, hO⟩

set_option maxRecDepth 100000 in
set_option maxHeartbeats 600000 in
theorem taken_hello (s : ByteArray) (w : World) (hs : s.size ≤ maxLen) :
    Calls Tryz.prog 82 #[.string s, .func (.func 83) #[] #[]] w (TakenPost helloE zHello w (helloF.read s)) := by
  have hsz : (Tryz.prog.info? 51).map (·.size) = some 4 := by kernel_rfl
  have HSZ := Lib.hid hsz; clear hsz
  obtain ⟨x, q, e', hget⟩ : ∃ x q e', helloF.get s.data.toList 0 0 = (x, q, e') := ⟨_, _, _, eta3 _⟩
  have hread : helloF.read s = if rEndE s.data.toList.length q e' = 0 then some x else none := by unfold Fmt.read; rw [hget]
  generalize helloF.read s = ro at hread ⊢
  have HGET := Lib.hid hget; clear hget
  have HREAD := Lib.hid hread; clear hread
  go_enter Tryz.func82, Tryz.ntmps82
  go_wp2_with fail
  refine (read_any s _ hs).mono ?_
  rintro en w1 ⟨b, v, rfl, hR, hb, hv, hk1⟩
  have hge : w.heap.size + 1 ≤ b := by simpa using hb
  go_wp2_with fail
  refine (get_hello _ b v _ _ _ hR HGET.out).mono ?_
  rintro en w2 ⟨cs, rfl, hE2, hR2, hk2⟩
  have hfl := helloE_flat hE2
  have HFL := Lib.hid hfl.1
  have HF1 := Lib.hid hfl.2
  have hR3 := hR2.alloc (.cells cs.toArray 51)
  have HHR := Lib.hid (⟨hR, hk1, hge, hk2⟩ : RAt w1 b v s.data.toList 0 0 ∧ Kept (fun _ => False) (w.alloc (.cells #[.int .i64 0, .int .i64 0, .int .i64 0, .string ⟨#[]⟩] 51)) w1 ∧ w.heap.size + 1 ≤ b ∧ Kept (RS b) w1 w2)
  clear hR hk1 hge hk2 hb hv hR2 hfl
  go_wp2_with (refine wpList_store_new w2 rfl 51 _ (.tmp 13) rfl _ cs rfl rfl (by rw [HFL.out]; exact HSZ.out) HFL.out.symm HF1.out ?_)
  refine (rend_e _ b v _ _ _ hR3).mono ?_
  rintro en w4 ⟨rfl, hR4, hk4⟩
  have st : TakenSt w w1 w2 w4 b v s.data.toList 51 #[.int .i64 0, .int .i64 0, .int .i64 0, .string ⟨#[]⟩] cs := ⟨HHR.out.1, HHR.out.2.1, HHR.out.2.2.1, HHR.out.2.2.2, hk4⟩
  have HRES := Lib.hid st.res
  have HBOX := Lib.hid (range_row st.box)
  have HO := Lib.hid st.old
  have HREL := Lib.hid (st.rel helloE_ok hE2)
  clear st HHR hR3 hR4 hk4 hE2
  by_cases h0 : rEndE s.data.toList.length q e' = 0
  · have hrd : ro = some x := by rw [HREAD.out, if_pos h0]
    have HRD := Lib.hid hrd; clear hrd
    have h0' : ((rEndE s.data.toList.length q e' : Nat) : Int) = 0 := by omega
    generalize ((rEndE s.data.toList.length q e' : Nat) : Int) = r at h0'
    subst h0'
    clear h0
    go_wp2_with (first | (refine wpList_load_mid rfl 51 (.tmp 7) rfl w2.heap.size 0 rfl cs _ HBOX.out Tryz.underlying51 rfl (by rw [HFL.out]; exact HSZ.out) ?_) | (refine wpList_store_row _ rfl 51 _ _ rfl w.heap.size _ cs rfl rfl HRES.out (by rw [HFL.out]; exact HSZ.out) HFL.out.symm HF1.out ?_))
    have hrow := setRow_heap w4 w.heap.size _ cs.toArray _ _ HRES.out
    have hload := run_loadVar_row (P := Tryz.prog) _ w.heap.size 51 51 _ (0, 0) _ hrow Tryz.underlying51 rfl (by rw [List.size_toArray, HFL.out]; exact HSZ.out)
    exact ret_cell_tmp 4 51 5 w.heap.size _ _ Tryz.results82 rfl rfl hload rfl ⟨cs, by rw [HRD.out]; rfl, old_setRow HO.out _, by rw [HRD.out]; exact HREL.out _⟩
  · have hrd : ro = none := by rw [HREAD.out, if_neg h0]
    have HRD := Lib.hid hrd; clear hrd
    have h0' : ¬ ((rEndE s.data.toList.length q e' : Nat) : Int) = 0 := by omega
    generalize ((rEndE s.data.toList.length q e' : Nat) : Int) = r at h0'
    clear h0
    have hA : Old w4 (w4.alloc (.cells #[.int .i64 0, .int .i64 0, .int .i64 0, .string ⟨#[]⟩] 51)) := (Kept.refl _ w4).alloc _
    have HR5 : Hid ((w4.alloc (.cells #[.int .i64 0, .int .i64 0, .int .i64 0, .string ⟨#[]⟩] 51)).heap[w.heap.size]? = some (.cells #[.int .i64 0, .int .i64 0, .int .i64 0, .string ⟨#[]⟩] 51 (0, 0))) := by rw [hA.block _ (lt_of_block HRES.out) id]; exact HRES.out
    obtain ⟨zl, hzl⟩ : ∃ zl : List Value, zl = [.int .i64 0, .int .i64 0, .int .i64 0, .string ⟨#[]⟩] := ⟨_, rfl⟩
    have HRN : Hid ((w4.alloc (.cells #[.int .i64 0, .int .i64 0, .int .i64 0, .string ⟨#[]⟩] 51)).rangeAt w4.heap.size 0 zl) := by rw [hzl]; exact range_new w4 [.int .i64 0, .int .i64 0, .int .i64 0, .string ⟨#[]⟩] 51
    have HZE : Hid (∀ (W : World) (ok : Nat → Prop), helloE W ok zl zHello) := by rw [hzl]; exact zHello_at
    have hzf : Flat 4 zl := helloE_flat (HZE.out w (fun _ => False))
    have HZL := Lib.hid hzf.1
    have HZ1 := Lib.hid hzf.2
    clear hzl hzf
    have HO5 := Lib.hid (HO.out.none hA)
    clear hA HREL
    go_wp2_with (first | (refine wpList_load_mid rfl 51 (.tmp 8) rfl w4.heap.size 0 rfl zl _ HRN.out Tryz.underlying51 rfl (by rw [HZL.out]; exact HSZ.out) ?_) | (refine wpList_store_row _ rfl 51 _ _ rfl w.heap.size _ zl rfl rfl HR5.out (by rw [HZL.out]; exact HSZ.out) HZL.out.symm HZ1.out ?_))
    have hrow := setRow_heap (w4.alloc (.cells #[.int .i64 0, .int .i64 0, .int .i64 0, .string ⟨#[]⟩] 51)) w.heap.size _ zl.toArray _ _ HR5.out
    have hload := run_loadVar_row (P := Tryz.prog) _ w.heap.size 51 51 _ (0, 0) _ hrow Tryz.underlying51 rfl (by rw [List.size_toArray, HZL.out]; exact HSZ.out)
    exact ret_cell_tmp 4 51 5 w.heap.size _ _ Tryz.results82 rfl rfl hload rfl ⟨_, by rw [HRD.out]; rfl, old_setRow HO5.out _, by rw [HRD.out]; exact HZE.out _ _⟩

set_option maxRecDepth 100000 in
theorem GetHello_any (s : ByteArray) (w : World) (hs : s.size ≤ maxLen) :
    Calls Tryz.prog 37 #[.string s] w (TakenPost helloE zHello w (helloF.read s)) := by
  have hsz : (Tryz.prog.info? 51).map (·.size) = some 4 := by kernel_rfl
  have HSZ := Lib.hid hsz; clear hsz
  have hbk := heap_alloc_new w (.cells #[.int .i64 0, .int .i64 0, .int .i64 0, .string ⟨#[]⟩] 51)
  have hA : Old w (w.alloc (.cells #[.int .i64 0, .int .i64 0, .int .i64 0, .string ⟨#[]⟩] 51)) := (Kept.refl _ w).alloc _
  go_enter Tryz.func37, Tryz.ntmps37
  go_wp2_with fail
  refine (taken_hello s _ hs).mono ?_
  rintro en w1 ⟨cs, rfl, hO1, hE1⟩
  have hfl := helloE_flat hE1
  have HFL := Lib.hid hfl.1
  have HF1 := Lib.hid hfl.2
  have HRES : Hid (w1.heap[w.heap.size]? = some (.cells #[.int .i64 0, .int .i64 0, .int .i64 0, .string ⟨#[]⟩] 51 (0, 0))) := by rw [hO1.block _ (lt_of_block hbk) id]; exact hbk
  have HO := Lib.hid (hA.none hO1)
  have HE := Lib.hid (fun c => fin_E helloE_ok (w := w) hE1 (by simp) c)
  clear hbk hA hfl hO1 hE1
  go_wp2_with (refine wpList_store_row _ rfl 51 _ _ rfl w.heap.size _ cs rfl rfl HRES.out (by rw [HFL.out]; exact HSZ.out) HFL.out.symm HF1.out ?_)
  have hrow := setRow_heap w1 w.heap.size _ cs.toArray _ _ HRES.out
  have hload := run_loadVar_row (P := Tryz.prog) _ w.heap.size 51 51 _ (0, 0) _ hrow Tryz.underlying51 rfl (by rw [List.size_toArray, HFL.out]; exact HSZ.out)
  exact ret_cell_tmp 2 51 3 w.heap.size _ _ Tryz.results37 rfl rfl hload rfl ⟨cs, rfl, old_setRow HO.out _, HE.out _⟩

def zNote : Note := ⟨0, 0, 0, 0, 0, 0⟩
theorem zNote_at (w : World) (ok : Nat → Prop) : noteE w ok [.int .i64 0, .int .i64 0, .int .i64 0, .int .i64 0, .int .i64 0, .int .i64 0] zNote := ⟨rfl, i64_zero, i64_zero, i64_zero, i64_zero, i64_zero, i64_zero⟩

set_option maxRecDepth 100000 in
theorem whole_note (x : Note) (cs : List Value) (ok : Nat → Prop) (w : World) (hE : noteE w ok cs x) (hi : In w ok) (hl : (noteF.lay x).length ≤ 144900000000000) :
    Calls Tryz.prog 48 #[.agg cs.toArray, .func (.func 49) #[] #[]] w (OldStr w (noteF.lay x)) := by
  have hfl := noteE_flat hE
  have hsz : (Tryz.prog.info? 54).map (·.size) = some cs.length := by rw [hfl.1]; kernel_rfl
  have HSZ := Lib.hid hsz
  have hA : Kept (fun _ => False) w (w.alloc (.cells cs.toArray 54)) := (Kept.refl _ w).alloc _
  have hO1 : Old w ((w.alloc (.cells cs.toArray 54)).alloc (.cells #[.slice none 0 0] 140)) := hA.alloc _
  have hE1 := noteE_ok.keep hE hO1 (disj_none _)
  have hi1 := hi.kept hO1
  have hW1 := new_at (w.alloc (.cells cs.toArray 54))
  have hrg : ((w.alloc (.cells cs.toArray 54)).alloc (.cells #[.slice none 0 0] 140)).rangeAt w.heap.size 0 cs := range_row (by
    rw [((Kept.refl (fun _ => False) (w.alloc (.cells cs.toArray 54))).alloc (.cells #[.slice none 0 0] 140)).block _ (by simp) id]; exact heap_alloc_new w _)
  have HRG := Lib.hid hrg
  have hws : (w.alloc (.cells cs.toArray 54)).heap.size = w.heap.size + 1 := by simp
  rw [hws] at hW1
  have hd : Disj ok (WS (w.heap.size + 1) (.slice none 0 0)) := fun g hg hs => by
    have := hi g hg
    rcases hs with hs | hs
    · omega
    · simp [Value.ownBlock] at hs
  have ho : Off w.heap.size (WS (w.heap.size + 1) (.slice none 0 0)) := fun g hs => by
    rcases hs with hs | hs
    · omega
    · simp [Value.ownBlock] at hs
  clear hfl hsz hA hE hi hrg hws
  go_enter Tryz.func48, Tryz.ntmps48
  go_wp2_with fail
  refine (new_any _).mono ?_
  rintro en w1 ⟨rfl, rfl⟩
  go_wp2_with (refine wpList_load_mid rfl 54 (.tmp 2) rfl w.heap.size 0 rfl cs _ HRG.out Tryz.underlying54 rfl HSZ.out ?_)
  refine (put_note x cs ok _ _ _ [] hW1 hE1 hd hi1 (by simpa using hl)).mono ?_
  rintro en w2 ⟨v2, rfl, hW2, hk2, hs2⟩
  have hO2 := hO1.step hk2 ho
  clear hE1 hi1 hW1 hd ho hO1 hk2 hs2 HRG HSZ
  go_wp2_with fail
  refine (wbytes_any _ _ _ _ hW2).mono ?_
  rintro en w3 ⟨rfl, n3, rfl⟩
  have hO3 := hO2.drewN n3
  go_wp2_with fail
  go_ret
  exact ⟨rfl, hO3⟩

set_option maxRecDepth 100000 in
theorem PutNote_any (x : Note) (cs : List Value) (ok : Nat → Prop) (w : World) (hE : noteE w ok cs x) (hi : In w ok) (hl : (noteF.lay x).length ≤ 144900000000000) :
    Calls Tryz.prog 18 #[.agg cs.toArray] w (OldStr w (noteF.lay x)) := by
  have hfl := noteE_flat hE
  have hsz : (Tryz.prog.info? 54).map (·.size) = some cs.length := by rw [hfl.1]; kernel_rfl
  have HSZ := Lib.hid hsz
  have hA : Old w (w.alloc (.cells cs.toArray 54)) := (Kept.refl _ w).alloc _
  have hE1 := noteE_ok.keep hE hA (disj_none _)
  have hi1 := hi.kept hA
  have HRG := Lib.hid (range_new w cs 54)
  clear hfl hsz
  go_enter Tryz.func18, Tryz.ntmps18
  go_wp2_with (refine wpList_load_mid rfl 54 (.tmp 1) rfl w.heap.size 0 rfl cs _ HRG.out Tryz.underlying54 rfl HSZ.out ?_)
  refine (whole_note x cs ok _ hE1 hi1 hl).mono ?_
  rintro en w1 ⟨rfl, hO1⟩
  have hO := hA.none hO1
  clear hA hE1 hi1 hO1
  go_wp2_with fail
  go_ret
  exact ⟨rfl, hO⟩

set_option maxRecDepth 100000 in
set_option maxHeartbeats 600000 in
theorem taken_note (s : ByteArray) (w : World) (hs : s.size ≤ maxLen) :
    Calls Tryz.prog 84 #[.string s, .func (.func 85) #[] #[]] w (TakenPost noteE zNote w (noteF.read s)) := by
  have hsz : (Tryz.prog.info? 54).map (·.size) = some 6 := by kernel_rfl
  have HSZ := Lib.hid hsz; clear hsz
  obtain ⟨x, q, e', hget⟩ : ∃ x q e', noteF.get s.data.toList 0 0 = (x, q, e') := ⟨_, _, _, eta3 _⟩
  have hread : noteF.read s = if rEndE s.data.toList.length q e' = 0 then some x else none := by unfold Fmt.read; rw [hget]
  generalize noteF.read s = ro at hread ⊢
  have HGET := Lib.hid hget; clear hget
  have HREAD := Lib.hid hread; clear hread
  go_enter Tryz.func84, Tryz.ntmps84
  go_wp2_with fail
  refine (read_any s _ hs).mono ?_
  rintro en w1 ⟨b, v, rfl, hR, hb, hv, hk1⟩
  have hge : w.heap.size + 1 ≤ b := by simpa using hb
  go_wp2_with fail
  refine (get_note _ b v _ _ _ hR HGET.out).mono ?_
  rintro en w2 ⟨cs, rfl, hE2, hR2, hk2⟩
  have hfl := noteE_flat hE2
  have HFL := Lib.hid hfl.1
  have HF1 := Lib.hid hfl.2
  have hR3 := hR2.alloc (.cells cs.toArray 54)
  have HHR := Lib.hid (⟨hR, hk1, hge, hk2⟩ : RAt w1 b v s.data.toList 0 0 ∧ Kept (fun _ => False) (w.alloc (.cells #[.int .i64 0, .int .i64 0, .int .i64 0, .int .i64 0, .int .i64 0, .int .i64 0] 54)) w1 ∧ w.heap.size + 1 ≤ b ∧ Kept (RS b) w1 w2)
  clear hR hk1 hge hk2 hb hv hR2 hfl
  go_wp2_with (refine wpList_store_new w2 rfl 54 _ (.tmp 13) rfl _ cs rfl rfl (by rw [HFL.out]; exact HSZ.out) HFL.out.symm HF1.out ?_)
  refine (rend_e _ b v _ _ _ hR3).mono ?_
  rintro en w4 ⟨rfl, hR4, hk4⟩
  have st : TakenSt w w1 w2 w4 b v s.data.toList 54 #[.int .i64 0, .int .i64 0, .int .i64 0, .int .i64 0, .int .i64 0, .int .i64 0] cs := ⟨HHR.out.1, HHR.out.2.1, HHR.out.2.2.1, HHR.out.2.2.2, hk4⟩
  have HRES := Lib.hid st.res
  have HBOX := Lib.hid (range_row st.box)
  have HO := Lib.hid st.old
  have HREL := Lib.hid (st.rel noteE_ok hE2)
  clear st HHR hR3 hR4 hk4 hE2
  by_cases h0 : rEndE s.data.toList.length q e' = 0
  · have hrd : ro = some x := by rw [HREAD.out, if_pos h0]
    have HRD := Lib.hid hrd; clear hrd
    have h0' : ((rEndE s.data.toList.length q e' : Nat) : Int) = 0 := by omega
    generalize ((rEndE s.data.toList.length q e' : Nat) : Int) = r at h0'
    subst h0'
    clear h0
    go_wp2_with (first | (refine wpList_load_mid rfl 54 (.tmp 7) rfl w2.heap.size 0 rfl cs _ HBOX.out Tryz.underlying54 rfl (by rw [HFL.out]; exact HSZ.out) ?_) | (refine wpList_store_row _ rfl 54 _ _ rfl w.heap.size _ cs rfl rfl HRES.out (by rw [HFL.out]; exact HSZ.out) HFL.out.symm HF1.out ?_))
    have hrow := setRow_heap w4 w.heap.size _ cs.toArray _ _ HRES.out
    have hload := run_loadVar_row (P := Tryz.prog) _ w.heap.size 54 54 _ (0, 0) _ hrow Tryz.underlying54 rfl (by rw [List.size_toArray, HFL.out]; exact HSZ.out)
    exact ret_cell_tmp 4 54 5 w.heap.size _ _ Tryz.results84 rfl rfl hload rfl ⟨cs, by rw [HRD.out]; rfl, old_setRow HO.out _, by rw [HRD.out]; exact HREL.out _⟩
  · have hrd : ro = none := by rw [HREAD.out, if_neg h0]
    have HRD := Lib.hid hrd; clear hrd
    have h0' : ¬ ((rEndE s.data.toList.length q e' : Nat) : Int) = 0 := by omega
    generalize ((rEndE s.data.toList.length q e' : Nat) : Int) = r at h0'
    clear h0
    have hA : Old w4 (w4.alloc (.cells #[.int .i64 0, .int .i64 0, .int .i64 0, .int .i64 0, .int .i64 0, .int .i64 0] 54)) := (Kept.refl _ w4).alloc _
    have HR5 : Hid ((w4.alloc (.cells #[.int .i64 0, .int .i64 0, .int .i64 0, .int .i64 0, .int .i64 0, .int .i64 0] 54)).heap[w.heap.size]? = some (.cells #[.int .i64 0, .int .i64 0, .int .i64 0, .int .i64 0, .int .i64 0, .int .i64 0] 54 (0, 0))) := by rw [hA.block _ (lt_of_block HRES.out) id]; exact HRES.out
    obtain ⟨zl, hzl⟩ : ∃ zl : List Value, zl = [.int .i64 0, .int .i64 0, .int .i64 0, .int .i64 0, .int .i64 0, .int .i64 0] := ⟨_, rfl⟩
    have HRN : Hid ((w4.alloc (.cells #[.int .i64 0, .int .i64 0, .int .i64 0, .int .i64 0, .int .i64 0, .int .i64 0] 54)).rangeAt w4.heap.size 0 zl) := by rw [hzl]; exact range_new w4 [.int .i64 0, .int .i64 0, .int .i64 0, .int .i64 0, .int .i64 0, .int .i64 0] 54
    have HZE : Hid (∀ (W : World) (ok : Nat → Prop), noteE W ok zl zNote) := by rw [hzl]; exact zNote_at
    have hzf : Flat 6 zl := noteE_flat (HZE.out w (fun _ => False))
    have HZL := Lib.hid hzf.1
    have HZ1 := Lib.hid hzf.2
    clear hzl hzf
    have HO5 := Lib.hid (HO.out.none hA)
    clear hA HREL
    go_wp2_with (first | (refine wpList_load_mid rfl 54 (.tmp 8) rfl w4.heap.size 0 rfl zl _ HRN.out Tryz.underlying54 rfl (by rw [HZL.out]; exact HSZ.out) ?_) | (refine wpList_store_row _ rfl 54 _ _ rfl w.heap.size _ zl rfl rfl HR5.out (by rw [HZL.out]; exact HSZ.out) HZL.out.symm HZ1.out ?_))
    have hrow := setRow_heap (w4.alloc (.cells #[.int .i64 0, .int .i64 0, .int .i64 0, .int .i64 0, .int .i64 0, .int .i64 0] 54)) w.heap.size _ zl.toArray _ _ HR5.out
    have hload := run_loadVar_row (P := Tryz.prog) _ w.heap.size 54 54 _ (0, 0) _ hrow Tryz.underlying54 rfl (by rw [List.size_toArray, HZL.out]; exact HSZ.out)
    exact ret_cell_tmp 4 54 5 w.heap.size _ _ Tryz.results84 rfl rfl hload rfl ⟨_, by rw [HRD.out]; rfl, old_setRow HO5.out _, by rw [HRD.out]; exact HZE.out _ _⟩

set_option maxRecDepth 100000 in
theorem GetNote_any (s : ByteArray) (w : World) (hs : s.size ≤ maxLen) :
    Calls Tryz.prog 38 #[.string s] w (TakenPost noteE zNote w (noteF.read s)) := by
  have hsz : (Tryz.prog.info? 54).map (·.size) = some 6 := by kernel_rfl
  have HSZ := Lib.hid hsz; clear hsz
  have hbk := heap_alloc_new w (.cells #[.int .i64 0, .int .i64 0, .int .i64 0, .int .i64 0, .int .i64 0, .int .i64 0] 54)
  have hA : Old w (w.alloc (.cells #[.int .i64 0, .int .i64 0, .int .i64 0, .int .i64 0, .int .i64 0, .int .i64 0] 54)) := (Kept.refl _ w).alloc _
  go_enter Tryz.func38, Tryz.ntmps38
  go_wp2_with fail
  refine (taken_note s _ hs).mono ?_
  rintro en w1 ⟨cs, rfl, hO1, hE1⟩
  have hfl := noteE_flat hE1
  have HFL := Lib.hid hfl.1
  have HF1 := Lib.hid hfl.2
  have HRES : Hid (w1.heap[w.heap.size]? = some (.cells #[.int .i64 0, .int .i64 0, .int .i64 0, .int .i64 0, .int .i64 0, .int .i64 0] 54 (0, 0))) := by rw [hO1.block _ (lt_of_block hbk) id]; exact hbk
  have HO := Lib.hid (hA.none hO1)
  have HE := Lib.hid (fun c => fin_E noteE_ok (w := w) hE1 (by simp) c)
  clear hbk hA hfl hO1 hE1
  go_wp2_with (refine wpList_store_row _ rfl 54 _ _ rfl w.heap.size _ cs rfl rfl HRES.out (by rw [HFL.out]; exact HSZ.out) HFL.out.symm HF1.out ?_)
  have hrow := setRow_heap w1 w.heap.size _ cs.toArray _ _ HRES.out
  have hload := run_loadVar_row (P := Tryz.prog) _ w.heap.size 54 54 _ (0, 0) _ hrow Tryz.underlying54 rfl (by rw [List.size_toArray, HFL.out]; exact HSZ.out)
  exact ret_cell_tmp 2 54 3 w.heap.size _ _ Tryz.results38 rfl rfl hload rfl ⟨cs, rfl, old_setRow HO.out _, HE.out _⟩

end Go.Proofs.YtpmemcpfoapjmaaGreat

namespace Go.Proofs.YtpmemcpfoapjmaaGreat
open Go.ChangeShapes Go.WideShapes Go.ChangeAt Go.RowKit
set_option linter.unusedVariables false

theorem num_fit {l : List UInt8} {p e q e' : Nat} {a : Int} (g : numF.get l p e = (a, q, e')) : I64 a := by
  have h : unzz (rSev l p e).1 = a := congrArg (·.1) g
  have hf := rSev_fit l p e
  rw [← h]
  exact ⟨unzz_lo hf, unzz_hi hf⟩
theorem rText_short (l : List UInt8) (most : Nat) (p e : Nat) : (rText l most p e).1.length ≤ most := by
  have := rCount_le l most p e
  unfold rText
  split
  · simp
  · split
    · simp only [List.length_take]; omega
    · simp
theorem text_fit {l : List UInt8} {m p e q e' : Nat} {t : ByteArray} (hm : m ≤ 100000) (g : (textF m).get l p e = (t, q, e')) : Str t := by
  have h : (⟨(rText l m p e).1.toArray⟩ : ByteArray) = t := congrArg (·.1) g
  have hf := rText_short l m p e
  rw [← h]
  unfold Str
  rw [mk_size]
  omega
theorem fnum_of {s : ByteArray} {pos e q e' : Nat} {a : Int} (g : numF.get s.data.toList pos e = (a, q, e')) : ∀ (W : World) (b p : Nat), FAt W b s p e → (e = 0 → p = pos) →
    Calls Tryz.prog 86 #[.pointer (some ⟨b, 0, none⟩)] W (FPost W b s (.int .i64 a) q e') := fun W b p hF hp => by
  have h := fnum_any W b s p pos e hF hp
  have h1 : unzz (rSev s.data.toList pos e).1 = a := congrArg (·.1) g
  have h2 : (rSev s.data.toList pos e).2.1 = q := congrArg (·.2.1) g
  have h3 : (rSev s.data.toList pos e).2.2 = e' := congrArg (·.2.2) g
  rw [h1, h2, h3] at h
  exact h
theorem ftext_of {s : ByteArray} {m pos e q e' : Nat} {t : ByteArray} (hm : m ≤ 100000) (g : (textF m).get s.data.toList pos e = (t, q, e')) : ∀ (W : World) (b p : Nat), FAt W b s p e → (e = 0 → p = pos) →
    Calls Tryz.prog 67 #[.pointer (some ⟨b, 0, none⟩), .int .i64 (m : Nat)] W (FPost W b s (.string t) q e') := fun W b p hF hp => by
  have h := ftext_any m W b s p pos e hF hp (by unfold I64; omega)
  have h1 : (⟨(rText s.data.toList m pos e).1.toArray⟩ : ByteArray) = t := congrArg (·.1) g
  have h2 : (rText s.data.toList m pos e).2.1 = q := congrArg (·.2.1) g
  have h3 : (rText s.data.toList m pos e).2.2 = e' := congrArg (·.2.2) g
  rw [h1, h2, h3] at h
  exact h
def TakeOf (W : World) (b : Nat) (s : ByteArray) (xs : List Int) (q e' : Nat) (en : Ending) (w' : World) : Prop :=
  ∃ g p', en = .returned (.slice (some ⟨g, 0, none⟩) xs.length xs.length) ∧ w'.heap[g]? = some (.cells (intsOf xs).toArray 3 (0, 0)) ∧ W.heap.size ≤ g ∧
    FAt w' b s p' e' ∧ (e' = 0 → p' = q) ∧ Kept (RS b) W w'
theorem ftake_of {s : ByteArray} {n pos e q e' : Nat} {xs : List Int} (hn : n ≤ 100000) (g : numsN n s.data.toList pos e = (xs, q, e')) : ∀ (W : World) (b p : Nat), FAt W b s p e → (e = 0 → p = pos) →
    Calls Tryz.prog 65 #[.pointer (some ⟨b, 0, none⟩), .int .i64 (n : Nat)] W (TakeOf W b s xs q e') := fun W b p hF hp => by
  have h := reftake_any n hn W b s p pos e hF hp
  have hl : xs.length = n := by
    have : (numsN n s.data.toList pos e).1.length = n := getN_len _ _ _ _ _
    rw [g] at this
    exact this
  unfold TkPost at h
  rw [g] at h
  unfold TakeOf
  rw [hl]
  exact h
theorem fend_of (s : ByteArray) (pos e : Nat) : ∀ (W : World) (b p : Nat), FAt W b s p e → (e = 0 → p = pos) →
    Calls Tryz.prog 71 #[.pointer (some ⟨b, 0, none⟩)] W (FPost W b s (.int .i64 (rEndE s.size pos e : Nat)) pos (rEndE s.size pos e)) := fun W b p hF hp => fend_any W b s p pos e hF hp
theorem fresh_reader (w : World) (s : ByteArray) (hs : s.size ≤ 140737488355328) : FAt (w.alloc (.cells #[.string s, .int .i64 0, .int .i64 0] 111)) w.heap.size s 0 0 :=
  ⟨heap_alloc_new w _, Nat.zero_le _, hs⟩

set_option maxRecDepth 100000 in
set_option maxHeartbeats 600000 in
theorem refget_event (s : ByteArray) (w : World) (hs : s.size ≤ 140737488355328) :
    Calls Tryz.prog 39 #[.string s] w (TakenPost eventE zEvent w (eventF.read s)) := by
  have HSZ := Lib.hid (show (Tryz.prog.info? 46).map (·.size) = some 3 by kernel_rfl)
  obtain ⟨v0, q0, e0, g0⟩ : ∃ a q e, numF.get s.data.toList 0 0 = (a, q, e) := ⟨_, _, _, eta3 _⟩
  obtain ⟨v1, q1, e1, g1⟩ : ∃ a q e, (textF 4096).get s.data.toList q0 e0 = (a, q, e) := ⟨_, _, _, eta3 _⟩
  obtain ⟨v2, q2, e2, g2⟩ : ∃ a q e, numF.get s.data.toList q1 e1 = (a, q, e) := ⟨_, _, _, eta3 _⟩
  have hget : eventF.get s.data.toList 0 0 = (⟨v0, v1, v2⟩, q2, e2) := by simp only [eventF, isoF, seqF, g0, g1, g2]
  have hread : eventF.read s = if rEndE s.data.toList.length q2 e2 = 0 then some ⟨v0, v1, v2⟩ else none := by unfold Fmt.read; rw [hget]
  rw [str_len] at hread
  generalize eventF.read s = ro at hread ⊢
  have HREAD := Lib.hid hread; clear hread hget
  have i0 : I64 v0 := num_fit g0
  have i1 : Str v1 := text_fit (by decide) g1
  have i2 : I64 v2 := num_fit g2
  have K0 := Lib.hid (fnum_of g0)
  have K1 := Lib.hid (ftext_of (by decide) g1)
  have K2 := Lib.hid (fnum_of g2)
  have KE := Lib.hid (fend_of s q2 e2)
  clear g0 g1 g2
  generalize hr : rEndE s.size q2 e2 = r at HREAD KE
  clear hr
  have hW : FAt ((w.alloc (.cells [.int .i64 0, .string ⟨#[]⟩, .int .i64 0].toArray 46)).alloc (.cells #[.string s, .int .i64 0, .int .i64 0] 111)) (w.heap.size + 1) s 0 0 := by
    have h := fresh_reader (w.alloc (.cells [.int .i64 0, .string ⟨#[]⟩, .int .i64 0].toArray 46)) s hs
    rwa [show (w.alloc (.cells [.int .i64 0, .string ⟨#[]⟩, .int .i64 0].toArray 46)).heap.size = w.heap.size + 1 from by simp] at h
  have hb0 : ((w.alloc (.cells [.int .i64 0, .string ⟨#[]⟩, .int .i64 0].toArray 46)).alloc (.cells #[.string s, .int .i64 0, .int .i64 0] 111)).heap[w.heap.size]? = some (.cells [.int .i64 0, .string ⟨#[]⟩, .int .i64 0].toArray 46 (0, 0)) := by
    rw [((Old.refl (w.alloc (.cells [.int .i64 0, .string ⟨#[]⟩, .int .i64 0].toArray 46))).make _).block _ (by simp) id]; exact heap_alloc_new w _
  have hO0 : Old w ((w.alloc (.cells [.int .i64 0, .string ⟨#[]⟩, .int .i64 0].toArray 46)).alloc (.cells #[.string s, .int .i64 0, .int .i64 0] 111)) := ((Old.refl w).make _).make _
  have hs0 : w.heap.size + 2 ≤ ((w.alloc (.cells [.int .i64 0, .string ⟨#[]⟩, .int .i64 0].toArray 46)).alloc (.cells #[.string s, .int .i64 0, .int .i64 0] 111)).heap.size := by simp
  have HB := Lib.hid hb0; clear hb0
  have HO := Lib.hid hO0; clear hO0
  have HS0 := Lib.hid hs0; clear hs0
  go_enter Tryz.func39, Tryz.ntmps39
  go_wp2_with fail
  refine (K0.out _ _ _ hW (fun _ => rfl)).mono ?_
  rintro en w0 ⟨p0, rfl, hF0, hp0, hk0⟩
  have HP0 := Lib.hid hp0; clear hp0
  have HB0 := Lib.hid ((hk0.block _ (lt_of_block HB.out) (fun h => by have h' : w.heap.size = w.heap.size + 1 := h; omega)).trans HB.out)
  have HO0 := Lib.hid (HO.out.step hk0 (fun k h => by have h' : k = w.heap.size + 1 := h; omega))
  have HS1 := Lib.hid (Nat.le_trans HS0.out hk0.size)
  clear hk0 HB HO HS0 hW  K0
  go_wp2_with fail
  refine (K1.out _ _ _ hF0 HP0.out).mono ?_
  rintro en w1 ⟨p1, rfl, hF1, hp1, hk1⟩
  have HP1 := Lib.hid hp1; clear hp1
  have HB1 := Lib.hid ((hk1.block _ (lt_of_block HB0.out) (fun h => by have h' : w.heap.size = w.heap.size + 1 := h; omega)).trans HB0.out)
  have HO1 := Lib.hid (HO0.out.step hk1 (fun k h => by have h' : k = w.heap.size + 1 := h; omega))
  have HS2 := Lib.hid (Nat.le_trans HS1.out hk1.size)
  clear hk1 HB0 HO0 HS1 hF0 HP0 K1
  go_wp2_with fail
  refine (K2.out _ _ _ hF1 HP1.out).mono ?_
  rintro en w2 ⟨p2, rfl, hF2, hp2, hk2⟩
  have HP2 := Lib.hid hp2; clear hp2
  have HB2 := Lib.hid ((hk2.block _ (lt_of_block HB1.out) (fun h => by have h' : w.heap.size = w.heap.size + 1 := h; omega)).trans HB1.out)
  have HO2 := Lib.hid (HO1.out.step hk2 (fun k h => by have h' : k = w.heap.size + 1 := h; omega))
  have HS3 := Lib.hid (Nat.le_trans HS2.out hk2.size)
  clear hk2 HB1 HO1 HS2 hF1 HP1 K2
  go_wp2_with fail
  refine (KE.out _ _ _ hF2 HP2.out).mono ?_
  rintro en wz ⟨pz, rfl, hFz, hpz, hkz⟩
  have HBZ := Lib.hid ((hkz.block _ (lt_of_block HB2.out) (fun h => by have h' : w.heap.size = w.heap.size + 1 := h; omega)).trans HB2.out)
  have HOZ := Lib.hid (HO2.out.step hkz (fun k h => by have h' : k = w.heap.size + 1 := h; omega))
  clear hkz hpz hFz hF2 HB2 HO2 HS3 HP2 KE
  by_cases h0 : r = 0
  · have hrd : ro = some ⟨v0, v1, v2⟩ := by rw [HREAD.out, if_pos h0]
    have HRD := Lib.hid hrd; clear hrd
    have h0' : ((r : Nat) : Int) = 0 := by omega
    generalize ((r : Nat) : Int) = ri at h0'
    subst h0'
    clear h0 HREAD
    go_wp2_with (refine wpList_store_row _ rfl 46 _ _ rfl w.heap.size _ [.int .i64 v0, .string v1, .int .i64 v2] rfl rfl HBZ.out HSZ.out rfl (by simp [Value.oneCell']) ?_)
    have hrow := setRow_heap wz w.heap.size _ ([.int .i64 v0, .string v1, .int .i64 v2] : List Value).toArray _ _ HBZ.out
    have hload := run_loadVar_row (P := Tryz.prog) _ w.heap.size 46 46 _ (0, 0) _ hrow Tryz.underlying46 rfl (by rw [List.size_toArray]; exact HSZ.out)
    exact ret_cell_tmp 2 46 3 w.heap.size _ _ Tryz.results39 rfl rfl hload rfl ⟨_, by rw [HRD.out]; rfl, old_setRow HOZ.out _, by rw [HRD.out]; exact ⟨rfl, i0, i1, i2⟩⟩
  · have hrd : ro = none := by rw [HREAD.out, if_neg h0]
    have HRD := Lib.hid hrd; clear hrd
    have h0' : ¬ ((r : Nat) : Int) = 0 := by omega
    generalize ((r : Nat) : Int) = ri at h0'
    clear h0 HREAD
    go_wp2_with (refine wpList_store_row _ rfl 46 _ _ rfl w.heap.size _ [.int .i64 0, .string ⟨#[]⟩, .int .i64 0] rfl rfl HBZ.out HSZ.out rfl (by simp [Value.oneCell']) ?_)
    have hrow := setRow_heap wz w.heap.size _ ([.int .i64 0, .string ⟨#[]⟩, .int .i64 0] : List Value).toArray _ _ HBZ.out
    have hload := run_loadVar_row (P := Tryz.prog) _ w.heap.size 46 46 _ (0, 0) _ hrow Tryz.underlying46 rfl (by rw [List.size_toArray]; exact HSZ.out)
    exact ret_cell_tmp 2 46 3 w.heap.size _ _ Tryz.results39 rfl rfl hload rfl ⟨_, by rw [HRD.out]; rfl, old_setRow HOZ.out _, by rw [HRD.out]; exact zEvent_at _ _⟩

set_option maxRecDepth 100000 in
set_option maxHeartbeats 600000 in
theorem refget_hello (s : ByteArray) (w : World) (hs : s.size ≤ 140737488355328) :
    Calls Tryz.prog 40 #[.string s] w (TakenPost helloE zHello w (helloF.read s)) := by
  have HSZ := Lib.hid (show (Tryz.prog.info? 51).map (·.size) = some 4 by kernel_rfl)
  obtain ⟨v0, q0, e0, g0⟩ : ∃ a q e, numF.get s.data.toList 0 0 = (a, q, e) := ⟨_, _, _, eta3 _⟩
  obtain ⟨v1, q1, e1, g1⟩ : ∃ a q e, numF.get s.data.toList q0 e0 = (a, q, e) := ⟨_, _, _, eta3 _⟩
  obtain ⟨v2, q2, e2, g2⟩ : ∃ a q e, numF.get s.data.toList q1 e1 = (a, q, e) := ⟨_, _, _, eta3 _⟩
  obtain ⟨v3, q3, e3, g3⟩ : ∃ a q e, (textF 4096).get s.data.toList q2 e2 = (a, q, e) := ⟨_, _, _, eta3 _⟩
  have hget : helloF.get s.data.toList 0 0 = (⟨v0, v1, v2, v3⟩, q3, e3) := by simp only [helloF, isoF, seqF, g0, g1, g2, g3]
  have hread : helloF.read s = if rEndE s.data.toList.length q3 e3 = 0 then some ⟨v0, v1, v2, v3⟩ else none := by unfold Fmt.read; rw [hget]
  rw [str_len] at hread
  generalize helloF.read s = ro at hread ⊢
  have HREAD := Lib.hid hread; clear hread hget
  have i0 : I64 v0 := num_fit g0
  have i1 : I64 v1 := num_fit g1
  have i2 : I64 v2 := num_fit g2
  have i3 : Str v3 := text_fit (by decide) g3
  have hn0 : numsN 3 s.data.toList 0 0 = ([v0, v1, v2], q2, e2) := by simp only [numsN, getN, g0, g1, g2]
  have K0 := Lib.hid (ftake_of (by decide) hn0)
  clear hn0
  have K1 := Lib.hid (ftext_of (by decide) g3)
  have KE := Lib.hid (fend_of s q3 e3)
  clear g0 g1 g2 g3
  generalize hr : rEndE s.size q3 e3 = r at HREAD KE
  clear hr
  have hW : FAt ((w.alloc (.cells [.int .i64 0, .int .i64 0, .int .i64 0, .string ⟨#[]⟩].toArray 51)).alloc (.cells #[.string s, .int .i64 0, .int .i64 0] 111)) (w.heap.size + 1) s 0 0 := by
    have h := fresh_reader (w.alloc (.cells [.int .i64 0, .int .i64 0, .int .i64 0, .string ⟨#[]⟩].toArray 51)) s hs
    rwa [show (w.alloc (.cells [.int .i64 0, .int .i64 0, .int .i64 0, .string ⟨#[]⟩].toArray 51)).heap.size = w.heap.size + 1 from by simp] at h
  have hb0 : ((w.alloc (.cells [.int .i64 0, .int .i64 0, .int .i64 0, .string ⟨#[]⟩].toArray 51)).alloc (.cells #[.string s, .int .i64 0, .int .i64 0] 111)).heap[w.heap.size]? = some (.cells [.int .i64 0, .int .i64 0, .int .i64 0, .string ⟨#[]⟩].toArray 51 (0, 0)) := by
    rw [((Old.refl (w.alloc (.cells [.int .i64 0, .int .i64 0, .int .i64 0, .string ⟨#[]⟩].toArray 51))).make _).block _ (by simp) id]; exact heap_alloc_new w _
  have hO0 : Old w ((w.alloc (.cells [.int .i64 0, .int .i64 0, .int .i64 0, .string ⟨#[]⟩].toArray 51)).alloc (.cells #[.string s, .int .i64 0, .int .i64 0] 111)) := ((Old.refl w).make _).make _
  have hs0 : w.heap.size + 2 ≤ ((w.alloc (.cells [.int .i64 0, .int .i64 0, .int .i64 0, .string ⟨#[]⟩].toArray 51)).alloc (.cells #[.string s, .int .i64 0, .int .i64 0] 111)).heap.size := by simp
  have HB := Lib.hid hb0; clear hb0
  have HO := Lib.hid hO0; clear hO0
  have HS0 := Lib.hid hs0; clear hs0
  go_enter Tryz.func40, Tryz.ntmps40
  go_wp2_with fail
  refine (K0.out _ _ _ hW (fun _ => rfl)).mono ?_
  rintro en w0 ⟨t0, p0, rfl, hblk0, hgt0, hF0, hp0, hk0⟩
  have HP0 := Lib.hid hp0; clear hp0
  have HB0 := Lib.hid ((hk0.block _ (lt_of_block HB.out) (fun h => by have h' : w.heap.size = w.heap.size + 1 := h; omega)).trans HB.out)
  have HO0 := Lib.hid (HO.out.step hk0 (fun k h => by have h' : k = w.heap.size + 1 := h; omega))
  have HS1 := Lib.hid (Nat.le_trans HS0.out hk0.size)
  have HT0 := Lib.hid hblk0
  have HG0 : Hid (w.heap.size + 2 ≤ t0) := Lib.hid (Nat.le_trans HS0.out hgt0)
  clear hblk0 hgt0
  clear hk0 HB HO HS0 hW  K0
  go_wp2_with fail
  refine (K1.out _ _ _ hF0 HP0.out).mono ?_
  rintro en w1 ⟨p1, rfl, hF1, hp1, hk1⟩
  have HP1 := Lib.hid hp1; clear hp1
  have HB1 := Lib.hid ((hk1.block _ (lt_of_block HB0.out) (fun h => by have h' : w.heap.size = w.heap.size + 1 := h; omega)).trans HB0.out)
  have HO1 := Lib.hid (HO0.out.step hk1 (fun k h => by have h' : k = w.heap.size + 1 := h; omega))
  have HS2 := Lib.hid (Nat.le_trans HS1.out hk1.size)
  replace HT0 := Lib.hid ((hk1.block _ (lt_of_block HT0.out) (fun h => by have h' : t0 = w.heap.size + 1 := h; have := HG0.out; omega)).trans HT0.out)
  clear hk1 HB0 HO0 HS1 hF0 HP0 K1
  go_wp2_with fail
  refine (KE.out _ _ _ hF1 HP1.out).mono ?_
  rintro en wz ⟨pz, rfl, hFz, hpz, hkz⟩
  have HBZ := Lib.hid ((hkz.block _ (lt_of_block HB1.out) (fun h => by have h' : w.heap.size = w.heap.size + 1 := h; omega)).trans HB1.out)
  have HOZ := Lib.hid (HO1.out.step hkz (fun k h => by have h' : k = w.heap.size + 1 := h; omega))
  have HTZ0 := Lib.hid ((hkz.block _ (lt_of_block HT0.out) (fun h => by have h' : t0 = w.heap.size + 1 := h; have := HG0.out; omega)).trans HT0.out)
  clear hkz hpz hFz hF1 HB1 HO1 HS2 HP1 KE HT0
  by_cases h0 : r = 0
  · have hrd : ro = some ⟨v0, v1, v2, v3⟩ := by rw [HREAD.out, if_pos h0]
    have HRD := Lib.hid hrd; clear hrd
    have h0' : ((r : Nat) : Int) = 0 := by omega
    generalize ((r : Nat) : Int) = ri at h0'
    subst h0'
    clear h0 HREAD
    have c0_0 : wz.cell? ⟨t0, 0, none⟩ = some (.int .i64 v0) := cell_of_row _ _ 0 _ _ _ HTZ0.out
    have c0_1 : wz.cell? ⟨t0, 1, none⟩ = some (.int .i64 v1) := cell_of_row _ _ 1 _ _ _ HTZ0.out
    have c0_2 : wz.cell? ⟨t0, 2, none⟩ = some (.int .i64 v2) := cell_of_row _ _ 2 _ _ _ HTZ0.out
    go_wp2_with fail
    go_still_tail 11, (by kernel_rfl)
    change wpList _ _ _ _ _ wz.drew
    have HBY : Hid (wz.drew.heap[w.heap.size]? = some (.cells [.int .i64 0, .int .i64 0, .int .i64 0, .string ⟨#[]⟩].toArray 51 (0, 0))) := HBZ
    have HOY := Lib.hid (Old.drew HOZ.out)
    generalize wz.drew = wy at HBY HOY ⊢
    go_wp2_with (refine wpList_store_row _ rfl 51 _ _ rfl w.heap.size _ [.int .i64 v0, .int .i64 v1, .int .i64 v2, .string v3] rfl rfl HBY.out HSZ.out rfl (by simp [Value.oneCell']) ?_)
    have hrow := setRow_heap wy w.heap.size _ ([.int .i64 v0, .int .i64 v1, .int .i64 v2, .string v3] : List Value).toArray _ _ HBY.out
    have hload := run_loadVar_row (P := Tryz.prog) _ w.heap.size 51 51 _ (0, 0) _ hrow Tryz.underlying51 rfl (by rw [List.size_toArray]; exact HSZ.out)
    exact ret_cell_tmp 2 51 3 w.heap.size _ _ Tryz.results40 rfl rfl hload rfl ⟨_, by rw [HRD.out]; rfl, old_setRow HOY.out _, by rw [HRD.out]; exact ⟨rfl, i0, i1, i2, i3⟩⟩
  · have hrd : ro = none := by rw [HREAD.out, if_neg h0]
    have HRD := Lib.hid hrd; clear hrd
    have h0' : ¬ ((r : Nat) : Int) = 0 := by omega
    generalize ((r : Nat) : Int) = ri at h0'
    clear h0 HREAD
    go_wp2_with (refine wpList_store_row _ rfl 51 _ _ rfl w.heap.size _ [.int .i64 0, .int .i64 0, .int .i64 0, .string ⟨#[]⟩] rfl rfl HBZ.out HSZ.out rfl (by simp [Value.oneCell']) ?_)
    have hrow := setRow_heap wz w.heap.size _ ([.int .i64 0, .int .i64 0, .int .i64 0, .string ⟨#[]⟩] : List Value).toArray _ _ HBZ.out
    have hload := run_loadVar_row (P := Tryz.prog) _ w.heap.size 51 51 _ (0, 0) _ hrow Tryz.underlying51 rfl (by rw [List.size_toArray]; exact HSZ.out)
    exact ret_cell_tmp 2 51 3 w.heap.size _ _ Tryz.results40 rfl rfl hload rfl ⟨_, by rw [HRD.out]; rfl, old_setRow HOZ.out _, by rw [HRD.out]; exact zHello_at _ _⟩

set_option maxRecDepth 100000 in
set_option maxHeartbeats 600000 in
theorem refget_note (s : ByteArray) (w : World) (hs : s.size ≤ 140737488355328) :
    Calls Tryz.prog 41 #[.string s] w (TakenPost noteE zNote w (noteF.read s)) := by
  have HSZ := Lib.hid (show (Tryz.prog.info? 54).map (·.size) = some 6 by kernel_rfl)
  obtain ⟨v0, q0, e0, g0⟩ : ∃ a q e, numF.get s.data.toList 0 0 = (a, q, e) := ⟨_, _, _, eta3 _⟩
  obtain ⟨v1, q1, e1, g1⟩ : ∃ a q e, numF.get s.data.toList q0 e0 = (a, q, e) := ⟨_, _, _, eta3 _⟩
  obtain ⟨v2, q2, e2, g2⟩ : ∃ a q e, numF.get s.data.toList q1 e1 = (a, q, e) := ⟨_, _, _, eta3 _⟩
  obtain ⟨v3, q3, e3, g3⟩ : ∃ a q e, numF.get s.data.toList q2 e2 = (a, q, e) := ⟨_, _, _, eta3 _⟩
  obtain ⟨v4, q4, e4, g4⟩ : ∃ a q e, numF.get s.data.toList q3 e3 = (a, q, e) := ⟨_, _, _, eta3 _⟩
  obtain ⟨v5, q5, e5, g5⟩ : ∃ a q e, numF.get s.data.toList q4 e4 = (a, q, e) := ⟨_, _, _, eta3 _⟩
  have hget : noteF.get s.data.toList 0 0 = (⟨v0, v1, v2, v3, v4, v5⟩, q5, e5) := by simp only [noteF, isoF, seqF, g0, g1, g2, g3, g4, g5]
  have hread : noteF.read s = if rEndE s.data.toList.length q5 e5 = 0 then some ⟨v0, v1, v2, v3, v4, v5⟩ else none := by unfold Fmt.read; rw [hget]
  rw [str_len] at hread
  generalize noteF.read s = ro at hread ⊢
  have HREAD := Lib.hid hread; clear hread hget
  have i0 : I64 v0 := num_fit g0
  have i1 : I64 v1 := num_fit g1
  have i2 : I64 v2 := num_fit g2
  have i3 : I64 v3 := num_fit g3
  have i4 : I64 v4 := num_fit g4
  have i5 : I64 v5 := num_fit g5
  have hn0 : numsN 6 s.data.toList 0 0 = ([v0, v1, v2, v3, v4, v5], q5, e5) := by simp only [numsN, getN, g0, g1, g2, g3, g4, g5]
  have K0 := Lib.hid (ftake_of (by decide) hn0)
  clear hn0
  have KE := Lib.hid (fend_of s q5 e5)
  clear g0 g1 g2 g3 g4 g5
  generalize hr : rEndE s.size q5 e5 = r at HREAD KE
  clear hr
  have hW : FAt ((w.alloc (.cells [.int .i64 0, .int .i64 0, .int .i64 0, .int .i64 0, .int .i64 0, .int .i64 0].toArray 54)).alloc (.cells #[.string s, .int .i64 0, .int .i64 0] 111)) (w.heap.size + 1) s 0 0 := by
    have h := fresh_reader (w.alloc (.cells [.int .i64 0, .int .i64 0, .int .i64 0, .int .i64 0, .int .i64 0, .int .i64 0].toArray 54)) s hs
    rwa [show (w.alloc (.cells [.int .i64 0, .int .i64 0, .int .i64 0, .int .i64 0, .int .i64 0, .int .i64 0].toArray 54)).heap.size = w.heap.size + 1 from by simp] at h
  have hb0 : ((w.alloc (.cells [.int .i64 0, .int .i64 0, .int .i64 0, .int .i64 0, .int .i64 0, .int .i64 0].toArray 54)).alloc (.cells #[.string s, .int .i64 0, .int .i64 0] 111)).heap[w.heap.size]? = some (.cells [.int .i64 0, .int .i64 0, .int .i64 0, .int .i64 0, .int .i64 0, .int .i64 0].toArray 54 (0, 0)) := by
    rw [((Old.refl (w.alloc (.cells [.int .i64 0, .int .i64 0, .int .i64 0, .int .i64 0, .int .i64 0, .int .i64 0].toArray 54))).make _).block _ (by simp) id]; exact heap_alloc_new w _
  have hO0 : Old w ((w.alloc (.cells [.int .i64 0, .int .i64 0, .int .i64 0, .int .i64 0, .int .i64 0, .int .i64 0].toArray 54)).alloc (.cells #[.string s, .int .i64 0, .int .i64 0] 111)) := ((Old.refl w).make _).make _
  have hs0 : w.heap.size + 2 ≤ ((w.alloc (.cells [.int .i64 0, .int .i64 0, .int .i64 0, .int .i64 0, .int .i64 0, .int .i64 0].toArray 54)).alloc (.cells #[.string s, .int .i64 0, .int .i64 0] 111)).heap.size := by simp
  have HB := Lib.hid hb0; clear hb0
  have HO := Lib.hid hO0; clear hO0
  have HS0 := Lib.hid hs0; clear hs0
  go_enter Tryz.func41, Tryz.ntmps41
  go_wp2_with fail
  refine (K0.out _ _ _ hW (fun _ => rfl)).mono ?_
  rintro en w0 ⟨t0, p0, rfl, hblk0, hgt0, hF0, hp0, hk0⟩
  have HP0 := Lib.hid hp0; clear hp0
  have HB0 := Lib.hid ((hk0.block _ (lt_of_block HB.out) (fun h => by have h' : w.heap.size = w.heap.size + 1 := h; omega)).trans HB.out)
  have HO0 := Lib.hid (HO.out.step hk0 (fun k h => by have h' : k = w.heap.size + 1 := h; omega))
  have HS1 := Lib.hid (Nat.le_trans HS0.out hk0.size)
  have HT0 := Lib.hid hblk0
  have HG0 : Hid (w.heap.size + 2 ≤ t0) := Lib.hid (Nat.le_trans HS0.out hgt0)
  clear hblk0 hgt0
  clear hk0 HB HO HS0 hW  K0
  go_wp2_with fail
  refine (KE.out _ _ _ hF0 HP0.out).mono ?_
  rintro en wz ⟨pz, rfl, hFz, hpz, hkz⟩
  have HBZ := Lib.hid ((hkz.block _ (lt_of_block HB0.out) (fun h => by have h' : w.heap.size = w.heap.size + 1 := h; omega)).trans HB0.out)
  have HOZ := Lib.hid (HO0.out.step hkz (fun k h => by have h' : k = w.heap.size + 1 := h; omega))
  have HTZ0 := Lib.hid ((hkz.block _ (lt_of_block HT0.out) (fun h => by have h' : t0 = w.heap.size + 1 := h; have := HG0.out; omega)).trans HT0.out)
  clear hkz hpz hFz hF0 HB0 HO0 HS1 HP0 KE HT0
  by_cases h0 : r = 0
  · have hrd : ro = some ⟨v0, v1, v2, v3, v4, v5⟩ := by rw [HREAD.out, if_pos h0]
    have HRD := Lib.hid hrd; clear hrd
    have h0' : ((r : Nat) : Int) = 0 := by omega
    generalize ((r : Nat) : Int) = ri at h0'
    subst h0'
    clear h0 HREAD
    have c0_0 : wz.cell? ⟨t0, 0, none⟩ = some (.int .i64 v0) := cell_of_row _ _ 0 _ _ _ HTZ0.out
    have c0_1 : wz.cell? ⟨t0, 1, none⟩ = some (.int .i64 v1) := cell_of_row _ _ 1 _ _ _ HTZ0.out
    have c0_2 : wz.cell? ⟨t0, 2, none⟩ = some (.int .i64 v2) := cell_of_row _ _ 2 _ _ _ HTZ0.out
    have c0_3 : wz.cell? ⟨t0, 3, none⟩ = some (.int .i64 v3) := cell_of_row _ _ 3 _ _ _ HTZ0.out
    have c0_4 : wz.cell? ⟨t0, 4, none⟩ = some (.int .i64 v4) := cell_of_row _ _ 4 _ _ _ HTZ0.out
    have c0_5 : wz.cell? ⟨t0, 5, none⟩ = some (.int .i64 v5) := cell_of_row _ _ 5 _ _ _ HTZ0.out
    go_wp2_with fail
    go_still_tail 19, (by kernel_rfl)
    change wpList _ _ _ _ _ wz.drew
    have HBY : Hid (wz.drew.heap[w.heap.size]? = some (.cells [.int .i64 0, .int .i64 0, .int .i64 0, .int .i64 0, .int .i64 0, .int .i64 0].toArray 54 (0, 0))) := HBZ
    have HOY := Lib.hid (Old.drew HOZ.out)
    generalize wz.drew = wy at HBY HOY ⊢
    go_wp2_with (refine wpList_store_row _ rfl 54 _ _ rfl w.heap.size _ [.int .i64 v0, .int .i64 v1, .int .i64 v2, .int .i64 v3, .int .i64 v4, .int .i64 v5] rfl rfl HBY.out HSZ.out rfl (by simp [Value.oneCell']) ?_)
    have hrow := setRow_heap wy w.heap.size _ ([.int .i64 v0, .int .i64 v1, .int .i64 v2, .int .i64 v3, .int .i64 v4, .int .i64 v5] : List Value).toArray _ _ HBY.out
    have hload := run_loadVar_row (P := Tryz.prog) _ w.heap.size 54 54 _ (0, 0) _ hrow Tryz.underlying54 rfl (by rw [List.size_toArray]; exact HSZ.out)
    exact ret_cell_tmp 2 54 3 w.heap.size _ _ Tryz.results41 rfl rfl hload rfl ⟨_, by rw [HRD.out]; rfl, old_setRow HOY.out _, by rw [HRD.out]; exact ⟨rfl, i0, i1, i2, i3, i4, i5⟩⟩
  · have hrd : ro = none := by rw [HREAD.out, if_neg h0]
    have HRD := Lib.hid hrd; clear hrd
    have h0' : ¬ ((r : Nat) : Int) = 0 := by omega
    generalize ((r : Nat) : Int) = ri at h0'
    clear h0 HREAD
    go_wp2_with (refine wpList_store_row _ rfl 54 _ _ rfl w.heap.size _ [.int .i64 0, .int .i64 0, .int .i64 0, .int .i64 0, .int .i64 0, .int .i64 0] rfl rfl HBZ.out HSZ.out rfl (by simp [Value.oneCell']) ?_)
    have hrow := setRow_heap wz w.heap.size _ ([.int .i64 0, .int .i64 0, .int .i64 0, .int .i64 0, .int .i64 0, .int .i64 0] : List Value).toArray _ _ HBZ.out
    have hload := run_loadVar_row (P := Tryz.prog) _ w.heap.size 54 54 _ (0, 0) _ hrow Tryz.underlying54 rfl (by rw [List.size_toArray]; exact HSZ.out)
    exact ret_cell_tmp 2 54 3 w.heap.size _ _ Tryz.results41 rfl rfl hload rfl ⟨_, by rw [HRD.out]; rfl, old_setRow HOZ.out _, by rw [HRD.out]; exact zNote_at _ _⟩

end Go.Proofs.YtpmemcpfoapjmaaGreat
