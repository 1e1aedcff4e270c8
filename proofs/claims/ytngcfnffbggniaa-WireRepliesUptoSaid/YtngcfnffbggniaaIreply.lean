/- Reply: Put and Get. -/
import Derived.Test.YtngcfnffbggniaaIo
import Derived.Test.YtngcfnffbggniaaPreply
import Derived.Test.YtngcfnffbggniaaGreply
namespace Go.Proofs.Ytngcfnffbggniaa
open Go.ChangeShapes Go.WideShapes Go.ChangeAt Go.RowKit
set_option linter.unusedVariables false

def zReply : Reply := ⟨⟨0, 0, 0, ⟨#[]⟩, ⟨#[]⟩, ⟨0, 0, 0, 0, 0, 0, 0, 0, 0⟩, [], []⟩, []⟩
theorem zReply_at (w : World) (ok : Nat → Prop) : replyE w ok [.int .i64 0, .int .i64 0, .int .i64 0, .string ⟨#[]⟩, .string ⟨#[]⟩, .int .i64 0, .int .i64 0, .int .i64 0, .int .i64 0, .int .i64 0, .int .i64 0, .int .i64 0, .int .i64 0, .int .i64 0, .slice none 0 0, .slice none 0 0, .slice none 0 0] zReply := ⟨_, ⟨_, _, rfl, ListR.nil _ _ _ _, ListR.nil _ _ _ _, i64_zero, i64_zero, i64_zero, str_empty, str_empty, i64_zero, i64_zero, i64_zero, i64_zero, i64_zero, i64_zero, i64_zero, i64_zero, i64_zero, ⟨_, _, _, rfl⟩⟩, ListR.nil _ _ _ _⟩

set_option maxRecDepth 100000 in
theorem whole_reply (x : Reply) (cs : List Value) (ok : Nat → Prop) (w : World) (hE : replyE w ok cs x) (hi : In w ok) (hl : (replyF.lay x).length ≤ 144900000000000) :
    Calls Try.prog 46 #[.agg cs.toArray, .func (.func 47) #[] #[]] w (OldStr w (replyF.lay x)) := by
  have hfl := replyE_flat hE
  have hsz : (Try.prog.info? 46).map (·.size) = some cs.length := by rw [hfl.1]; kernel_rfl
  have HSZ := Lib.hid hsz
  have hA : Kept (fun _ => False) w (w.alloc (.cells cs.toArray 46)) := (Kept.refl _ w).alloc _
  have hO1 : Old w ((w.alloc (.cells cs.toArray 46)).alloc (.cells #[.slice none 0 0] 161)) := hA.alloc _
  have hE1 := replyE_ok.keep hE hO1 (disj_none _)
  have hi1 := hi.kept hO1
  have hW1 := new_at (w.alloc (.cells cs.toArray 46))
  have hrg : ((w.alloc (.cells cs.toArray 46)).alloc (.cells #[.slice none 0 0] 161)).rangeAt w.heap.size 0 cs := range_row (by
    rw [((Kept.refl (fun _ => False) (w.alloc (.cells cs.toArray 46))).alloc (.cells #[.slice none 0 0] 161)).block _ (by simp) id]; exact heap_alloc_new w _)
  have HRG := Lib.hid hrg
  have hws : (w.alloc (.cells cs.toArray 46)).heap.size = w.heap.size + 1 := by simp
  rw [hws] at hW1
  have hd : Disj ok (WS (w.heap.size + 1) (.slice none 0 0)) := fun g hg hs => by
    have := hi g hg
    rcases hs with hs | hs
    · omega
    · simp [Value.ownBlock] at hs
  have ho : Off w.heap.size (WS (w.heap.size + 1) (.slice none 0 0)) := fun g hs => by
    rcases hs with hs | hs
    · omega
    · simp [Value.ownBlock] at hs
  clear hfl hsz hA hE hi hrg hws
  go_enter Try.func46, Try.ntmps46
  go_wp2_with fail
  refine (new_any _).mono ?_
  rintro en w1 ⟨rfl, rfl⟩
  go_wp2_with (refine wpList_load_mid rfl 46 (.tmp 2) rfl w.heap.size 0 rfl cs _ HRG.out Try.underlying46 rfl HSZ.out ?_)
  refine (put_reply x cs ok _ _ _ [] hW1 hE1 hd hi1 (by simpa using hl)).mono ?_
  rintro en w2 ⟨v2, rfl, hW2, hk2, hs2⟩
  have hO2 := hO1.step hk2 ho
  clear hE1 hi1 hW1 hd ho hO1 hk2 hs2 HRG HSZ
  go_wp2_with fail
  refine (wbytes_any _ _ _ _ hW2).mono ?_
  rintro en w3 ⟨rfl, n3, rfl⟩
  have hO3 := hO2.drewN n3
  go_wp2_with fail
  go_ret
  exact ⟨rfl, hO3⟩

set_option maxRecDepth 100000 in
theorem PutReply_any (x : Reply) (cs : List Value) (ok : Nat → Prop) (w : World) (hE : replyE w ok cs x) (hi : In w ok) (hl : (replyF.lay x).length ≤ 144900000000000) :
    Calls Try.prog 18 #[.agg cs.toArray] w (OldStr w (replyF.lay x)) := by
  have hfl := replyE_flat hE
  have hsz : (Try.prog.info? 46).map (·.size) = some cs.length := by rw [hfl.1]; kernel_rfl
  have HSZ := Lib.hid hsz
  have hA : Old w (w.alloc (.cells cs.toArray 46)) := (Kept.refl _ w).alloc _
  have hE1 := replyE_ok.keep hE hA (disj_none _)
  have hi1 := hi.kept hA
  have HRG := Lib.hid (range_new w cs 46)
  clear hfl hsz
  go_enter Try.func18, Try.ntmps18
  go_wp2_with (refine wpList_load_mid rfl 46 (.tmp 1) rfl w.heap.size 0 rfl cs _ HRG.out Try.underlying46 rfl HSZ.out ?_)
  refine (whole_reply x cs ok _ hE1 hi1 hl).mono ?_
  rintro en w1 ⟨rfl, hO1⟩
  have hO := hA.none hO1
  clear hA hE1 hi1 hO1
  go_wp2_with fail
  go_ret
  exact ⟨rfl, hO⟩

set_option maxRecDepth 100000 in
set_option maxHeartbeats 600000 in
theorem taken_reply (s : ByteArray) (w : World) (hs : s.size ≤ maxLen) :
    Calls Try.prog 93 #[.string s, .func (.func 94) #[] #[]] w (TakenPost replyE zReply w (replyF.read s)) := by
  have hsz : (Try.prog.info? 46).map (·.size) = some 17 := by kernel_rfl
  have HSZ := Lib.hid hsz; clear hsz
  obtain ⟨x, q, e', hget⟩ : ∃ x q e', replyF.get s.data.toList 0 0 = (x, q, e') := ⟨_, _, _, eta3 _⟩
  have hread : replyF.read s = if rEndE s.data.toList.length q e' = 0 then some x else none := by unfold Fmt.read; rw [hget]
  generalize replyF.read s = ro at hread ⊢
  have HGET := Lib.hid hget; clear hget
  have HREAD := Lib.hid hread; clear hread
  go_enter Try.func93, Try.ntmps93
  go_wp2_with fail
  refine (read_any s _ hs).mono ?_
  rintro en w1 ⟨b, v, rfl, hR, hb, hv, hk1⟩
  have hge : w.heap.size + 1 ≤ b := by simpa using hb
  go_wp2_with fail
  refine (get_reply _ b v _ _ _ hR HGET.out).mono ?_
  rintro en w2 ⟨cs, rfl, hE2, hR2, hk2⟩
  have hfl := replyE_flat hE2
  have HFL := Lib.hid hfl.1
  have HF1 := Lib.hid hfl.2
  have hR3 := hR2.alloc (.cells cs.toArray 46)
  have HHR := Lib.hid (⟨hR, hk1, hge, hk2⟩ : RAt w1 b v s.data.toList 0 0 ∧ Kept (fun _ => False) (w.alloc (.cells #[.int .i64 0, .int .i64 0, .int .i64 0, .string ⟨#[]⟩, .string ⟨#[]⟩, .int .i64 0, .int .i64 0, .int .i64 0, .int .i64 0, .int .i64 0, .int .i64 0, .int .i64 0, .int .i64 0, .int .i64 0, .slice none 0 0, .slice none 0 0, .slice none 0 0] 46)) w1 ∧ w.heap.size + 1 ≤ b ∧ Kept (RS b) w1 w2)
  clear hR hk1 hge hk2 hb hv hR2 hfl
  go_wp2_with (refine wpList_store_new w2 rfl 46 _ (.tmp 13) rfl _ cs rfl rfl (by rw [HFL.out]; exact HSZ.out) HFL.out.symm HF1.out ?_)
  refine (rend_e _ b v _ _ _ hR3).mono ?_
  rintro en w4 ⟨rfl, hR4, hk4⟩
  have st : TakenSt w w1 w2 w4 b v s.data.toList 46 #[.int .i64 0, .int .i64 0, .int .i64 0, .string ⟨#[]⟩, .string ⟨#[]⟩, .int .i64 0, .int .i64 0, .int .i64 0, .int .i64 0, .int .i64 0, .int .i64 0, .int .i64 0, .int .i64 0, .int .i64 0, .slice none 0 0, .slice none 0 0, .slice none 0 0] cs := ⟨HHR.out.1, HHR.out.2.1, HHR.out.2.2.1, HHR.out.2.2.2, hk4⟩
  have HRES := Lib.hid st.res
  have HBOX := Lib.hid (range_row st.box)
  have HO := Lib.hid st.old
  have HREL := Lib.hid (st.rel replyE_ok hE2)
  clear st HHR hR3 hR4 hk4 hE2
  by_cases h0 : rEndE s.data.toList.length q e' = 0
  · have hrd : ro = some x := by rw [HREAD.out, if_pos h0]
    have HRD := Lib.hid hrd; clear hrd
    have h0' : ((rEndE s.data.toList.length q e' : Nat) : Int) = 0 := by omega
    generalize ((rEndE s.data.toList.length q e' : Nat) : Int) = r at h0'
    subst h0'
    clear h0
    go_wp2_with (first | (refine wpList_load_mid rfl 46 (.tmp 7) rfl w2.heap.size 0 rfl cs _ HBOX.out Try.underlying46 rfl (by rw [HFL.out]; exact HSZ.out) ?_) | (refine wpList_store_row _ rfl 46 _ _ rfl w.heap.size _ cs rfl rfl HRES.out (by rw [HFL.out]; exact HSZ.out) HFL.out.symm HF1.out ?_))
    have hrow := setRow_heap w4 w.heap.size _ cs.toArray _ _ HRES.out
    have hload := run_loadVar_row (P := Try.prog) _ w.heap.size 46 46 _ (0, 0) _ hrow Try.underlying46 rfl (by rw [List.size_toArray, HFL.out]; exact HSZ.out)
    exact ret_cell_tmp 4 46 5 w.heap.size _ _ Try.results93 rfl rfl hload rfl ⟨cs, by rw [HRD.out]; rfl, old_setRow HO.out _, by rw [HRD.out]; exact HREL.out _⟩
  · have hrd : ro = none := by rw [HREAD.out, if_neg h0]
    have HRD := Lib.hid hrd; clear hrd
    have h0' : ¬ ((rEndE s.data.toList.length q e' : Nat) : Int) = 0 := by omega
    generalize ((rEndE s.data.toList.length q e' : Nat) : Int) = r at h0'
    clear h0
    have hA : Old w4 (w4.alloc (.cells #[.int .i64 0, .int .i64 0, .int .i64 0, .string ⟨#[]⟩, .string ⟨#[]⟩, .int .i64 0, .int .i64 0, .int .i64 0, .int .i64 0, .int .i64 0, .int .i64 0, .int .i64 0, .int .i64 0, .int .i64 0, .slice none 0 0, .slice none 0 0, .slice none 0 0] 46)) := (Kept.refl _ w4).alloc _
    have HR5 : Hid ((w4.alloc (.cells #[.int .i64 0, .int .i64 0, .int .i64 0, .string ⟨#[]⟩, .string ⟨#[]⟩, .int .i64 0, .int .i64 0, .int .i64 0, .int .i64 0, .int .i64 0, .int .i64 0, .int .i64 0, .int .i64 0, .int .i64 0, .slice none 0 0, .slice none 0 0, .slice none 0 0] 46)).heap[w.heap.size]? = some (.cells #[.int .i64 0, .int .i64 0, .int .i64 0, .string ⟨#[]⟩, .string ⟨#[]⟩, .int .i64 0, .int .i64 0, .int .i64 0, .int .i64 0, .int .i64 0, .int .i64 0, .int .i64 0, .int .i64 0, .int .i64 0, .slice none 0 0, .slice none 0 0, .slice none 0 0] 46 (0, 0))) := by rw [hA.block _ (lt_of_block HRES.out) id]; exact HRES.out
    obtain ⟨zl, hzl⟩ : ∃ zl : List Value, zl = [.int .i64 0, .int .i64 0, .int .i64 0, .string ⟨#[]⟩, .string ⟨#[]⟩, .int .i64 0, .int .i64 0, .int .i64 0, .int .i64 0, .int .i64 0, .int .i64 0, .int .i64 0, .int .i64 0, .int .i64 0, .slice none 0 0, .slice none 0 0, .slice none 0 0] := ⟨_, rfl⟩
    have HRN : Hid ((w4.alloc (.cells #[.int .i64 0, .int .i64 0, .int .i64 0, .string ⟨#[]⟩, .string ⟨#[]⟩, .int .i64 0, .int .i64 0, .int .i64 0, .int .i64 0, .int .i64 0, .int .i64 0, .int .i64 0, .int .i64 0, .int .i64 0, .slice none 0 0, .slice none 0 0, .slice none 0 0] 46)).rangeAt w4.heap.size 0 zl) := by rw [hzl]; exact range_new w4 [.int .i64 0, .int .i64 0, .int .i64 0, .string ⟨#[]⟩, .string ⟨#[]⟩, .int .i64 0, .int .i64 0, .int .i64 0, .int .i64 0, .int .i64 0, .int .i64 0, .int .i64 0, .int .i64 0, .int .i64 0, .slice none 0 0, .slice none 0 0, .slice none 0 0] 46
    have HZE : Hid (∀ (W : World) (ok : Nat → Prop), replyE W ok zl zReply) := by rw [hzl]; exact zReply_at
    have hzf : Flat 17 zl := replyE_flat (HZE.out w (fun _ => False))
    have HZL := Lib.hid hzf.1
    have HZ1 := Lib.hid hzf.2
    clear hzl hzf
    have HO5 := Lib.hid (HO.out.none hA)
    clear hA HREL
    go_wp2_with (first | (refine wpList_load_mid rfl 46 (.tmp 8) rfl w4.heap.size 0 rfl zl _ HRN.out Try.underlying46 rfl (by rw [HZL.out]; exact HSZ.out) ?_) | (refine wpList_store_row _ rfl 46 _ _ rfl w.heap.size _ zl rfl rfl HR5.out (by rw [HZL.out]; exact HSZ.out) HZL.out.symm HZ1.out ?_))
    have hrow := setRow_heap (w4.alloc (.cells #[.int .i64 0, .int .i64 0, .int .i64 0, .string ⟨#[]⟩, .string ⟨#[]⟩, .int .i64 0, .int .i64 0, .int .i64 0, .int .i64 0, .int .i64 0, .int .i64 0, .int .i64 0, .int .i64 0, .int .i64 0, .slice none 0 0, .slice none 0 0, .slice none 0 0] 46)) w.heap.size _ zl.toArray _ _ HR5.out
    have hload := run_loadVar_row (P := Try.prog) _ w.heap.size 46 46 _ (0, 0) _ hrow Try.underlying46 rfl (by rw [List.size_toArray, HZL.out]; exact HSZ.out)
    exact ret_cell_tmp 4 46 5 w.heap.size _ _ Try.results93 rfl rfl hload rfl ⟨_, by rw [HRD.out]; rfl, old_setRow HO5.out _, by rw [HRD.out]; exact HZE.out _ _⟩

set_option maxRecDepth 100000 in
theorem GetReply_any (s : ByteArray) (w : World) (hs : s.size ≤ maxLen) :
    Calls Try.prog 50 #[.string s] w (TakenPost replyE zReply w (replyF.read s)) := by
  have hsz : (Try.prog.info? 46).map (·.size) = some 17 := by kernel_rfl
  have HSZ := Lib.hid hsz; clear hsz
  have hbk := heap_alloc_new w (.cells #[.int .i64 0, .int .i64 0, .int .i64 0, .string ⟨#[]⟩, .string ⟨#[]⟩, .int .i64 0, .int .i64 0, .int .i64 0, .int .i64 0, .int .i64 0, .int .i64 0, .int .i64 0, .int .i64 0, .int .i64 0, .slice none 0 0, .slice none 0 0, .slice none 0 0] 46)
  have hA : Old w (w.alloc (.cells #[.int .i64 0, .int .i64 0, .int .i64 0, .string ⟨#[]⟩, .string ⟨#[]⟩, .int .i64 0, .int .i64 0, .int .i64 0, .int .i64 0, .int .i64 0, .int .i64 0, .int .i64 0, .int .i64 0, .int .i64 0, .slice none 0 0, .slice none 0 0, .slice none 0 0] 46)) := (Kept.refl _ w).alloc _
  go_enter Try.func50, Try.ntmps50
  go_wp2_with fail
  refine (taken_reply s _ hs).mono ?_
  rintro en w1 ⟨cs, rfl, hO1, hE1⟩
  have hfl := replyE_flat hE1
  have HFL := Lib.hid hfl.1
  have HF1 := Lib.hid hfl.2
  have HRES : Hid (w1.heap[w.heap.size]? = some (.cells #[.int .i64 0, .int .i64 0, .int .i64 0, .string ⟨#[]⟩, .string ⟨#[]⟩, .int .i64 0, .int .i64 0, .int .i64 0, .int .i64 0, .int .i64 0, .int .i64 0, .int .i64 0, .int .i64 0, .int .i64 0, .slice none 0 0, .slice none 0 0, .slice none 0 0] 46 (0, 0))) := by rw [hO1.block _ (lt_of_block hbk) id]; exact hbk
  have HO := Lib.hid (hA.none hO1)
  have HE := Lib.hid (fun c => fin_E replyE_ok (w := w) hE1 (by simp) c)
  clear hbk hA hfl hO1 hE1
  go_wp2_with (refine wpList_store_row _ rfl 46 _ _ rfl w.heap.size _ cs rfl rfl HRES.out (by rw [HFL.out]; exact HSZ.out) HFL.out.symm HF1.out ?_)
  have hrow := setRow_heap w1 w.heap.size _ cs.toArray _ _ HRES.out
  have hload := run_loadVar_row (P := Try.prog) _ w.heap.size 46 46 _ (0, 0) _ hrow Try.underlying46 rfl (by rw [List.size_toArray, HFL.out]; exact HSZ.out)
  exact ret_cell_tmp 2 46 3 w.heap.size _ _ Try.results50 rfl rfl hload rfl ⟨cs, rfl, old_setRow HO.out _, HE.out _⟩

end Go.Proofs.Ytngcfnffbggniaa
