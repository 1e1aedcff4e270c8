/- Message: Put and Get. The document's own answers of layer 2: a message taken up, in a block of its own behind the reader's. -/
import Derived.Test.YtpmemcpfoapjmaaGreatV06
import Derived.Test.YtpmemcpfoapjmaaGreatV17
import Derived.Test.YtpmemcpfoapjmaaGreatV10
import Derived.Test.YtpmemcpfoapjmaaGreatV14
import Derived.Test.YtpmemcpfoapjmaaGreatV16
namespace Go.Proofs.YtpmemcpfoapjmaaGreat
open Go.ChangeShapes Go.WideShapes Go.ChangeAt Go.RowKit
set_option linter.unusedVariables false

def zMessage : Message := ⟨0, 0, 0, 0, 0, [], ⟨#[]⟩, [], ⟨⟨0, 0, ⟨#[]⟩, ⟨#[]⟩, [], 0, 0, false⟩, [], []⟩, []⟩
theorem zMessage_at (w : World) (ok : Nat → Prop) : messageE w ok [.int .i64 0, .int .i64 0, .int .i64 0, .int .i64 0, .int .i64 0, .slice none 0 0, .string ⟨#[]⟩, .slice none 0 0, .int .i64 0, .int .i64 0, .string ⟨#[]⟩, .string ⟨#[]⟩, .slice none 0 0, .int .i64 0, .int .i64 0, .bool false, .slice none 0 0, .slice none 0 0, .slice none 0 0] zMessage := ⟨_, _, _, _, rfl, ListR.nil _ _ _ _, ListR.nil _ _ _ _, ⟨_, _, ⟨_, rfl, ListR.nil _ _ _ _, i64_zero, i64_zero, str_empty, str_empty, i64_zero, i64_zero, ⟨_, _, _, rfl⟩, ⟨_, _, _, rfl⟩⟩, ListR.nil _ _ _ _, ListR.nil _ _ _ _⟩, ListR.nil _ _ _ _, i64_zero, i64_zero, i64_zero, i64_zero, i64_zero, str_empty⟩

set_option maxRecDepth 100000 in
theorem whole_message (x : Message) (cs : List Value) (ok : Nat → Prop) (w : World) (hE : messageE w ok cs x) (hi : In w ok) (hl : (messageF.lay x).length ≤ 144900000000000) :
    Calls Tryz.prog 19 #[.agg cs.toArray, .func (.func 20) #[] #[]] w (OldStr w (messageF.lay x)) := by
  have hfl := messageE_flat hE
  have hsz : (Tryz.prog.info? 31).map (·.size) = some cs.length := by rw [hfl.1]; kernel_rfl
  have HSZ := Lib.hid hsz
  have hA : Kept (fun _ => False) w (w.alloc (.cells cs.toArray 31)) := (Kept.refl _ w).alloc _
  have hO1 : Old w ((w.alloc (.cells cs.toArray 31)).alloc (.cells #[.slice none 0 0] 140)) := hA.alloc _
  have hE1 := messageE_ok.keep hE hO1 (disj_none _)
  have hi1 := hi.kept hO1
  have hW1 := new_at (w.alloc (.cells cs.toArray 31))
  have hrg : ((w.alloc (.cells cs.toArray 31)).alloc (.cells #[.slice none 0 0] 140)).rangeAt w.heap.size 0 cs := range_row (by
    rw [((Kept.refl (fun _ => False) (w.alloc (.cells cs.toArray 31))).alloc (.cells #[.slice none 0 0] 140)).block _ (by simp) id]; exact heap_alloc_new w _)
  have HRG := Lib.hid hrg
  have hws : (w.alloc (.cells cs.toArray 31)).heap.size = w.heap.size + 1 := by simp
  rw [hws] at hW1
  have hd : Disj ok (WS (w.heap.size + 1) (.slice none 0 0)) := fun g hg hs => by
    have := hi g hg
    rcases hs with hs | hs
    · omega
    · simp [Value.ownBlock] at hs
  have ho : Off w.heap.size (WS (w.heap.size + 1) (.slice none 0 0)) := fun g hs => by
    rcases hs with hs | hs
    · omega
    · simp [Value.ownBlock] at hs
  clear hfl hsz hA hE hi hrg hws
  go_enter Tryz.func19, Tryz.ntmps19
  go_wp2_with fail
  refine (new_any _).mono ?_
  rintro en w1 ⟨rfl, rfl⟩
  go_wp2_with (refine wpList_load_mid rfl 31 (.tmp 2) rfl w.heap.size 0 rfl cs _ HRG.out Tryz.underlying31 rfl HSZ.out ?_)
  refine (put_message x cs ok _ _ _ [] hW1 hE1 hd hi1 (by simpa using hl)).mono ?_
  rintro en w2 ⟨v2, rfl, hW2, hk2, hs2⟩
  have hO2 := hO1.step hk2 ho
  clear hE1 hi1 hW1 hd ho hO1 hk2 hs2 HRG HSZ
  go_wp2_with fail
  refine (wbytes_any _ _ _ _ hW2).mono ?_
  rintro en w3 ⟨rfl, n3, rfl⟩
  have hO3 := hO2.drewN n3
  go_wp2_with fail
  go_ret
  exact ⟨rfl, hO3⟩

set_option maxRecDepth 100000 in
theorem PutMessage_any (x : Message) (cs : List Value) (ok : Nat → Prop) (w : World) (hE : messageE w ok cs x) (hi : In w ok) (hl : (messageF.lay x).length ≤ 144900000000000) :
    Calls Tryz.prog 7 #[.agg cs.toArray] w (OldStr w (messageF.lay x)) := by
  have hfl := messageE_flat hE
  have hsz : (Tryz.prog.info? 31).map (·.size) = some cs.length := by rw [hfl.1]; kernel_rfl
  have HSZ := Lib.hid hsz
  have hA : Old w (w.alloc (.cells cs.toArray 31)) := (Kept.refl _ w).alloc _
  have hE1 := messageE_ok.keep hE hA (disj_none _)
  have hi1 := hi.kept hA
  have HRG := Lib.hid (range_new w cs 31)
  clear hfl hsz
  go_enter Tryz.func7, Tryz.ntmps7
  go_wp2_with (refine wpList_load_mid rfl 31 (.tmp 1) rfl w.heap.size 0 rfl cs _ HRG.out Tryz.underlying31 rfl HSZ.out ?_)
  refine (whole_message x cs ok _ hE1 hi1 hl).mono ?_
  rintro en w1 ⟨rfl, hO1⟩
  have hO := hA.none hO1
  clear hA hE1 hi1 hO1
  go_wp2_with fail
  go_ret
  exact ⟨rfl, hO⟩

set_option maxRecDepth 100000 in
set_option maxHeartbeats 600000 in
theorem taken_message (s : ByteArray) (w : World) (hs : s.size ≤ maxLen) :
    Calls Tryz.prog 72 #[.string s, .func (.func 73) #[] #[]] w (TakenPost messageE zMessage w (messageF.read s)) := by
  have hsz : (Tryz.prog.info? 31).map (·.size) = some 19 := by kernel_rfl
  have HSZ := Lib.hid hsz; clear hsz
  obtain ⟨x, q, e', hget⟩ : ∃ x q e', messageF.get s.data.toList 0 0 = (x, q, e') := ⟨_, _, _, eta3 _⟩
  have hread : messageF.read s = if rEndE s.data.toList.length q e' = 0 then some x else none := by unfold Fmt.read; rw [hget]
  generalize messageF.read s = ro at hread ⊢
  have HGET := Lib.hid hget; clear hget
  have HREAD := Lib.hid hread; clear hread
  go_enter Tryz.func72, Tryz.ntmps72
  go_wp2_with fail
  refine (read_any s _ hs).mono ?_
  rintro en w1 ⟨b, v, rfl, hR, hb, hv, hk1⟩
  have hge : w.heap.size + 1 ≤ b := by simpa using hb
  go_wp2_with fail
  refine (get_message _ b v _ _ _ hR HGET.out).mono ?_
  rintro en w2 ⟨cs, rfl, hE2, hR2, hk2⟩
  have hfl := messageE_flat hE2
  have HFL := Lib.hid hfl.1
  have HF1 := Lib.hid hfl.2
  have hR3 := hR2.alloc (.cells cs.toArray 31)
  have HHR := Lib.hid (⟨hR, hk1, hge, hk2⟩ : RAt w1 b v s.data.toList 0 0 ∧ Kept (fun _ => False) (w.alloc (.cells #[.int .i64 0, .int .i64 0, .int .i64 0, .int .i64 0, .int .i64 0, .slice none 0 0, .string ⟨#[]⟩, .slice none 0 0, .int .i64 0, .int .i64 0, .string ⟨#[]⟩, .string ⟨#[]⟩, .slice none 0 0, .int .i64 0, .int .i64 0, .bool false, .slice none 0 0, .slice none 0 0, .slice none 0 0] 31)) w1 ∧ w.heap.size + 1 ≤ b ∧ Kept (RS b) w1 w2)
  clear hR hk1 hge hk2 hb hv hR2 hfl
  go_wp2_with (refine wpList_store_new w2 rfl 31 _ (.tmp 13) rfl _ cs rfl rfl (by rw [HFL.out]; exact HSZ.out) HFL.out.symm HF1.out ?_)
  refine (rend_e _ b v _ _ _ hR3).mono ?_
  rintro en w4 ⟨rfl, hR4, hk4⟩
  have st : TakenSt w w1 w2 w4 b v s.data.toList 31 #[.int .i64 0, .int .i64 0, .int .i64 0, .int .i64 0, .int .i64 0, .slice none 0 0, .string ⟨#[]⟩, .slice none 0 0, .int .i64 0, .int .i64 0, .string ⟨#[]⟩, .string ⟨#[]⟩, .slice none 0 0, .int .i64 0, .int .i64 0, .bool false, .slice none 0 0, .slice none 0 0, .slice none 0 0] cs := ⟨HHR.out.1, HHR.out.2.1, HHR.out.2.2.1, HHR.out.2.2.2, hk4⟩
  have HRES := Lib.hid st.res
  have HBOX := Lib.hid (range_row st.box)
  have HO := Lib.hid st.old
  have HREL := Lib.hid (st.rel messageE_ok hE2)
  clear st HHR hR3 hR4 hk4 hE2
  by_cases h0 : rEndE s.data.toList.length q e' = 0
  · have hrd : ro = some x := by rw [HREAD.out, if_pos h0]
    have HRD := Lib.hid hrd; clear hrd
    have h0' : ((rEndE s.data.toList.length q e' : Nat) : Int) = 0 := by omega
    generalize ((rEndE s.data.toList.length q e' : Nat) : Int) = r at h0'
    subst h0'
    clear h0
    go_wp2_with (first | (refine wpList_load_mid rfl 31 (.tmp 7) rfl w2.heap.size 0 rfl cs _ HBOX.out Tryz.underlying31 rfl (by rw [HFL.out]; exact HSZ.out) ?_) | (refine wpList_store_row _ rfl 31 _ _ rfl w.heap.size _ cs rfl rfl HRES.out (by rw [HFL.out]; exact HSZ.out) HFL.out.symm HF1.out ?_))
    have hrow := setRow_heap w4 w.heap.size _ cs.toArray _ _ HRES.out
    have hload := run_loadVar_row (P := Tryz.prog) _ w.heap.size 31 31 _ (0, 0) _ hrow Tryz.underlying31 rfl (by rw [List.size_toArray, HFL.out]; exact HSZ.out)
    exact ret_cell_tmp 4 31 5 w.heap.size _ _ Tryz.results72 rfl rfl hload rfl ⟨cs, by rw [HRD.out]; rfl, old_setRow HO.out _, by rw [HRD.out]; exact HREL.out _⟩
  · have hrd : ro = none := by rw [HREAD.out, if_neg h0]
    have HRD := Lib.hid hrd; clear hrd
    have h0' : ¬ ((rEndE s.data.toList.length q e' : Nat) : Int) = 0 := by omega
    generalize ((rEndE s.data.toList.length q e' : Nat) : Int) = r at h0'
    clear h0
    have hA : Old w4 (w4.alloc (.cells #[.int .i64 0, .int .i64 0, .int .i64 0, .int .i64 0, .int .i64 0, .slice none 0 0, .string ⟨#[]⟩, .slice none 0 0, .int .i64 0, .int .i64 0, .string ⟨#[]⟩, .string ⟨#[]⟩, .slice none 0 0, .int .i64 0, .int .i64 0, .bool false, .slice none 0 0, .slice none 0 0, .slice none 0 0] 31)) := (Kept.refl _ w4).alloc _
    have HR5 : Hid ((w4.alloc (.cells #[.int .i64 0, .int .i64 0, .int .i64 0, .int .i64 0, .int .i64 0, .slice none 0 0, .string ⟨#[]⟩, .slice none 0 0, .int .i64 0, .int .i64 0, .string ⟨#[]⟩, .string ⟨#[]⟩, .slice none 0 0, .int .i64 0, .int .i64 0, .bool false, .slice none 0 0, .slice none 0 0, .slice none 0 0] 31)).heap[w.heap.size]? = some (.cells #[.int .i64 0, .int .i64 0, .int .i64 0, .int .i64 0, .int .i64 0, .slice none 0 0, .string ⟨#[]⟩, .slice none 0 0, .int .i64 0, .int .i64 0, .string ⟨#[]⟩, .string ⟨#[]⟩, .slice none 0 0, .int .i64 0, .int .i64 0, .bool false, .slice none 0 0, .slice none 0 0, .slice none 0 0] 31 (0, 0))) := by rw [hA.block _ (lt_of_block HRES.out) id]; exact HRES.out
    obtain ⟨zl, hzl⟩ : ∃ zl : List Value, zl = [.int .i64 0, .int .i64 0, .int .i64 0, .int .i64 0, .int .i64 0, .slice none 0 0, .string ⟨#[]⟩, .slice none 0 0, .int .i64 0, .int .i64 0, .string ⟨#[]⟩, .string ⟨#[]⟩, .slice none 0 0, .int .i64 0, .int .i64 0, .bool false, .slice none 0 0, .slice none 0 0, .slice none 0 0] := ⟨_, rfl⟩
    have HRN : Hid ((w4.alloc (.cells #[.int .i64 0, .int .i64 0, .int .i64 0, .int .i64 0, .int .i64 0, .slice none 0 0, .string ⟨#[]⟩, .slice none 0 0, .int .i64 0, .int .i64 0, .string ⟨#[]⟩, .string ⟨#[]⟩, .slice none 0 0, .int .i64 0, .int .i64 0, .bool false, .slice none 0 0, .slice none 0 0, .slice none 0 0] 31)).rangeAt w4.heap.size 0 zl) := by rw [hzl]; exact range_new w4 [.int .i64 0, .int .i64 0, .int .i64 0, .int .i64 0, .int .i64 0, .slice none 0 0, .string ⟨#[]⟩, .slice none 0 0, .int .i64 0, .int .i64 0, .string ⟨#[]⟩, .string ⟨#[]⟩, .slice none 0 0, .int .i64 0, .int .i64 0, .bool false, .slice none 0 0, .slice none 0 0, .slice none 0 0] 31
    have HZE : Hid (∀ (W : World) (ok : Nat → Prop), messageE W ok zl zMessage) := by rw [hzl]; exact zMessage_at
    have hzf : Flat 19 zl := messageE_flat (HZE.out w (fun _ => False))
    have HZL := Lib.hid hzf.1
    have HZ1 := Lib.hid hzf.2
    clear hzl hzf
    have HO5 := Lib.hid (HO.out.none hA)
    clear hA HREL
    go_wp2_with (first | (refine wpList_load_mid rfl 31 (.tmp 8) rfl w4.heap.size 0 rfl zl _ HRN.out Tryz.underlying31 rfl (by rw [HZL.out]; exact HSZ.out) ?_) | (refine wpList_store_row _ rfl 31 _ _ rfl w.heap.size _ zl rfl rfl HR5.out (by rw [HZL.out]; exact HSZ.out) HZL.out.symm HZ1.out ?_))
    have hrow := setRow_heap (w4.alloc (.cells #[.int .i64 0, .int .i64 0, .int .i64 0, .int .i64 0, .int .i64 0, .slice none 0 0, .string ⟨#[]⟩, .slice none 0 0, .int .i64 0, .int .i64 0, .string ⟨#[]⟩, .string ⟨#[]⟩, .slice none 0 0, .int .i64 0, .int .i64 0, .bool false, .slice none 0 0, .slice none 0 0, .slice none 0 0] 31)) w.heap.size _ zl.toArray _ _ HR5.out
    have hload := run_loadVar_row (P := Tryz.prog) _ w.heap.size 31 31 _ (0, 0) _ hrow Tryz.underlying31 rfl (by rw [List.size_toArray, HZL.out]; exact HSZ.out)
    exact ret_cell_tmp 4 31 5 w.heap.size _ _ Tryz.results72 rfl rfl hload rfl ⟨_, by rw [HRD.out]; rfl, old_setRow HO5.out _, by rw [HRD.out]; exact HZE.out _ _⟩

set_option maxRecDepth 100000 in
theorem GetMessage_any (s : ByteArray) (w : World) (hs : s.size ≤ maxLen) :
    Calls Tryz.prog 28 #[.string s] w (TakenPost messageE zMessage w (messageF.read s)) := by
  have hsz : (Tryz.prog.info? 31).map (·.size) = some 19 := by kernel_rfl
  have HSZ := Lib.hid hsz; clear hsz
  have hbk := heap_alloc_new w (.cells #[.int .i64 0, .int .i64 0, .int .i64 0, .int .i64 0, .int .i64 0, .slice none 0 0, .string ⟨#[]⟩, .slice none 0 0, .int .i64 0, .int .i64 0, .string ⟨#[]⟩, .string ⟨#[]⟩, .slice none 0 0, .int .i64 0, .int .i64 0, .bool false, .slice none 0 0, .slice none 0 0, .slice none 0 0] 31)
  have hA : Old w (w.alloc (.cells #[.int .i64 0, .int .i64 0, .int .i64 0, .int .i64 0, .int .i64 0, .slice none 0 0, .string ⟨#[]⟩, .slice none 0 0, .int .i64 0, .int .i64 0, .string ⟨#[]⟩, .string ⟨#[]⟩, .slice none 0 0, .int .i64 0, .int .i64 0, .bool false, .slice none 0 0, .slice none 0 0, .slice none 0 0] 31)) := (Kept.refl _ w).alloc _
  go_enter Tryz.func28, Tryz.ntmps28
  go_wp2_with fail
  refine (taken_message s _ hs).mono ?_
  rintro en w1 ⟨cs, rfl, hO1, hE1⟩
  have hfl := messageE_flat hE1
  have HFL := Lib.hid hfl.1
  have HF1 := Lib.hid hfl.2
  have HRES : Hid (w1.heap[w.heap.size]? = some (.cells #[.int .i64 0, .int .i64 0, .int .i64 0, .int .i64 0, .int .i64 0, .slice none 0 0, .string ⟨#[]⟩, .slice none 0 0, .int .i64 0, .int .i64 0, .string ⟨#[]⟩, .string ⟨#[]⟩, .slice none 0 0, .int .i64 0, .int .i64 0, .bool false, .slice none 0 0, .slice none 0 0, .slice none 0 0] 31 (0, 0))) := by rw [hO1.block _ (lt_of_block hbk) id]; exact hbk
  have HO := Lib.hid (hA.none hO1)
  have HE := Lib.hid (fun c => fin_E messageE_ok (w := w) hE1 (by simp) c)
  clear hbk hA hfl hO1 hE1
  go_wp2_with (refine wpList_store_row _ rfl 31 _ _ rfl w.heap.size _ cs rfl rfl HRES.out (by rw [HFL.out]; exact HSZ.out) HFL.out.symm HF1.out ?_)
  have hrow := setRow_heap w1 w.heap.size _ cs.toArray _ _ HRES.out
  have hload := run_loadVar_row (P := Tryz.prog) _ w.heap.size 31 31 _ (0, 0) _ hrow Tryz.underlying31 rfl (by rw [List.size_toArray, HFL.out]; exact HSZ.out)
  exact ret_cell_tmp 2 31 3 w.heap.size _ _ Tryz.results28 rfl rfl hload rfl ⟨cs, rfl, old_setRow HO.out _, HE.out _⟩

end Go.Proofs.YtpmemcpfoapjmaaGreat

namespace Go.Proofs.YtpmemcpfoapjmaaGreat
open Go.ChangeShapes Go.WideShapes Go.ChangeAt Go.RowKit
set_option linter.unusedVariables false

structure MB (w : World) (s : ByteArray) (g : Nat) (T : TypeId) (zc : List Value) (W : World) (cur : List Value) (p e : Nat) : Prop where
  rd : FAt W (w.heap.size + 1) s p e
  old : Old w W
  res : W.heap[w.heap.size]? = some (.cells zc.toArray T (0, 0))
  box : W.heap[g]? = some (.cells cur.toArray T (0, 0))
  gt : w.heap.size + 2 ≤ g
def OkM (w : World) (g : Nat) : Nat → Prop := fun k => w.heap.size + 2 ≤ k ∧ k ≠ g
theorem okm_rs (w : World) (g : Nat) : Disj (OkM w g) (RS (w.heap.size + 1)) := fun k hk hs => by have hk' : w.heap.size + 2 ≤ k := hk.1; have hs' : k = w.heap.size + 1 := hs; omega
theorem okm_box (w : World) (g : Nat) : Disj (OkM w g) (fun k => k = g) := fun k hk hs => hk.2 hs
theorem okm_res (w : World) (g : Nat) : Disj (OkM w g) (fun k => k = w.heap.size) := fun k hk hs => by have hk' : w.heap.size + 2 ≤ k := hk.1; have hs' : k = w.heap.size := hs; omega
section
variable {w W W' : World} {s : ByteArray} {g : Nat} {T : TypeId} {zc cur : List Value} {p e p' e' : Nat}
theorem MB.call (h : MB w s g T zc W cur p e) (hF : FAt W' (w.heap.size + 1) s p' e') (hk : Kept (RS (w.heap.size + 1)) W W') : MB w s g T zc W' cur p' e' :=
  ⟨hF, h.old.step hk (fun k hs => by have hs' : k = w.heap.size + 1 := hs; omega), by rw [hk.block _ (lt_of_block h.res) (fun hs => by have hs' : w.heap.size = w.heap.size + 1 := hs; omega)]; exact h.res,
    by rw [hk.block _ (lt_of_block h.box) (fun hs => by have hs' : g = w.heap.size + 1 := hs; have := h.gt; omega)]; exact h.box, h.gt⟩
theorem MB.set (h : MB w s g T zc W cur p e) (c : List Value) : MB w s g T zc (W.setRow g c.toArray) c p e := by
  have hk := setRow_kept W g c.toArray
  have hg := h.gt
  exact ⟨h.rd.keep hk (by omega), h.old.step hk (fun k hs => by have hs' : k = g := hs; omega), by rw [hk.block _ (lt_of_block h.res) (by omega)]; exact h.res, setRow_heap _ _ _ _ _ _ h.box, hg⟩
theorem MB.new {k : Nat} (h : MB w s g T zc W cur p e) (hk : New W k) : OkM w g k := by
  have h1 := lt_of_block h.box
  have h2 := h.gt
  have hk' : W.heap.size ≤ k := hk
  exact ⟨by omega, by omega⟩
/-- a list that lies apart, if nothing was wrong when it was taken up -/
structure LM {α : Type} (E : CellsOf α) (w : World) (g : Nat) (W : World) (sz : Nat) (sv : Value) (xs : List α) (n : Nat) : Prop where
  shape : IsSl sv
  list : n = 0 → ListR E W (OkM w g) sz sv xs
variable {α : Type} {E : CellsOf α} {sz : Nat} {sv : Value} {xs : List α} {n : Nat}
theorem LM.mk' (hE : E.Ok) (h : MB w s g T zc W cur p e) (hs : IsSl sv) (hL : n = 0 → ListR E W' (New W) sz sv xs) : LM E w g W' sz sv xs n :=
  ⟨hs, fun h0 => (hL h0).mono hE (fun k _ hk => h.new hk)⟩
theorem LM.call (hE : E.Ok) (h : LM E w g W sz sv xs n) (hk : Kept (RS (w.heap.size + 1)) W W') : LM E w g W' sz sv xs n := ⟨h.shape, fun h0 => (h.list h0).keep hE hk (okm_rs w g)⟩
theorem LM.set (hE : E.Ok) (h : LM E w g W sz sv xs n) (c : Array Value) : LM E w g (W.setRow g c) sz sv xs n := ⟨h.shape, fun h0 => (h.list h0).keep hE (setRow_kept _ _ _) (okm_box w g)⟩
theorem LM.both (hE : E.Ok) (h : LM E w g W sz sv xs n) (hk : Kept (BG (w.heap.size + 1) g) W W') : LM E w g W' sz sv xs n :=
  ⟨h.shape, fun h0 => (h.list h0).keep hE hk (fun k hk hs => by rcases hs with hs | hs; exact okm_rs w g k hk hs; exact hk.2 hs)⟩
theorem LM.fin (hE : E.Ok) (h : LM E w g W sz sv xs n) (c : Array Value) (h0 : n = 0) : ListR E (W.setRow w.heap.size c) (New w) sz sv xs :=
  ((h.list h0).keep hE (setRow_kept _ _ _) (okm_res w g)).mono hE (fun k _ hk => by have hk' : w.heap.size + 2 ≤ k := hk.1; unfold New; omega)
end

theorem getN_i64 (n : Nat) (l : List UInt8) (p e : Nat) : ∀ x ∈ (getN numF.get n l p e).1, I64 x := by
  induction n with
  | zero => intro x hx; simp [getN] at hx
  | succ n ih =>
    rw [getN_snoc]
    intro x hx
    rcases List.mem_append.1 hx with hx | hx
    · exact ih x hx
    · rw [List.mem_singleton.1 hx]
      exact numF_i64
theorem setCells_ten {w : World} {g : Nat} {T : TypeId} {a0 a1 a2 a3 a4 a5 a6 a7 b0 b1 b2 b3 b4 b5 b6 b7 b8 b9 c0 v0 v1 v2 v3 v4 v5 v6 v7 v8 v9 : Value}
    (h : w.heap[g]? = some (.cells [a0, a1, a2, a3, a4, a5, a6, a7, b0, b1, b2, b3, b4, b5, b6, b7, b8, b9, c0].toArray T (0, 0))) :
    w.setCells g 8 [v0, v1, v2, v3, v4, v5, v6, v7, v8, v9] = w.setRow g [a0, a1, a2, a3, a4, a5, a6, a7, v0, v1, v2, v3, v4, v5, v6, v7, v8, v9, c0].toArray := by
  have hself : ∀ (W : World) (x y : Array Value), (W.setRow g x).setRow g y = W.setRow g y := fun W x y => by
    unfold World.setRow
    congr 1
    apply Array.ext
    · simp
    · intro i h1 h2
      simp only [Array.getElem_modify]
      by_cases hi : g = i
      · simp only [hi, if_true]
        cases W.heap[i]'(by simpa using h2) <;> rfl
      · simp [hi]
  simp only [World.setCells]
  rw [setCell_row h, setCell_row (setRow_heap _ _ _ _ _ _ h), hself, setCell_row (setRow_heap _ _ _ _ _ _ h), hself, setCell_row (setRow_heap _ _ _ _ _ _ h), hself, setCell_row (setRow_heap _ _ _ _ _ _ h), hself, setCell_row (setRow_heap _ _ _ _ _ _ h), hself, setCell_row (setRow_heap _ _ _ _ _ _ h), hself, setCell_row (setRow_heap _ _ _ _ _ _ h), hself, setCell_row (setRow_heap _ _ _ _ _ _ h), hself, setCell_row (setRow_heap _ _ _ _ _ _ h), hself]
  rfl
/-- a whole thing into the block that was made last, behind the draw of an order -/
theorem wp_store_newd {P : Program} {op : Oper} {a : Act} {w : World} {K : Act → World → Prop} {Q : Exit → Act → World → Prop} (ty : TypeId) (x y : Operand) (ho : op.op = .store ty x y) (c : Array Value) (cs : List Value)
    (hx : a.eval x = .pointer (some ⟨w.heap.size, 0, none⟩)) (hy : a.eval y = .agg cs.toArray) (hi : (P.info? ty).map (·.size) = some cs.length) (hc : c.size = cs.length) (h1 : ∀ v ∈ cs, v.oneCell' = true)
    (h : K (a.put op.dst undef) (w.alloc (.cells cs.toArray ty)).drew) : Oper.wp P op a (w.alloc (.cells c ty)).drew K Q := by
  have hrun := run_storeVar_row (P := P) (w.alloc (.cells c ty)).drew w.heap.size ty ty c cs.toArray (heap_alloc_new w _) (by simpa using hi) (by simpa using hc) (all_oneCell_toArray h1)
  have hset : (w.alloc (.cells c ty)).drew.setRow w.heap.size cs.toArray = (w.alloc (.cells cs.toArray ty)).drew := by
    have e : (w.alloc (.cells c ty)).drew.setRow w.heap.size cs.toArray = ((w.alloc (.cells c ty)).setRow w.heap.size cs.toArray).drew := rfl
    rw [e, World.setRow_alloc_new]
  rw [hset] at hrun
  unfold Oper.wp execOp
  simp only [ho, hx, hy, Instr.storeAt, Instr.sureAddr, Sem.run_bind, Sem.run_pure, Result.andThen_ok, hrun]
  exact h
end Go.Proofs.YtpmemcpfoapjmaaGreat
