/- The document's own answers of layer 2: a txn, laid. The document's own answers of layer 2: an entry, laid. arboretumlaw02.Entry: any bytes, read by both, are laid as the same; what came out is written over. The document's own answers of layer 2: op, taken up. -/
import Derived.Test.YtpmemcpfoapjmaaGreatQ11
import Derived.Test.YtpmemcpfoapjmaaGreatQ06
import Derived.Test.YtpmemcpfoapjmaaGreatQ08
import Derived.Deep.RegionHeld3
import Derived.Deep.DeepCutAuto
import Derived.WalkSpells
import Derived.Outline
import Derived.Test.YtpmemcpfoapjmaaGreatQ10
namespace Go.Proofs.YtpmemcpfoapjmaaGreat
open Go.ChangeShapes Go.WideShapes Go.ChangeAt Go.RowKit
set_option linter.unusedVariables false

theorem split_txn {l : List Value} (h : l.length = 8) : ∃ v0 v1 v2 v3 v4 v5 v6 v7, l = [v0, v1, v2, v3, v4, v5, v6, v7] := by
  match l, h with
  | [v0, v1, v2, v3, v4, v5, v6, v7], _ => exact ⟨v0, v1, v2, v3, v4, v5, v6, v7, rfl⟩

set_option maxRecDepth 100000 in
set_option maxHeartbeats 2000000 in
theorem refput_txn (x : Txn) (cs : List Value) (ok : Nat → Prop) (w : World) (hE : txnE w ok cs x) (hl : (txnF.lay x).length ≤ 1000000000000000) :
    Calls Tryz.prog 61 #[.agg cs.toArray] w (OldStr w (txnF.lay x)) := by
  obtain ⟨vsubs, hQ, hL⟩ := hE
  have hP : partE w ok cs x.part := ⟨vsubs, hQ⟩
  have hcl : cs.length = 8 := (partE_flat hP).1
  have h7 : cs[7]? = some vsubs := by obtain ⟨vacl, rfl, _⟩ := hQ; rfl
  clear hQ
  obtain ⟨v0, v1, v2, v3, v4, v5, v6, v7, rfl⟩ := split_txn hcl
  obtain rfl : v7 = vsubs := by simpa using h7
  obtain ⟨rows, ⟨A, c, rfl, hlc, hm, hat⟩, hlen, hel⟩ := hL
  unfold maxLen at hm
  have hlay : txnF.lay x = partF.lay x.part ++ (sev rows.length ++ layN partF x.subs) := by rw [hlen]; rfl
  rw [hlay] at hl ⊢
  simp only [List.length_append] at hl
  have hlen1 : rows.length ≤ x.subs.length := by omega
  have hlen2 : x.subs.length ≤ rows.length := by omega
  clear hlen hlay
  have KP := Lib.hid (show ∀ W, Old w W → Calls Tryz.prog 100 #[.agg #[v0, v1, v2, v3, v4, v5, v6, (.slice A rows.length c)]] W (OldStr W (partF.lay x.part)) from fun W h => refput_part x.part _ ok W (partE_ok.keep hP h (disj_none _)) (by omega))
  have KN := Lib.hid (show ∀ W k (r : List Value) (h1 : k < x.subs.length), partE W ok r (x.subs[k]'h1) → Calls Tryz.prog 100 #[.agg r.toArray] W (OldStr W (partF.lay (x.subs[k]'h1))) from fun W k r h1 h => refput_part _ r ok W h (by
    have := layN_le (f := partF) h1
    omega))
  have KC := Lib.hid (show ∀ W, Calls Tryz.prog 23 #[.int .i64 (rows.length : Nat)] W (OldStr W (sev rows.length)) from fun W => by
    have h := refcount_any (rows.length : Nat) W (by unfold I64; omega)
    rwa [Int.toNat_natCast] at h)
  have HEL := Lib.hid hel; clear hel
  obtain ⟨L0, hL0⟩ : ∃ l : List UInt8, partF.lay x.part = l := ⟨_, rfl⟩
  obtain ⟨C0, hC0⟩ : ∃ l : List UInt8, sev rows.length = l := ⟨_, rfl⟩
  rw [hL0] at KP hl ⊢
  rw [hC0] at KC hl ⊢
  have q0 : ∀ W, Sem.run Tryz.prog (Op.stringOp .add ⟨L0.toArray⟩ ⟨C0.toArray⟩) W = .ok (.string ⟨(L0 ++ C0).toArray⟩) W := fun W => add_str _ _ _ (by omega) W
  clear hL0 hC0 hP
  have hO0 : Old w (w.alloc (.cells #[v0, v1, v2, v3, v4, v5, v6, (.slice A rows.length c)] 36)) := (Old.refl w).make _
  have hb := heap_alloc_new w (.cells #[v0, v1, v2, v3, v4, v5, v6, (.slice A rows.length c)] 36)
  have c0 : (w.alloc (.cells #[v0, v1, v2, v3, v4, v5, v6, (.slice A rows.length c)] 36)).cell? ⟨w.heap.size, 0, none⟩ = some (v0) := cell_of_row _ _ 0 _ _ _ hb
  have c1 : (w.alloc (.cells #[v0, v1, v2, v3, v4, v5, v6, (.slice A rows.length c)] 36)).cell? ⟨w.heap.size, 1, none⟩ = some (v1) := cell_of_row _ _ 1 _ _ _ hb
  have c2 : (w.alloc (.cells #[v0, v1, v2, v3, v4, v5, v6, (.slice A rows.length c)] 36)).cell? ⟨w.heap.size, 2, none⟩ = some (v2) := cell_of_row _ _ 2 _ _ _ hb
  have c3 : (w.alloc (.cells #[v0, v1, v2, v3, v4, v5, v6, (.slice A rows.length c)] 36)).cell? ⟨w.heap.size, 3, none⟩ = some (v3) := cell_of_row _ _ 3 _ _ _ hb
  have c4 : (w.alloc (.cells #[v0, v1, v2, v3, v4, v5, v6, (.slice A rows.length c)] 36)).cell? ⟨w.heap.size, 4, none⟩ = some (v4) := cell_of_row _ _ 4 _ _ _ hb
  have c5 : (w.alloc (.cells #[v0, v1, v2, v3, v4, v5, v6, (.slice A rows.length c)] 36)).cell? ⟨w.heap.size, 5, none⟩ = some (v5) := cell_of_row _ _ 5 _ _ _ hb
  have c6 : (w.alloc (.cells #[v0, v1, v2, v3, v4, v5, v6, (.slice A rows.length c)] 36)).cell? ⟨w.heap.size, 6, none⟩ = some (v6) := cell_of_row _ _ 6 _ _ _ hb
  have c7 : (w.alloc (.cells #[v0, v1, v2, v3, v4, v5, v6, (.slice A rows.length c)] 36)).cell? ⟨w.heap.size, 7, none⟩ = some ((.slice A rows.length c)) := cell_of_row _ _ 7 _ _ _ hb
  have HSZ0 := Lib.hid (show (Tryz.prog.info? 36).map (·.size) = some 8 by kernel_rfl)
  generalize hw1 : w.alloc (.cells #[v0, v1, v2, v3, v4, v5, v6, (.slice A rows.length c)] 36) = w1 at hO0 c0 c1 c2 c3 c4 c5 c6 c7
  clear hb hcl h7
  have HW := Lib.hid hw1; clear hw1
  have HO0 := Lib.hid hO0; clear hO0
  have C0 := Lib.hid c0; clear c0
  have C1 := Lib.hid c1; clear c1
  have C2 := Lib.hid c2; clear c2
  have C3 := Lib.hid c3; clear c3
  have C4 := Lib.hid c4; clear c4
  have C5 := Lib.hid c5; clear c5
  have C6 := Lib.hid c6; clear c6
  have C7 := Lib.hid c7; clear c7
  go_enter Tryz.func61, Tryz.ntmps61
  go_upto_region 1 with fail
  rw [HW.out]
  have hO0 := HO0.out; clear HO0 HW
  have c0 := C0.out; clear C0
  have c1 := C1.out; clear C1
  have c2 := C2.out; clear C2
  have c3 := C3.out; clear C3
  have c4 := C4.out; clear C4
  have c5 := C5.out; clear C5
  have c6 := C6.out; clear C6
  have c7 := C7.out; clear C7
  go_cut [3] (fun s3 wx => s3 = .string ⟨(L0 ++ C0).toArray⟩ ∧ wx.cell? ⟨w.heap.size, 7, none⟩ = some (.slice A rows.length c) ∧ Old w wx)
  case first =>
    go_region_held3 (fun w' => w'.cell? ⟨w.heap.size, 0, none⟩ = some (v0) ∧ w'.cell? ⟨w.heap.size, 1, none⟩ = some (v1) ∧ w'.cell? ⟨w.heap.size, 2, none⟩ = some (v2) ∧ w'.cell? ⟨w.heap.size, 3, none⟩ = some (v3) ∧ w'.cell? ⟨w.heap.size, 4, none⟩ = some (v4) ∧ w'.cell? ⟨w.heap.size, 5, none⟩ = some (v5) ∧ w'.cell? ⟨w.heap.size, 6, none⟩ = some (v6) ∧ w'.cell? ⟨w.heap.size, 7, none⟩ = some ((.slice A rows.length c)) ∧ Old w w')
      (((try go_split_ands); (try dsimp only); (try simp only [World.cell?_drew] at *); (repeat' apply And.intro) <;> (with_reducible first | assumption | exact Old.drew (by assumption) | fail)))
      (first
        | (go_at_call 100; go_split_ands; refine (KP.out _ (by assumption)).mono ?_; rintro e w9 ⟨rfl, hO9⟩; have hP9 : Old w w9 := Old.none (by assumption) hO9; have d0 : w9.cell? ⟨w.heap.size, 0, none⟩ = some (v0) := Old.cell hO9 (by assumption); have d1 : w9.cell? ⟨w.heap.size, 1, none⟩ = some (v1) := Old.cell hO9 (by assumption); have d2 : w9.cell? ⟨w.heap.size, 2, none⟩ = some (v2) := Old.cell hO9 (by assumption); have d3 : w9.cell? ⟨w.heap.size, 3, none⟩ = some (v3) := Old.cell hO9 (by assumption); have d4 : w9.cell? ⟨w.heap.size, 4, none⟩ = some (v4) := Old.cell hO9 (by assumption); have d5 : w9.cell? ⟨w.heap.size, 5, none⟩ = some (v5) := Old.cell hO9 (by assumption); have d6 : w9.cell? ⟨w.heap.size, 6, none⟩ = some (v6) := Old.cell hO9 (by assumption); have d7 : w9.cell? ⟨w.heap.size, 7, none⟩ = some ((.slice A rows.length c)) := Old.cell hO9 (by assumption); clear hO9)
        | (go_at_call 23; go_split_ands; refine (KC.out _).mono ?_; rintro e w9 ⟨rfl, hO9⟩; have hP9 : Old w w9 := Old.none (by assumption) hO9; have d0 : w9.cell? ⟨w.heap.size, 0, none⟩ = some (v0) := Old.cell hO9 (by assumption); have d1 : w9.cell? ⟨w.heap.size, 1, none⟩ = some (v1) := Old.cell hO9 (by assumption); have d2 : w9.cell? ⟨w.heap.size, 2, none⟩ = some (v2) := Old.cell hO9 (by assumption); have d3 : w9.cell? ⟨w.heap.size, 3, none⟩ = some (v3) := Old.cell hO9 (by assumption); have d4 : w9.cell? ⟨w.heap.size, 4, none⟩ = some (v4) := Old.cell hO9 (by assumption); have d5 : w9.cell? ⟨w.heap.size, 5, none⟩ = some (v5) := Old.cell hO9 (by assumption); have d6 : w9.cell? ⟨w.heap.size, 6, none⟩ = some (v6) := Old.cell hO9 (by assumption); have d7 : w9.cell? ⟨w.heap.size, 7, none⟩ = some ((.slice A rows.length c)) := Old.cell hO9 (by assumption); clear hO9))
    all_goals go_wp2_with fail
    all_goals go_meet
    all_goals exact ⟨rfl, by assumption, by assumption⟩
  case rest =>
  obtain ⟨rfl, d7, hOX⟩ := hcut
  clear hO0 c0 c1 c2 c3 c4 c5 c6 c7 q0 KP KC
  have HD7 := Lib.hid d7; clear d7
  have HOX := Lib.hid hOX; clear hOX
  go_wp2_with fail
  go_loopw [3, 4] (fun sv iv wr => LaidRel partF (L0 ++ C0) wc x.subs sv iv wr) (fun _ iv _ => x.subs.length - (intOf iv).toNat)
  case atStart => exact ⟨0, rfl, Nat.zero_le _, by rw [layN_zero], Old.refl _⟩
  case round =>
    obtain ⟨k, rfl, hk, rfl, hO⟩ := hrel.ex
    clear hrel
    have c7 := Old.cell hO HD7.out
    by_cases hlt : k < x.subs.length
    · have hkr : k < rows.length := by omega
      rcases hat with h0 | ⟨g, off, rfl, hok, hg, hc⟩
      · simp [h0.1] at hkr
      have hOw : Old w wr := HOX.out.none hO
      have hEk := partE_ok.keep (HEL.out k hlt hkr) hOw (disj_none _)
      have hcell : wr.rangeAt g (off + k * 8) rows[k] := fun j v hv => by
        obtain ⟨hj1, hj2⟩ := List.getElem?_eq_some_iff.1 hv
        rw [← hj2, ← (hc k hkr).2 j hj1]; exact World.cell?_of_block (hOw.block g hg id)
      have hle := layN_le (f := partF) hlt
      have HTK := Lib.hid (layN_take (f := partF) hlt)
      have HKK := Lib.hid (KN.out wr k rows[k] hlt hEk)
      have HLR := Lib.hid (partE_flat hEk).1
      have HRR := Lib.hid hcell
      clear hcell hEk
      generalize hrk : rows[k] = r at HKK HLR HRR
      generalize hxk : x.subs[k] = y at hle HTK HKK
      clear hrk hxk hc
      have hkl : (k : Int) < (rows.length : Int) := by omega
      obtain ⟨L1, hL1⟩ : ∃ l : List UInt8, partF.lay y = l := ⟨_, rfl⟩
      rw [hL1] at hle HTK HKK
      obtain ⟨D, hD⟩ : ∃ D, (L0 ++ C0) ++ layN partF (x.subs.take k) = D := ⟨_, rfl⟩
      have hDl : D.length + L1.length ≤ 1000000000000000 := by
        rw [← hD]; simp only [List.length_append]; omega
      have HF : Hid (D ++ L1 = (L0 ++ C0) ++ layN partF (x.subs.take (k + 1))) := Lib.hid (by rw [← hD, HTK.out, List.append_assoc])
      have q1 : ∀ W, Sem.run Tryz.prog (Op.stringOp .add ⟨D.toArray⟩ ⟨L1.toArray⟩) W = .ok (.string ⟨(D ++ L1).toArray⟩) W := fun W => add_str _ _ _ hDl W
      rw [hD]
      clear hD hDl hle HTK hL1 hOw
      go_wp2_with (first
        | (refine wpList_load_mid rfl 36 (.tmp 23) rfl g (off + k * 8) rfl r _ HRR.out Tryz.underlying36 rfl (by rw [HLR.out]; exact HSZ0.out) ?_)
        | (go_at_call 100; refine HKK.out.mono ?_; rintro e w9 ⟨rfl, hO9⟩; have HP := Lib.hid (hO.none hO9); clear hO9))
      go_roundw
      case rel => exact ⟨k + 1, by go_num, hlt, by rw [HF.out], HP.out⟩
      case measure => simp [intOf]; omega
    · have hkl : ¬ (k : Int) < (rows.length : Int) := by omega
      obtain rfl : k = x.subs.length := by omega
      have ht : x.subs.take x.subs.length = x.subs := List.take_length
      rw [ht]
      have HO := Lib.hid hO; clear hO
      go_wp2_with fail
      go_ret
      exact ⟨rfl, HOX.out.none HO.out⟩
end Go.Proofs.YtpmemcpfoapjmaaGreat

namespace Go.Proofs.YtpmemcpfoapjmaaGreat
open Go.ChangeShapes Go.WideShapes Go.ChangeAt Go.RowKit
set_option linter.unusedVariables false

set_option maxRecDepth 100000 in
set_option maxHeartbeats 2000000 in
theorem refput_entry (x : Entry) (cs : List Value) (ok : Nat → Prop) (w : World) (hE : entryE w ok cs x) (hl : (entryF.lay x).length ≤ 1000000000000000) :
    Calls Tryz.prog 21 #[.agg cs.toArray] w (OldStr w (entryF.lay x)) := by
  obtain ⟨ct, rfl, hT, h0, h1, h2⟩ := hE
  obtain ⟨z0, z1, z2, t⟩ := x
  simp only at hT h0 h1 h2
  obtain ⟨v0, v1, v2, v3, v4, v5, v6, v7, rfl⟩ := split_txn (txnE_flat hT).1
  have hlay : entryF.lay ⟨z0, z1, z2, t⟩ = (sev (zz z0) ++ (sev (zz z1) ++ sev (zz z2))) ++ txnF.lay t := by simp only [entryF, isoF, seqF, lay_num, List.append_assoc]
  rw [hlay] at hl ⊢
  rw [List.length_append] at hl
  have KT := Lib.hid (show ∀ W, Old w W → Calls Tryz.prog 61 #[.agg #[v0, v1, v2, v3, v4, v5, v6, v7]] W (OldStr W (txnF.lay t)) from fun W h => refput_txn t _ ok W (txnE_ok.keep hT h (disj_none _)) (by omega))
  have KN := Lib.hid (show ∀ (g : Nat) (W : World), W.heap[g]? = some (.cells #[.int .i64 z0, .int .i64 z1, .int .i64 z2] 3 (0, 0)) → Calls Tryz.prog 22 #[.slice (some ⟨g, 0, none⟩) 3 3] W (OldStr W (sev (zz z0) ++ (sev (zz z1) ++ sev (zz z2)))) from fun g W hb => refnums3 z0 z1 z2 g W hb h0 h1 h2)
  obtain ⟨L0, hL0⟩ : ∃ l : List UInt8, sev (zz z0) ++ (sev (zz z1) ++ sev (zz z2)) = l := ⟨_, rfl⟩
  obtain ⟨L1, hL1⟩ : ∃ l : List UInt8, txnF.lay t = l := ⟨_, rfl⟩
  rw [hL0] at KN hl ⊢
  rw [hL1] at KT hl ⊢
  have q0 : ∀ W, Sem.run Tryz.prog (Op.stringOp .add ⟨L0.toArray⟩ ⟨L1.toArray⟩) W = .ok (.string ⟨(L0 ++ L1).toArray⟩) W := fun W => add_str _ _ _ hl W
  clear hL0 hL1 hlay hl hT h0 h1 h2
  have hO0 : Old w (w.alloc (.cells #[.int .i64 z0, .int .i64 z1, .int .i64 z2, v0, v1, v2, v3, v4, v5, v6, v7] 38)) := (Old.refl w).make _
  have hb := heap_alloc_new w (.cells #[.int .i64 z0, .int .i64 z1, .int .i64 z2, v0, v1, v2, v3, v4, v5, v6, v7] 38)
  have c0 : (w.alloc (.cells #[.int .i64 z0, .int .i64 z1, .int .i64 z2, v0, v1, v2, v3, v4, v5, v6, v7] 38)).cell? ⟨w.heap.size, 0, none⟩ = some (.int .i64 z0) := cell_of_row _ _ 0 _ _ _ hb
  have c1 : (w.alloc (.cells #[.int .i64 z0, .int .i64 z1, .int .i64 z2, v0, v1, v2, v3, v4, v5, v6, v7] 38)).cell? ⟨w.heap.size, 1, none⟩ = some (.int .i64 z1) := cell_of_row _ _ 1 _ _ _ hb
  have c2 : (w.alloc (.cells #[.int .i64 z0, .int .i64 z1, .int .i64 z2, v0, v1, v2, v3, v4, v5, v6, v7] 38)).cell? ⟨w.heap.size, 2, none⟩ = some (.int .i64 z2) := cell_of_row _ _ 2 _ _ _ hb
  have c3 : (w.alloc (.cells #[.int .i64 z0, .int .i64 z1, .int .i64 z2, v0, v1, v2, v3, v4, v5, v6, v7] 38)).cell? ⟨w.heap.size, 3, none⟩ = some (v0) := cell_of_row _ _ 3 _ _ _ hb
  have c4 : (w.alloc (.cells #[.int .i64 z0, .int .i64 z1, .int .i64 z2, v0, v1, v2, v3, v4, v5, v6, v7] 38)).cell? ⟨w.heap.size, 4, none⟩ = some (v1) := cell_of_row _ _ 4 _ _ _ hb
  have c5 : (w.alloc (.cells #[.int .i64 z0, .int .i64 z1, .int .i64 z2, v0, v1, v2, v3, v4, v5, v6, v7] 38)).cell? ⟨w.heap.size, 5, none⟩ = some (v2) := cell_of_row _ _ 5 _ _ _ hb
  have c6 : (w.alloc (.cells #[.int .i64 z0, .int .i64 z1, .int .i64 z2, v0, v1, v2, v3, v4, v5, v6, v7] 38)).cell? ⟨w.heap.size, 6, none⟩ = some (v3) := cell_of_row _ _ 6 _ _ _ hb
  have c7 : (w.alloc (.cells #[.int .i64 z0, .int .i64 z1, .int .i64 z2, v0, v1, v2, v3, v4, v5, v6, v7] 38)).cell? ⟨w.heap.size, 7, none⟩ = some (v4) := cell_of_row _ _ 7 _ _ _ hb
  have c8 : (w.alloc (.cells #[.int .i64 z0, .int .i64 z1, .int .i64 z2, v0, v1, v2, v3, v4, v5, v6, v7] 38)).cell? ⟨w.heap.size, 8, none⟩ = some (v5) := cell_of_row _ _ 8 _ _ _ hb
  have c9 : (w.alloc (.cells #[.int .i64 z0, .int .i64 z1, .int .i64 z2, v0, v1, v2, v3, v4, v5, v6, v7] 38)).cell? ⟨w.heap.size, 9, none⟩ = some (v6) := cell_of_row _ _ 9 _ _ _ hb
  have c10 : (w.alloc (.cells #[.int .i64 z0, .int .i64 z1, .int .i64 z2, v0, v1, v2, v3, v4, v5, v6, v7] 38)).cell? ⟨w.heap.size, 10, none⟩ = some (v7) := cell_of_row _ _ 10 _ _ _ hb
  generalize hw1 : w.alloc (.cells #[.int .i64 z0, .int .i64 z1, .int .i64 z2, v0, v1, v2, v3, v4, v5, v6, v7] 38) = w1 at hO0 c0 c1 c2 c3 c4 c5 c6 c7 c8 c9 c10
  clear hb
  have HW := Lib.hid hw1; clear hw1
  have HO0 := Lib.hid hO0; clear hO0
  have C0 := Lib.hid c0; clear c0
  have C1 := Lib.hid c1; clear c1
  have C2 := Lib.hid c2; clear c2
  have C3 := Lib.hid c3; clear c3
  have C4 := Lib.hid c4; clear c4
  have C5 := Lib.hid c5; clear c5
  have C6 := Lib.hid c6; clear c6
  have C7 := Lib.hid c7; clear c7
  have C8 := Lib.hid c8; clear c8
  have C9 := Lib.hid c9; clear c9
  have C10 := Lib.hid c10; clear c10
  go_enter Tryz.func21, Tryz.ntmps21
  go_upto_region 1 with fail
  rw [HW.out]
  have hO0 := HO0.out; clear HO0 HW
  have c0 := C0.out; clear C0
  have c1 := C1.out; clear C1
  have c2 := C2.out; clear C2
  have c3 := C3.out; clear C3
  have c4 := C4.out; clear C4
  have c5 := C5.out; clear C5
  have c6 := C6.out; clear C6
  have c7 := C7.out; clear C7
  have c8 := C8.out; clear C8
  have c9 := C9.out; clear C9
  have c10 := C10.out; clear C10
  go_region_held3 (fun w' => w'.cell? ⟨w.heap.size, 0, none⟩ = some (.int .i64 z0) ∧ w'.cell? ⟨w.heap.size, 1, none⟩ = some (.int .i64 z1) ∧ w'.cell? ⟨w.heap.size, 2, none⟩ = some (.int .i64 z2) ∧ w'.cell? ⟨w.heap.size, 3, none⟩ = some (v0) ∧ w'.cell? ⟨w.heap.size, 4, none⟩ = some (v1) ∧ w'.cell? ⟨w.heap.size, 5, none⟩ = some (v2) ∧ w'.cell? ⟨w.heap.size, 6, none⟩ = some (v3) ∧ w'.cell? ⟨w.heap.size, 7, none⟩ = some (v4) ∧ w'.cell? ⟨w.heap.size, 8, none⟩ = some (v5) ∧ w'.cell? ⟨w.heap.size, 9, none⟩ = some (v6) ∧ w'.cell? ⟨w.heap.size, 10, none⟩ = some (v7) ∧ Old w w')
    (((try go_split_ands); (try dsimp only); (try simp only [World.cell?_drew] at *); (repeat' apply And.intro) <;> (with_reducible first | assumption | exact Old.drew (by assumption) | exact Old.make (by assumption) _ | exact Old.drew (Old.make (by assumption) _) | exact Old.drew (Old.make (Old.undrew (by assumption)) _) | exact Old.cell ((Old.refl _).make _) (by assumption) | fail)))
    (first
      | (go_at_call 61; go_split_ands; refine (KT.out _ (by assumption)).mono ?_; rintro e w9 ⟨rfl, hO9⟩; have hP9 : Old w w9 := Old.none (by assumption) hO9; have d0 : w9.cell? ⟨w.heap.size, 0, none⟩ = some (.int .i64 z0) := Old.cell hO9 (by assumption); have d1 : w9.cell? ⟨w.heap.size, 1, none⟩ = some (.int .i64 z1) := Old.cell hO9 (by assumption); have d2 : w9.cell? ⟨w.heap.size, 2, none⟩ = some (.int .i64 z2) := Old.cell hO9 (by assumption); have d3 : w9.cell? ⟨w.heap.size, 3, none⟩ = some (v0) := Old.cell hO9 (by assumption); have d4 : w9.cell? ⟨w.heap.size, 4, none⟩ = some (v1) := Old.cell hO9 (by assumption); have d5 : w9.cell? ⟨w.heap.size, 5, none⟩ = some (v2) := Old.cell hO9 (by assumption); have d6 : w9.cell? ⟨w.heap.size, 6, none⟩ = some (v3) := Old.cell hO9 (by assumption); have d7 : w9.cell? ⟨w.heap.size, 7, none⟩ = some (v4) := Old.cell hO9 (by assumption); have d8 : w9.cell? ⟨w.heap.size, 8, none⟩ = some (v5) := Old.cell hO9 (by assumption); have d9 : w9.cell? ⟨w.heap.size, 9, none⟩ = some (v6) := Old.cell hO9 (by assumption); have d10 : w9.cell? ⟨w.heap.size, 10, none⟩ = some (v7) := Old.cell hO9 (by assumption); have hQ9 := Stp.mk hO9; clear hO9)
      | (go_at_call 22; go_split_ands; refine (KN.out _ _ ?_).mono ?_; (focus ((repeat (with_reducible first | exact new_drew _ _ | exact heap_alloc_new _ _ | exact new_drew2 _ _ _ | exact new_make2 _ _ _ | refine carry_alloc ?_ | refine carry_make ?_ | (apply Stp.carry; (focus (assumption; done))))); done)); rintro e w9 ⟨rfl, hO9⟩; have hP9 : Old w w9 := Old.none (by assumption) hO9; have d0 : w9.cell? ⟨w.heap.size, 0, none⟩ = some (.int .i64 z0) := Old.cell hO9 (by assumption); have d1 : w9.cell? ⟨w.heap.size, 1, none⟩ = some (.int .i64 z1) := Old.cell hO9 (by assumption); have d2 : w9.cell? ⟨w.heap.size, 2, none⟩ = some (.int .i64 z2) := Old.cell hO9 (by assumption); have d3 : w9.cell? ⟨w.heap.size, 3, none⟩ = some (v0) := Old.cell hO9 (by assumption); have d4 : w9.cell? ⟨w.heap.size, 4, none⟩ = some (v1) := Old.cell hO9 (by assumption); have d5 : w9.cell? ⟨w.heap.size, 5, none⟩ = some (v2) := Old.cell hO9 (by assumption); have d6 : w9.cell? ⟨w.heap.size, 6, none⟩ = some (v3) := Old.cell hO9 (by assumption); have d7 : w9.cell? ⟨w.heap.size, 7, none⟩ = some (v4) := Old.cell hO9 (by assumption); have d8 : w9.cell? ⟨w.heap.size, 8, none⟩ = some (v5) := Old.cell hO9 (by assumption); have d9 : w9.cell? ⟨w.heap.size, 9, none⟩ = some (v6) := Old.cell hO9 (by assumption); have d10 : w9.cell? ⟨w.heap.size, 10, none⟩ = some (v7) := Old.cell hO9 (by assumption); have hQ9 := Stp.mk hO9; clear hO9))
  all_goals go_wp2_with fail
  all_goals go_ret
  all_goals exact ⟨rfl, by assumption⟩
end Go.Proofs.YtpmemcpfoapjmaaGreat

namespace Go.Proofs.YtpmemcpfoapjmaaGreat
open Go.ChangeShapes Go.WideShapes Go.ChangeAt Go.RowKit
set_option linter.unusedVariables false

theorem entry_fits {x : Entry} (h : entryF.fits x) : x.txn.part.acl.length ≤ 256 ∧ x.txn.subs.length ≤ 256 := by
  obtain ⟨_, _, _, h4⟩ := (h : numF.fits x.zxid ∧ numF.fits x.session ∧ numF.fits x.xid ∧ txnF.fits x.txn)
  obtain ⟨h5, h6⟩ := (h4 : partF.fits x.txn.part ∧ (listF partF).fits x.txn.subs)
  obtain ⟨_, _, _, h7, _⟩ := (h5 : numF.fits x.txn.part.kind ∧ (textF 4096).fits x.txn.part.path ∧ (textF 4096).fits x.txn.part.data ∧ (listF aclF).fits x.txn.part.acl ∧ numF.fits x.txn.part.owner ∧ numF.fits x.txn.part.number ∧ numF.fits x.txn.part.err)
  exact ⟨h7.1, h6.1⟩
theorem both_entry (s : ByteArray) (hs : s.size ≤ 140737488355328) : ∃ (y : Entry) (e : Int), (entryF.lay y).length ≤ 1000000000000000 ∧ (y.txn.part.acl.length ≤ 256 ∧ y.txn.subs.length ≤ 256) ∧
    (∀ W : World, Calls Tryz.prog 31 #[.string s] W fun en w' => ∃ cs : List Value, en = .returned (.tuple #[.agg cs.toArray, .int .i64 e]) ∧ Old W w' ∧ entryE w' (New W) cs y) ∧
    (∀ W : World, Calls Tryz.prog 30 #[.string s] W fun en w' => ∃ cs : List Value, en = .returned (.tuple #[.agg cs.toArray, .int .i64 e]) ∧ Old W w' ∧ entryE w' (New W) cs y) := by
  refine ⟨(entryF.read s).getD zEntry, errOf (entryF.read s), ?_, ?_, fun W => (GetEntry_any s W (by unfold maxLen; omega)).mono fun en w' ⟨cs, he, hO, hE⟩ => ⟨cs, he, hO, hE⟩, fun W => (refget_entry s W hs).mono fun en w' ⟨cs, he, hO, hE⟩ => ⟨cs, he, hO, hE⟩⟩
  · cases h : entryF.read s with
    | none => show (entryF.lay zEntry).length ≤ _; decide
    | some x => rw [show (some x).getD zEntry = x from rfl, lay_len entryF_ok h]; omega
  · cases h : entryF.read s with
    | none => exact ⟨by decide, by decide⟩
    | some x => exact entry_fits (Fmt.read_some entryF_ok h).2

set_option maxRecDepth 100000 in
set_option maxHeartbeats 2000000 in
theorem law_entry (s : ByteArray) (w : World) (hs : s.size ≤ 140737488355328) : Calls Tryz.prog 11 #[.string s] w fun e w' => e = .returned (.bool true) ∧ Old w w' := by
  have HSZ := Lib.hid (show (Tryz.prog.info? 38).map (·.size) = some 11 by kernel_rfl)
  obtain ⟨y, e, hlay, hfit, pa, px⟩ := both_entry s hs
  obtain ⟨l, hl⟩ : ∃ l, entryF.lay y = l := ⟨_, rfl⟩
  have PA := Lib.hid pa; clear pa
  have PX := Lib.hid px; clear px
  have HFIT := Lib.hid hfit; clear hfit
  have PL := Lib.hid (show ∀ (cs : List Value) (ok : Nat → Prop) (W : World), entryE W ok cs y → Calls Tryz.prog 21 #[.agg cs.toArray] W (OldStr W l) from fun cs ok W hE => by rw [← hl]; exact refput_entry y cs ok W hE hlay)
  clear hl hlay
  go_enter Tryz.func11, Tryz.ntmps11
  go_wp2_with fail
  refine (PX.out _).mono ?_
  rintro en w1 ⟨cx, rfl, hO1, hEx⟩
  obtain ⟨xA, xAn, xAc, xS, xSn, xSc, rfl⟩ := entryE_cells hEx
  have hA1 : Old w1 (w1.alloc (.cells ([.int .i64 y.zxid, .int .i64 y.session, .int .i64 y.xid, .int .i64 y.txn.part.kind, .string y.txn.part.path, .string y.txn.part.data, .slice xA xAn xAc, .int .i64 y.txn.part.owner, .int .i64 y.txn.part.number, .int .i64 y.txn.part.err, .slice xS xSn xSc] : List Value).toArray 38)) := (Old.refl _).make _
  have HX := Lib.hid (entryE_ok.keep hEx hA1 (disj_none _))
  have HBX := Lib.hid (heap_alloc_new w1 (.cells ([.int .i64 y.zxid, .int .i64 y.session, .int .i64 y.xid, .int .i64 y.txn.part.kind, .string y.txn.part.path, .string y.txn.part.data, .slice xA xAn xAc, .int .i64 y.txn.part.owner, .int .i64 y.txn.part.number, .int .i64 y.txn.part.err, .slice xS xSn xSc] : List Value).toArray 38))
  have HO1 := Lib.hid (hO1.none hA1)
  have hpos : 0 < (w1.alloc (.cells ([.int .i64 y.zxid, .int .i64 y.session, .int .i64 y.xid, .int .i64 y.txn.part.kind, .string y.txn.part.path, .string y.txn.part.data, .slice xA xAn xAc, .int .i64 y.txn.part.owner, .int .i64 y.txn.part.number, .int .i64 y.txn.part.err, .slice xS xSn xSc] : List Value).toArray 38)).heap.size := by simp
  clear hEx hO1 hA1
  go_wp2_with (refine wpList_store_new w1 rfl 38 _ _ rfl _ [.int .i64 y.zxid, .int .i64 y.session, .int .i64 y.xid, .int .i64 y.txn.part.kind, .string y.txn.part.path, .string y.txn.part.data, .slice xA xAn xAc, .int .i64 y.txn.part.owner, .int .i64 y.txn.part.number, .int .i64 y.txn.part.err, .slice xS xSn xSc] rfl rfl HSZ.out rfl (by simp [Value.oneCell']) ?_)
  generalize w1.alloc (.cells ([.int .i64 y.zxid, .int .i64 y.session, .int .i64 y.xid, .int .i64 y.txn.part.kind, .string y.txn.part.path, .string y.txn.part.data, .slice xA xAn xAc, .int .i64 y.txn.part.owner, .int .i64 y.txn.part.number, .int .i64 y.txn.part.err, .slice xS xSn xSc] : List Value).toArray 38) = W1 at HX HBX HO1 hpos ⊢
  go_loopw [5] (fun iv wr => ∃ t : Nat, iv = .int .i64 (t : Nat) ∧ t ≤ 2 ∧ Old W1 wr) (fun iv _ => 2 - (intOf iv).toNat)
  case atStart => exact ⟨0, rfl, by omega, Old.refl _⟩
  case round =>
    obtain ⟨t, rfl, ht, hOr⟩ := hrel
    by_cases hlt : t < 2
    · have htl : (t : Int) < 2 := by omega
      go_wp2_with fail
      refine (PA.out _).mono ?_
      rintro en w2 ⟨ca, rfl, hO2, hEa⟩
      obtain ⟨aA, aAn, aAc, aS, aSn, aSc, rfl⟩ := entryE_cells hEa
      have hA2 : Old w2 (w2.alloc (.cells ([.int .i64 y.zxid, .int .i64 y.session, .int .i64 y.xid, .int .i64 y.txn.part.kind, .string y.txn.part.path, .string y.txn.part.data, .slice aA aAn aAc, .int .i64 y.txn.part.owner, .int .i64 y.txn.part.number, .int .i64 y.txn.part.err, .slice aS aSn aSc] : List Value).toArray 38)) := (Old.refl _).make _
      have HEA := Lib.hid (entryE_ok.keep hEa hA2 (disj_none _))
      have HBA := Lib.hid (heap_alloc_new w2 (.cells ([.int .i64 y.zxid, .int .i64 y.session, .int .i64 y.xid, .int .i64 y.txn.part.kind, .string y.txn.part.path, .string y.txn.part.data, .slice aA aAn aAc, .int .i64 y.txn.part.owner, .int .i64 y.txn.part.number, .int .i64 y.txn.part.err, .slice aS aSn aSc] : List Value).toArray 38))
      have hO3 : Old wr (w2.alloc (.cells ([.int .i64 y.zxid, .int .i64 y.session, .int .i64 y.xid, .int .i64 y.txn.part.kind, .string y.txn.part.path, .string y.txn.part.data, .slice aA aAn aAc, .int .i64 y.txn.part.owner, .int .i64 y.txn.part.number, .int .i64 y.txn.part.err, .slice aS aSn aSc] : List Value).toArray 38)) := hO2.none hA2
      have HO3 := Lib.hid hO3
      have HX3 := Lib.hid (entryE_ok.keep HX.out (hOr.none hO3) (disj_none _))
      have HBX3 := Lib.hid (((hOr.none hO3).block _ (lt_of_block HBX.out) id).trans HBX.out)
      have HPOS := Lib.hid (show 0 < wr.heap.size from Nat.lt_of_lt_of_le hpos hOr.size)
      have HOR := Lib.hid hOr
      clear hEa hO2 hA2 hO3 hOr
      go_upto_region 6 with (refine wpList_store_new w2 rfl 38 _ _ rfl _ [.int .i64 y.zxid, .int .i64 y.session, .int .i64 y.xid, .int .i64 y.txn.part.kind, .string y.txn.part.path, .string y.txn.part.data, .slice aA aAn aAc, .int .i64 y.txn.part.owner, .int .i64 y.txn.part.number, .int .i64 y.txn.part.err, .slice aS aSn aSc] rfl rfl HSZ.out rfl (by simp [Value.oneCell']) ?_)
      generalize w2.alloc (.cells ([.int .i64 y.zxid, .int .i64 y.session, .int .i64 y.xid, .int .i64 y.txn.part.kind, .string y.txn.part.path, .string y.txn.part.data, .slice aA aAn aAc, .int .i64 y.txn.part.owner, .int .i64 y.txn.part.number, .int .i64 y.txn.part.err, .slice aS aSn aSc] : List Value).toArray 38) = W2 at HEA HBA HO3 HX3 HBX3 ⊢
      have HSS := Lib.hid (show ∀ w', Old W2 w' → w'.cell? ⟨w2.heap.size, 0, none⟩ = some (.int .i64 y.zxid) ∧ w'.cell? ⟨w2.heap.size, 1, none⟩ = some (.int .i64 y.session) ∧ w'.cell? ⟨w2.heap.size, 2, none⟩ = some (.int .i64 y.xid) ∧ w'.cell? ⟨w2.heap.size, 3, none⟩ = some (.int .i64 y.txn.part.kind) ∧ w'.cell? ⟨w2.heap.size, 4, none⟩ = some (.string y.txn.part.path) ∧ w'.cell? ⟨w2.heap.size, 5, none⟩ = some (.string y.txn.part.data) ∧ w'.cell? ⟨w2.heap.size, 6, none⟩ = some (.slice aA aAn aAc) ∧ w'.cell? ⟨w2.heap.size, 7, none⟩ = some (.int .i64 y.txn.part.owner) ∧ w'.cell? ⟨w2.heap.size, 8, none⟩ = some (.int .i64 y.txn.part.number) ∧ w'.cell? ⟨w2.heap.size, 9, none⟩ = some (.int .i64 y.txn.part.err) ∧ w'.cell? ⟨w2.heap.size, 10, none⟩ = some (.slice aS aSn aSc) ∧ w'.cell? ⟨w1.heap.size, 0, none⟩ = some (.int .i64 y.zxid) ∧ w'.cell? ⟨w1.heap.size, 1, none⟩ = some (.int .i64 y.session) ∧ w'.cell? ⟨w1.heap.size, 2, none⟩ = some (.int .i64 y.xid) ∧ w'.cell? ⟨w1.heap.size, 3, none⟩ = some (.int .i64 y.txn.part.kind) ∧ w'.cell? ⟨w1.heap.size, 4, none⟩ = some (.string y.txn.part.path) ∧ w'.cell? ⟨w1.heap.size, 5, none⟩ = some (.string y.txn.part.data) ∧ w'.cell? ⟨w1.heap.size, 6, none⟩ = some (.slice xA xAn xAc) ∧ w'.cell? ⟨w1.heap.size, 7, none⟩ = some (.int .i64 y.txn.part.owner) ∧ w'.cell? ⟨w1.heap.size, 8, none⟩ = some (.int .i64 y.txn.part.number) ∧ w'.cell? ⟨w1.heap.size, 9, none⟩ = some (.int .i64 y.txn.part.err) ∧ w'.cell? ⟨w1.heap.size, 10, none⟩ = some (.slice xS xSn xSc) ∧ Old W2 w' from fun w' hO => by
        have ha := fun i v hv => cell_of_heap (i := i) (v := v) ((hO.block _ (lt_of_block HBA.out) id).trans HBA.out) hv
        have hx := fun i v hv => cell_of_heap (i := i) (v := v) ((hO.block _ (lt_of_block HBX3.out) id).trans HBX3.out) hv
        exact ⟨ha 0 _ rfl, ha 1 _ rfl, ha 2 _ rfl, ha 3 _ rfl, ha 4 _ rfl, ha 5 _ rfl, ha 6 _ rfl, ha 7 _ rfl, ha 8 _ rfl, ha 9 _ rfl, ha 10 _ rfl, hx 0 _ rfl, hx 1 _ rfl, hx 2 _ rfl, hx 3 _ rfl, hx 4 _ rfl, hx 5 _ rfl, hx 6 _ rfl, hx 7 _ rfl, hx 8 _ rfl, hx 9 _ rfl, hx 10 _ rfl, hO⟩)
      have KA := Lib.hid (fun W (h : Old W2 W) => PL.out [.int .i64 y.zxid, .int .i64 y.session, .int .i64 y.xid, .int .i64 y.txn.part.kind, .string y.txn.part.path, .string y.txn.part.data, .slice aA aAn aAc, .int .i64 y.txn.part.owner, .int .i64 y.txn.part.number, .int .i64 y.txn.part.err, .slice aS aSn aSc] _ W (entryE_ok.keep HEA.out h (disj_none _)))
      have KX := Lib.hid (fun W (h : Old W2 W) => PL.out [.int .i64 y.zxid, .int .i64 y.session, .int .i64 y.xid, .int .i64 y.txn.part.kind, .string y.txn.part.path, .string y.txn.part.data, .slice xA xAn xAc, .int .i64 y.txn.part.owner, .int .i64 y.txn.part.number, .int .i64 y.txn.part.err, .slice xS xSn xSc] _ W (entryE_ok.keep HX3.out h (disj_none _)))
      go_cut [31] (fun v wx => v = .bool false ∧ Old W2 wx)
      case first =>
        go_region_held3 (fun w' => w'.cell? ⟨w2.heap.size, 0, none⟩ = some (.int .i64 y.zxid) ∧ w'.cell? ⟨w2.heap.size, 1, none⟩ = some (.int .i64 y.session) ∧ w'.cell? ⟨w2.heap.size, 2, none⟩ = some (.int .i64 y.xid) ∧ w'.cell? ⟨w2.heap.size, 3, none⟩ = some (.int .i64 y.txn.part.kind) ∧ w'.cell? ⟨w2.heap.size, 4, none⟩ = some (.string y.txn.part.path) ∧ w'.cell? ⟨w2.heap.size, 5, none⟩ = some (.string y.txn.part.data) ∧ w'.cell? ⟨w2.heap.size, 6, none⟩ = some (.slice aA aAn aAc) ∧ w'.cell? ⟨w2.heap.size, 7, none⟩ = some (.int .i64 y.txn.part.owner) ∧ w'.cell? ⟨w2.heap.size, 8, none⟩ = some (.int .i64 y.txn.part.number) ∧ w'.cell? ⟨w2.heap.size, 9, none⟩ = some (.int .i64 y.txn.part.err) ∧ w'.cell? ⟨w2.heap.size, 10, none⟩ = some (.slice aS aSn aSc) ∧ w'.cell? ⟨w1.heap.size, 0, none⟩ = some (.int .i64 y.zxid) ∧ w'.cell? ⟨w1.heap.size, 1, none⟩ = some (.int .i64 y.session) ∧ w'.cell? ⟨w1.heap.size, 2, none⟩ = some (.int .i64 y.xid) ∧ w'.cell? ⟨w1.heap.size, 3, none⟩ = some (.int .i64 y.txn.part.kind) ∧ w'.cell? ⟨w1.heap.size, 4, none⟩ = some (.string y.txn.part.path) ∧ w'.cell? ⟨w1.heap.size, 5, none⟩ = some (.string y.txn.part.data) ∧ w'.cell? ⟨w1.heap.size, 6, none⟩ = some (.slice xA xAn xAc) ∧ w'.cell? ⟨w1.heap.size, 7, none⟩ = some (.int .i64 y.txn.part.owner) ∧ w'.cell? ⟨w1.heap.size, 8, none⟩ = some (.int .i64 y.txn.part.number) ∧ w'.cell? ⟨w1.heap.size, 9, none⟩ = some (.int .i64 y.txn.part.err) ∧ w'.cell? ⟨w1.heap.size, 10, none⟩ = some (.slice xS xSn xSc) ∧ Old W2 w')
          (((try dsimp only); first | exact HSS.out _ (Old.drew (Old.refl _)) | exact HSS.out _ (by assumption) | exact HSS.out _ (Old.drew (by assumption))))
          (first
            | (go_at_call 21; go_split_ands; (with_reducible refine (KA.out _ (by first | assumption | exact Old.drew (Old.refl _))).mono ?_); rintro en w9 ⟨rfl, hO9⟩; have hP9 : Old W2 w9 := Old.none (by first | assumption | exact Old.drew (Old.refl _)) hO9; clear hO9)
            | (go_at_call 21; go_split_ands; (with_reducible refine (KX.out _ (by first | assumption | exact Old.drew (Old.refl _))).mono ?_); rintro en w9 ⟨rfl, hO9⟩; have hP9 : Old W2 w9 := Old.none (by first | assumption | exact Old.drew (Old.refl _)) hO9; clear hO9))
        all_goals go_wp2_with fail
        all_goals go_meet
        all_goals exact ⟨rfl, by assumption⟩
      case rest =>
      obtain ⟨rfl, hOc⟩ := hcut
      have HBC := Lib.hid (range_row ((hOc.block _ (lt_of_block HBA.out) id).trans HBA.out))
      have hOr2 : Old wr wc := HO3.out.none hOc
      have HOV := Lib.hid (over_entry y [.int .i64 y.zxid, .int .i64 y.session, .int .i64 y.xid, .int .i64 y.txn.part.kind, .string y.txn.part.path, .string y.txn.part.data, .slice aA aAn aAc, .int .i64 y.txn.part.owner, .int .i64 y.txn.part.number, .int .i64 y.txn.part.err, .slice aS aSn aSc] (New wr) wr.heap.size wc (entryE_ok.keep HEA.out hOc (disj_none _)) (fun h => by have h' : wr.heap.size ≤ 0 := h; have := HPOS.out; omega) (fun k hk => hk) hOr2.size HFIT.out.1 HFIT.out.2)
      have HFIN := Lib.hid (show ∀ wq, Kept (Mid wr.heap.size wc.heap.size) wc wq → Old W1 wq from fun wq hq => HOR.out.none (hOr2.step hq (fun k hk => hk.1)))
      have HLT := Lib.hid hlt
      clear HSS KA KX HX3 HBX3 HEA HBA HO3 hOc hOr2 HOR
      go_wp2_with (refine wpList_load_mid rfl 38 (.tmp 6) rfl w2.heap.size 0 rfl [.int .i64 y.zxid, .int .i64 y.session, .int .i64 y.xid, .int .i64 y.txn.part.kind, .string y.txn.part.path, .string y.txn.part.data, .slice aA aAn aAc, .int .i64 y.txn.part.owner, .int .i64 y.txn.part.number, .int .i64 y.txn.part.err, .slice aS aSn aSc] _ HBC.out Tryz.underlying38 rfl HSZ.out ?_)
      refine HOV.out.mono ?_
      rintro en w5 ⟨rfl, hk5⟩
      have HO5 := Lib.hid (HFIN.out _ hk5)
      clear hk5 HOV HFIN
      go_wp2_with fail
      go_roundw
      case rel => exact ⟨t + 1, by go_num, HLT.out, HO5.out⟩
      case measure => have h := HLT.out; simp [intOf]; omega
    · have htl : ¬ (t : Int) < 2 := by omega
      have HE := Lib.hid (HO1.out.none hOr)
      clear hOr
      go_wp2_with fail
      go_ret
      exact ⟨rfl, HE.out⟩
end Go.Proofs.YtpmemcpfoapjmaaGreat

namespace Go.Proofs.YtpmemcpfoapjmaaGreat
open Go.ChangeShapes Go.WideShapes Go.ChangeAt Go.RowKit
set_option linter.unusedVariables false

set_option maxRecDepth 100000 in
set_option maxHeartbeats 1600000 in
theorem reftake_op (w : World) (b : Nat) (s : ByteArray) (p pos e : Nat) (hF : FAt w b s p e) (hp : e = 0 → p = pos) {x : Oper1} {q e' : Nat} (h : oper1F.get s.data.toList pos e = (x, q, e')) :
    Calls Tryz.prog 107 #[.pointer (some ⟨b, 0, none⟩)] w (FGPost oper1E 10 [8, 9] w b s x q e') := by
  have HSZ := Lib.hid (show (Tryz.prog.info? 28).map (·.size) = some 10 by kernel_rfl)
  have HS_int := Lib.hid (show (Tryz.prog.info? 3).map (·.size) = some 1 by kernel_rfl)
  have HS_string := Lib.hid (show (Tryz.prog.info? 9).map (·.size) = some 1 by kernel_rfl)
  have HS_acls := Lib.hid (show (Tryz.prog.info? 24).map (·.size) = some 1 by kernel_rfl)
  have HS_bool := Lib.hid (show (Tryz.prog.info? 4).map (·.size) = some 1 by kernel_rfl)
  obtain ⟨v0, q0, e0, g0⟩ : ∃ aa qq ee, numF.get s.data.toList pos e = (aa, qq, ee) := ⟨_, _, _, eta3 _⟩
  obtain ⟨v1, q1, e1, g1⟩ : ∃ aa qq ee, numF.get s.data.toList q0 e0 = (aa, qq, ee) := ⟨_, _, _, eta3 _⟩
  obtain ⟨v2, q2, e2, g2⟩ : ∃ aa qq ee, (textF 4096).get s.data.toList q1 e1 = (aa, qq, ee) := ⟨_, _, _, eta3 _⟩
  obtain ⟨v3, q3, e3, g3⟩ : ∃ aa qq ee, (textF 4096).get s.data.toList q2 e2 = (aa, qq, ee) := ⟨_, _, _, eta3 _⟩
  obtain ⟨v4, q4, e4, g4⟩ : ∃ aa qq ee, (listF aclF).get s.data.toList q3 e3 = (aa, qq, ee) := ⟨_, _, _, eta3 _⟩
  obtain ⟨v5, q5, e5, g5⟩ : ∃ aa qq ee, numF.get s.data.toList q4 e4 = (aa, qq, ee) := ⟨_, _, _, eta3 _⟩
  obtain ⟨v6, q6, e6, g6⟩ : ∃ aa qq ee, numF.get s.data.toList q5 e5 = (aa, qq, ee) := ⟨_, _, _, eta3 _⟩
  obtain ⟨v7, q7, e7, g7⟩ : ∃ aa qq ee, flagF.get s.data.toList q6 e6 = (aa, qq, ee) := ⟨_, _, _, eta3 _⟩
  have hget : oper1F.get s.data.toList pos e = (⟨v0, v1, v2, v3, v4, v5, v6, v7⟩, q7, e7) := by simp only [oper1F, isoF, seqF, g0, g1, g2, g3, g4, g5, g6, g7]
  rw [hget] at h
  simp only [Prod.mk.injEq] at h
  obtain ⟨rfl, rfl, rfl⟩ := h
  have i0 : I64 v0 := num_fit g0
  have i1 : I64 v1 := num_fit g1
  have i2 : Str v2 := text_fit (by decide) g2
  have i3 : Str v3 := text_fit (by decide) g3
  have i5 : I64 v5 := num_fit g5
  have i6 : I64 v6 := num_fit g6
  have HZ := Lib.hid (show e7 = 0 → e4 = 0 from fun h0 => (back0 numF_ok g5 (back0 numF_ok g6 (back0 flagF_ok g7 h0))))
  have hn0 : numsN 2 s.data.toList pos e = ([v0, v1], q1, e1) := by simp only [numsN, getN, g0, g1]
  have K0 := Lib.hid (ftake_of (by decide) hn0)
  clear hn0
  have K1 := Lib.hid (ftext_of (by decide) g2)
  have K2 := Lib.hid (ftext_of (by decide) g3)
  have K3 := Lib.hid (facls_of g4)
  have hn4 : numsN 2 s.data.toList q4 e4 = ([v5, v6], q6, e6) := by simp only [numsN, getN, g5, g6]
  have K4 := Lib.hid (ftake_of (by decide) hn4)
  clear hn4
  have K5 := Lib.hid (fflag_of g7)
  clear hget g0 g1 g2 g3 g4 g5 g6 g7
  have S0 := FB.start hF 28 [.int .i64 0, .int .i64 0, .string ⟨#[]⟩, .string ⟨#[]⟩, .slice none 0 0, .int .i64 0, .int .i64 0, .bool false, .slice none 0 0, .slice none 0 0] [.int .i64 0, .int .i64 0, .string ⟨#[]⟩, .string ⟨#[]⟩, .slice none 0 0, .int .i64 0, .int .i64 0, .bool false, .slice none 0 0, .slice none 0 0]
  have HP0 := Lib.hid hp; clear hp hF
  go_enter Tryz.func107, Tryz.ntmps107
  go_wp2_with fail
  refine (K0.out _ _ _ S0.rd HP0.out).mono ?_
  rintro en w0_ ⟨t0, pp0, rfl, hblk, hgt, hF, hp, hk⟩
  have HP1 := Lib.hid hp; clear hp
  have TB0 : TB w w0_ t0 [v0, v1] := ⟨hblk, Nat.le_trans S0.size hgt⟩
  clear hblk hgt
  have S := S0.call hF hk
  clear hF hk K0 HP0 S0
  have S1 := S; clear S
  have HB0 := Lib.hid S1.box
  have d0 := TB0.cell 0 v0 rfl
  obtain ⟨x0_0, hx⟩ : ∃ u, World.setRow w0_ (w.heap.size + 1) ([(.int .i64 v0), (.int .i64 0), (.string ⟨#[]⟩), (.string ⟨#[]⟩), (.slice none 0 0), (.int .i64 0), (.int .i64 0), (.bool false), (.slice none 0 0), (.slice none 0 0)] : List Value).toArray = u := ⟨_, rfl⟩
  have S2 := S1.set [(.int .i64 v0), (.int .i64 0), (.string ⟨#[]⟩), (.string ⟨#[]⟩), (.slice none 0 0), (.int .i64 0), (.int .i64 0), (.bool false), (.slice none 0 0), (.slice none 0 0)]
  replace TB0 := TB0.set ([(.int .i64 v0), (.int .i64 0), (.string ⟨#[]⟩), (.string ⟨#[]⟩), (.slice none 0 0), (.int .i64 0), (.int .i64 0), (.bool false), (.slice none 0 0), (.slice none 0 0)] : List Value).toArray
  rw [hx] at S2 TB0
  have HX0 := Lib.hid hx; clear hx
  clear S1
  have HB1 := Lib.hid S2.box
  have d1 := TB0.cell 1 v1 rfl
  obtain ⟨x0_1, hx⟩ : ∃ u, World.setRow x0_0 (w.heap.size + 1) ([(.int .i64 v0), (.int .i64 v1), (.string ⟨#[]⟩), (.string ⟨#[]⟩), (.slice none 0 0), (.int .i64 0), (.int .i64 0), (.bool false), (.slice none 0 0), (.slice none 0 0)] : List Value).toArray = u := ⟨_, rfl⟩
  have S3 := S2.set [(.int .i64 v0), (.int .i64 v1), (.string ⟨#[]⟩), (.string ⟨#[]⟩), (.slice none 0 0), (.int .i64 0), (.int .i64 0), (.bool false), (.slice none 0 0), (.slice none 0 0)]
  replace TB0 := TB0.set ([(.int .i64 v0), (.int .i64 v1), (.string ⟨#[]⟩), (.string ⟨#[]⟩), (.slice none 0 0), (.int .i64 0), (.int .i64 0), (.bool false), (.slice none 0 0), (.slice none 0 0)] : List Value).toArray
  rw [hx] at S3 TB0
  have HX1 := Lib.hid hx; clear hx
  clear S2
  go_wp2_with (first | (refine wpList_store_to rfl 3 (.tmp 11) (.tmp 10) rfl (w.heap.size + 1) 0 (.int .i64 v0) rfl rfl rfl [(.int .i64 0), (.int .i64 0), (.string ⟨#[]⟩), (.string ⟨#[]⟩), (.slice none 0 0), (.int .i64 0), (.int .i64 0), (.bool false), (.slice none 0 0), (.slice none 0 0)] 28 HB0.out (by show 0 < 10; decide) HS_int.out [(.int .i64 v0), (.int .i64 0), (.string ⟨#[]⟩), (.string ⟨#[]⟩), (.slice none 0 0), (.int .i64 0), (.int .i64 0), (.bool false), (.slice none 0 0), (.slice none 0 0)] rfl x0_0 HX0.out ?_) | (refine wpList_store_to rfl 3 (.tmp 15) (.tmp 14) rfl (w.heap.size + 1) 1 (.int .i64 v1) rfl rfl rfl [(.int .i64 v0), (.int .i64 0), (.string ⟨#[]⟩), (.string ⟨#[]⟩), (.slice none 0 0), (.int .i64 0), (.int .i64 0), (.bool false), (.slice none 0 0), (.slice none 0 0)] 28 HB1.out (by show 1 < 10; decide) HS_int.out [(.int .i64 v0), (.int .i64 v1), (.string ⟨#[]⟩), (.string ⟨#[]⟩), (.slice none 0 0), (.int .i64 0), (.int .i64 0), (.bool false), (.slice none 0 0), (.slice none 0 0)] rfl x0_1 HX1.out ?_))
  clear TB0 d0 d1
  refine (K1.out _ _ _ S3.rd HP1.out).mono ?_
  rintro en w1_ ⟨pp1, rfl, hF, hp, hk⟩
  have HP2 := Lib.hid hp; clear hp
  have S := S3.call hF hk
  clear hF hk K1 HP1 S3
  have S4 := S; clear S
  have HB0 := Lib.hid S4.box
  obtain ⟨x1_0, hx⟩ : ∃ u, World.setRow w1_ (w.heap.size + 1) ([(.int .i64 v0), (.int .i64 v1), (.string v2), (.string ⟨#[]⟩), (.slice none 0 0), (.int .i64 0), (.int .i64 0), (.bool false), (.slice none 0 0), (.slice none 0 0)] : List Value).toArray = u := ⟨_, rfl⟩
  have S5 := S4.set [(.int .i64 v0), (.int .i64 v1), (.string v2), (.string ⟨#[]⟩), (.slice none 0 0), (.int .i64 0), (.int .i64 0), (.bool false), (.slice none 0 0), (.slice none 0 0)]
  rw [hx] at S5
  have HX0 := Lib.hid hx; clear hx
  clear S4
  go_wp2_with (refine wpList_store_to rfl 9 (.tmp 18) (.tmp 17) rfl (w.heap.size + 1) 2 (.string v2) rfl rfl rfl [(.int .i64 v0), (.int .i64 v1), (.string ⟨#[]⟩), (.string ⟨#[]⟩), (.slice none 0 0), (.int .i64 0), (.int .i64 0), (.bool false), (.slice none 0 0), (.slice none 0 0)] 28 HB0.out (by show 2 < 10; decide) HS_string.out [(.int .i64 v0), (.int .i64 v1), (.string v2), (.string ⟨#[]⟩), (.slice none 0 0), (.int .i64 0), (.int .i64 0), (.bool false), (.slice none 0 0), (.slice none 0 0)] rfl x1_0 HX0.out ?_)
  refine (K2.out _ _ _ S5.rd HP2.out).mono ?_
  rintro en w2_ ⟨pp2, rfl, hF, hp, hk⟩
  have HP3 := Lib.hid hp; clear hp
  have S := S5.call hF hk
  clear hF hk K2 HP2 S5
  have S6 := S; clear S
  have HB0 := Lib.hid S6.box
  obtain ⟨x2_0, hx⟩ : ∃ u, World.setRow w2_ (w.heap.size + 1) ([(.int .i64 v0), (.int .i64 v1), (.string v2), (.string v3), (.slice none 0 0), (.int .i64 0), (.int .i64 0), (.bool false), (.slice none 0 0), (.slice none 0 0)] : List Value).toArray = u := ⟨_, rfl⟩
  have S7 := S6.set [(.int .i64 v0), (.int .i64 v1), (.string v2), (.string v3), (.slice none 0 0), (.int .i64 0), (.int .i64 0), (.bool false), (.slice none 0 0), (.slice none 0 0)]
  rw [hx] at S7
  have HX0 := Lib.hid hx; clear hx
  clear S6
  go_wp2_with (refine wpList_store_to rfl 9 (.tmp 21) (.tmp 20) rfl (w.heap.size + 1) 3 (.string v3) rfl rfl rfl [(.int .i64 v0), (.int .i64 v1), (.string v2), (.string ⟨#[]⟩), (.slice none 0 0), (.int .i64 0), (.int .i64 0), (.bool false), (.slice none 0 0), (.slice none 0 0)] 28 HB0.out (by show 3 < 10; decide) HS_string.out [(.int .i64 v0), (.int .i64 v1), (.string v2), (.string v3), (.slice none 0 0), (.int .i64 0), (.int .i64 0), (.bool false), (.slice none 0 0), (.slice none 0 0)] rfl x2_0 HX0.out ?_)
  refine (K3.out _ _ _ S7.rd HP3.out).mono ?_
  rintro en w3_ ⟨sv, pp3, rfl, hsl, hls, hF, hp, hk⟩
  have HP4 := Lib.hid hp; clear hp
  have LL : LB aclE w w3_ 2 sv v4 e4 := LB.mk' aclE_ok S7 hsl hls
  have HSL := Lib.hid hsl
  obtain ⟨sa, sn, sc, rfl⟩ := hsl
  clear hls
  have S := S7.call hF hk
  clear hF hk K3 HP3 S7
  have S8 := S; clear S
  have HB0 := Lib.hid S8.box
  obtain ⟨x3_0, hx⟩ : ∃ u, World.setRow w3_ (w.heap.size + 1) ([(.int .i64 v0), (.int .i64 v1), (.string v2), (.string v3), (.slice sa sn sc), (.int .i64 0), (.int .i64 0), (.bool false), (.slice none 0 0), (.slice none 0 0)] : List Value).toArray = u := ⟨_, rfl⟩
  have S9 := S8.set [(.int .i64 v0), (.int .i64 v1), (.string v2), (.string v3), (.slice sa sn sc), (.int .i64 0), (.int .i64 0), (.bool false), (.slice none 0 0), (.slice none 0 0)]
  replace LL := LL.set aclE_ok ([(.int .i64 v0), (.int .i64 v1), (.string v2), (.string v3), (.slice sa sn sc), (.int .i64 0), (.int .i64 0), (.bool false), (.slice none 0 0), (.slice none 0 0)] : List Value).toArray
  rw [hx] at S9 LL
  have HX0 := Lib.hid hx; clear hx
  clear S8
  go_wp2_with (refine wpList_store_to rfl 24 (.tmp 24) (.tmp 23) rfl (w.heap.size + 1) 4 (.slice sa sn sc) rfl rfl rfl [(.int .i64 v0), (.int .i64 v1), (.string v2), (.string v3), (.slice none 0 0), (.int .i64 0), (.int .i64 0), (.bool false), (.slice none 0 0), (.slice none 0 0)] 28 HB0.out (by show 4 < 10; decide) HS_acls.out [(.int .i64 v0), (.int .i64 v1), (.string v2), (.string v3), (.slice sa sn sc), (.int .i64 0), (.int .i64 0), (.bool false), (.slice none 0 0), (.slice none 0 0)] rfl x3_0 HX0.out ?_)
  refine (K4.out _ _ _ S9.rd HP4.out).mono ?_
  rintro en w4_ ⟨t4, pp4, rfl, hblk, hgt, hF, hp, hk⟩
  have HP5 := Lib.hid hp; clear hp
  have TB4 : TB w w4_ t4 [v5, v6] := ⟨hblk, Nat.le_trans S9.size hgt⟩
  clear hblk hgt
  replace LL := LL.call aclE_ok S9.old hk
  have S := S9.call hF hk
  clear hF hk K4 HP4 S9
  have S10 := S; clear S
  have HB0 := Lib.hid S10.box
  have d0 := TB4.cell 0 v5 rfl
  obtain ⟨x4_0, hx⟩ : ∃ u, World.setRow w4_ (w.heap.size + 1) ([(.int .i64 v0), (.int .i64 v1), (.string v2), (.string v3), (.slice sa sn sc), (.int .i64 v5), (.int .i64 0), (.bool false), (.slice none 0 0), (.slice none 0 0)] : List Value).toArray = u := ⟨_, rfl⟩
  have S11 := S10.set [(.int .i64 v0), (.int .i64 v1), (.string v2), (.string v3), (.slice sa sn sc), (.int .i64 v5), (.int .i64 0), (.bool false), (.slice none 0 0), (.slice none 0 0)]
  replace LL := LL.set aclE_ok ([(.int .i64 v0), (.int .i64 v1), (.string v2), (.string v3), (.slice sa sn sc), (.int .i64 v5), (.int .i64 0), (.bool false), (.slice none 0 0), (.slice none 0 0)] : List Value).toArray
  replace TB4 := TB4.set ([(.int .i64 v0), (.int .i64 v1), (.string v2), (.string v3), (.slice sa sn sc), (.int .i64 v5), (.int .i64 0), (.bool false), (.slice none 0 0), (.slice none 0 0)] : List Value).toArray
  rw [hx] at S11 LL TB4
  have HX0 := Lib.hid hx; clear hx
  clear S10
  have HB1 := Lib.hid S11.box
  have d1 := TB4.cell 1 v6 rfl
  obtain ⟨x4_1, hx⟩ : ∃ u, World.setRow x4_0 (w.heap.size + 1) ([(.int .i64 v0), (.int .i64 v1), (.string v2), (.string v3), (.slice sa sn sc), (.int .i64 v5), (.int .i64 v6), (.bool false), (.slice none 0 0), (.slice none 0 0)] : List Value).toArray = u := ⟨_, rfl⟩
  have S12 := S11.set [(.int .i64 v0), (.int .i64 v1), (.string v2), (.string v3), (.slice sa sn sc), (.int .i64 v5), (.int .i64 v6), (.bool false), (.slice none 0 0), (.slice none 0 0)]
  replace LL := LL.set aclE_ok ([(.int .i64 v0), (.int .i64 v1), (.string v2), (.string v3), (.slice sa sn sc), (.int .i64 v5), (.int .i64 v6), (.bool false), (.slice none 0 0), (.slice none 0 0)] : List Value).toArray
  replace TB4 := TB4.set ([(.int .i64 v0), (.int .i64 v1), (.string v2), (.string v3), (.slice sa sn sc), (.int .i64 v5), (.int .i64 v6), (.bool false), (.slice none 0 0), (.slice none 0 0)] : List Value).toArray
  rw [hx] at S12 LL TB4
  have HX1 := Lib.hid hx; clear hx
  clear S11
  go_wp2_with (first | (refine wpList_store_to rfl 3 (.tmp 30) (.tmp 29) rfl (w.heap.size + 1) 5 (.int .i64 v5) rfl rfl rfl [(.int .i64 v0), (.int .i64 v1), (.string v2), (.string v3), (.slice sa sn sc), (.int .i64 0), (.int .i64 0), (.bool false), (.slice none 0 0), (.slice none 0 0)] 28 HB0.out (by show 5 < 10; decide) HS_int.out [(.int .i64 v0), (.int .i64 v1), (.string v2), (.string v3), (.slice sa sn sc), (.int .i64 v5), (.int .i64 0), (.bool false), (.slice none 0 0), (.slice none 0 0)] rfl x4_0 HX0.out ?_) | (refine wpList_store_to rfl 3 (.tmp 34) (.tmp 33) rfl (w.heap.size + 1) 6 (.int .i64 v6) rfl rfl rfl [(.int .i64 v0), (.int .i64 v1), (.string v2), (.string v3), (.slice sa sn sc), (.int .i64 v5), (.int .i64 0), (.bool false), (.slice none 0 0), (.slice none 0 0)] 28 HB1.out (by show 6 < 10; decide) HS_int.out [(.int .i64 v0), (.int .i64 v1), (.string v2), (.string v3), (.slice sa sn sc), (.int .i64 v5), (.int .i64 v6), (.bool false), (.slice none 0 0), (.slice none 0 0)] rfl x4_1 HX1.out ?_))
  clear TB4 d0 d1
  refine (K5.out _ _ _ S12.rd HP5.out).mono ?_
  rintro en w5_ ⟨pp5, rfl, hF, hp, hk⟩
  have HP6 := Lib.hid hp; clear hp
  replace LL := LL.call aclE_ok S12.old hk
  have S := S12.call hF hk
  clear hF hk K5 HP5 S12
  have S13 := S; clear S
  have HB0 := Lib.hid S13.box
  obtain ⟨x5_0, hx⟩ : ∃ u, World.setRow w5_ (w.heap.size + 1) ([(.int .i64 v0), (.int .i64 v1), (.string v2), (.string v3), (.slice sa sn sc), (.int .i64 v5), (.int .i64 v6), (.bool v7), (.slice none 0 0), (.slice none 0 0)] : List Value).toArray = u := ⟨_, rfl⟩
  have S14 := S13.set [(.int .i64 v0), (.int .i64 v1), (.string v2), (.string v3), (.slice sa sn sc), (.int .i64 v5), (.int .i64 v6), (.bool v7), (.slice none 0 0), (.slice none 0 0)]
  replace LL := LL.set aclE_ok ([(.int .i64 v0), (.int .i64 v1), (.string v2), (.string v3), (.slice sa sn sc), (.int .i64 v5), (.int .i64 v6), (.bool v7), (.slice none 0 0), (.slice none 0 0)] : List Value).toArray
  rw [hx] at S14 LL
  have HX0 := Lib.hid hx; clear hx
  clear S13
  have HRG := Lib.hid (range_row S14.box)
  have HRES := Lib.hid S14.res
  have HSF := Lib.hid S14; clear S14
  have HLL := Lib.hid LL; clear LL
  go_wp2_with (first | (refine wpList_store_to rfl 4 (.tmp 37) (.tmp 36) rfl (w.heap.size + 1) 7 (.bool v7) rfl rfl rfl [(.int .i64 v0), (.int .i64 v1), (.string v2), (.string v3), (.slice sa sn sc), (.int .i64 v5), (.int .i64 v6), (.bool false), (.slice none 0 0), (.slice none 0 0)] 28 HB0.out (by show 7 < 10; decide) HS_bool.out [(.int .i64 v0), (.int .i64 v1), (.string v2), (.string v3), (.slice sa sn sc), (.int .i64 v5), (.int .i64 v6), (.bool v7), (.slice none 0 0), (.slice none 0 0)] rfl x5_0 HX0.out ?_) | (refine wpList_load_mid rfl 28 (.tmp 3) rfl (w.heap.size + 1) 0 rfl [(.int .i64 v0), (.int .i64 v1), (.string v2), (.string v3), (.slice sa sn sc), (.int .i64 v5), (.int .i64 v6), (.bool v7), (.slice none 0 0), (.slice none 0 0)] _ HRG.out Tryz.underlying28 rfl HSZ.out ?_) | (refine wpList_store_row _ rfl 28 (.tmp 2) (.tmp 38) rfl w.heap.size _ [(.int .i64 v0), (.int .i64 v1), (.string v2), (.string v3), (.slice sa sn sc), (.int .i64 v5), (.int .i64 v6), (.bool v7), (.slice none 0 0), (.slice none 0 0)] rfl rfl HRES.out HSZ.out rfl (by simp [Value.oneCell']) ?_))
  have hrow := setRow_heap _ w.heap.size _ ([(.int .i64 v0), (.int .i64 v1), (.string v2), (.string v3), (.slice sa sn sc), (.int .i64 v5), (.int .i64 v6), (.bool v7), (.slice none 0 0), (.slice none 0 0)] : List Value).toArray _ _ HRES.out
  have hload := run_loadVar_row (P := Tryz.prog) _ w.heap.size 28 28 _ (0, 0) _ hrow Tryz.underlying28 rfl HSZ.out
  have hb := HSF.out.old
  exact ret_cell 2 28 w.heap.size _ Tryz.results107 rfl hload rfl ⟨[(.int .i64 v0), (.int .i64 v1), (.string v2), (.string v3), (.slice sa sn sc), (.int .i64 v5), (.int .i64 v6), (.bool v7), (.slice none 0 0), (.slice none 0 0)], _, rfl, ⟨rfl, by simp [Value.oneCell']⟩, by simp, fun h0 => ⟨.slice none 0 0, .slice none 0 0, .slice sa sn sc, rfl, HLL.out.fin aclE_ok _ (HZ.out h0), i0, i1, i2, i3, i5, i6, ⟨_, _, _, rfl⟩, ⟨_, _, _, rfl⟩⟩, HSF.out.rd.keep (setRow_kept _ _ _) (fun hs => by omega), HP6.out, Kept.trans' HSF.out.kept (setRow_kept _ _ _) (fun k hk hs => by omega)⟩
end Go.Proofs.YtpmemcpfoapjmaaGreat
