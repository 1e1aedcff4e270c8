/- The document's own answers of layer 2: a reply, laid. -/
import Derived.Test.YtpmemcpfoapjmaaGreatQ23
import Derived.Test.YtpmemcpfoapjmaaGreatQ06
namespace Go.Proofs.YtpmemcpfoapjmaaGreat
open Go.ChangeShapes Go.WideShapes Go.ChangeAt Go.RowKit
set_option linter.unusedVariables false

theorem split_reply {l : List Value} (h : l.length = 17) : ∃ v0 v1 v2 v3 v4 v5 v6 v7 v8 v9 v10 v11 v12 v13 v14 v15 v16, l = [v0, v1, v2, v3, v4, v5, v6, v7, v8, v9, v10, v11, v12, v13, v14, v15, v16] := by
  match l, h with
  | [v0, v1, v2, v3, v4, v5, v6, v7, v8, v9, v10, v11, v12, v13, v14, v15, v16], _ => exact ⟨v0, v1, v2, v3, v4, v5, v6, v7, v8, v9, v10, v11, v12, v13, v14, v15, v16, rfl⟩

set_option maxRecDepth 100000 in
set_option maxHeartbeats 2000000 in
theorem refput_reply (x : Reply) (cs : List Value) (ok : Nat → Prop) (w : World) (hE : replyE w ok cs x) (hl : (replyF.lay x).length ≤ 1000000000000000) :
    Calls Tryz.prog 36 #[.agg cs.toArray] w (OldStr w (replyF.lay x)) := by
  obtain ⟨vsubs, hQ, hL⟩ := hE
  have hP : ansE w ok cs x.ans := ⟨vsubs, hQ⟩
  have hcl : cs.length = 17 := (ansE_flat hP).1
  have h7 : cs[16]? = some vsubs := by obtain ⟨vacl, vkids, rfl, _⟩ := hQ; rfl
  clear hQ
  obtain ⟨v0, v1, v2, v3, v4, v5, v6, v7, v8, v9, v10, v11, v12, v13, v14, v15, v16, rfl⟩ := split_reply hcl
  obtain rfl : v16 = vsubs := by simpa using h7
  obtain ⟨rows, ⟨A, c, rfl, hlc, hm, hat⟩, hlen, hel⟩ := hL
  unfold maxLen at hm
  have hlay : replyF.lay x = ansF.lay x.ans ++ (sev rows.length ++ layN ansF x.subs) := by rw [hlen]; rfl
  rw [hlay] at hl ⊢
  simp only [List.length_append] at hl
  have hlen1 : rows.length ≤ x.subs.length := by omega
  have hlen2 : x.subs.length ≤ rows.length := by omega
  clear hlen hlay
  have KP := Lib.hid (show ∀ W, Old w W → Calls Tryz.prog 81 #[.agg #[v0, v1, v2, v3, v4, v5, v6, v7, v8, v9, v10, v11, v12, v13, v14, v15, (.slice A rows.length c)]] W (OldStr W (ansF.lay x.ans)) from fun W h => refput_answer x.ans _ ok W (ansE_ok.keep hP h (disj_none _)) (by omega))
  have KN := Lib.hid (show ∀ W k (r : List Value) (h1 : k < x.subs.length), ansE W ok r (x.subs[k]'h1) → Calls Tryz.prog 81 #[.agg r.toArray] W (OldStr W (ansF.lay (x.subs[k]'h1))) from fun W k r h1 h => refput_answer _ r ok W h (by
    have := layN_le (f := ansF) h1
    omega))
  have KC := Lib.hid (show ∀ W, Calls Tryz.prog 23 #[.int .i64 (rows.length : Nat)] W (OldStr W (sev rows.length)) from fun W => by
    have h := refcount_any (rows.length : Nat) W (by unfold I64; omega)
    rwa [Int.toNat_natCast] at h)
  have HEL := Lib.hid hel; clear hel
  obtain ⟨L0, hL0⟩ : ∃ l : List UInt8, ansF.lay x.ans = l := ⟨_, rfl⟩
  obtain ⟨C0, hC0⟩ : ∃ l : List UInt8, sev rows.length = l := ⟨_, rfl⟩
  rw [hL0] at KP hl ⊢
  rw [hC0] at KC hl ⊢
  have q0 : ∀ W, Sem.run Tryz.prog (Op.stringOp .add ⟨L0.toArray⟩ ⟨C0.toArray⟩) W = .ok (.string ⟨(L0 ++ C0).toArray⟩) W := fun W => add_str _ _ _ (by omega) W
  clear hL0 hC0 hP
  have hO0 : Old w (w.alloc (.cells #[v0, v1, v2, v3, v4, v5, v6, v7, v8, v9, v10, v11, v12, v13, v14, v15, (.slice A rows.length c)] 78)) := (Old.refl w).make _
  have hb := heap_alloc_new w (.cells #[v0, v1, v2, v3, v4, v5, v6, v7, v8, v9, v10, v11, v12, v13, v14, v15, (.slice A rows.length c)] 78)
  have c0 : (w.alloc (.cells #[v0, v1, v2, v3, v4, v5, v6, v7, v8, v9, v10, v11, v12, v13, v14, v15, (.slice A rows.length c)] 78)).cell? ⟨w.heap.size, 0, none⟩ = some (v0) := cell_of_row _ _ 0 _ _ _ hb
  have c1 : (w.alloc (.cells #[v0, v1, v2, v3, v4, v5, v6, v7, v8, v9, v10, v11, v12, v13, v14, v15, (.slice A rows.length c)] 78)).cell? ⟨w.heap.size, 1, none⟩ = some (v1) := cell_of_row _ _ 1 _ _ _ hb
  have c2 : (w.alloc (.cells #[v0, v1, v2, v3, v4, v5, v6, v7, v8, v9, v10, v11, v12, v13, v14, v15, (.slice A rows.length c)] 78)).cell? ⟨w.heap.size, 2, none⟩ = some (v2) := cell_of_row _ _ 2 _ _ _ hb
  have c3 : (w.alloc (.cells #[v0, v1, v2, v3, v4, v5, v6, v7, v8, v9, v10, v11, v12, v13, v14, v15, (.slice A rows.length c)] 78)).cell? ⟨w.heap.size, 3, none⟩ = some (v3) := cell_of_row _ _ 3 _ _ _ hb
  have c4 : (w.alloc (.cells #[v0, v1, v2, v3, v4, v5, v6, v7, v8, v9, v10, v11, v12, v13, v14, v15, (.slice A rows.length c)] 78)).cell? ⟨w.heap.size, 4, none⟩ = some (v4) := cell_of_row _ _ 4 _ _ _ hb
  have c5 : (w.alloc (.cells #[v0, v1, v2, v3, v4, v5, v6, v7, v8, v9, v10, v11, v12, v13, v14, v15, (.slice A rows.length c)] 78)).cell? ⟨w.heap.size, 5, none⟩ = some (v5) := cell_of_row _ _ 5 _ _ _ hb
  have c6 : (w.alloc (.cells #[v0, v1, v2, v3, v4, v5, v6, v7, v8, v9, v10, v11, v12, v13, v14, v15, (.slice A rows.length c)] 78)).cell? ⟨w.heap.size, 6, none⟩ = some (v6) := cell_of_row _ _ 6 _ _ _ hb
  have c7 : (w.alloc (.cells #[v0, v1, v2, v3, v4, v5, v6, v7, v8, v9, v10, v11, v12, v13, v14, v15, (.slice A rows.length c)] 78)).cell? ⟨w.heap.size, 7, none⟩ = some (v7) := cell_of_row _ _ 7 _ _ _ hb
  have c8 : (w.alloc (.cells #[v0, v1, v2, v3, v4, v5, v6, v7, v8, v9, v10, v11, v12, v13, v14, v15, (.slice A rows.length c)] 78)).cell? ⟨w.heap.size, 8, none⟩ = some (v8) := cell_of_row _ _ 8 _ _ _ hb
  have c9 : (w.alloc (.cells #[v0, v1, v2, v3, v4, v5, v6, v7, v8, v9, v10, v11, v12, v13, v14, v15, (.slice A rows.length c)] 78)).cell? ⟨w.heap.size, 9, none⟩ = some (v9) := cell_of_row _ _ 9 _ _ _ hb
  have c10 : (w.alloc (.cells #[v0, v1, v2, v3, v4, v5, v6, v7, v8, v9, v10, v11, v12, v13, v14, v15, (.slice A rows.length c)] 78)).cell? ⟨w.heap.size, 10, none⟩ = some (v10) := cell_of_row _ _ 10 _ _ _ hb
  have c11 : (w.alloc (.cells #[v0, v1, v2, v3, v4, v5, v6, v7, v8, v9, v10, v11, v12, v13, v14, v15, (.slice A rows.length c)] 78)).cell? ⟨w.heap.size, 11, none⟩ = some (v11) := cell_of_row _ _ 11 _ _ _ hb
  have c12 : (w.alloc (.cells #[v0, v1, v2, v3, v4, v5, v6, v7, v8, v9, v10, v11, v12, v13, v14, v15, (.slice A rows.length c)] 78)).cell? ⟨w.heap.size, 12, none⟩ = some (v12) := cell_of_row _ _ 12 _ _ _ hb
  have c13 : (w.alloc (.cells #[v0, v1, v2, v3, v4, v5, v6, v7, v8, v9, v10, v11, v12, v13, v14, v15, (.slice A rows.length c)] 78)).cell? ⟨w.heap.size, 13, none⟩ = some (v13) := cell_of_row _ _ 13 _ _ _ hb
  have c14 : (w.alloc (.cells #[v0, v1, v2, v3, v4, v5, v6, v7, v8, v9, v10, v11, v12, v13, v14, v15, (.slice A rows.length c)] 78)).cell? ⟨w.heap.size, 14, none⟩ = some (v14) := cell_of_row _ _ 14 _ _ _ hb
  have c15 : (w.alloc (.cells #[v0, v1, v2, v3, v4, v5, v6, v7, v8, v9, v10, v11, v12, v13, v14, v15, (.slice A rows.length c)] 78)).cell? ⟨w.heap.size, 15, none⟩ = some (v15) := cell_of_row _ _ 15 _ _ _ hb
  have c16 : (w.alloc (.cells #[v0, v1, v2, v3, v4, v5, v6, v7, v8, v9, v10, v11, v12, v13, v14, v15, (.slice A rows.length c)] 78)).cell? ⟨w.heap.size, 16, none⟩ = some ((.slice A rows.length c)) := cell_of_row _ _ 16 _ _ _ hb
  have HSZ0 := Lib.hid (show (Tryz.prog.info? 78).map (·.size) = some 17 by kernel_rfl)
  generalize hw1 : w.alloc (.cells #[v0, v1, v2, v3, v4, v5, v6, v7, v8, v9, v10, v11, v12, v13, v14, v15, (.slice A rows.length c)] 78) = w1 at hO0 c0 c1 c2 c3 c4 c5 c6 c7 c8 c9 c10 c11 c12 c13 c14 c15 c16
  clear hb hcl h7
  have HW := Lib.hid hw1; clear hw1
  have HO0 := Lib.hid hO0; clear hO0
  have C0 := Lib.hid c0; clear c0
  have C1 := Lib.hid c1; clear c1
  have C2 := Lib.hid c2; clear c2
  have C3 := Lib.hid c3; clear c3
  have C4 := Lib.hid c4; clear c4
  have C5 := Lib.hid c5; clear c5
  have C6 := Lib.hid c6; clear c6
  have C7 := Lib.hid c7; clear c7
  have C8 := Lib.hid c8; clear c8
  have C9 := Lib.hid c9; clear c9
  have C10 := Lib.hid c10; clear c10
  have C11 := Lib.hid c11; clear c11
  have C12 := Lib.hid c12; clear c12
  have C13 := Lib.hid c13; clear c13
  have C14 := Lib.hid c14; clear c14
  have C15 := Lib.hid c15; clear c15
  have C16 := Lib.hid c16; clear c16
  go_enter Tryz.func36, Tryz.ntmps36
  go_upto_region 1 with fail
  rw [HW.out]
  have hO0 := HO0.out; clear HO0 HW
  have c0 := C0.out; clear C0
  have c1 := C1.out; clear C1
  have c2 := C2.out; clear C2
  have c3 := C3.out; clear C3
  have c4 := C4.out; clear C4
  have c5 := C5.out; clear C5
  have c6 := C6.out; clear C6
  have c7 := C7.out; clear C7
  have c8 := C8.out; clear C8
  have c9 := C9.out; clear C9
  have c10 := C10.out; clear C10
  have c11 := C11.out; clear C11
  have c12 := C12.out; clear C12
  have c13 := C13.out; clear C13
  have c14 := C14.out; clear C14
  have c15 := C15.out; clear C15
  have c16 := C16.out; clear C16
  go_cut [3] (fun s3 wx => s3 = .string ⟨(L0 ++ C0).toArray⟩ ∧ wx.cell? ⟨w.heap.size, 16, none⟩ = some (.slice A rows.length c) ∧ Old w wx)
  case first =>
    go_region_held3 (fun w' => w'.cell? ⟨w.heap.size, 0, none⟩ = some (v0) ∧ w'.cell? ⟨w.heap.size, 1, none⟩ = some (v1) ∧ w'.cell? ⟨w.heap.size, 2, none⟩ = some (v2) ∧ w'.cell? ⟨w.heap.size, 3, none⟩ = some (v3) ∧ w'.cell? ⟨w.heap.size, 4, none⟩ = some (v4) ∧ w'.cell? ⟨w.heap.size, 5, none⟩ = some (v5) ∧ w'.cell? ⟨w.heap.size, 6, none⟩ = some (v6) ∧ w'.cell? ⟨w.heap.size, 7, none⟩ = some (v7) ∧ w'.cell? ⟨w.heap.size, 8, none⟩ = some (v8) ∧ w'.cell? ⟨w.heap.size, 9, none⟩ = some (v9) ∧ w'.cell? ⟨w.heap.size, 10, none⟩ = some (v10) ∧ w'.cell? ⟨w.heap.size, 11, none⟩ = some (v11) ∧ w'.cell? ⟨w.heap.size, 12, none⟩ = some (v12) ∧ w'.cell? ⟨w.heap.size, 13, none⟩ = some (v13) ∧ w'.cell? ⟨w.heap.size, 14, none⟩ = some (v14) ∧ w'.cell? ⟨w.heap.size, 15, none⟩ = some (v15) ∧ w'.cell? ⟨w.heap.size, 16, none⟩ = some ((.slice A rows.length c)) ∧ Old w w')
      (((try go_split_ands); (try dsimp only); (try simp only [World.cell?_drew] at *); (repeat' apply And.intro) <;> (with_reducible first | assumption | exact Old.drew (by assumption) | fail)))
      (first
        | (go_at_call 81; go_split_ands; refine (KP.out _ (by assumption)).mono ?_; rintro e w9 ⟨rfl, hO9⟩; have hP9 : Old w w9 := Old.none (by assumption) hO9; have d0 : w9.cell? ⟨w.heap.size, 0, none⟩ = some (v0) := Old.cell hO9 (by assumption); have d1 : w9.cell? ⟨w.heap.size, 1, none⟩ = some (v1) := Old.cell hO9 (by assumption); have d2 : w9.cell? ⟨w.heap.size, 2, none⟩ = some (v2) := Old.cell hO9 (by assumption); have d3 : w9.cell? ⟨w.heap.size, 3, none⟩ = some (v3) := Old.cell hO9 (by assumption); have d4 : w9.cell? ⟨w.heap.size, 4, none⟩ = some (v4) := Old.cell hO9 (by assumption); have d5 : w9.cell? ⟨w.heap.size, 5, none⟩ = some (v5) := Old.cell hO9 (by assumption); have d6 : w9.cell? ⟨w.heap.size, 6, none⟩ = some (v6) := Old.cell hO9 (by assumption); have d7 : w9.cell? ⟨w.heap.size, 7, none⟩ = some (v7) := Old.cell hO9 (by assumption); have d8 : w9.cell? ⟨w.heap.size, 8, none⟩ = some (v8) := Old.cell hO9 (by assumption); have d9 : w9.cell? ⟨w.heap.size, 9, none⟩ = some (v9) := Old.cell hO9 (by assumption); have d10 : w9.cell? ⟨w.heap.size, 10, none⟩ = some (v10) := Old.cell hO9 (by assumption); have d11 : w9.cell? ⟨w.heap.size, 11, none⟩ = some (v11) := Old.cell hO9 (by assumption); have d12 : w9.cell? ⟨w.heap.size, 12, none⟩ = some (v12) := Old.cell hO9 (by assumption); have d13 : w9.cell? ⟨w.heap.size, 13, none⟩ = some (v13) := Old.cell hO9 (by assumption); have d14 : w9.cell? ⟨w.heap.size, 14, none⟩ = some (v14) := Old.cell hO9 (by assumption); have d15 : w9.cell? ⟨w.heap.size, 15, none⟩ = some (v15) := Old.cell hO9 (by assumption); have d16 : w9.cell? ⟨w.heap.size, 16, none⟩ = some ((.slice A rows.length c)) := Old.cell hO9 (by assumption); clear hO9)
        | (go_at_call 23; go_split_ands; refine (KC.out _).mono ?_; rintro e w9 ⟨rfl, hO9⟩; have hP9 : Old w w9 := Old.none (by assumption) hO9; have d0 : w9.cell? ⟨w.heap.size, 0, none⟩ = some (v0) := Old.cell hO9 (by assumption); have d1 : w9.cell? ⟨w.heap.size, 1, none⟩ = some (v1) := Old.cell hO9 (by assumption); have d2 : w9.cell? ⟨w.heap.size, 2, none⟩ = some (v2) := Old.cell hO9 (by assumption); have d3 : w9.cell? ⟨w.heap.size, 3, none⟩ = some (v3) := Old.cell hO9 (by assumption); have d4 : w9.cell? ⟨w.heap.size, 4, none⟩ = some (v4) := Old.cell hO9 (by assumption); have d5 : w9.cell? ⟨w.heap.size, 5, none⟩ = some (v5) := Old.cell hO9 (by assumption); have d6 : w9.cell? ⟨w.heap.size, 6, none⟩ = some (v6) := Old.cell hO9 (by assumption); have d7 : w9.cell? ⟨w.heap.size, 7, none⟩ = some (v7) := Old.cell hO9 (by assumption); have d8 : w9.cell? ⟨w.heap.size, 8, none⟩ = some (v8) := Old.cell hO9 (by assumption); have d9 : w9.cell? ⟨w.heap.size, 9, none⟩ = some (v9) := Old.cell hO9 (by assumption); have d10 : w9.cell? ⟨w.heap.size, 10, none⟩ = some (v10) := Old.cell hO9 (by assumption); have d11 : w9.cell? ⟨w.heap.size, 11, none⟩ = some (v11) := Old.cell hO9 (by assumption); have d12 : w9.cell? ⟨w.heap.size, 12, none⟩ = some (v12) := Old.cell hO9 (by assumption); have d13 : w9.cell? ⟨w.heap.size, 13, none⟩ = some (v13) := Old.cell hO9 (by assumption); have d14 : w9.cell? ⟨w.heap.size, 14, none⟩ = some (v14) := Old.cell hO9 (by assumption); have d15 : w9.cell? ⟨w.heap.size, 15, none⟩ = some (v15) := Old.cell hO9 (by assumption); have d16 : w9.cell? ⟨w.heap.size, 16, none⟩ = some ((.slice A rows.length c)) := Old.cell hO9 (by assumption); clear hO9))
    all_goals go_wp2_with fail
    all_goals go_meet
    all_goals exact ⟨rfl, by assumption, by assumption⟩
  case rest =>
  obtain ⟨rfl, d7, hOX⟩ := hcut
  clear hO0 c0 c1 c2 c3 c4 c5 c6 c7 c8 c9 c10 c11 c12 c13 c14 c15 c16 q0 KP KC
  have HD7 := Lib.hid d7; clear d7
  have HOX := Lib.hid hOX; clear hOX
  go_wp2_with fail
  go_loopw [3, 4] (fun sv iv wr => LaidRel ansF (L0 ++ C0) wc x.subs sv iv wr) (fun _ iv _ => x.subs.length - (intOf iv).toNat)
  case atStart => exact ⟨0, rfl, Nat.zero_le _, by rw [layN_zero], Old.refl _⟩
  case round =>
    obtain ⟨k, rfl, hk, rfl, hO⟩ := hrel.ex
    clear hrel
    have c7 := Old.cell hO HD7.out
    by_cases hlt : k < x.subs.length
    · have hkr : k < rows.length := by omega
      rcases hat with h0 | ⟨g, off, rfl, hok, hg, hc⟩
      · simp [h0.1] at hkr
      have hOw : Old w wr := HOX.out.none hO
      have hEk := ansE_ok.keep (HEL.out k hlt hkr) hOw (disj_none _)
      have hcell : wr.rangeAt g (off + k * 17) rows[k] := fun j v hv => by
        obtain ⟨hj1, hj2⟩ := List.getElem?_eq_some_iff.1 hv
        rw [← hj2, ← (hc k hkr).2 j hj1]; exact World.cell?_of_block (hOw.block g hg id)
      have hle := layN_le (f := ansF) hlt
      have HTK := Lib.hid (layN_take (f := ansF) hlt)
      have HKK := Lib.hid (KN.out wr k rows[k] hlt hEk)
      have HLR := Lib.hid (ansE_flat hEk).1
      have HRR := Lib.hid hcell
      clear hcell hEk
      generalize hrk : rows[k] = r at HKK HLR HRR
      generalize hxk : x.subs[k] = y at hle HTK HKK
      clear hrk hxk hc
      have hkl : (k : Int) < (rows.length : Int) := by omega
      obtain ⟨L1, hL1⟩ : ∃ l : List UInt8, ansF.lay y = l := ⟨_, rfl⟩
      rw [hL1] at hle HTK HKK
      obtain ⟨D, hD⟩ : ∃ D, (L0 ++ C0) ++ layN ansF (x.subs.take k) = D := ⟨_, rfl⟩
      have hDl : D.length + L1.length ≤ 1000000000000000 := by
        rw [← hD]; simp only [List.length_append]; omega
      have HF : Hid (D ++ L1 = (L0 ++ C0) ++ layN ansF (x.subs.take (k + 1))) := Lib.hid (by rw [← hD, HTK.out, List.append_assoc])
      have q1 : ∀ W, Sem.run Tryz.prog (Op.stringOp .add ⟨D.toArray⟩ ⟨L1.toArray⟩) W = .ok (.string ⟨(D ++ L1).toArray⟩) W := fun W => add_str _ _ _ hDl W
      rw [hD]
      clear hD hDl hle HTK hL1 hOw
      go_wp2_with (first
        | (refine wpList_load_mid rfl 78 (.tmp 23) rfl g (off + k * 17) rfl r _ HRR.out Tryz.underlying78 rfl (by rw [HLR.out]; exact HSZ0.out) ?_)
        | (go_at_call 81; refine HKK.out.mono ?_; rintro e w9 ⟨rfl, hO9⟩; have HP := Lib.hid (hO.none hO9); clear hO9))
      go_roundw
      case rel => exact ⟨k + 1, by go_num, hlt, by rw [HF.out], HP.out⟩
      case measure => simp [intOf]; omega
    · have hkl : ¬ (k : Int) < (rows.length : Int) := by omega
      obtain rfl : k = x.subs.length := by omega
      have ht : x.subs.take x.subs.length = x.subs := List.take_length
      rw [ht]
      have HO := Lib.hid hO; clear hO
      go_wp2_with fail
      go_ret
      exact ⟨rfl, HOX.out.none HO.out⟩
end Go.Proofs.YtpmemcpfoapjmaaGreat
