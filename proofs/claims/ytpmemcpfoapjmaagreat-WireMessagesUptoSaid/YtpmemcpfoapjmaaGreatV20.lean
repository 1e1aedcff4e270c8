/- The document's own answers of layer 2: a request, laid. -/
import Derived.Test.YtpmemcpfoapjmaaGreatV19
import Derived.Test.YtpmemcpfoapjmaaGreatV06
namespace Go.Proofs.YtpmemcpfoapjmaaGreat
open Go.ChangeShapes Go.WideShapes Go.ChangeAt Go.RowKit
set_option linter.unusedVariables false

theorem split_req {l : List Value} (h : l.length = 10) : ∃ v0 v1 v2 v3 v4 v5 v6 v7 v8 v9, l = [v0, v1, v2, v3, v4, v5, v6, v7, v8, v9] := by
  match l, h with
  | [v0, v1, v2, v3, v4, v5, v6, v7, v8, v9], _ => exact ⟨v0, v1, v2, v3, v4, v5, v6, v7, v8, v9, rfl⟩

set_option maxRecDepth 100000 in
set_option maxHeartbeats 4000000 in
theorem refput_req (x : Req) (cs : List Value) (ok : Nat → Prop) (w : World) (hE : reqE w ok cs x) (hl : (reqF.lay x).length ≤ 1000000000000000) :
    Calls Tryz.prog 25 #[.agg cs.toArray] w (OldStr w (reqF.lay x)) := by
  obtain ⟨vsubs, varmed, hQ, hL, hM⟩ := hE
  have hP : oper1E w ok cs x.op := ⟨vsubs, varmed, hQ⟩
  have hcl : cs.length = 10 := (oper1E_flat hP).1
  have h7 : cs[8]? = some vsubs := by obtain ⟨vacl, rfl, _⟩ := hQ; rfl
  have h8 : cs[9]? = some varmed := by obtain ⟨vacl, rfl, _⟩ := hQ; rfl
  clear hQ
  obtain ⟨v0, v1, v2, v3, v4, v5, v6, v7, v8, v9, rfl⟩ := split_req hcl
  obtain rfl : v8 = vsubs := by simpa using h7
  obtain rfl : v9 = varmed := by simpa using h8
  obtain ⟨rows, ⟨A, c, rfl, hlc, hm, hat⟩, hlen, hel⟩ := hL
  obtain ⟨rows2, ⟨A2, cz, rfl, hlc2, hm2, hat2⟩, hlen2, hel2⟩ := hM
  unfold maxLen at hm hm2
  have hlay : reqF.lay x = oper1F.lay x.op ++ (sev rows.length ++ (layN oper1F x.subs ++ (sev rows2.length ++ layN armedF x.armed))) := by
    rw [hlen, hlen2]; simp only [reqF, isoF, seqF, listF, List.append_assoc]
  rw [hlay] at hl ⊢
  simp only [List.length_append] at hl
  have hn1 : rows.length ≤ x.subs.length := by omega
  have hn2 : x.subs.length ≤ rows.length := by omega
  have hn3 : rows2.length ≤ x.armed.length := by omega
  have hn4 : x.armed.length ≤ rows2.length := by omega
  clear hlen hlen2 hlay
  have KP := Lib.hid (show ∀ W, Old w W → Calls Tryz.prog 64 #[.agg #[v0, v1, v2, v3, v4, v5, v6, v7, (.slice A rows.length c), (.slice A2 rows2.length cz)]] W (OldStr W (oper1F.lay x.op)) from fun W h => refput_op x.op _ ok W (oper1E_ok.keep hP h (disj_none _)) (by omega))
  have KN := Lib.hid (show ∀ W k (r : List Value) (h1 : k < x.subs.length), oper1E W ok r (x.subs[k]'h1) → Calls Tryz.prog 64 #[.agg r.toArray] W (OldStr W (oper1F.lay (x.subs[k]'h1))) from fun W k r h1 h => refput_op _ r ok W h (by
    have := layN_le (f := oper1F) h1
    omega))
  have KC := Lib.hid (show ∀ (m : Nat) W, m ≤ 9223372036854775807 → Calls Tryz.prog 23 #[.int .i64 (m : Nat)] W (OldStr W (sev m)) from fun m W hm => by
    have h := refcount_any (m : Nat) W (by unfold I64; omega)
    rwa [Int.toNat_natCast] at h)
  have HEL := Lib.hid hel; clear hel
  have HEL2 := Lib.hid hel2; clear hel2
  obtain ⟨L0, hL0⟩ : ∃ l : List UInt8, oper1F.lay x.op = l := ⟨_, rfl⟩
  obtain ⟨C0, hC0⟩ : ∃ l : List UInt8, sev rows.length = l := ⟨_, rfl⟩
  obtain ⟨C1, hC1⟩ : ∃ l : List UInt8, sev rows2.length = l := ⟨_, rfl⟩
  have KC0 := Lib.hid (fun W => KC.out rows.length W (by omega))
  have KC1 := Lib.hid (fun W => KC.out rows2.length W (by omega))
  rw [hL0] at KP hl ⊢
  rw [hC0] at KC0 hl ⊢
  rw [hC1] at KC1 hl ⊢
  have q0 : ∀ W, Sem.run Tryz.prog (Op.stringOp .add ⟨L0.toArray⟩ ⟨C0.toArray⟩) W = .ok (.string ⟨(L0 ++ C0).toArray⟩) W := fun W => add_str _ _ _ (by omega) W
  clear hL0 hC0 hC1 hP KC
  have hO0 : Old w (w.alloc (.cells #[v0, v1, v2, v3, v4, v5, v6, v7, (.slice A rows.length c), (.slice A2 rows2.length cz)] 28)) := (Old.refl w).make _
  have hb := heap_alloc_new w (.cells #[v0, v1, v2, v3, v4, v5, v6, v7, (.slice A rows.length c), (.slice A2 rows2.length cz)] 28)
  have c0 : (w.alloc (.cells #[v0, v1, v2, v3, v4, v5, v6, v7, (.slice A rows.length c), (.slice A2 rows2.length cz)] 28)).cell? ⟨w.heap.size, 0, none⟩ = some (v0) := cell_of_row _ _ 0 _ _ _ hb
  have c1 : (w.alloc (.cells #[v0, v1, v2, v3, v4, v5, v6, v7, (.slice A rows.length c), (.slice A2 rows2.length cz)] 28)).cell? ⟨w.heap.size, 1, none⟩ = some (v1) := cell_of_row _ _ 1 _ _ _ hb
  have c2 : (w.alloc (.cells #[v0, v1, v2, v3, v4, v5, v6, v7, (.slice A rows.length c), (.slice A2 rows2.length cz)] 28)).cell? ⟨w.heap.size, 2, none⟩ = some (v2) := cell_of_row _ _ 2 _ _ _ hb
  have c3 : (w.alloc (.cells #[v0, v1, v2, v3, v4, v5, v6, v7, (.slice A rows.length c), (.slice A2 rows2.length cz)] 28)).cell? ⟨w.heap.size, 3, none⟩ = some (v3) := cell_of_row _ _ 3 _ _ _ hb
  have c4 : (w.alloc (.cells #[v0, v1, v2, v3, v4, v5, v6, v7, (.slice A rows.length c), (.slice A2 rows2.length cz)] 28)).cell? ⟨w.heap.size, 4, none⟩ = some (v4) := cell_of_row _ _ 4 _ _ _ hb
  have c5 : (w.alloc (.cells #[v0, v1, v2, v3, v4, v5, v6, v7, (.slice A rows.length c), (.slice A2 rows2.length cz)] 28)).cell? ⟨w.heap.size, 5, none⟩ = some (v5) := cell_of_row _ _ 5 _ _ _ hb
  have c6 : (w.alloc (.cells #[v0, v1, v2, v3, v4, v5, v6, v7, (.slice A rows.length c), (.slice A2 rows2.length cz)] 28)).cell? ⟨w.heap.size, 6, none⟩ = some (v6) := cell_of_row _ _ 6 _ _ _ hb
  have c7 : (w.alloc (.cells #[v0, v1, v2, v3, v4, v5, v6, v7, (.slice A rows.length c), (.slice A2 rows2.length cz)] 28)).cell? ⟨w.heap.size, 7, none⟩ = some (v7) := cell_of_row _ _ 7 _ _ _ hb
  have c8 : (w.alloc (.cells #[v0, v1, v2, v3, v4, v5, v6, v7, (.slice A rows.length c), (.slice A2 rows2.length cz)] 28)).cell? ⟨w.heap.size, 8, none⟩ = some ((.slice A rows.length c)) := cell_of_row _ _ 8 _ _ _ hb
  have c9 : (w.alloc (.cells #[v0, v1, v2, v3, v4, v5, v6, v7, (.slice A rows.length c), (.slice A2 rows2.length cz)] 28)).cell? ⟨w.heap.size, 9, none⟩ = some ((.slice A2 rows2.length cz)) := cell_of_row _ _ 9 _ _ _ hb
  have HSZ0 := Lib.hid (show (Tryz.prog.info? 28).map (·.size) = some 10 by kernel_rfl)
  have HSZ2 := Lib.hid (show (Tryz.prog.info? 73).map (·.size) = some 5 by kernel_rfl)
  generalize hw1 : w.alloc (.cells #[v0, v1, v2, v3, v4, v5, v6, v7, (.slice A rows.length c), (.slice A2 rows2.length cz)] 28) = w1 at hO0 c0 c1 c2 c3 c4 c5 c6 c7 c8 c9
  clear hb hcl h7 h8
  have HW := Lib.hid hw1; clear hw1
  have HO0 := Lib.hid hO0; clear hO0
  have C0 := Lib.hid c0; clear c0
  have C1 := Lib.hid c1; clear c1
  have C2 := Lib.hid c2; clear c2
  have C3 := Lib.hid c3; clear c3
  have C4 := Lib.hid c4; clear c4
  have C5 := Lib.hid c5; clear c5
  have C6 := Lib.hid c6; clear c6
  have C7 := Lib.hid c7; clear c7
  have C8 := Lib.hid c8; clear c8
  have C9 := Lib.hid c9; clear c9
  go_enter Tryz.func25, Tryz.ntmps25
  go_upto_region 1 with fail
  rw [HW.out]
  have hO0 := HO0.out; clear HO0 HW
  have c0 := C0.out; clear C0
  have c1 := C1.out; clear C1
  have c2 := C2.out; clear C2
  have c3 := C3.out; clear C3
  have c4 := C4.out; clear C4
  have c5 := C5.out; clear C5
  have c6 := C6.out; clear C6
  have c7 := C7.out; clear C7
  have c8 := C8.out; clear C8
  have c9 := C9.out; clear C9
  go_cut [3] (fun s3 wx => s3 = .string ⟨(L0 ++ C0).toArray⟩ ∧ wx.cell? ⟨w.heap.size, 8, none⟩ = some (.slice A rows.length c) ∧ wx.cell? ⟨w.heap.size, 9, none⟩ = some (.slice A2 rows2.length cz) ∧ Old w wx)
  case first =>
    go_region_held3 (fun w' => w'.cell? ⟨w.heap.size, 0, none⟩ = some (v0) ∧ w'.cell? ⟨w.heap.size, 1, none⟩ = some (v1) ∧ w'.cell? ⟨w.heap.size, 2, none⟩ = some (v2) ∧ w'.cell? ⟨w.heap.size, 3, none⟩ = some (v3) ∧ w'.cell? ⟨w.heap.size, 4, none⟩ = some (v4) ∧ w'.cell? ⟨w.heap.size, 5, none⟩ = some (v5) ∧ w'.cell? ⟨w.heap.size, 6, none⟩ = some (v6) ∧ w'.cell? ⟨w.heap.size, 7, none⟩ = some (v7) ∧ w'.cell? ⟨w.heap.size, 8, none⟩ = some ((.slice A rows.length c)) ∧ w'.cell? ⟨w.heap.size, 9, none⟩ = some ((.slice A2 rows2.length cz)) ∧ Old w w')
      (((try go_split_ands); (try dsimp only); (try simp only [World.cell?_drew] at *); (repeat' apply And.intro) <;> (with_reducible first | assumption | exact Old.drew (by assumption) | fail)))
      (first
        | (go_at_call 64; go_split_ands; refine (KP.out _ (by assumption)).mono ?_; rintro e w9 ⟨rfl, hO9⟩; have hP9 : Old w w9 := Old.none (by assumption) hO9; have d0 : w9.cell? ⟨w.heap.size, 0, none⟩ = some (v0) := Old.cell hO9 (by assumption); have d1 : w9.cell? ⟨w.heap.size, 1, none⟩ = some (v1) := Old.cell hO9 (by assumption); have d2 : w9.cell? ⟨w.heap.size, 2, none⟩ = some (v2) := Old.cell hO9 (by assumption); have d3 : w9.cell? ⟨w.heap.size, 3, none⟩ = some (v3) := Old.cell hO9 (by assumption); have d4 : w9.cell? ⟨w.heap.size, 4, none⟩ = some (v4) := Old.cell hO9 (by assumption); have d5 : w9.cell? ⟨w.heap.size, 5, none⟩ = some (v5) := Old.cell hO9 (by assumption); have d6 : w9.cell? ⟨w.heap.size, 6, none⟩ = some (v6) := Old.cell hO9 (by assumption); have d7 : w9.cell? ⟨w.heap.size, 7, none⟩ = some (v7) := Old.cell hO9 (by assumption); have d8 : w9.cell? ⟨w.heap.size, 8, none⟩ = some ((.slice A rows.length c)) := Old.cell hO9 (by assumption); have d9 : w9.cell? ⟨w.heap.size, 9, none⟩ = some ((.slice A2 rows2.length cz)) := Old.cell hO9 (by assumption); clear hO9)
        | (go_at_call 23; go_split_ands; refine (KC0.out _).mono ?_; rintro e w9 ⟨rfl, hO9⟩; have hP9 : Old w w9 := Old.none (by assumption) hO9; have d0 : w9.cell? ⟨w.heap.size, 0, none⟩ = some (v0) := Old.cell hO9 (by assumption); have d1 : w9.cell? ⟨w.heap.size, 1, none⟩ = some (v1) := Old.cell hO9 (by assumption); have d2 : w9.cell? ⟨w.heap.size, 2, none⟩ = some (v2) := Old.cell hO9 (by assumption); have d3 : w9.cell? ⟨w.heap.size, 3, none⟩ = some (v3) := Old.cell hO9 (by assumption); have d4 : w9.cell? ⟨w.heap.size, 4, none⟩ = some (v4) := Old.cell hO9 (by assumption); have d5 : w9.cell? ⟨w.heap.size, 5, none⟩ = some (v5) := Old.cell hO9 (by assumption); have d6 : w9.cell? ⟨w.heap.size, 6, none⟩ = some (v6) := Old.cell hO9 (by assumption); have d7 : w9.cell? ⟨w.heap.size, 7, none⟩ = some (v7) := Old.cell hO9 (by assumption); have d8 : w9.cell? ⟨w.heap.size, 8, none⟩ = some ((.slice A rows.length c)) := Old.cell hO9 (by assumption); have d9 : w9.cell? ⟨w.heap.size, 9, none⟩ = some ((.slice A2 rows2.length cz)) := Old.cell hO9 (by assumption); clear hO9))
    all_goals go_wp2_with fail
    all_goals go_meet
    all_goals exact ⟨rfl, by assumption, by assumption, by assumption⟩
  case rest =>
  obtain ⟨rfl, d7, d8, hOX⟩ := hcut
  clear hO0 c0 c1 c2 c3 c4 c5 c6 c7 c8 c9 q0 KP KC0
  have HD7 := Lib.hid d7; clear d7
  have HD8 := Lib.hid d8; clear d8
  have HOX := Lib.hid hOX; clear hOX
  go_wp2_with fail
  go_loopw [3, 4] (fun sv iv wr => LaidRel oper1F (L0 ++ C0) wc x.subs sv iv wr) (fun _ iv _ => x.subs.length - (intOf iv).toNat)
  case atStart => exact ⟨0, rfl, Nat.zero_le _, by rw [layN_zero], Old.refl _⟩
  case round =>
    obtain ⟨k, rfl, hk, rfl, hO⟩ := hrel.ex
    clear hrel
    have c7 := Old.cell hO HD7.out
    by_cases hlt : k < x.subs.length
    · have hkr : k < rows.length := by omega
      rcases hat with h0 | ⟨g, off, rfl, hok, hg, hc⟩
      · simp [h0.1] at hkr
      have hOw : Old w wr := HOX.out.none hO
      have hEk := oper1E_ok.keep (HEL.out k hlt hkr) hOw (disj_none _)
      have hcell : wr.rangeAt g (off + k * 10) rows[k] := fun j v hv => by
        obtain ⟨hj1, hj2⟩ := List.getElem?_eq_some_iff.1 hv
        rw [← hj2, ← (hc k hkr).2 j hj1]; exact World.cell?_of_block (hOw.block g hg id)
      have hle := layN_le (f := oper1F) hlt
      have HTK := Lib.hid (layN_take (f := oper1F) hlt)
      have HKK := Lib.hid (KN.out wr k rows[k] hlt hEk)
      have HLR := Lib.hid (oper1E_flat hEk).1
      have HRR := Lib.hid hcell
      clear hcell hEk
      generalize hrk : rows[k] = r at HKK HLR HRR
      generalize hxk : x.subs[k] = y at hle HTK HKK
      clear hrk hxk hc
      have hkl : (k : Int) < (rows.length : Int) := by omega
      obtain ⟨L1, hL1⟩ : ∃ l : List UInt8, oper1F.lay y = l := ⟨_, rfl⟩
      rw [hL1] at hle HTK HKK
      obtain ⟨D, hD⟩ : ∃ D, (L0 ++ C0) ++ layN oper1F (x.subs.take k) = D := ⟨_, rfl⟩
      have hDl : D.length + L1.length ≤ 1000000000000000 := by
        rw [← hD]; simp only [List.length_append]; omega
      have HF : Hid (D ++ L1 = (L0 ++ C0) ++ layN oper1F (x.subs.take (k + 1))) := Lib.hid (by rw [← hD, HTK.out, List.append_assoc])
      have q1 : ∀ W, Sem.run Tryz.prog (Op.stringOp .add ⟨D.toArray⟩ ⟨L1.toArray⟩) W = .ok (.string ⟨(D ++ L1).toArray⟩) W := fun W => add_str _ _ _ hDl W
      rw [hD]
      clear hD hDl hle HTK hL1 hOw
      go_wp2_with (first
        | (refine wpList_load_mid rfl 28 (.tmp 25) rfl g (off + k * 10) rfl r _ HRR.out Tryz.underlying28 rfl (by rw [HLR.out]; exact HSZ0.out) ?_)
        | (go_at_call 64; refine HKK.out.mono ?_; rintro e w9 ⟨rfl, hO9⟩; have HP := Lib.hid (hO.none hO9); clear hO9))
      go_roundw
      case rel => exact ⟨k + 1, by go_num, hlt, by rw [HF.out], HP.out⟩
      case measure => simp [intOf]; omega
    · have hkl : ¬ (k : Int) < (rows.length : Int) := by omega
      obtain rfl : k = x.subs.length := by omega
      have ht : x.subs.take x.subs.length = x.subs := List.take_length
      rw [ht]
      clear ht hlt
      have HOA := Lib.hid (HOX.out.none hO)
      have c9 := Old.cell hO HD8.out
      have HC9 := Lib.hid c9; clear c9
      clear HD7 HD8 HOX KN HEL hO
      obtain ⟨D, hD⟩ : ∃ D, (L0 ++ C0) ++ layN oper1F x.subs = D := ⟨_, rfl⟩
      have hDl : D.length + (C1.length + (layN armedF x.armed).length) ≤ 1000000000000000 := by
        rw [← hD]; simp only [List.length_append]; omega
      have HDD := Lib.hid hD
      rw [hD]
      clear hD hl
      have c9 := HC9.out
      have q2 : ∀ W, Sem.run Tryz.prog (Op.stringOp .add ⟨D.toArray⟩ ⟨C1.toArray⟩) W = .ok (.string ⟨(D ++ C1).toArray⟩) W := fun W => add_str _ _ _ (by omega) W
      go_wp2_with fail
      refine (KC1.out _).mono ?_
      rintro e w5 ⟨rfl, hO5⟩
      have HO5 := Lib.hid hO5
      clear hO5
      go_wp2_with fail
      clear q2 c9 KC1 c7 hkl
      have HC9b := Lib.hid (Old.cell HO5.out HC9.out)
      have HOB := Lib.hid (HOA.out.none HO5.out)
      clear HC9 HOA HO5
      go_loopw [3, 5] (fun sv iv wr => LaidRel armedF (D ++ C1) w5 x.armed sv iv wr) (fun _ iv _ => x.armed.length - (intOf iv).toNat)
      case atStart => exact ⟨0, rfl, Nat.zero_le _, by rw [layN_zero], Old.refl _⟩
      case round =>
        obtain ⟨k, rfl, hk2, rfl, hO⟩ := hrel.ex
        clear hrel
        have c9 := Old.cell hO HC9b.out
        by_cases hlt : k < x.armed.length
        · have hkr : k < rows2.length := by omega
          rcases hat2 with h0 | ⟨g, off, rfl, hok, hg, hc⟩
          · simp [h0.1] at hkr
          have hOw : Old w wr := HOB.out.none hO
          have hEk := armedE_ok.keep (HEL2.out k hlt hkr) hOw (disj_none _)
          have hcell : wr.rangeAt g (off + k * 5) rows2[k] := fun j v hv => by
            obtain ⟨hj1, hj2⟩ := List.getElem?_eq_some_iff.1 hv
            rw [← hj2, ← (hc k hkr).2 j hj1]; exact World.cell?_of_block (hOw.block g hg id)
          have hle := layN_le (f := armedF) hlt
          have HTK := Lib.hid (layN_take (f := armedF) hlt)
          generalize hrk : rows2[k] = r at hcell hEk
          generalize hxk : x.armed[k] = y at hle HTK hEk
          clear hrk hxk hc
          obtain ⟨rfl, h0, h1, h2, h3, h4⟩ := hEk
          have HRR := Lib.hid hcell; clear hcell
          have hkl : (k : Int) < (rows2.length : Int) := by omega
          have hla : armedF.lay y = sev (zz y.kind) ++ ((sev y.path.size ++ y.path.data.toList) ++ (sev (zz y.czxid) ++ (sev (zz y.mzxid) ++ sev (zz y.pzxid)))) := by simp only [armedF, isoF, seqF, lay_num, lay_text, List.append_assoc]
          have K0 := Lib.hid (show ∀ W, Calls Tryz.prog 62 #[.int .i64 y.kind] W (OldStr W (sev (zz y.kind))) from fun W => refnum_any _ W h0)
          have K1 := Lib.hid (show ∀ W, Calls Tryz.prog 24 #[.string y.path] W (OldStr W (sev y.path.size ++ y.path.data.toList)) from fun W => reftext_any _ W (by unfold Str at h1; omega))
          have K2 := Lib.hid (show ∀ (g : Nat) (W : World), W.heap[g]? = some (.cells #[.int .i64 y.czxid, .int .i64 y.mzxid, .int .i64 y.pzxid] 3 (0, 0)) → Calls Tryz.prog 22 #[.slice (some ⟨g, 0, none⟩) 3 3] W (OldStr W (sev (zz y.czxid) ++ (sev (zz y.mzxid) ++ sev (zz y.pzxid)))) from fun g W hb => refnums3 _ _ _ g W hb h2 h3 h4)
          obtain ⟨M0, hM0⟩ : ∃ l : List UInt8, sev (zz y.kind) = l := ⟨_, rfl⟩
          obtain ⟨M1, hM1⟩ : ∃ l : List UInt8, sev y.path.size ++ y.path.data.toList = l := ⟨_, rfl⟩
          obtain ⟨M2, hM2⟩ : ∃ l : List UInt8, sev (zz y.czxid) ++ (sev (zz y.mzxid) ++ sev (zz y.pzxid)) = l := ⟨_, rfl⟩
          rw [hM0, hM1, hM2] at hla
          rw [hM0] at K0
          rw [hM1] at K1
          rw [hM2] at K2
          rw [hla] at hle HTK
          simp only [List.length_append] at hle
          obtain ⟨G, hG⟩ : ∃ G, (D ++ C1) ++ layN armedF (x.armed.take k) = G := ⟨_, rfl⟩
          have hGl : G.length + (M0.length + (M1.length + M2.length)) ≤ 1000000000000000 := by
            rw [← hG]; simp only [List.length_append]; omega
          have HF : Hid (G ++ (M0 ++ (M1 ++ M2)) = (D ++ C1) ++ layN armedF (x.armed.take (k + 1))) := Lib.hid (by rw [← hG, HTK.out, List.append_assoc])
          have q3 : ∀ W, Sem.run Tryz.prog (Op.stringOp .add ⟨G.toArray⟩ ⟨M0.toArray⟩) W = .ok (.string ⟨(G ++ M0).toArray⟩) W := fun W => add_str _ _ _ (by omega) W
          have q4 : ∀ W, Sem.run Tryz.prog (Op.stringOp .add ⟨(G ++ M0).toArray⟩ ⟨M1.toArray⟩) W = .ok (.string ⟨(G ++ (M0 ++ M1)).toArray⟩) W := fun W => by
            rw [add_str _ _ _ (by simp only [List.length_append]; omega) W, List.append_assoc]
          have q5 : ∀ W, Sem.run Tryz.prog (Op.stringOp .add ⟨(G ++ (M0 ++ M1)).toArray⟩ ⟨M2.toArray⟩) W = .ok (.string ⟨(G ++ (M0 ++ (M1 ++ M2))).toArray⟩) W := fun W => by
            rw [add_str _ _ _ (by simp only [List.length_append]; omega) W, List.append_assoc, List.append_assoc]
          rw [hG]
          clear hG hGl hle HTK hM0 hM1 hM2 hla h0 h1 h2 h3 h4 hOw
          have hb2 := heap_alloc_new wr (.cells ([.int .i64 y.kind, .string y.path, .int .i64 y.czxid, .int .i64 y.mzxid, .int .i64 y.pzxid] : List Value).toArray 73)
          have HB2 := Lib.hid hb2; clear hb2
          have HO := Lib.hid (hO.make (.cells ([.int .i64 y.kind, .string y.path, .int .i64 y.czxid, .int .i64 y.mzxid, .int .i64 y.pzxid] : List Value).toArray 73))
          go_upto_region 11 with (first
            | (refine wpList_load_mid rfl 73 (.tmp 45) rfl g (off + k * 5) rfl [.int .i64 y.kind, .string y.path, .int .i64 y.czxid, .int .i64 y.mzxid, .int .i64 y.pzxid] _ HRR.out Tryz.underlying73 rfl HSZ2.out ?_)
            | (refine wpList_store_new wr rfl 73 _ _ rfl _ [.int .i64 y.kind, .string y.path, .int .i64 y.czxid, .int .i64 y.mzxid, .int .i64 y.pzxid] rfl rfl HSZ2.out rfl (by simp [Value.oneCell']) ?_))
          clear c9
          have hON := HO.out
          obtain ⟨wD, hwD⟩ : ∃ wD, w5 = wD := ⟨_, rfl⟩
          rw [hwD] at hON
          have A0 : (wr.alloc (.cells ([.int .i64 y.kind, .string y.path, .int .i64 y.czxid, .int .i64 y.mzxid, .int .i64 y.pzxid] : List Value).toArray 73)).cell? ⟨wr.heap.size, 0, none⟩ = some (.int .i64 y.kind) := cell_of_row _ _ 0 _ _ _ HB2.out
          have A1 : (wr.alloc (.cells ([.int .i64 y.kind, .string y.path, .int .i64 y.czxid, .int .i64 y.mzxid, .int .i64 y.pzxid] : List Value).toArray 73)).cell? ⟨wr.heap.size, 1, none⟩ = some (.string y.path) := cell_of_row _ _ 1 _ _ _ HB2.out
          have A2x : (wr.alloc (.cells ([.int .i64 y.kind, .string y.path, .int .i64 y.czxid, .int .i64 y.mzxid, .int .i64 y.pzxid] : List Value).toArray 73)).cell? ⟨wr.heap.size, 2, none⟩ = some (.int .i64 y.czxid) := cell_of_row _ _ 2 _ _ _ HB2.out
          have A3 : (wr.alloc (.cells ([.int .i64 y.kind, .string y.path, .int .i64 y.czxid, .int .i64 y.mzxid, .int .i64 y.pzxid] : List Value).toArray 73)).cell? ⟨wr.heap.size, 3, none⟩ = some (.int .i64 y.mzxid) := cell_of_row _ _ 3 _ _ _ HB2.out
          have A4 : (wr.alloc (.cells ([.int .i64 y.kind, .string y.path, .int .i64 y.czxid, .int .i64 y.mzxid, .int .i64 y.pzxid] : List Value).toArray 73)).cell? ⟨wr.heap.size, 4, none⟩ = some (.int .i64 y.pzxid) := cell_of_row _ _ 4 _ _ _ HB2.out
          generalize wr.alloc (.cells ([.int .i64 y.kind, .string y.path, .int .i64 y.czxid, .int .i64 y.mzxid, .int .i64 y.pzxid] : List Value).toArray 73) = w6 at hON A0 A1 A2x A3 A4 ⊢
          clear HB2 HO hO
          go_region_held3 (fun w' => w'.cell? ⟨wr.heap.size, 0, none⟩ = some (.int .i64 y.kind) ∧ w'.cell? ⟨wr.heap.size, 1, none⟩ = some (.string y.path) ∧ w'.cell? ⟨wr.heap.size, 2, none⟩ = some (.int .i64 y.czxid) ∧ w'.cell? ⟨wr.heap.size, 3, none⟩ = some (.int .i64 y.mzxid) ∧ w'.cell? ⟨wr.heap.size, 4, none⟩ = some (.int .i64 y.pzxid) ∧ Old wD w')
            (((try go_split_ands); (try dsimp only); (try simp only [World.cell?_drew] at *); (repeat' apply And.intro) <;> (with_reducible first | assumption | exact Old.drew (by assumption) | exact Old.make (by assumption) _ | exact Old.drew (Old.make (by assumption) _) | exact Old.drew (Old.make (Old.undrew (by assumption)) _) | exact Old.cell ((Old.refl _).make _) (by assumption) | fail)))
            (first
              | (go_at_call 22; go_split_ands; refine (K2.out _ _ ?_).mono ?_; (focus ((repeat (with_reducible first | exact new_drew _ _ | exact heap_alloc_new _ _ | exact new_drew2 _ _ _ | exact new_make2 _ _ _ | refine carry_alloc ?_ | refine carry_make ?_ | (apply Stp.carry; (focus (assumption; done))))); done)); rintro e w9 ⟨rfl, hO9⟩; have hP9 : Old wD w9 := Old.none (by assumption) hO9; have d0 : w9.cell? ⟨wr.heap.size, 0, none⟩ = some (.int .i64 y.kind) := Old.cell hO9 (by assumption); have d1 : w9.cell? ⟨wr.heap.size, 1, none⟩ = some (.string y.path) := Old.cell hO9 (by assumption); have d2 : w9.cell? ⟨wr.heap.size, 2, none⟩ = some (.int .i64 y.czxid) := Old.cell hO9 (by assumption); have d3 : w9.cell? ⟨wr.heap.size, 3, none⟩ = some (.int .i64 y.mzxid) := Old.cell hO9 (by assumption); have d4 : w9.cell? ⟨wr.heap.size, 4, none⟩ = some (.int .i64 y.pzxid) := Old.cell hO9 (by assumption); have hQ9 := Stp.mk hO9; clear hO9)
              | (go_at_call 24; go_split_ands; refine (K1.out _).mono ?_; rintro e w9 ⟨rfl, hO9⟩; have hP9 : Old wD w9 := Old.none (by assumption) hO9; have d0 : w9.cell? ⟨wr.heap.size, 0, none⟩ = some (.int .i64 y.kind) := Old.cell hO9 (by assumption); have d1 : w9.cell? ⟨wr.heap.size, 1, none⟩ = some (.string y.path) := Old.cell hO9 (by assumption); have d2 : w9.cell? ⟨wr.heap.size, 2, none⟩ = some (.int .i64 y.czxid) := Old.cell hO9 (by assumption); have d3 : w9.cell? ⟨wr.heap.size, 3, none⟩ = some (.int .i64 y.mzxid) := Old.cell hO9 (by assumption); have d4 : w9.cell? ⟨wr.heap.size, 4, none⟩ = some (.int .i64 y.pzxid) := Old.cell hO9 (by assumption); have hQ9 := Stp.mk hO9; clear hO9)
              | (go_at_call 62; go_split_ands; refine (K0.out _).mono ?_; rintro e w9 ⟨rfl, hO9⟩; have hP9 : Old wD w9 := Old.none (by assumption) hO9; have d0 : w9.cell? ⟨wr.heap.size, 0, none⟩ = some (.int .i64 y.kind) := Old.cell hO9 (by assumption); have d1 : w9.cell? ⟨wr.heap.size, 1, none⟩ = some (.string y.path) := Old.cell hO9 (by assumption); have d2 : w9.cell? ⟨wr.heap.size, 2, none⟩ = some (.int .i64 y.czxid) := Old.cell hO9 (by assumption); have d3 : w9.cell? ⟨wr.heap.size, 3, none⟩ = some (.int .i64 y.mzxid) := Old.cell hO9 (by assumption); have d4 : w9.cell? ⟨wr.heap.size, 4, none⟩ = some (.int .i64 y.pzxid) := Old.cell hO9 (by assumption); have hQ9 := Stp.mk hO9; clear hO9))
          all_goals go_wp2_with fail
          all_goals go_roundw
          all_goals first
            | (case rel => exact ⟨k + 1, by go_num, hlt, by rw [HF.out], by rw [hwD]; assumption⟩)
            | (case measure => simp [intOf]; omega)
        · have hkl : ¬ (k : Int) < (rows2.length : Int) := by omega
          obtain rfl : k = x.armed.length := by omega
          have ht : x.armed.take x.armed.length = x.armed := List.take_length
          rw [ht]
          have HO := Lib.hid hO; clear hO
          rw [← HDD.out]
          go_wp2_with fail
          go_ret
          exact ⟨rfl, HOB.out.none HO.out⟩
end Go.Proofs.YtpmemcpfoapjmaaGreat
