/- CodecApart: the walk. -/
import Derived.Test.YtkfpkfbahkmakaaBackm
namespace Go.Proofs.Ytkfpkfbahkmakaa.codecApart
open Go.ChangeShapes Go.WideShapes Go.ChangeAt Go.RowKit
set_option linter.unusedVariables false

def one (a : Int) (s : ByteArray) : List UInt8 := [] ++ sev (zz a) ++ (sev s.size ++ s.data.toList)

theorem bytes_eq {s t : ByteArray} (h : s.data.toList = t.data.toList) : s = t := by
  apply ByteArray.ext; exact Array.toList_inj.1 h

theorem ext_list (q : List UInt8) (n : Nat) : ((⟨q.toArray⟩ : ByteArray).extract 0 n).toList = q.take n := by
  rw [ByteArray.toList_eq]; simp
theorem str_ne {s t : ByteArray} (h : s ≠ t) : (s.toList == t.toList) = false := by
  rw [ByteArray.toList_eq, ByteArray.toList_eq]
  exact beq_false_of_ne fun e => h (bytes_eq e)
theorem begins_of {p q : List UInt8} (h : q.take p.length = p) : p ++ q.drop p.length = q := by
  conv => lhs; lhs; rw [← h]
  exact List.take_append_drop _ _

/-- no thing's bytes begin another's -/
theorem one_begins {a b : Int} {s t : ByteArray} {r : List UInt8} (ha : I64 a) (hb : I64 b) (hs : s.size ≤ 60000000000) (ht : t.size ≤ 60000000000) (h : one a s ++ r = one b t) : a = b ∧ s = t := by
  unfold one at h
  simp only [List.nil_append, List.append_assoc] at h
  have h1 := seek_lay (zz_le ha.1 ha.2) (sev s.size ++ (s.data.toList ++ r))
  rw [h, seek_lay (zz_le hb.1 hb.2)] at h1
  have hz : zz b = zz a := congrArg (·.1) h1
  have hab : b = a := by rw [← unzz_zz b, hz, unzz_zz]
  subst hab
  have h2 := List.append_cancel_left h
  have h3 := seek_lay (n := s.size) (by omega) (s.data.toList ++ r)
  rw [h2, seek_lay (by omega)] at h3
  have hz2 : t.size = s.size := congrArg (·.1) h3
  rw [hz2] at h2
  have h4 := List.append_cancel_left h2
  have h5 : s.data.toList.length = t.data.toList.length := by simp [hz2]
  have h6 := congrArg (List.take s.data.toList.length) h4
  rw [List.take_left, h5, List.take_length] at h6
  exact ⟨rfl, bytes_eq h6⟩

set_option maxRecDepth 100000 in
set_option maxHeartbeats 1000000 in
theorem walk (a b : Int) (s t : ByteArray) (w : World) (wa : (Lit.int .i64 a).wf = true) (wb : (Lit.int .i64 b).wf = true) (ws : s.size ≤ 140737488351232) (wt : t.size ≤ 140737488351232) :
    Calls Try.prog 9 #[.int .i64 a, .int .i64 b, .string s, .string t] w fun e w' => e = .returned (.bool true) ∧ Below w.heap.size w w' := by
  have ha := I64.of_wf wa
  have hb := I64.of_wf wb
  clear wa wb
  by_cases hbig : s.size + t.size ≤ 1073741774
  · have hs : s.size ≤ 1073741774 := by omega
    have ht : t.size ≤ 1073741774 := by omega
    have hza := zz_le ha.1 ha.2
    have hzb := zz_le hb.1 hb.2
    have la := sev_length_u64 hza
    have lb := sev_length_u64 hzb
    have ls := sev_length_u64 (n := s.size) (by omega)
    have lt := sev_length_u64 (n := t.size) (by omega)
    have hsl : s.data.toList.length = s.size := by simp
    have htl : t.data.toList.length = t.size := by simp
    have HSL := Lib.hid hsl
    have HTL := Lib.hid htl
    have hsum : IntKind.i64.wrap ((s.size : Int) + t.size) = (s.size : Int) + t.size := IntWalk.i64_in _ (by omega)
    clear hsl htl ws wt
    go_enter Try.func9, Try.ntmps9
    go_wp2_with fail
    refine (awake_any _).mono ?_
    rintro e w1 ⟨rfl, hO1⟩
    go_wp2_with fail
    clear hbig
    refine (new_any _).mono ?_
    rintro e w2 ⟨rfl, rfl⟩
    have hO2 : Old w (w1.alloc (.cells #[.slice none 0 0] 59)) := Kept.alloc hO1 _
    have hA2 := new_at w1
    have oA := new_off w w1 hO1
    generalize w1.heap.size = bA at hA2 oA ⊢
    generalize w1.alloc (.cells #[.slice none 0 0] 59) = w2 at hO2 hA2 ⊢
    go_wp2_with fail
    refine (new_any _).mono ?_
    rintro e w3 ⟨rfl, rfl⟩
    have kk : Kept (fun _ => False) w2 (w2.alloc (.cells #[.slice none 0 0] 59)) := Kept.alloc (Kept.refl _ _) _
    have hO3 := hO2.none kk
    have hA3 := hA2.keep kk (disj_none _)
    have hB3 := new_at w2
    have oB := new_off w w2 hO2
    have dAB := (Off.disj (new_off' w2) hA2.inn).symm
    clear hA2 hO2 kk
    generalize w2.heap.size = bB at hB3 oB dAB ⊢
    generalize w2.alloc (.cells #[.slice none 0 0] 59) = w3 at hO3 hA3 hB3 ⊢
    go_wp2_with fail
    refine (new_any _).mono ?_
    rintro e w4 ⟨rfl, rfl⟩
    have kk : Kept (fun _ => False) w3 (w3.alloc (.cells #[.slice none 0 0] 59)) := Kept.alloc (Kept.refl _ _) _
    have hO4 := hO3.none kk
    have hA4 := hA3.keep kk (disj_none _)
    have hB4 := hB3.keep kk (disj_none _)
    have hC4 := new_at w3
    have oC := new_off w w3 hO3
    have dAC := (Off.disj (new_off' w3) hA3.inn).symm
    have dBC := (Off.disj (new_off' w3) hB3.inn).symm
    clear hA3 hB3 hO3 kk
    generalize w3.heap.size = bC at hC4 oC dAC dBC ⊢
    generalize w3.alloc (.cells #[.slice none 0 0] 59) = w4 at hO4 hA4 hB4 hC4 ⊢
    go_wp2_with fail
    refine (wnum_any a _ _ _ _ hA4 ha.1 ha.2 (by simp)).mono ?_
    rintro e w5 ⟨v5, rfl, hA5, k5, s5⟩
    have hO5 := hO4.step k5 oA
    have hB5 := hB4.keep k5 dAB.symm
    have hC5 := hC4.keep k5 dAC.symm
    have dAB5 := dAB.sep hB4.inn s5
    have dAC5 := dAC.sep hC4.inn s5
    have oA5 := oA.sep hO4.size s5
    clear hA4 hB4 hC4 hO4 k5 s5 dAB dAC oA
    go_wp2_with fail
    refine (wnum_any b _ _ _ _ hA5 hb.1 hb.2 (by simp; omega)).mono ?_
    rintro e w6 ⟨v6, rfl, hA6, k6, s6⟩
    have hO6 := hO5.step k6 oA5
    have hB6 := hB5.keep k6 dAB5.symm
    have hC6 := hC5.keep k6 dAC5.symm
    have dAB6 := dAB5.sep hB5.inn s6
    have dAC6 := dAC5.sep hC5.inn s6
    have oA6 := oA5.sep hO5.size s6
    clear hA5 hB5 hC5 hO5 k6 s6 dAB5 dAC5 oA5
    go_wp2_with fail
    refine (wtext_any s _ _ _ _ hA6 (by omega) (by simp; omega)).mono ?_
    rintro e w7 ⟨v7, rfl, hA7, k7, s7⟩
    have hO7 := hO6.step k7 oA6
    have hB7 := hB6.keep k7 dAB6.symm
    have hC7 := hC6.keep k7 dAC6.symm
    have dAB7 := dAB6.sep hB6.inn s7
    have dAC7 := dAC6.sep hC6.inn s7
    have oA7 := oA6.sep hO6.size s7
    clear hA6 hB6 hC6 hO6 k7 s7 dAB6 dAC6 oA6
    go_wp2_with fail
    refine (wtext_any t _ _ _ _ hA7 (by omega) (by simp; omega)).mono ?_
    rintro e w8 ⟨v8, rfl, hA8, k8, s8⟩
    have hO8 := hO7.step k8 oA7
    have hB8 := hB7.keep k8 dAB7.symm
    have hC8 := hC7.keep k8 dAC7.symm
    clear hA7 hB7 hC7 hO7 k8 s8 dAB7 dAC7 oA7
    replace hA8 : WAt w8 bA v8 (sev (zz a) ++ (sev (zz b) ++ ((sev s.size ++ s.data.toList) ++ ((sev t.size ++ t.data.toList) ++ [])))) := by
      have := hA8
      simp only [List.nil_append, List.append_assoc, List.append_nil] at this ⊢
      exact this
    generalize hL : sev (zz a) ++ (sev (zz b) ++ ((sev s.size ++ s.data.toList) ++ ((sev t.size ++ t.data.toList) ++ []))) = L at hA8
    have hLL := congrArg List.length hL
    simp only [List.length_append, List.length_nil] at hLL
    have h0 : L.drop 0 = sev (zz a) ++ (sev (zz b) ++ ((sev s.size ++ s.data.toList) ++ ((sev t.size ++ t.data.toList) ++ []))) := by rw [List.drop_zero, hL]
    have h1 := drop_more h0
    have h2 := drop_more h1
    have h3 := drop_more h2
    have h4 := drop_more h3
    have r1 := rSev_lay h0 hza
    have r2 := rSev_lay h1 hzb
    have hsl := HSL.out
    have htl := HTL.out
    have r3 := rText_lay (s := s.data.toList) (most := (s.size : Int)) (by rw [hsl]; exact h2) (by omega) (by omega)
    have r4 := rText_lay (s := t.data.toList) (most := (t.size : Int)) (by rw [htl]; exact h3) (by omega) (by omega)
    rw [hsl] at r3
    rw [htl] at r4
    have hend : 0 + (sev (zz a)).length + (sev (zz b)).length + (sev s.size ++ s.data.toList).length + (sev t.size ++ t.data.toList).length = L.length := by
      rw [← hLL]; simp only [List.length_append]; omega
    have hLs : L.length ≤ 60000000000 := by omega
    have R1 := Lib.hid r1; have R2 := Lib.hid r2; have R3 := Lib.hid r3; have R4 := Lib.hid r4; have HE := Lib.hid hend
    clear hLL h0 h1 h2 h3 h4 r1 r2 r3 r4 hend hL hsl htl
    go_wp2_with fail
    refine (wbytes_any _ _ _ _ hA8).mono ?_
    rintro e w9 ⟨rfl, n9, rfl⟩
    clear hA8
    go_wp2_with fail
    refine (read_any _ _ (by rw [size_mk]; unfold maxLen; omega)).mono ?_
    rintro e w10 ⟨bR, vR, rfl, hR10, hbR, hvR, k10⟩
    have hO9 := hO8.drewN n9
    have hB9 := hB8.drewN n9
    have hC9 := hC8.drewN n9
    have oR := off_of hO9 hbR hvR
    have dRB : Disj (WS bR vR) (WS bB (.slice none 0 0)) := Off.disj (fun k hk => by rcases hk with rfl | hk; exact hbR; exact hvR k hk.symm) hB9.inn
    have dRC : Disj (WS bR vR) (WS bC (.slice none 0 0)) := Off.disj (fun k hk => by rcases hk with rfl | hk; exact hbR; exact hvR k hk.symm) hC9.inn
    have hO10 := hO9.none k10
    have hB10 := hB9.keep k10 (disj_none _)
    have hC10 := hC9.keep k10 (disj_none _)
    replace hR10 : RAt w10 bR vR L 0 0 := hR10
    clear hO8 hO9 hB8 hB9 hC8 hC9 k10 hbR hvR
    go_wp2_with fail
    refine (rnum_any _ _ _ _ _ _ hR10).mono ?_
    rw [R1.out]
    simp only [unzz_zz]
    rintro e w11 ⟨rfl, hR11, k11⟩
    have hO11 := hO10.rs k11 oR
    have hB11 := hB10.keep k11 dRB.symm.rs
    have hC11 := hC10.keep k11 dRC.symm.rs
    clear hR10 hO10 hB10 hC10 k11
    go_wp2_with fail
    refine (rnum_any _ _ _ _ _ _ hR11).mono ?_
    rw [R2.out]
    simp only [unzz_zz]
    rintro e w12 ⟨rfl, hR12, k12⟩
    have hO12 := hO11.rs k12 oR
    have hB12 := hB11.keep k12 dRB.symm.rs
    have hC12 := hC11.keep k12 dRC.symm.rs
    clear hR11 hO11 hB11 hC11 k12
    go_wp2_with fail
    refine (rtext_any (s.size : Int) _ _ _ _ _ _ hR12 (by omega) (by omega)).mono ?_
    rw [R3.out]
    simp only
    rintro e w13 ⟨rfl, hR13, k13⟩
    have hO13 := hO12.rs k13 oR
    have hB13 := hB12.keep k13 dRB.symm.rs
    have hC13 := hC12.keep k13 dRC.symm.rs
    clear hR12 hO12 hB12 hC12 k13
    go_wp2_with fail
    refine (rtext_any (t.size : Int) _ _ _ _ _ _ hR13 (by omega) (by omega)).mono ?_
    rw [R4.out]
    simp only
    rintro e w14 ⟨rfl, hR14, k14⟩
    have hO14 := hO13.rs k14 oR
    have hB14 := hB13.keep k14 dRB.symm.rs
    have hC14 := hC13.keep k14 dRC.symm.rs
    rw [HE.out] at hR14
    clear hR13 hO13 hB13 hC13 k14 R1 R2 R3 R4 HE
    go_wp2_with fail
    refine (wnum_any a _ _ _ _ hB14 ha.1 ha.2 (by simp)).mono ?_
    rintro e w15 ⟨v15, rfl, hB15, k15, s15⟩
    have hO15 := hO14.step k15 oB
    have hR15 := hR14.keep k15 dRB
    have hC15 := hC14.keep k15 dBC.symm
    have dBC15 := dBC.sep hC14.inn s15
    have dBR15 := dRB.symm.sep hR14.inn s15
    have oB15 := oB.sep hO14.size s15
    clear hO14 hB14 hC14 hR14 k15 s15 dBC dRB oB
    go_wp2_with fail
    refine (wtext_any s _ _ _ _ hB15 (by omega) (by simp; omega)).mono ?_
    rintro e w16 ⟨v16, rfl, hB16, k16, s16⟩
    have hO16 := hO15.step k16 oB15
    have hR16 := hR15.keep k16 dBR15.symm
    have hC16 := hC15.keep k16 dBC15.symm
    have dBC16 := dBC15.sep hC15.inn s16
    have dBR16 := dBR15.sep hR15.inn s16
    clear hO15 hB15 hC15 hR15 k16 s16 dBC15 dBR15 oB15
    go_wp2_with fail
    refine (wnum_any b _ _ _ _ hC16 hb.1 hb.2 (by simp)).mono ?_
    rintro e w17 ⟨v17, rfl, hC17, k17, s17⟩
    have hO17 := hO16.step k17 oC
    have hR17 := hR16.keep k17 dRC
    have hB17 := hB16.keep k17 dBC16
    have dCB17 := dBC16.symm.sep hB16.inn s17
    have dCR17 := dRC.symm.sep hR16.inn s17
    have oC17 := oC.sep hO16.size s17
    clear hO16 hB16 hC16 hR16 k17 s17 dBC16 dRC oC dBR16
    go_wp2_with fail
    refine (wtext_any t _ _ _ _ hC17 (by omega) (by simp; omega)).mono ?_
    rintro e w18 ⟨v18, rfl, hC18, k18, s18⟩
    have hO18 := hO17.step k18 oC17
    have hR18 := hR17.keep k18 dCR17.symm
    have hB18 := hB17.keep k18 dCB17.symm
    clear hO17 hB17 hC17 hR17 k18 s18 dCB17 dCR17 oC17
    replace hB18 : WAt w18 bB v16 (one a s) := hB18
    replace hC18 : WAt w18 bC v18 (one b t) := hC18
    have hbeg := one_begins (r := (one b t).drop (one a s).length) ha hb (show s.size ≤ 60000000000 by omega) (show t.size ≤ 60000000000 by omega)
    have HBEG := Lib.hid hbeg; clear hbeg
    have lp : (one a s).length ≤ 60000000000 := by unfold one; simp only [List.length_append, List.length_nil, HSL.out]; omega
    have lq : (one b t).length ≤ 60000000000 := by unfold one; simp only [List.length_append, List.length_nil, HTL.out]; omega
    have hsame : a = b → s = t → one a s = one b t := fun h1 h2 => by rw [h1, h2]
    have HSAME := Lib.hid hsame; clear hsame
    generalize one a s = p at *
    generalize one b t = q at *
    go_wp2_with fail
    refine (wbytes_any _ _ _ _ hB18).mono ?_
    rintro e w19 ⟨rfl, n19, rfl⟩
    go_wp2_with fail
    refine (wbytes_any _ _ _ _ (hC18.drewN n19)).mono ?_
    rintro e w20 ⟨rfl, n20, rfl⟩
    have hO20 := hO18.drewN (n19 + n20)
    have hR20 := hR18.drewN (n19 + n20)
    clear hO18 hR18 hB18 hC18
    go_wp2_with fail
    · rename_i hle
      refine (rend_any _ _ _ _ _ _ hR20).mono ?_
      rw [if_pos rfl]
      rintro e w21 ⟨rfl, hR21, k21⟩
      go_wp2_with fail
      all_goals go_ret
      all_goals refine ⟨?_, (hO20.rs k21 oR).below⟩
      all_goals refine ret_val ?_
      all_goals show Value.bool _ = _
      · rw [ext_list]
        by_cases hst : s = t
        · have hpq := HSAME.out (by assumption) hst
          rw [hst, hpq, List.take_of_length_le (Nat.le_refl _)]; simp
        · rw [beq_false_of_ne (fun e => hst (HBEG.out (begins_of e)).2), str_ne hst]; rfl
      · rename_i hab
        rw [ext_list, beq_false_of_ne (fun e => hab (HBEG.out (begins_of e)).1)]; rfl
    · refine (rend_any _ _ _ _ _ _ hR20).mono ?_
      rw [if_pos rfl]
      rintro e w21 ⟨rfl, hR21, k21⟩
      go_wp2_with fail
      all_goals go_ret
      all_goals refine ⟨?_, (hO20.rs k21 oR).below⟩
      all_goals refine ret_val ?_
      all_goals show Value.bool _ = _
      · by_cases hst : s = t
        · have hpq := HSAME.out (by assumption) hst
          rename_i hle _
          exact absurd (Nat.le_of_eq (congrArg List.length hpq)) hle
        · rw [str_ne hst]; rfl
      · rfl
  · go_enter Try.func9, Try.ntmps9
    go_wp2_with fail
    refine (awake_any _).mono ?_
    rintro e w1 ⟨rfl, hO1⟩
    go_wp2_with fail
    go_ret
    exact ⟨rfl, hO1.below⟩
end Go.Proofs.Ytkfpkfbahkmakaa.codecApart
