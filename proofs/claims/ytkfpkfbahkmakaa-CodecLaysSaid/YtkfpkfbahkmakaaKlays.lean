/- CodecLays holds: whatever items, by two writers in turns, are laid as the document says; Bytes asked in between changes nothing (K1). No condition. -/
import Derived.Test.YtkfpkfbahkmakaaAwake
import Derived.Test.YtkfpkfbahkmakaaLay
import Derived.WalkKit
import Derived.ProofKit
import Derived.OpenShut
import Derived.ShutString
import Derived.ChangeOld
import Derived.Below
namespace Go.Proofs.Ytkfpkfbahkmakaa.codecLays
open Go.ChangeShapes Go.WideShapes Go.ChangeAt Go.RowKit
open Go.ChangeMaps (open_string shut_string)
set_option linter.unusedVariables false

structure Rel (w0 : World) (b1 b2 : Nat) (its : List Item) (av bv iv : Value) (wr : World) : Prop where
  ex : ∃ (k : Nat) (va vb : Value) (la lb : List UInt8), iv = .int .i64 k ∧ av = .string ⟨la.toArray⟩ ∧ bv = .string ⟨lb.toArray⟩ ∧ k ≤ its.length ∧
    la.length + lb.length + tot (its.drop k) ≤ 2147483548 ∧ WAt wr b1 va la ∧ WAt wr b2 vb lb ∧ Disj (WS b1 va) (WS b2 vb) ∧ Off w0.heap.size (WS b1 va) ∧ Off w0.heap.size (WS b2 vb) ∧ Old w0 wr

theorem tot_drop {its : List Item} {k : Nat} (h : k < its.length) : tot (its.drop k) = its[k].s.size + 11 + tot (its.drop (k + 1)) := by
  rw [List.drop_eq_getElem_cons h]; rfl

theorem add_str (a b : List UInt8) (h : a.length + b.length ≤ 9223372036854775807) (W : World) :
    Sem.run Try.prog (Op.stringOp .add ⟨a.toArray⟩ ⟨b.toArray⟩) W = .ok (.string ⟨(a ++ b).toArray⟩) W := by
  rw [run_string_add_sum W _ _ (by rw [size_mk, size_mk]; exact h), str_append]

set_option maxRecDepth 100000 in
set_option maxHeartbeats 1000000 in
theorem walk (a : Option Addr) (len cap : Nat) (its : List Item) (w : World) (hI : ItemsAt w a len its) :
    Calls Try.prog 3 #[.slice a len cap] w fun e w' => e = .returned (.bool true) ∧ Below w.heap.size w w' := by
  by_cases hbig : 2147483548 < szF 2147483548 0 its
  · go_enter Try.func3, Try.ntmps3
    go_wp2_with fail
    refine (awake_any _).mono ?_
    rintro e w1 ⟨rfl, hO1⟩
    go_wp2_with fail
    refine (sizes_any 2147483548 _ a len cap its (hI.below hO1.below) (by decide)).mono ?_
    rintro e w2 ⟨rfl, rfl⟩
    go_wp2_with fail
    go_ret
    exact ⟨rfl, hO1.below⟩
  · have htot := szF_tot 2147483548 its 0 (by omega)
    go_enter Try.func3, Try.ntmps3
    go_wp2_with fail
    refine (awake_any _).mono ?_
    rintro e w1 ⟨rfl, hO1⟩
    go_wp2_with fail
    refine (sizes_any 2147483548 _ a len cap its (hI.below hO1.below) (by decide)).mono ?_
    rintro e w2 ⟨rfl, rfl⟩
    go_wp2_with fail
    refine (new_any _).mono ?_
    rintro e w2 ⟨rfl, rfl⟩
    have hO2 : Old w (w1.alloc (.cells #[.slice none 0 0] 59)) := Kept.alloc hO1 _
    have hW1 := new_at w1
    have ho1 := new_off w w1 hO1
    go_wp2_with fail
    refine (new_any _).mono ?_
    rintro e w3 ⟨rfl, rfl⟩
    have hO3 : Old w ((w1.alloc (.cells #[.slice none 0 0] 59)).alloc (.cells #[.slice none 0 0] 59)) := Kept.alloc hO2 _
    have hW2 := new_at (w1.alloc (.cells #[.slice none 0 0] 59))
    have ho2 := new_off w _ hO2
    have hd : Disj (WS w1.heap.size (.slice none 0 0)) (WS (w1.alloc (.cells #[.slice none 0 0] 59)).heap.size (.slice none 0 0)) :=
      (Off.disj (new_off' _) hW1.inn).symm
    have hW1' := hW1.keep (Kept.alloc (Kept.refl (fun _ => False) _) (.cells #[.slice none 0 0] 59)) (disj_none _)
    have hstart : Rel w w1.heap.size (w1.alloc (.cells #[.slice none 0 0] 59)).heap.size its (.string ⟨#[]⟩) (.string ⟨#[]⟩) (.int .i64 0) ((w1.alloc (.cells #[.slice none 0 0] 59)).alloc (.cells #[.slice none 0 0] 59)) :=
      ⟨0, _, _, [], [], rfl, rfl, rfl, Nat.zero_le _, by simpa using htot, hW1', hW2, hd, ho1, ho2, hO3⟩
    clear hW1 hW1' hW2 hd ho1 ho2 hO2 hO3 hbig htot
    generalize hb1 : w1.heap.size = b1 at hstart
    generalize hb2 : (w1.alloc (.cells #[.slice none 0 0] 59)).heap.size = b2 at hstart
    have HB1 := Lib.hid hb1
    have HB2 := Lib.hid hb2
    clear hb1 hb2
    have HST := Lib.hid hstart
    go_wp2_with fail
    go_loopw [6, 7, 8] (fun av bv iv wr => Rel w b1 b2 its av bv iv wr) (fun _ _ iv _ => its.length - (intOf iv).toNat)
    case atStart => exact HST.out
    case round =>
      obtain ⟨k, va, vb, la, lb, rfl, rfl, rfl, hk, hsum, hA, hB, hd, hoa, hob, hO⟩ := hrel.ex
      clear hrel HST HB1 HB2
      have hI2 := hI.below hO.below
      obtain ⟨hlen, hfits, hroom, hat⟩ := hI2
      by_cases hlt : k < its.length
      · rcases hat with h0 | ⟨b, off, rfl, hb, hc⟩
        · omega
        obtain ⟨c0, c1, c2, c3⟩ := hc k hlt
        have hfit := hfits _ (List.getElem_mem hlt)
        rw [tot_drop hlt] at hsum
        have hs1 : its[k].s.size ≤ 60000000000 := by omega
        have hbl := Item.bytes_le _ hfit hs1
        have hkl : (k : Int) < (len : Int) := by omega
        subst hlen
        have qa := add_str la its[k].bytes (by omega)
        have qb := add_str lb its[k].bytes (by omega)
        clear hc hfits
        have hnn : (0 : Int) ≤ (k : Int) := by omega
        by_cases hpar : k % 2 = 0
        · have p2 : ((k : Int) % 2 == 0) = true := by simp; omega
          have HP := Lib.hid hpar; clear hpar
          by_cases h5 : k % 5 = 0
          · have p5 : ((k : Int) % 5 == 0) = true := by simp; omega
            have H5 := Lib.hid h5; clear h5
            go_wp2_with (first | (go_at_call 14; refine (lay_any its[k] _ b1 va la hA hfit hs1 (by omega)).mono ?_; rintro e w4 ⟨v4, rfl, hW4, hk4, hs4⟩) | (go_at_call 15; refine (wbytes_any _ b1 _ _ hW4).mono ?_; rintro e w5 ⟨rfl, n5, rfl⟩))
            exact ⟨⟨k + 1, v4, vb, la ++ its[k].bytes, lb, rfl, rfl, rfl, by omega, by rw [List.length_append]; omega, hW4.drewN n5, (hB.keep hk4 hd.symm).drewN n5, hd.sep hB.inn hs4, hoa.sep hO.size hs4, hob, (hO.step hk4 hoa).drewN n5⟩, by simp [intOf]; omega⟩
          · have p5 : ((k : Int) % 5 == 0) = false := by simp; omega
            have H5 := Lib.hid h5; clear h5
            go_wp2_with (first | (go_at_call 14; refine (lay_any its[k] _ b1 va la hA hfit hs1 (by omega)).mono ?_; rintro e w4 ⟨v4, rfl, hW4, hk4, hs4⟩))
            exact ⟨⟨k + 1, v4, vb, la ++ its[k].bytes, lb, rfl, rfl, rfl, by omega, by rw [List.length_append]; omega, hW4, (hB.keep hk4 hd.symm), hd.sep hB.inn hs4, hoa.sep hO.size hs4, hob, (hO.step hk4 hoa)⟩, by simp [intOf]; omega⟩
        · have p2 : ((k : Int) % 2 == 0) = false := by simp; omega
          have HP := Lib.hid hpar; clear hpar
          by_cases h5 : k % 5 = 0
          · have p5 : ((k : Int) % 5 == 0) = true := by simp; omega
            have H5 := Lib.hid h5; clear h5
            go_wp2_with (first | (go_at_call 14; refine (lay_any its[k] _ b2 vb lb hB hfit hs1 (by omega)).mono ?_; rintro e w4 ⟨v4, rfl, hW4, hk4, hs4⟩) | (go_at_call 15; refine (wbytes_any _ b1 _ _ (hA.keep hk4 hd)).mono ?_; rintro e w5 ⟨rfl, n5, rfl⟩))
            exact ⟨⟨k + 1, va, v4, la, lb ++ its[k].bytes, rfl, rfl, rfl, by omega, by rw [List.length_append]; omega, (hA.keep hk4 hd).drewN n5, hW4.drewN n5, (hd.symm.sep hA.inn hs4).symm, hoa, hob.sep hO.size hs4, (hO.step hk4 hob).drewN n5⟩, by simp [intOf]; omega⟩
          · have p5 : ((k : Int) % 5 == 0) = false := by simp; omega
            have H5 := Lib.hid h5; clear h5
            go_wp2_with (first | (go_at_call 14; refine (lay_any its[k] _ b2 vb lb hB hfit hs1 (by omega)).mono ?_; rintro e w4 ⟨v4, rfl, hW4, hk4, hs4⟩))
            exact ⟨⟨k + 1, va, v4, la, lb ++ its[k].bytes, rfl, rfl, rfl, by omega, by rw [List.length_append]; omega, (hA.keep hk4 hd), hW4, (hd.symm.sep hA.inn hs4).symm, hoa, hob.sep hO.size hs4, (hO.step hk4 hob)⟩, by simp [intOf]; omega⟩
      · have hkl : ¬ (k : Int) < (len : Int) := by omega
        go_wp2_with fail
        refine (wbytes_any _ b1 _ _ hA).mono ?_
        rintro e w5 ⟨rfl, n5, rfl⟩
        go_wp2_with fail
        refine (wbytes_any _ b2 _ _ (hB.drewN n5)).mono ?_
        rintro e w6 ⟨rfl, n6, rfl⟩
        go_wp2_with fail
        go_ret
        exact ⟨rfl, (hO.drewN (n5 + n6)).below⟩

end Go.Proofs.Ytkfpkfbahkmakaa.codecLays
