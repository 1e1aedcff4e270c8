/- CodecCuts: the walk. -/
import Derived.Test.YtkfpkfbahkmakaaCutm
import Derived.Test.YtkfpkfbahkmakaaPick
import Derived.Laws.Closers25
namespace Go.Proofs.Ytkfpkfbahkmakaa.codecCuts
open Go.ChangeShapes Go.WideShapes Go.ChangeAt Go.RowKit
set_option linter.unusedVariables false

structure Rel1 (w0 : World) (b1 : Nat) (its : List Item) (iv : Value) (wr : World) : Prop where
  ex : ∃ (k : Nat) (va : Value) (la : List UInt8), iv = .int .i64 k ∧ k ≤ its.length ∧ la ++ enc (its.drop k) = enc its ∧ WAt wr b1 va la ∧ Off w0.heap.size (WS b1 va) ∧ Old w0 wr

structure Rel2 (w0 : World) (b2 : Nat) (v2 : Value) (its : List Item) (c : Nat) (iv : Value) (wr : World) : Prop where
  ex : ∃ (k pos e : Nat), iv = .int .i64 k ∧ k ≤ its.length ∧ Cut (enc its) (enc (its.drop k)) pos e ∧ RAt wr b2 v2 ((enc its).take c) pos e ∧ Old w0 wr

theorem wr_ten : wr 10 11 = 10 := rfl
theorem take_str (l : List UInt8) (c : Nat) : ((⟨l.toArray⟩ : ByteArray).extract 0 c).data.toList = l.take c := by simp

set_option maxRecDepth 100000 in
set_option maxHeartbeats 1000000 in
theorem walk (a : Option Addr) (len cap : Nat) (its : List Item) (cut : Int) (w : World) (hI : ItemsAt w a len its) (hcut : (Lit.int .i64 cut).wf = true) :
    Calls Try.prog 10 #[.slice a len cap, .int .i64 cut] w fun e w' => e = .returned (.bool true) ∧ Below w.heap.size w w' := by
  have hcu := I64.of_wf hcut
  clear hcut
  by_cases hbig : 2147483548 < szF 2147483548 0 its
  · go_enter Try.func10, Try.ntmps10
    go_wp2_with fail
    refine (awake_any _).mono ?_
    rintro e w1 ⟨rfl, hO1⟩
    go_wp2_with fail
    refine (new_any _).mono ?_
    rintro e w2 ⟨rfl, rfl⟩
    have hO2 : Old w (w1.alloc (.cells #[.slice none 0 0] 59)) := Kept.alloc hO1 _
    go_wp2_with fail
    refine (sizes_any 2147483548 _ a len cap its (hI.below hO2.below) (by decide)).mono ?_
    rintro e w2 ⟨rfl, rfl⟩
    go_wp2_with fail
    go_ret
    exact ⟨rfl, hO2.below⟩
  · have htot := szF_tot 2147483548 its 0 (by omega)
    have htl : ∀ k (h : k < its.length), its[k].s.size + 11 + tot (its.drop (k + 1)) ≤ 2147483548 := fun k h => by
      have := tot_drop_le its k h; omega
    have hel : (enc its).length ≤ 2147483548 := by have := enc_le its hI.fits (by omega); omega
    have HTL := Lib.hid htl; clear htl htot
    go_enter Try.func10, Try.ntmps10
    go_wp2_with fail
    refine (awake_any _).mono ?_
    rintro e w1 ⟨rfl, hO1⟩
    go_wp2_with fail
    refine (new_any _).mono ?_
    rintro e w2 ⟨rfl, rfl⟩
    have hO2 : Old w (w1.alloc (.cells #[.slice none 0 0] 59)) := Kept.alloc hO1 _
    have hW1 := new_at w1
    have ho1 := new_off w w1 hO1
    generalize w1.heap.size = b1 at hW1 ho1 ⊢
    generalize w1.alloc (.cells #[.slice none 0 0] 59) = w2 at hO2 hW1 ⊢
    go_wp2_with fail
    refine (sizes_any 2147483548 _ a len cap its (hI.below hO2.below) (by decide)).mono ?_
    rintro e w3 ⟨rfl, rfl⟩
    have hstart : Rel1 w b1 its (.int .i64 0) w2 := ⟨0, _, [], rfl, Nat.zero_le _, rfl, hW1, ho1, hO2⟩
    clear hW1 ho1 hO2
    have HST := Lib.hid hstart
    clear hstart
    go_wp2_with fail
    clear hbig
    go_loopw [7] (fun iv wr => Rel1 w b1 its iv wr) (fun iv _ => its.length - (intOf iv).toNat)
    case atStart => exact HST.out
    case round =>
      obtain ⟨k, va, la, rfl, hk, hla, hA, hoa, hO⟩ := hrel.ex
      clear hrel HST
      have HLA := Lib.hid hla
      have hI2 := hI.below hO.below
      by_cases hlt : k < its.length
      · have hll : la.length ≤ 60000000000 := by
          have := congrArg List.length hla
          rw [List.length_append] at this
          omega
        clear hla
        obtain ⟨hlen, hfits, hroom, hat⟩ := hI2
        rcases hat with h0 | ⟨b, off, rfl, hb, hc⟩
        · omega
        obtain ⟨c0, c1, c2, c3⟩ := hc k hlt
        have hfit := hfits _ (List.getElem_mem hlt)
        have hs1 : its[k].s.size ≤ 60000000000 := by have := HTL.out k hlt; omega
        have hkl : (k : Int) < (len : Int) := by omega
        subst hlen
        clear hc hfits
        go_wp2_with (go_at_call 14; refine (lay_any its[k] _ b1 va la hA hfit hs1 hll).mono ?_; rintro e w4 ⟨v4, rfl, hW4, hk4, hs4⟩)
        exact ⟨⟨k + 1, v4, la ++ its[k].bytes, rfl, by omega, by rw [List.append_assoc, ← enc_drop hlt]; exact HLA.out, hW4, hoa.sep hO.size hs4, hO.step hk4 hoa⟩, by simp [intOf]; omega⟩
      · have hkl : ¬ (k : Int) < (len : Int) := by have := hI2.length; omega
        have hall : la = enc its := by
          rw [List.drop_of_length_le (by omega)] at hla
          simpa [enc] using hla
        clear hla HLA
        subst hall
        go_wp2_with fail
        refine (wbytes_any _ b1 _ _ hA).mono ?_
        rintro e w5 ⟨rfl, n5, rfl⟩
        have hO5 := hO.drewN n5
        clear hA hoa hO hI2
        by_cases hemp : enc its = []
        · rw [hemp]
          go_wp2_with fail
          go_ret
          exact ⟨rfl, hO5.below⟩
        · have hpos : 0 < (enc its).length := List.length_pos_iff.2 hemp
          have hne : (enc its).isEmpty = false := by simpa using hemp
          have hc := pickN_lt (c := cut) hpos
          generalize hcc : pickN cut (enc its).length = c at hc
          have HCC := Lib.hid hcc; clear hcc
          have q1 : (0 : Int) ≤ (c : Int) := by omega
          have q2 : (c : Int) ≤ ((enc its).length : Int) := by omega
          clear hemp
          go_wp2_with fail
          refine (pick_any cut (enc its).length _ hcu.1 hcu.2 hpos (by omega)).mono ?_
          rintro e w6 ⟨rfl, rfl⟩
          rw [HCC.out]
          go_wp2_with fail
          refine (read_any _ _ (by rw [ByteArray.size_extract, size_mk]; unfold maxLen; omega)).mono ?_
          rintro e w7 ⟨b2, v2, rfl, hR, hb2, hv2, hk6⟩
          have hO6 := hO5.none hk6
          have ho6 := off_of hO5 hb2 hv2
          replace hR : RAt w7 b2 v2 ((enc its).take c) 0 0 := by rw [← take_str]; exact hR
          have hstart : Rel2 w b2 v2 its c (.int .i64 0) w7 := ⟨0, 0, 0, rfl, Nat.zero_le _, Or.inr ⟨rfl, rfl⟩, hR, hO6⟩
          have HST := Lib.hid hstart
          clear hkl hk hlt hR hk6 hO5 hO6 hstart
          go_wp2_with fail
          go_loopw [10] (fun iv wr => Rel2 w b2 v2 its c iv wr) (fun iv _ => its.length - (intOf iv).toNat)
          case atStart => exact HST.out
          case round =>
            obtain ⟨k, pos, e, rfl, hk, hcu2, hR, hO⟩ := hrel.ex
            clear hrel HST
            have hpc : pos ≤ c := by have := hR.le; rw [List.length_take] at this; omega
            have hI2 := hI.below hO.below
            by_cases hlt : k < its.length
            · obtain ⟨hlen, hfits, hroom, hat⟩ := hI2
              rcases hat with h0 | ⟨b, off, rfl, hb, hcl⟩
              · omega
              obtain ⟨c0, c1, c2, c3⟩ := hcl k hlt
              have hfit := hfits _ (List.getElem_mem hlt)
              have hs1 : its[k].s.size ≤ 60000000000 := by have := HTL.out k hlt; omega
              rw [enc_drop hlt] at hcu2
              have hkl : (k : Int) < (len : Int) := by omega
              subst hlen
              clear hcl hfits
              obtain ⟨fk, fn, _⟩ := hfit
              have hfin : ∀ (w7 : World) (p' e' : Nat), RAt w7 b2 v2 ((enc its).take c) p' e' → Kept (RS b2) wr w7 → Cut (enc its) (enc (its.drop (k + 1))) p' e' → Rel2 w b2 v2 its c (.int .i64 ((k : Int) + 1)) w7 :=
                fun w7 p' e' h1 h2 h3 => ⟨k + 1, p', e', by simp, hlt, h3, h1, hO.rs h2 ho6⟩
              have HFIN := Lib.hid hfin; clear hfin
              have hcE : c ≤ (enc its).length := by omega
              by_cases h1 : its[k].kind = 1
              · have hb1 : its[k].bytes = sev (zz its[k].n) := by unfold Item.bytes; rw [if_pos h1]
                rw [hb1] at hcu2
                have hst := cut_num (zz_le fn.1 fn.2) hpc hcu2
                have HS := Lib.hid hst
                rw [h1] at c0
                clear hst hcu2 hb1 h1
                go_wp2_with (go_at_call 20; refine (rnum_any _ b2 v2 _ pos e hR).mono ?_; rintro en w7 ⟨rfl, hR7, hk7⟩)
                exact ⟨HFIN.out _ _ _ hR7 hk7 HS.out, by simp [intOf]; omega⟩
              · by_cases h2 : its[k].kind = 2
                · have hb1 : its[k].bytes = [if its[k].flag then 1 else 0] := by unfold Item.bytes; rw [if_neg h1, if_pos h2]
                  rw [hb1] at hcu2
                  have hst := cut_flag hcE hpc hcu2
                  have HS := Lib.hid hst
                  rw [h2] at c0
                  clear hst hcu2 hb1 h1 h2
                  go_wp2_with (go_at_call 21; refine (rflag_any _ b2 v2 _ pos e hR).mono ?_; rintro en w7 ⟨rfl, hR7, hk7⟩)
                  exact ⟨HFIN.out _ _ _ hR7 hk7 HS.out, by simp [intOf]; omega⟩
                · by_cases h3 : its[k].kind = 3
                  · have hb1 : its[k].bytes = sev its[k].s.data.toList.length ++ its[k].s.data.toList := by unfold Item.bytes; rw [if_neg h1, if_neg h2, if_pos h3]; simp
                    have hsl : its[k].s.data.toList.length = its[k].s.size := by simp
                    rw [hb1] at hcu2
                    have hst := cut_text (most := (its[k].s.size : Int)) (by omega) (by omega) hpc hcE hcu2
                    have HS := Lib.hid hst
                    rw [h3] at c0
                    clear hst hcu2 hb1 h1 h2 h3 hsl
                    go_wp2_with (go_at_call 22; refine (rtext_any (its[k].s.size : Int) _ b2 v2 _ pos e hR (by omega) (by omega)).mono ?_; rintro en w7 ⟨rfl, hR7, hk7⟩)
                    exact ⟨HFIN.out _ _ _ hR7 hk7 HS.out, by simp [intOf]; omega⟩
                  · by_cases h4 : its[k].kind = 4
                    · have hb1 : its[k].bytes = sev its[k].n.toNat := by unfold Item.bytes; rw [if_neg h1, if_neg h2, if_neg h3, if_pos h4]
                      rw [hb1] at hcu2
                      have hst := cut_count (most := its[k].n) (by have := fn.2; omega) (Nat.le_refl _) hpc hcu2
                      have HS := Lib.hid hst
                      rw [h4] at c0
                      clear hst hcu2 hb1 h1 h2 h3 h4
                      go_wp2_with (go_at_call 23; refine (rcount_any its[k].n _ b2 v2 _ pos e hR fn.1 fn.2).mono ?_; rintro en w7 ⟨rfl, hR7, hk7⟩)
                      exact ⟨HFIN.out _ _ _ hR7 hk7 HS.out, by simp [intOf]; omega⟩
                    · have hb1 : its[k].bytes = [] := by unfold Item.bytes; rw [if_neg h1, if_neg h2, if_neg h3, if_neg h4]
                      rw [hb1, List.nil_append] at hcu2
                      have HS := Lib.hid hcu2
                      clear hcu2 hb1
                      go_wp2_with fail
                      exact ⟨HFIN.out _ _ _ hR (Kept.refl _ _) HS.out, by simp [intOf]; omega⟩
            · have hkl : ¬ (k : Int) < (len : Int) := by have := hI2.length; omega
              rw [List.drop_of_length_le (show its.length ≤ k by omega)] at hcu2
              have hten : e = 10 := cut_end hc hpc hcu2
              clear hcu2
              subst hten
              go_wp2_with fail
              refine (rend_any _ _ _ _ _ _ hR).mono ?_
              rw [wr_ten, ite_self]
              rintro en w8 ⟨rfl, hR8, hk8⟩
              go_wp2_with fail
              go_ret
              exact ⟨rfl, (hO.rs hk8 ho6).below⟩
end Go.Proofs.Ytkfpkfbahkmakaa.codecCuts
