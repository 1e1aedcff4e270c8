/- CodecBack holds: what any items are laid as is taken up by the same calls, and nothing is left (K6). No condition. -/
import Derived.Test.YtkfpkfbahkmakaaAwake
import Derived.Test.YtkfpkfbahkmakaaBackm
import Derived.Deep.RegionHeld3
import Derived.WalkKit
import Derived.ProofKit
import Derived.OpenShut
import Derived.ShutString
import Derived.ChangeOld
import Derived.Below
namespace Go.Proofs.Ytkfpkfbahkmakaa.codecBack
open Go.ChangeShapes Go.WideShapes Go.ChangeAt Go.RowKit
open Go.ChangeMaps (open_string shut_string)
set_option linter.unusedVariables false



structure Rel1 (w0 : World) (b1 : Nat) (its : List Item) (iv : Value) (wr : World) : Prop where
  ex : ∃ (k : Nat) (va : Value) (la : List UInt8), iv = .int .i64 k ∧ k ≤ its.length ∧ la ++ enc (its.drop k) = enc its ∧ WAt wr b1 va la ∧ Off w0.heap.size (WS b1 va) ∧ Old w0 wr

structure Rel2 (w0 : World) (b2 : Nat) (v2 : Value) (its : List Item) (iv : Value) (wr : World) : Prop where
  ex : ∃ (k pos : Nat), iv = .int .i64 k ∧ k ≤ its.length ∧ (enc its).drop pos = enc (its.drop k) ∧ RAt wr b2 v2 (enc its) pos 0 ∧ Old w0 wr

theorem _root_.Go.Proofs.Ytkfpkfbahkmakaa.Kept.of_drew {S : Nat → Prop} {w w' : World} (h : Kept S w.drew w') : Kept S w w' := ⟨h.os, h.tape, h.output, h.size, h.block⟩

/-- the round's end -/
theorem fin {w wr : World} {b2 : Nat} {v2 : Value} {its : List Item} {k pos n : Nat} (hlt : k < its.length) (hR : RAt wr b2 v2 (enc its) pos 0) (hO : Old w wr) (hd : (enc its).drop (pos + n) = enc (its.drop (k + 1))) :
    ∀ (o : Obj) (w7 : World), RAt w7 b2 v2 (enc its) (pos + n) 0 → Kept (RS b2) (wr.alloc o) w7 → Off w.heap.size (WS b2 v2) → Rel2 w b2 v2 its (.int .i64 ((k : Int) + 1)) w7 := by
  intro o w7 h1 h2 h3
  exact ⟨k + 1, pos + n, by simp, hlt, hd, h1, Old.rs (w := wr.alloc o) (Kept.alloc hO o) h2 h3⟩

set_option maxRecDepth 100000 in
set_option maxHeartbeats 1000000 in
theorem walk (a : Option Addr) (len cap : Nat) (its : List Item) (w : World) (hI : ItemsAt w a len its) :
    Calls Try.prog 5 #[.slice a len cap] w fun e w' => e = .returned (.bool true) ∧ Below w.heap.size w w' := by
  by_cases hbig : 2147483548 < szF 2147483548 0 its
  · go_enter Try.func5, Try.ntmps5
    go_wp2_with fail
    refine (awake_any _).mono ?_
    rintro e w1 ⟨rfl, hO1⟩
    go_wp2_with fail
    refine (sizes_any 2147483548 _ a len cap its (hI.below hO1.below) (by decide)).mono ?_
    rintro e w2 ⟨rfl, rfl⟩
    go_wp2_with fail
    go_ret
    exact ⟨rfl, hO1.below⟩
  · have htot := szF_tot 2147483548 its 0 (by omega)
    have htl : ∀ k (h : k < its.length), its[k].s.size + 11 + tot (its.drop (k + 1)) ≤ 2147483548 := fun k h => by
      have := tot_drop_le its k h; omega
    have hel : (enc its).length ≤ 2147483548 := by have := enc_le its hI.fits (by omega); omega
    have HTL := Lib.hid htl; clear htl htot
    go_enter Try.func5, Try.ntmps5
    go_wp2_with fail
    refine (awake_any _).mono ?_
    rintro e w1 ⟨rfl, hO1⟩
    go_wp2_with fail
    refine (sizes_any 2147483548 _ a len cap its (hI.below hO1.below) (by decide)).mono ?_
    rintro e w2 ⟨rfl, rfl⟩
    go_wp2_with fail
    refine (new_any _).mono ?_
    rintro e w2 ⟨rfl, rfl⟩
    have hO2 : Old w (w1.alloc (.cells #[.slice none 0 0] 59)) := Kept.alloc hO1 _
    have hW1 := new_at w1
    have ho1 := new_off w w1 hO1
    have hstart : Rel1 w w1.heap.size its (.int .i64 0) (w1.alloc (.cells #[.slice none 0 0] 59)) :=
      ⟨0, _, [], rfl, Nat.zero_le _, rfl, hW1, ho1, hO2⟩
    clear hW1 ho1 hO2 hbig
    generalize hb1 : w1.heap.size = b1 at hstart
    have HB1 := Lib.hid hb1
    clear hb1
    have HST := Lib.hid hstart
    go_wp2_with fail
    go_loopw [5] (fun iv wr => Rel1 w b1 its iv wr) (fun iv _ => its.length - (intOf iv).toNat)
    case atStart => exact HST.out
    case round =>
      obtain ⟨k, va, la, rfl, hk, hla, hA, hoa, hO⟩ := hrel.ex
      clear hrel HST HB1
      have HLA := Lib.hid hla
      have hI2 := hI.below hO.below
      by_cases hlt : k < its.length
      · have hll : la.length ≤ 60000000000 := by
          have := congrArg List.length hla
          rw [List.length_append] at this
          omega
        clear hla
        obtain ⟨hlen, hfits, hroom, hat⟩ := hI2
        rcases hat with h0 | ⟨b, off, rfl, hb, hc⟩
        · omega
        obtain ⟨c0, c1, c2, c3⟩ := hc k hlt
        have hfit := hfits _ (List.getElem_mem hlt)
        have hs1 : its[k].s.size ≤ 60000000000 := by have := HTL.out k hlt; omega
        have hkl : (k : Int) < (len : Int) := by omega
        subst hlen
        clear hc hfits
        go_wp2_with (go_at_call 14; refine (lay_any its[k] _ b1 va la hA hfit hs1 hll).mono ?_; rintro e w4 ⟨v4, rfl, hW4, hk4, hs4⟩)
        exact ⟨⟨k + 1, v4, la ++ its[k].bytes, rfl, by omega, by rw [List.append_assoc, ← enc_drop hlt]; exact HLA.out, hW4, hoa.sep hO.size hs4, hO.step hk4 hoa⟩, by simp [intOf]; omega⟩
      · have hkl : ¬ (k : Int) < (len : Int) := by have := hI2.length; omega
        have hall : la = enc its := by
          rw [List.drop_of_length_le (by omega)] at hla
          simpa [enc] using hla
        clear hla HLA
        subst hall
        go_wp2_with fail
        refine (wbytes_any _ b1 _ _ hA).mono ?_
        rintro e w5 ⟨rfl, n5, rfl⟩
        go_wp2_with fail
        refine (read_any _ _ (by rw [size_mk]; unfold maxLen; omega)).mono ?_
        rintro e w6 ⟨b2, v2, rfl, hR, hb2, hv2, hk6⟩
        have hO5 := hO.drewN n5
        have hO6 := hO5.none hk6
        have ho6 := off_of hO5 hb2 hv2
        have hstart : Rel2 w b2 v2 its (.int .i64 0) w6 := ⟨0, 0, rfl, Nat.zero_le _, rfl, hR, hO6⟩
        have HST := Lib.hid hstart
        clear hA hoa hO hI2 hkl hk hlt hR hk6 hO5 hO6 hstart
        go_wp2_with fail
        go_loopw [7] (fun iv wr => Rel2 w b2 v2 its iv wr) (fun iv _ => its.length - (intOf iv).toNat)
        case atStart => exact HST.out
        case round =>
          obtain ⟨k, pos, rfl, hk, hpos, hR, hO⟩ := hrel.ex
          clear hrel HST
          have hI2 := hI.below hO.below
          by_cases hlt : k < its.length
          · obtain ⟨hlen, hfits, hroom, hat⟩ := hI2
            rcases hat with h0 | ⟨b, off, rfl, hb, hc⟩
            · omega
            have hcc := hc k hlt
            have hfit := hfits _ (List.getElem_mem hlt)
            have hs1 : its[k].s.size ≤ 60000000000 := by have := HTL.out k hlt; omega
            rw [enc_drop hlt] at hpos
            have hkl : (k : Int) < (len : Int) := by omega
            subst hlen
            clear hc hfits
            generalize its[k] = x at hcc hfit hs1 hpos
            obtain ⟨kd, n, f, s⟩ := x
            simp only at hcc hs1
            obtain ⟨c0, c1, c2, c3⟩ := hcc
            obtain ⟨fk, fn, _⟩ := hfit
            simp only at fk fn
            by_cases h1 : kd = 1
            · subst h1
              have hb1 : Item.bytes ⟨1, n, f, s⟩ = sev (zz n) := rfl
              rw [hb1] at hpos
              have hsv := rSev_lay hpos (zz_le fn.1 fn.2)
              have hdm := drop_more hpos
              have hcall : ∀ W, RAt W b2 v2 (enc its) pos 0 → Calls Try.prog 20 #[.pointer (some ⟨b2, 0, none⟩)] W (RPost W b2 v2 (enc its) (.int .i64 n) (pos + (sev (zz n)).length) 0) := by
                intro W h
                have := rnum_any W b2 v2 (enc its) pos 0 h
                rw [hsv] at this
                simpa only [unzz_zz] using this
              have HCALL := Lib.hid hcall
              have HDM := Lib.hid hdm
              clear hsv hdm hpos hb1 hcall
              have hfin := fin hlt hR hO HDM.out
              have HFIN := Lib.hid hfin; clear hfin
              have hRx := hR.keep (Kept.alloc (Kept.refl (fun _ => False) wr) (.cells #[.int .i64 1, .int .i64 n, .bool f, .string s] 29)) (disj_none _)
              have hnb : ¬ RS b2 wr.heap.size := fun h => by have := hR.inn b2 (Or.inl rfl); have h' : wr.heap.size = b2 := h; omega
              go_wp2_with fail
              go_region_held3 (fun w' => w'.cell? ⟨wr.heap.size, 1, none⟩ = some (.int .i64 n)) (first | assumption | go_keep) (first | (go_at_call 20; refine (HCALL.out _ (hRx.drewN 1)).mono ?_; rintro e w7 ⟨rfl, hR7, hk7⟩; obtain ⟨d0, d1, d2, d3⟩ := box_cells hk7.of_drew hnb))
              all_goals go_wp2_with fail
              all_goals exact ⟨HFIN.out _ _ hR7 hk7.of_drew ho6, by simp [intOf]; omega⟩
            · by_cases h2 : kd = 2
              · subst h2
                cases f
                · have hb1 : Item.bytes ⟨2, n, false, s⟩ = [if false then 1 else 0] := rfl
                  rw [hb1] at hpos
                  have hsv := rFlag_lay hpos
                  have hdm := drop_more hpos
                  have hcall : ∀ W, RAt W b2 v2 (enc its) pos 0 → Calls Try.prog 21 #[.pointer (some ⟨b2, 0, none⟩)] W (RPost W b2 v2 (enc its) (.bool false) (pos + 1) 0) := by
                    intro W h
                    have := rflag_any W b2 v2 (enc its) pos 0 h
                    rw [hsv] at this
                    exact this
                  have HCALL := Lib.hid hcall
                  have HDM := Lib.hid hdm
                  clear hsv hdm hpos hb1 hcall
                  have hfin := fin hlt hR hO HDM.out
                  have HFIN := Lib.hid hfin; clear hfin
                  have hRx := hR.keep (Kept.alloc (Kept.refl (fun _ => False) wr) (.cells #[.int .i64 2, .int .i64 n, .bool false, .string s] 29)) (disj_none _)
                  have hnb : ¬ RS b2 wr.heap.size := fun h => by have := hR.inn b2 (Or.inl rfl); have h' : wr.heap.size = b2 := h; omega
                  go_wp2_with fail
                  go_region_held3 (fun w' => w'.cell? ⟨wr.heap.size, 2, none⟩ = some (.bool false)) (first | assumption | go_keep) (first | (go_at_call 21; refine (HCALL.out _ (hRx.drewN 1)).mono ?_; rintro e w7 ⟨rfl, hR7, hk7⟩; obtain ⟨d0, d1, d2, d3⟩ := box_cells hk7.of_drew hnb))
                  all_goals go_wp2_with fail
                  all_goals exact ⟨HFIN.out _ _ hR7 hk7.of_drew ho6, by simp [intOf]; omega⟩
                · have hb1 : Item.bytes ⟨2, n, true, s⟩ = [if true then 1 else 0] := rfl
                  rw [hb1] at hpos
                  have hsv := rFlag_lay hpos
                  have hdm := drop_more hpos
                  have hcall : ∀ W, RAt W b2 v2 (enc its) pos 0 → Calls Try.prog 21 #[.pointer (some ⟨b2, 0, none⟩)] W (RPost W b2 v2 (enc its) (.bool true) (pos + 1) 0) := by
                    intro W h
                    have := rflag_any W b2 v2 (enc its) pos 0 h
                    rw [hsv] at this
                    exact this
                  have HCALL := Lib.hid hcall
                  have HDM := Lib.hid hdm
                  clear hsv hdm hpos hb1 hcall
                  have hfin := fin hlt hR hO HDM.out
                  have HFIN := Lib.hid hfin; clear hfin
                  have hRx := hR.keep (Kept.alloc (Kept.refl (fun _ => False) wr) (.cells #[.int .i64 2, .int .i64 n, .bool true, .string s] 29)) (disj_none _)
                  have hnb : ¬ RS b2 wr.heap.size := fun h => by have := hR.inn b2 (Or.inl rfl); have h' : wr.heap.size = b2 := h; omega
                  go_wp2_with fail
                  go_region_held3 (fun w' => w'.cell? ⟨wr.heap.size, 2, none⟩ = some (.bool true)) (first | assumption | go_keep) (first | (go_at_call 21; refine (HCALL.out _ (hRx.drewN 1)).mono ?_; rintro e w7 ⟨rfl, hR7, hk7⟩; obtain ⟨d0, d1, d2, d3⟩ := box_cells hk7.of_drew hnb))
                  all_goals go_wp2_with fail
                  all_goals exact ⟨HFIN.out _ _ hR7 hk7.of_drew ho6, by simp [intOf]; omega⟩
              · by_cases h3 : kd = 3
                · subst h3
                  have hsl : s.data.toList.length = s.size := by simp
                  have hb1 : Item.bytes ⟨3, n, f, s⟩ = sev s.size ++ s.data.toList := rfl
                  rw [hb1] at hpos
                  have hsv := rText_lay (most := (s.size : Int)) (by rw [hsl]; exact hpos) (by omega) (by omega)
                  have hdm := drop_more hpos
                  have hcall : ∀ W, RAt W b2 v2 (enc its) pos 0 → Calls Try.prog 22 #[.pointer (some ⟨b2, 0, none⟩), .int .i64 s.size] W (RPost W b2 v2 (enc its) (.string s) (pos + (sev s.size ++ s.data.toList).length) 0) := by
                    intro W h
                    have := rtext_any (s.size : Int) W b2 v2 (enc its) pos 0 h (by omega) (by omega)
                    rw [hsv] at this
                    rw [hsl] at this; exact this
                  have HCALL := Lib.hid hcall
                  have HDM := Lib.hid hdm
                  clear hsv hdm hpos hb1 hcall
                  have hfin := fin hlt hR hO HDM.out
                  have HFIN := Lib.hid hfin; clear hfin
                  have hRx := hR.keep (Kept.alloc (Kept.refl (fun _ => False) wr) (.cells #[.int .i64 3, .int .i64 n, .bool f, .string s] 29)) (disj_none _)
                  have hnb : ¬ RS b2 wr.heap.size := fun h => by have := hR.inn b2 (Or.inl rfl); have h' : wr.heap.size = b2 := h; omega
                  go_wp2_with fail
                  go_region_held3 (fun w' => w'.cell? ⟨wr.heap.size, 3, none⟩ = some (.string s)) (first | assumption | go_keep) (first | (go_at_call 22; refine (HCALL.out _ (hRx.drewN 1)).mono ?_; rintro e w7 ⟨rfl, hR7, hk7⟩; obtain ⟨d0, d1, d2, d3⟩ := box_cells hk7.of_drew hnb))
                  all_goals go_wp2_with fail
                  all_goals exact ⟨HFIN.out _ _ hR7 hk7.of_drew ho6, by simp [intOf]; omega⟩
                · by_cases h4 : kd = 4
                  · subst h4
                    by_cases hn0 : 0 ≤ n
                    · obtain ⟨m, rfl⟩ := Int.eq_ofNat_of_zero_le hn0
                      have fn2 := fn.2
                      have hb1 : Item.bytes ⟨4, (m : Int), f, s⟩ = sev m := rfl
                      rw [hb1] at hpos
                      have hsv := rCount_lay (most := (m : Int)) hpos (by omega) (by omega)
                      have hdm := drop_more hpos
                      have hcall : ∀ W, RAt W b2 v2 (enc its) pos 0 → Calls Try.prog 23 #[.pointer (some ⟨b2, 0, none⟩), .int .i64 m] W (RPost W b2 v2 (enc its) (.int .i64 m) (pos + (sev m).length) 0) := by
                        intro W h
                        have := rcount_any (m : Int) W b2 v2 (enc its) pos 0 h (by omega) (by omega)
                        rw [hsv] at this
                        exact this
                      have HCALL := Lib.hid hcall
                      have HDM := Lib.hid hdm
                      clear hsv hdm hpos hb1 hcall
                      have hfin := fin hlt hR hO HDM.out
                      have HFIN := Lib.hid hfin; clear hfin
                      have hRx := hR.keep (Kept.alloc (Kept.refl (fun _ => False) wr) (.cells #[.int .i64 4, .int .i64 (m : Int), .bool f, .string s] 29)) (disj_none _)
                      have hnb : ¬ RS b2 wr.heap.size := fun h => by have := hR.inn b2 (Or.inl rfl); have h' : wr.heap.size = b2 := h; omega
                      go_wp2_with fail
                      go_region_held3 (fun w' => w'.cell? ⟨wr.heap.size, 1, none⟩ = some (.int .i64 m)) (first | assumption | go_keep) (first | (go_at_call 23; refine (HCALL.out _ (hRx.drewN 1)).mono ?_; rintro e w7 ⟨rfl, hR7, hk7⟩; obtain ⟨d0, d1, d2, d3⟩ := box_cells hk7.of_drew hnb))
                      all_goals go_wp2_with fail
                      all_goals exact ⟨HFIN.out _ _ hR7 hk7.of_drew ho6, by simp [intOf]; omega⟩
                    · have fn1 := fn.1
                      have hb1 : Item.bytes ⟨4, n, f, s⟩ = sev 0 := by show sev n.toNat = _; rw [show n.toNat = 0 from by omega]
                      rw [hb1] at hpos
                      have hsv := rCount_lay (most := 0) hpos (by omega) (by omega)
                      have hdm := drop_more hpos
                      have hcall : ∀ W, RAt W b2 v2 (enc its) pos 0 → Calls Try.prog 23 #[.pointer (some ⟨b2, 0, none⟩), .int .i64 0] W (RPost W b2 v2 (enc its) (.int .i64 0) (pos + (sev 0).length) 0) := by
                        intro W h
                        have := rcount_any 0 W b2 v2 (enc its) pos 0 h (by omega) (by omega)
                        rw [hsv] at this
                        exact this
                      have HCALL := Lib.hid hcall
                      have HDM := Lib.hid hdm
                      clear hsv hdm hpos hb1 hcall
                      have hfin := fin hlt hR hO HDM.out
                      have HFIN := Lib.hid hfin; clear hfin
                      have hRx := hR.keep (Kept.alloc (Kept.refl (fun _ => False) wr) (.cells #[.int .i64 4, .int .i64 n, .bool f, .string s] 29)) (disj_none _)
                      have hnb : ¬ RS b2 wr.heap.size := fun h => by have := hR.inn b2 (Or.inl rfl); have h' : wr.heap.size = b2 := h; omega
                      go_wp2_with fail
                      go_region_held3 (fun w' => w'.cell? ⟨wr.heap.size, 1, none⟩ = some (.int .i64 n)) (first | assumption | go_keep) (first | (go_at_call 23; refine (HCALL.out _ (hRx.drewN 1)).mono ?_; rintro e w7 ⟨rfl, hR7, hk7⟩; obtain ⟨d0, d1, d2, d3⟩ := box_cells hk7.of_drew hnb))
                      all_goals go_wp2_with fail
                      all_goals exact ⟨HFIN.out _ _ hR7 hk7.of_drew ho6, by simp [intOf]; omega⟩
                  · have hb1 : Item.bytes ⟨kd, n, f, s⟩ = [] := by unfold Item.bytes; simp only; rw [if_neg h1, if_neg h2, if_neg h3, if_neg h4]
                    rw [hb1, List.nil_append] at hpos
                    have hfin := fin (n := 0) hlt hR hO hpos
                    have HFIN := Lib.hid hfin; clear hfin hpos hb1
                    have hRx := hR.keep (Kept.alloc (Kept.refl (fun _ => False) wr) (.cells #[.int .i64 kd, .int .i64 n, .bool f, .string s] 29)) (disj_none _)
                    go_wp2_with fail
                    exact ⟨HFIN.out _ _ hRx (Kept.refl _ _) ho6, by simp [intOf]; omega⟩
          · have hkl : ¬ (k : Int) < (len : Int) := by have := hI2.length; omega
            have hend : pos = (enc its).length := by
              rw [List.drop_of_length_le (show its.length ≤ k by omega)] at hpos
              have h := congrArg List.length hpos
              rw [List.length_drop] at h
              simp only [enc, List.length_nil] at h
              have := hR.le
              omega
            clear hpos
            subst hend
            go_wp2_with fail
            refine (rend_any _ _ _ _ _ _ hR).mono ?_
            rw [if_pos rfl]
            rintro e w7 ⟨rfl, hR7, hk7⟩
            go_wp2_with fail
            go_ret
            exact ⟨rfl, (hO.rs hk7 ho6).below⟩
end Go.Proofs.Ytkfpkfbahkmakaa.codecBack
