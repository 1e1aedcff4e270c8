/- The records that stand in some bytes, as the document's own log tells. -/
import Derived.Test.YtmfngbgdmlnlcaaJuc
namespace Go.Proofs.Ytmfngbgdmlnlcaa
open Go.ChangeShapes Go.WideShapes Go.ChangeAt Go.RowKit
set_option linter.unusedVariables false
set_option linter.unusedSimpArgs false
theorem taken_pos {f : Nat} {t : List UInt8} {m : List (List UInt8)} (hf : t.length < f) (ht : t.length ≠ 0) (h : takenN f t = some m) : 1 ≤ m.length := by
  obtain ⟨f, rfl⟩ : ∃ k, f = k + 1 := ⟨f - 1, by omega⟩
  rw [takenN, if_neg ht] at h
  cases hr : recN t with
  | none => rw [hr] at h; cases h
  | some p =>
    obtain ⟨r, x⟩ := p
    rw [hr] at h
    simp only [] at h
    cases hx : takenN f x with
    | none => rw [hx] at h; cases h
    | some m' => rw [hx] at h; cases h; simp
structure XrRel (w : World) (R : Option (List (List UInt8))) (n : Nat) (sv rv : Value) (wr : World) : Prop where
  ex : ∃ (t : ByteArray) (acc : List (List UInt8)) (f : Nat), sv = .string t ∧ t.size < f ∧ (takenN f t.data.toList).map (acc ++ ·) = R ∧ wr.ownsRow w.heap.size 9 1 rv acc.length (acc.map strB) ∧ acc.length + t.size ≤ 1048576 ∧ Below w.heap.size w wr ∧ acc.length ≤ n
def XrPost (w : World) (R : Option (List (List UInt8))) (n : Nat) (e : Ending) (w' : World) : Prop :=
  ∃ (v : Value) (b : Bool), e = .returned (.tuple #[v, .bool b]) ∧ (∀ l, R = some l → l.length = n → b = true ∧ w'.ownsRow w.heap.size 9 1 v l.length (l.map strB)) ∧ ((∀ l, R = some l → l.length ≠ n) → b = false) ∧ Kept (fun _ => False) w w' ∧ ∃ ao n' cap, v = .slice ao n' cap
set_option maxRecDepth 100000 in
set_option maxHeartbeats 4000000 in
theorem xrecords_any (s : ByteArray) (n : Nat) (w : World) (hs : s.size ≤ 1048576) (hn32 : n < 4294967296) : Calls Try.prog 48 #[.string s, .int .i64 n] w (XrPost w (takenN (s.size + 1) s.data.toList) n) := by
  obtain ⟨R, hR⟩ : ∃ R, takenN (s.size + 1) s.data.toList = R := ⟨_, rfl⟩
  rw [hR]
  have HR0 := Lib.hid hR
  clear hR
  go_enter Try.func48, Try.ntmps48
  go_wp2_with fail
  go_loopw [0, 6] (fun sv rv wr => XrRel w R n sv rv wr) (fun sv _ _ => szOf sv)
  case atStart => exact ⟨s, [], s.size + 1, rfl, Nat.lt_succ_self _, by rw [HR0.out]; cases R <;> simp, World.ownsRow_nil _ _ _ _, by simpa using hs, Below.refl _ _, Nat.zero_le _⟩
  case round =>
    obtain ⟨t, acc, f, rfl, hf, hp, hown, hac, hbw, hacn⟩ := hrel.ex
    clear hrel HR0
    obtain ⟨ao, cap, rfl⟩ := slice_of_row hown
    have HOWN := Lib.hid hown
    have HB := Lib.hid hbw
    have HP := Lib.hid hp
    have HF := Lib.hid hf
    have HA := Lib.hid hac
    clear hown hbw hp hf hac hs s
    by_cases hs0 : t.size = 0
    · have HRR : Hid (R = some acc) := Lib.hid (by
        rw [← HP.out]
        obtain ⟨f, rfl⟩ : ∃ k, f = k + 1 := ⟨f - 1, by have := HF.out; omega⟩
        rw [takenN, if_pos (by rw [list_size]; exact hs0)]; simp)
      by_cases he : acc.length = n
      · have y1 : ((acc.length : Int) == (n : Int)) = true := by simp; omega
        have HE := Lib.hid he
        clear he
        go_wp2_with fail
        go_ret2
        exact ⟨_, _, rfl, fun l h h2 => (by rw [HRR.out] at h; obtain rfl := Option.some.inj h; exact ⟨by first | rfl | (simp; have := HE.out; omega), HOWN.out⟩), fun h => absurd HE.out (h acc HRR.out), keptB HB.out, _, _, _, rfl⟩
      · have y1 : ((acc.length : Int) == (n : Int)) = false := by simp; omega
        have HE := Lib.hid he
        clear he
        go_wp2_with fail
        go_ret2
        exact ⟨_, _, rfl, fun l h h2 => (by rw [HRR.out] at h; obtain rfl := Option.some.inj h; exact absurd h2 HE.out), fun h => (by first | rfl | (simp; have := HE.out; omega)), keptB HB.out, _, _, _, rfl⟩
    · have hpos : (0 : Int) < (t.size : Int) := by omega
      have HS0 := Lib.hid hs0
      have HST : Hid (∀ f', f = f' + 1 → (takenN f t.data.toList) = match recN t.data.toList with | none => none | some (r, x) => (takenN f' x).map (r :: ·)) := Lib.hid (fun f' hf' => by
        rw [hf', takenN, if_neg (by rw [list_size]; exact hs0)]
        cases recN t.data.toList <;> rfl)
      have HNO : Hid (recN t.data.toList = none → R = none) := Lib.hid (fun h => by
        obtain ⟨f', hf'⟩ : ∃ k, f = k + 1 := ⟨f - 1, by have := HF.out; omega⟩
        rw [← HP.out, HST.out f' hf', h]; rfl)
      clear hs0
      by_cases he : acc.length = n
      · have y1 : ((acc.length : Int) == (n : Int)) = true := by simp; omega
        have HE := Lib.hid he
        have HN : Hid (∀ l, R = some l → l.length ≠ n) := Lib.hid (fun l h h2 => by
          rw [← HP.out] at h
          cases hx : takenN f t.data.toList with
          | none => rw [hx] at h; cases h
          | some m =>
            rw [hx] at h
            have h1 := taken_pos (by rw [list_size]; exact HF.out) (by rw [list_size]; exact HS0.out) hx
            cases h
            rw [List.length_append] at h2; have := HE.out; omega)
        clear he
        go_wp2_with fail
        go_ret2
        exact ⟨_, _, rfl, fun l h h2 => absurd h2 (HN.out l h), fun _ => rfl, keptB HB.out, _, _, _, rfl⟩
      · have y1 : ((acc.length : Int) == (n : Int)) = false := by simp; omega
        have HE := Lib.hid he
        clear he
        by_cases h6 : t.size < 6
        · have HN : Hid (R = none) := Lib.hid (HNO.out (by unfold recN; rw [list_size, if_pos h6]))
          go_wp2_with fail
          go_ret2
          exact ⟨_, _, rfl, fun l h h2 => (by rw [HN.out] at h; cases h), fun _ => rfl, keptB HB.out, _, _, _, rfl⟩
        · have hcut0 := fun V => cut_run V t (c := 2) (by omega)
          have h2l : (t.data.toList.take 2).length = 2 := by rw [List.length_take, list_size]; omega
          have hv2 := valN_two _ h2l
          obtain ⟨k, hk⟩ : ∃ k, valN (t.data.toList.take 2) = k := ⟨_, rfl⟩
          rw [hk] at hv2
          have HSM : Hid (∀ V, Calls Try.prog 46 #[.string (t.extract 0 2)] V fun e w' => e = .returned (.int .i64 k) ∧ V = w') := Lib.hid (fun V => small_any _ V (by rw [ext_list, List.drop_zero]; exact hk) (by omega) (by rw [ByteArray.size_extract]; omega))
          have HK := Lib.hid hk
          clear hk h2l
          obtain ⟨b2, hb2⟩ : ∃ b2, 2 + k = b2 := ⟨_, rfl⟩
          obtain ⟨k6, hk6⟩ : ∃ k6, k + 6 = k6 := ⟨_, rfl⟩
          have hb2i : (2 : Int) + (k : Int) = (b2 : Int) := by omega
          have hk6i : (k : Int) + 6 = (k6 : Int) := by omega
          have hwb : IntKind.i64.wrap (b2 : Int) = (b2 : Int) := by rw [IntKind.wrap_i64]; omega
          have hwk : IntKind.i64.wrap (k6 : Int) = (k6 : Int) := by rw [IntKind.wrap_i64]; omega
          by_cases h4 : 4000 < k
          · have HN : Hid (R = none) := Lib.hid (HNO.out (by unfold recN behN; rw [list_size, if_neg h6, HK.out, if_pos (by omega)]))
            have h4i : (4000 : Int) < (k : Int) := by omega
            have hd : decide ((4000 : Int) < (k : Int)) = true := decide_eq_true h4i
            clear hb2 hk6
            go_wp2_with fail
            refine (HSM.out _).mono ?_
            rintro e w5 ⟨rfl, rfl⟩
            clear hcut0
            go_wp2_with fail
            go_quiet (fail)
            go_wp2_with fail
            go_ret2
            exact ⟨_, _, rfl, fun l h h2 => (by rw [HN.out] at h; cases h), fun _ => rfl, (keptB HB.out).drewN _, _, _, _, rfl⟩
          · have h4i : (k : Int) ≤ 4000 := by omega
            have hd : decide ((4000 : Int) < (k : Int)) = false := decide_eq_false (by omega)
            by_cases h5 : t.size < k6
            · have HN : Hid (R = none) := Lib.hid (HNO.out (by unfold recN behN; rw [list_size, if_neg h6, HK.out, if_neg (by omega), if_pos (by omega)]))
              have h5i : (t.size : Int) < (k6 : Int) := by omega
              have hd2 : decide ((t.size : Int) < (k6 : Int)) = true := by simpa using h5
              have hd3 : decide (t.size < k6) = true := by simpa using h5
              clear hb2 hk6
              go_wp2_with fail
              refine (HSM.out _).mono ?_
              rintro e w5 ⟨rfl, rfl⟩
              clear hcut0
              go_wp2_with fail
              go_quiet (fail)
              go_wp2_with fail
              go_ret2
              exact ⟨_, _, rfl, fun l h h2 => (by rw [HN.out] at h; cases h), fun _ => rfl, (keptB HB.out).drewN _, _, _, _, rfl⟩
            · have h5i : (k6 : Int) ≤ (t.size : Int) := by omega
              have hd2 : decide ((t.size : Int) < (k6 : Int)) = false := by simpa using h5
              have hd3 : decide (t.size < k6) = false := by simpa using h5
              have hmid := fun V => mid_run V t (i := 2) (j := b2) (by omega) (by omega)
              have hmid2 : ∀ V, Sem.run Try.prog (Instr.slice 9 (.string t) (some (.int .i64 2)) (some (.int .i64 (b2 : Int))) none) V = .ok (.string (t.extract 2 b2)) V := hmid
              have hcut6 := fun V => cut_run V t (c := k6) (by omega)
              have hdrop := fun V => drop_run V t (c := k6) (by omega)
              have hxl : (t.extract 2 b2).data.toList = (t.data.toList.drop 2).take k := by rw [ext_list, show b2 - 2 = k by omega]
              obtain ⟨rc, hrc⟩ : ∃ rc, strOfL (recLL (t.extract 2 b2).data.toList) = rc := ⟨_, rfl⟩
              have HREC : Hid (∀ V, Calls Try.prog 63 #[.string (t.extract 2 b2)] V fun e w' => e = .returned (.string rc) ∧ Kept (fun _ => False) V w') := Lib.hid (fun V => by
                have := record_any (t.extract 2 b2) V (by rw [← list_size, hxl, List.length_take]; omega)
                rw [hrc] at this; exact this)
              have hre := rec_eq (t := t.data.toList) (k := k) HK.out (by omega) (by rw [list_size]; omega)
              rw [hk6] at hre
              have hcmp : (rc.toList == (t.extract 0 k6).toList) = decide (recLL ((t.data.toList.drop 2).take k) = t.data.toList.take k6) := by
                rw [toList_iff2, ext_list, List.drop_zero, Nat.sub_zero, ← hrc, hxl]; rfl
              cases hq : decide (recLL ((t.data.toList.drop 2).take k) = t.data.toList.take k6)
              · rw [hq] at hcmp
                have HN : Hid (R = none) := Lib.hid (HNO.out (hre.2 (by simpa using hq)))
                clear hrc hre hq hxl hb2 hk6 hmid hdrop
                go_wp2_with fail
                refine (HSM.out _).mono ?_
                rintro e w5 ⟨rfl, rfl⟩
                clear hcut0
                go_wp2_with fail
                have hk9 := (Kept.refl (fun _ => False) wr).drew
                go_region_held3 (fun _ => True)
                  (trivial)
                  (first
                    | (go_at_call 63; refine (HREC.out _).mono ?_; rintro e w5 ⟨rfl, hk5⟩; replace hk9 := hk9.trans hk5; clear hk5))
                all_goals (
                  have HK9 := Lib.hid ((keptB HB.out).trans hk9)
                  clear hk9
                  go_wp2_with fail
                  go_ret2
                  exact ⟨_, _, rfl, fun l h h2 => (by rw [HN.out] at h; cases h), fun _ => rfl, HK9.out, _, _, _, rfl⟩)
              · rw [hq] at hcmp
                obtain ⟨r, hr⟩ : ∃ r, (t.data.toList.drop 2).take k = r := ⟨_, rfl⟩
                have HRV : Hid (Value.string (t.extract 2 b2) = strB r) := Lib.hid (by unfold strB; rw [← hr, ← hxl])
                obtain ⟨t', ht'⟩ : ∃ t' : ByteArray, t.extract k6 t.size = t' := ⟨_, rfl⟩
                have htl : t'.data.toList = t.data.toList.drop k6 := by
                  rw [← ht', ext_list, List.take_of_length_le (by rw [List.length_drop, list_size]; exact Nat.le_refl _)]
                have hts : t'.size + k6 = t.size := by rw [← list_size, htl, List.length_drop, list_size]; omega
                have hts2 : t'.size < t.size := by omega
                rw [ht'] at hdrop
                have HTS := Lib.hid hts
                have HNX : Hid (∃ f', f = f' + 1 ∧ (takenN f' t'.data.toList).map ((acc ++ [r]) ++ ·) = R) := Lib.hid (by
                  obtain ⟨f', hf'⟩ : ∃ k, f = k + 1 := ⟨f - 1, by have := HF.out; omega⟩
                  have hrec := hre.1 (by simpa using hq)
                  rw [hr, ← htl] at hrec
                  refine ⟨f', hf', ?_⟩
                  rw [← HP.out, HST.out f' hf', hrec, map_app])
                obtain ⟨i0, si, sz, ss, sbb⟩ := string_inf
                have HSI := Lib.hid (And.intro si (And.intro sz (And.intro ss sbb)))
                have HK6 := Lib.hid hk6
                clear hrc hre hq hxl hb2 hk6 hmid ht' htl hr hts si sz ss sbb HST HNO
                go_wp2_with fail
                refine (HSM.out _).mono ?_
                rintro e w5 ⟨rfl, rfl⟩
                clear hcut0
                go_wp2_with fail
                have hk9 := (Kept.refl (fun _ => False) wr).drew
                go_region_held3 (fun _ => True)
                  (trivial)
                  (first
                    | (go_at_call 63; refine (HREC.out _).mono ?_; rintro e w5 ⟨rfl, hk5⟩; replace hk9 := hk9.trans hk5; clear hk5))
                all_goals (
                  have HB5 := Lib.hid (HB.out.trans (hk9.below (fun _ f => f.elim) HB.out.size))
                  have HO5 := Lib.hid ((rowKept HOWN.out hk9 (fun _ _ f => f)).alloc (.cells #[.string (t.extract 2 b2)] 9))
                  have HCEL := Lib.hid (fun W : World => cell_one_new W (.string (t.extract 2 b2)) 9)
                  have HSZ5 : Hid (w.heap.size ≤ (w5.alloc (.cells #[.string (t.extract 2 b2)] 9)).heap.size) := Lib.hid (by have := HB5.out.size; simp; omega)
                  have HAC : Hid (acc.length ≤ 1048576) := Lib.hid (by have := HA.out; omega)
                  clear hk9 hcut6
                  go_wp2_with (at_builtin; refine wpList_append_own _ rfl _ _ 22 rfl w.heap.size 9 i0 (.string ByteArray.empty) 1 16 Try.underlying22 HSI.out.1 HSI.out.2.1 HSI.out.2.2.1 HSI.out.2.2.2 rfl (by decide) (.slice ao acc.length cap) acc.length (acc.map strB) rfl HO5.out ⟨w5.heap.size, 0, none⟩ 1 1 [.string (t.extract 2 b2)] rfl rfl (HCEL.out _) (by intro u hu; simp only [List.mem_singleton] at hu; subst hu; rfl) (by unfold maxLen; have := HAC.out; omega) (by have := HAC.out; omega) HSZ5.out (fun v' w6 hown' hg' hnil' => ?_); have HB6 := Lib.hid ((HB5.out.alloc (by have := HB5.out.size; omega) (.cells #[.string (t.extract 2 b2)] 9)).grown hg' HSZ5.out (fun k hk => (HO5.out.lt k hk).1)); have HO6 : Hid (w6.ownsRow w.heap.size 9 1 v' (acc ++ [r]).length ((acc ++ [r]).map strB)) := Lib.hid (by rw [HRV.out] at hown'; rw [List.map_append, List.length_append]; exact hown'); clear hown' hg' hnil')
                  go_wp2_with fail
                  go_roundw
                  case rel =>
                    obtain ⟨f', hf', hn⟩ := HNX.out
                    exact ⟨t', acc ++ [r], f', rfl, by have := HF.out; have := HTS.out; omega, hn, HO6.out, by rw [List.length_append, List.length_singleton]; have := HA.out; have := HTS.out; have := HK6.out; omega, HB6.out, by rw [List.length_append, List.length_singleton]; have := HE.out; omega⟩
                  case measure => show t'.size < t.size; exact hts2)
end Go.Proofs.Ytmfngbgdmlnlcaa
