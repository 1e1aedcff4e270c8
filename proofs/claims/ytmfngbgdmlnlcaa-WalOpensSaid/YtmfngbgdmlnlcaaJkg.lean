/- The records that stand in some bytes. -/
import Derived.Test.YtmfngbgdmlnlcaaJkb
import Derived.Test.YtmfngbgdmlnlcaaJaf
import Derived.Test.YtmfngbgdmlnlcaaJkd
namespace Go.Proofs.Ytmfngbgdmlnlcaa
open Go.ChangeShapes Go.WideShapes Go.ChangeAt Go.RowKit
set_option linter.unusedVariables false
set_option linter.unusedSimpArgs false
/-- how far the first record goes, but for its sum -/
def behN (s : List UInt8) : Nat := 2 + valN (s.take 2)
def recN (s : List UInt8) : Option (List UInt8 × List UInt8) :=
  if s.length < 6 then none else if 4002 < behN s then none else if s.length < behN s + 4 then none
  else if valI ((s.drop (behN s)).take (behN s + 4 - behN s)) = wsum (s.take (behN s)) then some ((s.drop 2).take (behN s - 2), s.drop (behN s + 4)) else none
def takenN : Nat → List UInt8 → Option (List (List UInt8))
  | 0, _ => some []
  | f + 1, s => if s.length = 0 then some [] else match recN s with
    | none => none
    | some (r, t) => (takenN f t).map (r :: ·)
def strB (l : List UInt8) : Value := .string ⟨l.toArray⟩
theorem valN_two (l : List UInt8) (h : l.length = 2) : valN l < 65536 := by
  rcases l with _ | ⟨a, _ | ⟨b, _ | ⟨c, l⟩⟩⟩ <;> simp at h
  have ha := a.toNat_lt
  have hb := b.toNat_lt
  show (0 * 256 + a.toNat) * 256 + b.toNat < 65536
  omega
theorem valN_four (l : List UInt8) (h : l.length = 4) : valN l < 4294967296 := by
  rcases l with _ | ⟨a, _ | ⟨b, _ | ⟨c, _ | ⟨d, _ | ⟨e, l⟩⟩⟩⟩⟩ <;> simp at h
  have ha := a.toNat_lt
  have hb := b.toNat_lt
  have hc := c.toNat_lt
  have hd := d.toNat_lt
  show (((0 * 256 + a.toNat) * 256 + b.toNat) * 256 + c.toNat) * 256 + d.toNat < 4294967296
  omega
structure TkRel (w : World) (R : Option (List (List UInt8))) (sv rv : Value) (wr : World) : Prop where
  ex : ∃ (t : ByteArray) (acc : List (List UInt8)) (f : Nat), sv = .string t ∧ t.size < f ∧ (takenN f t.data.toList).map (acc ++ ·) = R ∧ wr.ownsRow w.heap.size 9 1 rv acc.length (acc.map strB) ∧ acc.length + t.size ≤ 1048576 ∧ Below w.heap.size w wr
def TkPost (w : World) (R : Option (List (List UInt8))) (e : Ending) (w' : World) : Prop :=
  ∃ v b, e = .returned (.tuple #[v, .bool b]) ∧ (R = none → b = false) ∧ (∀ l, R = some l → b = true ∧ w'.ownsRow w.heap.size 9 1 v l.length (l.map strB)) ∧ Kept (fun _ => False) w w' ∧ ∃ ao n cap, v = .slice ao n cap
theorem map_app (acc : List (List UInt8)) (r : List UInt8) (o : Option (List (List UInt8))) : (o.map (r :: ·)).map (acc ++ ·) = o.map ((acc ++ [r]) ++ ·) := by
  cases o <;> simp
set_option maxRecDepth 100000 in
set_option maxHeartbeats 4000000 in
theorem taken_any (s : ByteArray) (w : World) (hs : s.size ≤ 1048576) : Calls Try.prog 61 #[.string s] w (TkPost w (takenN (s.size + 1) s.data.toList)) := by
  obtain ⟨R, hR⟩ : ∃ R, takenN (s.size + 1) s.data.toList = R := ⟨_, rfl⟩
  rw [hR]
  have HR0 := Lib.hid hR
  clear hR
  go_enter Try.func61, Try.ntmps61
  go_wp2_with fail
  go_loopw [0, 4] (fun sv rv wr => TkRel w R sv rv wr) (fun sv _ _ => szOf sv)
  case atStart => exact ⟨s, [], s.size + 1, rfl, Nat.lt_succ_self _, by rw [HR0.out]; cases R <;> simp, World.ownsRow_nil _ _ _ _, by simpa using hs, Below.refl _ _⟩
  case round =>
    obtain ⟨t, acc, f, rfl, hf, hp, hown, hac, hbw⟩ := hrel.ex
    clear hrel HR0
    obtain ⟨ao, cap, rfl⟩ := slice_of_row hown
    have HOWN := Lib.hid hown
    have HB := Lib.hid hbw
    have HP := Lib.hid hp
    have HF := Lib.hid hf
    have HA := Lib.hid hac
    clear hown hbw hp hf hac hs s
    by_cases hs0 : t.size = 0
    · have hse : t = ⟨#[]⟩ := by
        apply ByteArray.ext; apply Array.ext'
        exact List.length_eq_zero_iff.1 hs0
      subst hse
      have HRR : Hid (R = some acc) := Lib.hid (by
        rw [← HP.out]
        obtain ⟨f, rfl⟩ : ∃ k, f = k + 1 := ⟨f - 1, by have := HF.out; omega⟩
        rw [takenN, if_pos (show (⟨#[]⟩ : ByteArray).data.toList.length = 0 from rfl)]; simp)
      go_wp2_with fail
      go_ret2
      exact ⟨_, _, rfl, fun h => (by rw [HRR.out] at h; cases h), fun l h => (by rw [HRR.out] at h; obtain rfl := Option.some.inj h; exact ⟨rfl, HOWN.out⟩), keptB HB.out, _, _, _, rfl⟩
    · have hne : t.toList.isEmpty = false := by
        rw [ByteArray.toList_eq, List.isEmpty_eq_false_iff]
        intro e; exact hs0 (by rw [← list_size, e]; rfl)
      have HST : Hid (∀ f', f = f' + 1 → (takenN f t.data.toList) = match recN t.data.toList with | none => none | some (r, x) => (takenN f' x).map (r :: ·)) := Lib.hid (fun f' hf' => by
        rw [hf', takenN, if_neg (by rw [list_size]; exact hs0)])
      have HNO : Hid (recN t.data.toList = none → R = none) := Lib.hid (fun h => by
        obtain ⟨f', hf'⟩ : ∃ k, f = k + 1 := ⟨f - 1, by have := HF.out; omega⟩
        rw [← HP.out, HST.out f' hf', h]; rfl)
      by_cases h6 : t.size < 6
      · have HN : Hid (recN t.data.toList = none) := Lib.hid (by unfold recN; rw [list_size, if_pos h6])
        go_wp2_with fail
        go_ret2
        exact ⟨_, _, rfl, fun _ => rfl, fun l h => (by rw [HNO.out HN.out] at h; cases h), keptB HB.out, _, _, _, rfl⟩
      · have hcut0 := fun V => cut_run V t (c := 2) (by omega)
        have h2l : (t.data.toList.take 2).length = 2 := by rw [List.length_take, list_size]; omega
        have hv2 := valN_two _ h2l
        obtain ⟨b, hb⟩ : ∃ b, behN t.data.toList = b := ⟨_, rfl⟩
        obtain ⟨v2, hve⟩ : ∃ v2, valN (t.data.toList.take 2) = v2 := ⟨_, rfl⟩
        have hb2 : 2 + v2 = b := by rw [← hb, ← hve]; rfl
        have HV : Hid (fld t.data.toList 0 2 = (v2 : Int)) := Lib.hid (by
          unfold fld
          rw [List.drop_zero]
          show valI (t.data.toList.take 2) = _
          rw [valI_small _ (by omega), hve])
        have HBI : Hid ((2 : Int) + (v2 : Int) = (b : Int)) := Lib.hid (by omega)
        have hbl : b ≤ 65537 := by rw [hve] at hv2; omega
        have hb0 : 2 ≤ b := by omega
        have HBN := Lib.hid hb
        have hsz9 : t.size ≤ 1048576 := by have := HA.out; omega
        have HSZ9 := Lib.hid hsz9
        have hv2b : v2 ≤ 65535 := by omega
        clear h2l hv2 hb hve hb2
        have HVB := Lib.hid (And.intro hbl hb0)
        by_cases h4 : 4002 < b
        · have HN : Hid (recN t.data.toList = none) := Lib.hid (by unfold recN; rw [list_size, if_neg h6, HBN.out, if_pos h4])
          go_wp2_with fail
          clear hcut0
          refine (value_ext t 0 2 _ (by omega)).mono ?_
          rw [HV.out]
          rintro e w1 ⟨rfl, hk1⟩
          have HK1 := Lib.hid ((keptB HB.out).trans hk1)
          have HKR := Lib.hid hk1
          clear hk1
          have hbe := HBI.out
          go_wp2_with fail
          go_ret2
          exact ⟨_, _, rfl, fun _ => rfl, fun l h => (by rw [HNO.out HN.out] at h; cases h), HK1.out, _, _, _, rfl⟩
        · by_cases h5 : t.size < b + 4
          · have HN : Hid (recN t.data.toList = none) := Lib.hid (by unfold recN; rw [list_size, if_neg h6, HBN.out, if_neg h4, if_pos h5])
            have hb4i : (t.size : Int) < (b : Int) + 4 := by omega
            go_wp2_with fail
            clear hcut0
            refine (value_ext t 0 2 _ (by omega)).mono ?_
            rw [HV.out]
            rintro e w1 ⟨rfl, hk1⟩
            have HK1 := Lib.hid ((keptB HB.out).trans hk1)
            have HKR := Lib.hid hk1
            clear hk1
            have hbe := HBI.out
            go_wp2_with fail
            go_ret2
            exact ⟨_, _, rfl, fun _ => rfl, fun l h => (by rw [HNO.out HN.out] at h; cases h), HK1.out, _, _, _, rfl⟩
          · obtain ⟨b4, hb4⟩ : ∃ b4, b + 4 = b4 := ⟨_, rfl⟩
            have hb4i : (b : Int) + 4 = (b4 : Int) := by omega
            have hb4s : b4 ≤ t.size := by omega
            have hmid0 := fun V => mid_run V t (i := b) (j := b4) (by omega) hb4s
            have hcutb := fun V => cut_run V t (c := b) (by omega)
            have hcutr : ∀ V, Sem.run Try.prog (Instr.slice 9 (.string t) (some (.int .i64 2)) (some (.int .i64 (b : Int))) none) V = .ok (.string (t.extract 2 b)) V := fun V => mid_run V t (i := 2) (j := b) hb0 (by omega)
            have hdrop := fun V => drop_run V t hb4s
            have hwr4 : IntKind.i64.wrap (b4 : Int) = (b4 : Int) := by rw [IntKind.wrap_i64]; omega
            obtain ⟨x, hx⟩ : ∃ x, valI ((t.data.toList.drop b).take (b4 - b)) = x := ⟨_, rfl⟩
            obtain ⟨z, hz⟩ : ∃ z, wsum (t.data.toList.take b) = z := ⟨_, rfl⟩
            have hz0 := wsum_lt (t.data.toList.take b)
            rw [hz] at hz0
            obtain ⟨z0, z1⟩ := hz0
            have hxs : 0 ≤ x ∧ x < 4294967296 := by
              have hl : ((t.data.toList.drop b).take (b4 - b)).length = 4 := by rw [List.length_take, List.length_drop, list_size]; omega
              rw [← hx]
              have := valN_four _ hl
              rw [valI_small _ (by omega)]; omega
            obtain ⟨x0, x1⟩ := hxs
            have HVX : Hid (∀ V, Calls Try.prog 73 #[.string (t.extract b b4)] V fun e w' => e = .returned (.int .i64 x) ∧ Kept (fun _ => False) V w') := Lib.hid (fun V => by
              have := value_ext t b b4 V (by omega)
              unfold fld at this
              rw [hx] at this; exact this)
            have HSM : Hid (∀ V, Calls Try.prog 56 #[.string (t.extract 0 b)] V fun e w' => e = .returned (.int .u32 z) ∧ V = w') := Lib.hid (fun V => by
              have := wsum_any (t.extract 0 b) V (by rw [ByteArray.size_extract]; omega)
              rw [ext_list, List.drop_zero, Nat.sub_zero, hz] at this; exact this)
            by_cases hxz : x = z
            · have hxb : (x == z) = true := by simpa using hxz
              have hxc : decide (x = z) = true := by simpa using hxz
              obtain ⟨r, hr⟩ : ∃ r, (t.data.toList.drop 2).take (b - 2) = r := ⟨_, rfl⟩
              have HRV : Hid (Value.string (t.extract 2 b) = strB r) := Lib.hid (by unfold strB; rw [← hr, ← ext_list])
              obtain ⟨t', ht'⟩ : ∃ t' : ByteArray, t.extract b4 t.size = t' := ⟨_, rfl⟩
              have htl : t'.data.toList = t.data.toList.drop b4 := by
                rw [← ht', ext_list, List.take_of_length_le (by rw [List.length_drop, list_size]; exact Nat.le_refl _)]
              have hts : t'.size + b4 = t.size := by rw [← list_size, htl, List.length_drop, list_size]; omega
              rw [ht'] at hdrop
              have HNX : Hid (∃ f', f = f' + 1 ∧ (takenN f' t'.data.toList).map ((acc ++ [r]) ++ ·) = R) := Lib.hid (by
                obtain ⟨f', hf'⟩ : ∃ k, f = k + 1 := ⟨f - 1, by have := HF.out; omega⟩
                have hrec : recN t.data.toList = some (r, t'.data.toList) := by
                  unfold recN
                  rw [list_size, if_neg h6, HBN.out, if_neg h4, if_neg (by omega), hb4, if_pos (by rw [hx, hz]; exact hxz), hr, htl]
                refine ⟨f', hf', ?_⟩
                rw [← HP.out, HST.out f' hf', hrec, map_app])
              obtain ⟨i0, si, sz, ss, sbb⟩ := string_inf
              have HSI := Lib.hid (And.intro si (And.intro sz (And.intro ss sbb)))
              clear hx hz hr ht' htl hb4 si sz ss sbb HST HNO
              go_wp2_with fail
              clear hcut0
              refine (value_ext t 0 2 _ (by omega)).mono ?_
              rw [HV.out]
              rintro e w1 ⟨rfl, hk1⟩
              have HK1 := Lib.hid ((keptB HB.out).trans hk1)
              have HKR := Lib.hid hk1
              clear hk1
              have hbe := HBI.out
              go_wp2_with fail
              have hk9 := HKR.out.drew
              have hzw : IntKind.i64.wrap z = z := by rw [IntKind.wrap_i64]; omega
              go_region_held3 (fun _ => True)
                (trivial)
                (first
                  | (go_at_call 73; refine (HVX.out _).mono ?_; rintro e w5 ⟨rfl, hk5⟩; replace hk9 := hk9.trans hk5; clear hk5)
                  | (go_at_call 56; refine (HSM.out _).mono ?_; rintro e w5 ⟨rfl, rfl⟩))
              all_goals (
                have HB5 := Lib.hid (HB.out.trans (hk9.below (fun _ f => f.elim) HB.out.size))
                have HO5 := Lib.hid ((rowKept HOWN.out hk9 (fun _ _ f => f)).alloc (.cells #[.string (t.extract 2 b)] 9))
                have HCEL := Lib.hid (cell_one_new w5 (.string (t.extract 2 b)) 9)
                have HSZ5 : Hid (w.heap.size ≤ (w5.alloc (.cells #[.string (t.extract 2 b)] 9)).heap.size) := Lib.hid (by have := HB5.out.size; simp; omega)
                have HAC : Hid (acc.length ≤ 1048576) := Lib.hid (by have := HA.out; omega)
                clear hk9 hmid0 hcutb hwr4
                go_wp2_with (at_builtin; refine wpList_append_own _ rfl _ _ 22 rfl w.heap.size 9 i0 (.string ByteArray.empty) 1 16 Try.underlying22 HSI.out.1 HSI.out.2.1 HSI.out.2.2.1 HSI.out.2.2.2 rfl (by decide) (.slice ao acc.length cap) acc.length (acc.map strB) rfl HO5.out ⟨w5.heap.size, 0, none⟩ 1 1 [.string (t.extract 2 b)] rfl rfl HCEL.out (by intro u hu; simp only [List.mem_singleton] at hu; subst hu; rfl) (by unfold maxLen; have := HAC.out; omega) (by have := HAC.out; omega) HSZ5.out (fun v' w6 hown' hg' hnil' => ?_); have HB6 := Lib.hid ((HB5.out.alloc (by have := HB5.out.size; omega) (.cells #[.string (t.extract 2 b)] 9)).grown hg' HSZ5.out (fun k hk => (HO5.out.lt k hk).1)); have HO6 : Hid (w6.ownsRow w.heap.size 9 1 v' (acc ++ [r]).length ((acc ++ [r]).map strB)) := Lib.hid (by rw [HRV.out] at hown'; rw [List.map_append, List.length_append]; exact hown'); clear hown' hg' hnil')
                go_wp2_with fail
                go_roundw
                case rel =>
                  obtain ⟨f', hf', hn⟩ := HNX.out
                  exact ⟨t', acc ++ [r], f', rfl, by have := HF.out; omega, hn, HO6.out, by rw [List.length_append, List.length_singleton]; have := HA.out; omega, HB6.out⟩
                case measure => show t'.size < t.size; omega)
            · have hxb : (x == z) = false := by simpa using hxz
              have hxc : decide (x = z) = false := by simpa using hxz
              have HN : Hid (recN t.data.toList = none) := Lib.hid (by unfold recN; rw [list_size, if_neg h6, HBN.out, if_neg h4, if_neg (by omega), hb4, if_neg (by rw [hx, hz]; exact hxz)])
              have HXZ := Lib.hid hxz
              clear hx hz hxz HST
              go_wp2_with fail
              clear hcut0
              refine (value_ext t 0 2 _ (by omega)).mono ?_
              rw [HV.out]
              rintro e w1 ⟨rfl, hk1⟩
              have HK1 := Lib.hid ((keptB HB.out).trans hk1)
              have HKR := Lib.hid hk1
              clear hk1
              have hbe := HBI.out
              go_wp2_with fail
              have hk9 := HKR.out.drew
              have hzw : IntKind.i64.wrap z = z := by rw [IntKind.wrap_i64]; omega
              have hxn : (x != z) = true := by simpa using HXZ.out
              go_region_held3 (fun _ => True)
                (trivial)
                (first
                  | (go_at_call 73; refine (HVX.out _).mono ?_; rintro e w5 ⟨rfl, hk5⟩; replace hk9 := hk9.trans hk5; clear hk5)
                  | (go_at_call 56; refine (HSM.out _).mono ?_; rintro e w5 ⟨rfl, rfl⟩))
              all_goals (
                have HK9 := Lib.hid ((keptB HB.out).trans hk9)
                clear hk9
                go_wp2_with fail
                go_ret2
                exact ⟨_, _, rfl, fun _ => rfl, fun l h => (by rw [HNO.out HN.out] at h; cases h), HK9.out, _, _, _, rfl⟩)
end Go.Proofs.Ytmfngbgdmlnlcaa
