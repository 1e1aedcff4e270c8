/- A text is written into the log's area, sector by sector. -/
import Derived.Test.YtmfngbgdmlnlcaaJm
import Derived.Test.YtmfngbgdmlnlcaaJr
namespace Go.Proofs.Ytmfngbgdmlnlcaa
open Go.ChangeShapes Go.WideShapes Go.ChangeAt Go.RowKit
set_option linter.unusedVariables false
set_option linter.unusedSimpArgs false

theorem list_size (s : ByteArray) : s.data.toList.length = s.size := rfl
theorem cut_run (V : World) (s : ByteArray) {c : Nat} (hc : c ≤ s.size) : Sem.run Try.prog (Instr.slice 9 (.string s) none (some (.int .i64 (c : Int))) none) V = .ok (.string (s.extract 0 c)) V := by
  have := run_slice_string_h (P := Try.prog) V 9 s Try.underlying9 .i64 (c : Int) (by omega) (by omega)
  simpa using this
theorem drop_run (V : World) (s : ByteArray) {c : Nat} (hc : c ≤ s.size) : Sem.run Try.prog (Instr.slice 9 (.string s) (some (.int .i64 (c : Int))) none none) V = .ok (.string (s.extract c s.size)) V := by
  have := run_slice_string_l (P := Try.prog) V 9 s Try.underlying9 .i64 (c : Int) (by omega) (by omega)
  simpa using this
theorem ext_list (s : ByteArray) (i j : Nat) : (s.extract i j).data.toList = (s.data.toList.drop i).take (j - i) := by
  rw [ByteArray.data_extract, Array.toList_extract, List.extract_eq_take_drop]

def chunkL (s : List UInt8) : List UInt8 := s.take 64 ++ List.replicate (64 - s.length) 0
def putD : Nat → DSt → Nat → List UInt8 → DSt × Int
  | 0, d, _, _ => (d, 0)
  | f + 1, d, n, s => if s.length = 0 then (d, 0) else if (writeD d (n : Int) (chunkL s)).2 = 0 then putD f (writeD d (n : Int) (chunkL s)).1 (n + 1) (s.drop 64) else writeD d (n : Int) (chunkL s)

structure PwRel (Z : Nat → Prop) (w0 : World) (lb db : Nat) (g : LSt) (r : DSt × Int) (A : Nat) (sv nv : Value) (w : World) : Prop where
  ex : ∃ (s : ByteArray) (n f : Nat) (d : DSt), sv = .string s ∧ nv = .int .i64 n ∧ Wl Z w lb db g d ∧ putD f d n s.data.toList = r ∧ s.size < f ∧ n + s.size ≤ 4611686018427387900 ∧ d.acts + s.size ≤ A ∧ Kept Z w0 w

section
variable {Z : Nat → Prop} {w w' : World} {lb db sb mb nn : Nat} {rv : Value} {g g' : LSt} {d d' : DSt}
def szOf : Value → Nat
  | .string s => s.size
  | _ => 0
def wriD (g : LSt) (d : DSt) (at_ : Nat) (s : List UInt8) : DSt × Int :=
  if 0 < at_ % 64 then (if (readD d ((startN d g.m.ar + at_ / 64 : Nat) : Int)).2 = 0 then putD (((readD d ((startN d g.m.ar + at_ / 64 : Nat) : Int)).1.take (at_ % 64) ++ s).length + 1) d (startN d g.m.ar + at_ / 64) ((readD d ((startN d g.m.ar + at_ / 64 : Nat) : Int)).1.take (at_ % 64) ++ s) else (d, (readD d ((startN d g.m.ar + at_ / 64 : Nat) : Int)).2))
  else putD (s.length + 1) d (startN d g.m.ar + at_ / 64) s
set_option maxRecDepth 100000 in
set_option maxHeartbeats 2000000 in
theorem wwrite0 (h : Wl Z w lb db g d) (har : g.m.ar ≤ 1) (at_ : Nat) (hat : at_ ≤ 140000000000000) (h64 : at_ % 64 = 0) (s : ByteArray) (hs : s.size ≤ 140000000000000) (ha : d.acts ≤ 4611000000000000000) :
    Calls Try.prog 37 #[.pointer (some ⟨lb, 0, none⟩), .int .i64 at_, .string s] w fun e w' =>
    e = .returned (.int .i64 (wriD g d at_ s.data.toList).2) ∧ Wl Z w' lb db g (wriD g d at_ s.data.toList).1 ∧ Kept Z w w' := by
  have c2 : w.cell? ⟨lb, 2, none⟩ = some (.int .i64 g.m.ar) := by obtain ⟨sb, mb, nn, rv, hD, hL, _, _⟩ := h.ex; exact hL.cell 2
  have HST := Lib.hid (start_any h g.m.ar har)
  have HH := Lib.hid h
  have hsec := h.sec_hi
  have hsn : startN d g.m.ar ≤ 16385 := by
    unfold startN
    have : g.m.ar * secN d ≤ 1 * secN d := Nat.mul_le_mul_right _ har
    omega
  obtain ⟨n0, hn0⟩ : ∃ n0, startN d g.m.ar = n0 := ⟨_, rfl⟩
  obtain ⟨R, hR⟩ : ∃ R, wriD g d at_ s.data.toList = R := ⟨_, rfl⟩
  have HR0 : Hid (putD (s.size + 1) d (n0 + at_ / 64) s.data.toList = R) := Lib.hid (by rw [← hR, wriD, if_neg (by omega), hn0]; rfl)
  obtain ⟨A, hA⟩ : ∃ A, d.acts + s.size = A := ⟨_, rfl⟩
  have HA0 := Lib.hid (Nat.le_of_eq hA)
  have hA2 : A ≤ 4611140000000000000 := by omega
  rw [hR]
  rw [hn0] at HST hsn
  have HN : Hid ((n0 : Int) + (at_ : Int) / 64 = ((n0 + at_ / 64 : Nat) : Int)) := Lib.hid (by omega)
  have hm : ((at_ : Int) % 64 == 0) = true := by simp; omega
  have hm2 : (at_ : Int) % 64 = 0 := by omega
  have hal : at_ / 64 ≤ 140000000000000 := by omega
  clear h hR hn0 hA hsec har
  go_enter Try.func37, Try.ntmps37
  go_wp2_with fail
  refine HST.out.mono ?_
  rintro e w1 ⟨rfl, rfl⟩
  go_wp2_with fail
  rw [HN.out]
  go_loopw [2, 7] (fun sv nv wr => PwRel Z w lb db g R A sv nv wr) (fun sv _ _ => szOf sv)
  case atStart => exact ⟨s, n0 + at_ / 64, s.size + 1, d, rfl, rfl, HH.out, HR0.out, Nat.lt_succ_self _, by omega, HA0.out, Kept.refl _ _⟩
  case round =>
    obtain ⟨s, n, f, d, rfl, rfl, hw, hp, hf, hn, hac, hk⟩ := hrel.ex
    clear hrel HH HR0 HA0 HN HST hs
    have HW := Lib.hid hw
    have HP := Lib.hid hp
    have HK := Lib.hid hk
    have HA := Lib.hid (And.intro hf hac)
    clear hw hp hk hf hac
    by_cases hs0 : s.size = 0
    · have hse : s = ⟨#[]⟩ := by
        apply ByteArray.ext; apply Array.ext'
        exact List.length_eq_zero_iff.1 hs0
      subst hse
      have HR : Hid (R = (d, 0)) := Lib.hid (by
        rw [← HP.out]
        obtain ⟨f, rfl⟩ : ∃ k, f = k + 1 := ⟨f - 1, by have := HA.out; omega⟩
        rw [putD, if_pos (show (⟨#[]⟩ : ByteArray).data.toList.length = 0 from rfl)])
      go_wp2_with fail
      go_ret
      rw [HR.out]
      exact ⟨rfl, HW.out, HK.out⟩
    · have hne : s.toList.isEmpty = false := by
        rw [ByteArray.toList_eq, List.isEmpty_eq_false_iff]
        intro e; exact hs0 (by rw [← list_size, e]; rfl)
      obtain ⟨c, hc⟩ : ∃ c : Nat, min (s.size : Int) 64 = (c : Int) := ⟨min s.size 64, by omega⟩
      have hc64 : c ≤ 64 := by omega
      have hcs : c ≤ s.size := by omega
      have hc0 : 0 < c := by omega
      have hcut := fun V => cut_run V s hcs
      have hdrop := fun V => drop_run V s hcs
      obtain ⟨m, hm9⟩ : ∃ m : Nat, (64 : Int) - (c : Int) = (m : Int) := ⟨64 - c, by omega⟩
      have hw9 : IntKind.i64.wrap (m : Int) = (m : Int) := by rw [IntKind.wrap_i64]; omega
      have hm64 : (0 : Int) ≤ (m : Int) ∧ (m : Int) ≤ 4096 := by omega
      have HM64 := Lib.hid hm64
      clear hm64
      obtain ⟨ck, hck⟩ : ∃ ck, s.extract 0 c ++ blz (m : Int) = ck := ⟨_, rfl⟩
      have hsz1 : (s.extract 0 c).size = c := by rw [← list_size, ext_list]; simp [list_size]; omega
      have hsz2 : (blz (m : Int)).size = m := bl_size _
      have hcat : ∀ W, Sem.run Try.prog (Op.stringOp .add (s.extract 0 c) (blz (m : Int))) W = .ok (.string ck) W := fun W => by rw [run_string_add_sum W _ _ (by omega), hck]
      have HCK : Hid (ck.data.toList = chunkL s.data.toList) := Lib.hid (by
        rw [← hck, ByteArray.data_append, Array.toList_append, ext_list]
        unfold chunkL blz bl
        rw [List.drop_zero, Nat.sub_zero, Int.toNat_natCast, list_size, show m = 64 - s.size by omega]
        congr 1
        rcases Nat.le_total s.size 64 with h | h
        · rw [List.take_of_length_le (by rw [list_size]; omega), List.take_of_length_le (by rw [list_size]; omega)]
        · rw [show c = 64 by omega])
      obtain ⟨t, ht⟩ : ∃ t, s.extract c s.size = t := ⟨_, rfl⟩
      have HTL : Hid (t.data.toList = s.data.toList.drop 64) := Lib.hid (by
        rw [← ht, ext_list, List.take_of_length_le (by rw [List.length_drop, list_size]; exact Nat.le_refl _)]
        rcases Nat.le_total s.size 64 with h | h
        · rw [List.drop_eq_nil_of_le (by rw [list_size]; omega), List.drop_eq_nil_of_le (by rw [list_size]; omega)]
        · rw [show c = 64 by omega])
      have htz : t.size + c = s.size := by rw [← list_size, HTL.out, List.length_drop, list_size]; rcases Nat.le_total s.size 64 with h | h <;> omega
      rw [ht] at hdrop
      obtain ⟨v, hv⟩ : ∃ v, (writeD d (n : Int) (chunkL s.data.toList)).2 = v := ⟨_, rfl⟩
      obtain ⟨d1, hd1⟩ : ∃ d1, (writeD d (n : Int) (chunkL s.data.toList)).1 = d1 := ⟨_, rfl⟩
      have hda := (writeD_le d (n : Int) (chunkL s.data.toList)).1
      rw [hd1] at hda
      have HPD : Hid (v = 0 → ∃ f', f = f' + 1 ∧ putD f' d1 (n + 1) t.data.toList = R) := Lib.hid (fun h0 => by
        obtain ⟨f', rfl⟩ : ∃ k, f = k + 1 := ⟨f - 1, by have := HA.out; omega⟩
        refine ⟨f', rfl, ?_⟩
        rw [← HP.out, putD, if_neg (by rw [list_size]; exact hs0), if_pos (by rw [hv]; exact h0), hd1, HTL.out])
      have HPE : Hid (v ≠ 0 → R = (d1, v)) := Lib.hid (fun h0 => by
        obtain ⟨f', rfl⟩ : ∃ k, f = k + 1 := ⟨f - 1, by have := HA.out; omega⟩
        rw [← HP.out, putD, if_neg (by rw [list_size]; exact hs0), if_neg (by rw [hv]; exact h0), ← hd1, ← hv])
      have HV := Lib.hid hv
      have HD1 := Lib.hid hd1
      obtain ⟨sb, mb, nn, rv, hp⟩ := HW.out.open_
      have hacts : d.acts < 9223372036854775807 := by have := HA.out; omega
      clear hck hsz1 hsz2 ht hv hd1
      go_wp2_with fail
      have hp1 := hp.kept0 ((Kept.refl _ wr).drew)
      clear hp
      have t0 := hp1.seven.1
      have hk0 : Kept Z wr wr.drew := (Kept.refl _ wr).drew
      have hp := hp1
      clear hp1
      go_region_held3 (fun w' => w'.cell? ⟨lb, 0, none⟩ = some (.pointer (some ⟨db, 0, none⟩)))
        (first | assumption | go_keep)
        (first
          | (go_at_call 32; refine (blankZ _ _ HM64.out).mono ?_; rintro e w5 ⟨rfl, hk5⟩; replace hp := hp.kept0 hk5; replace hk0 := hk0.trans (hk5.mono (fun _ _ f => f.elim)); clear hk5 t0; have t0 := hp.seven.1)
          | (go_at_call 7; refine (wr_any hp.d _ _ HCK.out HV.out hacts).mono ?_; rintro e w5 ⟨rfl, ⟨nn5, hd5⟩, hk5⟩; rw [HD1.out] at hd5; replace hk0 := hk0.trans (hp.keptB hk5 (fun k hk => .inl hk)); replace hp := hp.disk hk5 hd5; clear hd5 hk5 t0; have t0 := hp.seven.1))
      all_goals (
        have HP5 := Lib.hid hp.close
        have HK5 := Lib.hid (HK.out.trans hk0)
        clear hp hk0 t0 hcut hcat hm9 hw9)
      by_cases hv0 : v = 0
      · obtain ⟨f', hf', hp'⟩ := HPD.out hv0
        have HP' := Lib.hid hp'
        have HF' := Lib.hid hf'
        subst hv0
        clear hp' hf'
        go_wp2_with fail
        go_roundw
        case rel => exact ⟨.string t, _, .int .i64 ((n : Int) + 1), ⟨t, n + 1, f', d1, rfl, by go_num, HP5.out, HP'.out, by have := HA.out; have := HF'.out; omega, by omega, by have := HA.out; omega, HK5.out⟩, rfl, rfl, rfl⟩
        case measure => show t.size < s.size; omega
      · have hvb : (v == 0) = false := by simpa using hv0
        have HR := Lib.hid (HPE.out hv0)
        go_wp2_with fail
        go_ret
        rw [HR.out]
        exact ⟨rfl, HP5.out, HK5.out⟩
end
end Go.Proofs.Ytmfngbgdmlnlcaa
