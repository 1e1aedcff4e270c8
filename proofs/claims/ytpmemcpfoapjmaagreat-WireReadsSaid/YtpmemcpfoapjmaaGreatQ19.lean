/- The document's own answers of layer 2: a list of texts, taken up. -/
import Derived.Test.YtpmemcpfoapjmaaGreatQ10
namespace Go.Proofs.YtpmemcpfoapjmaaGreat
open Go.ChangeShapes Go.WideShapes Go.ChangeAt Go.RowKit
set_option linter.unusedVariables false

set_option maxRecDepth 100000 in
set_option maxHeartbeats 800000 in
theorem reftake_texts (w : World) (b : Nat) (s : ByteArray) (p pos e : Nat) (hF : FAt w b s p e) (hp : e = 0 → p = pos) {xs : List ByteArray} {q e' : Nat} (h : (listF (textF 4096)).get s.data.toList pos e = (xs, q, e')) :
    Calls Tryz.prog 70 #[.pointer (some ⟨b, 0, none⟩)] w (FLPost textE 1 w b s xs q e') := by
  obtain ⟨i0, hi, hz0, hz1, hz2⟩ := info_parts info_text
  have hcl := rCount_le s.data.toList 256 pos e
  rcases h1 : rCount s.data.toList 256 pos e with ⟨n, p1, e1⟩
  have HCC := Lib.hid (refcnt_any w b s p pos e hF hp h1)
  rw [h1] at hcl
  simp only [listF, h1] at h hcl
  have HH := Lib.hid h; clear h
  have HZ1 := Lib.hid hz1; clear hz1
  have HZ2 := Lib.hid hz2; clear hz2
  have HZ0 := Lib.hid hz0; clear hz0
  have HI := Lib.hid hi; clear hi
  clear h1 hp
  have hn : n ≤ 256 := by omega
  clear hcl
  have hbw := lt_of_block hF.at_
  clear hF
  go_enter Tryz.func70, Tryz.ntmps70
  go_wp2_with fail
  refine HCC.out.mono ?_
  rintro en w0 ⟨p0, rfl, hF0, hp0, hk0⟩
  have HP0 := Lib.hid hp0; clear hp0
  go_wp2_with fail
  go_loopw [3, 5] (fun acc iv wr => FGetRel textE (textF 4096) w b s 9 1 n p1 e1 acc iv wr) (fun _ iv _ => n - (intOf iv).toNat)
  case atStart => exact ⟨0, p0, rfl, Nat.zero_le _, AccR.nil _ _ _ _ _, hF0, HP0.out, hk0⟩
  case round =>
    obtain ⟨k, pk, rfl, hkn, hacc, hFk, hpk, hK⟩ := hrel.ex
    clear hrel HCC hF0 hk0 HP0
    have c2 := hFk.c2
    by_cases hlt : k < n
    · have hkl : (k : Int) < (n : Int) := by omega
      by_cases hz : (getN (textF 4096).get k s.data.toList p1 e1).2.2 = 0
      · rcases hgn : getN (textF 4096).get k s.data.toList p1 e1 with ⟨ys, qk, ek⟩
        have hlen := getN_len ((textF 4096)).get k s.data.toList p1 e1
        have hsn := getN_snoc ((textF 4096)).get k s.data.toList p1 e1
        rw [hgn] at hacc hFk hpk c2 hz hlen hsn
        simp only at hacc hFk hpk c2 hz hlen hsn
        subst hz
        rcases g2 : (textF 4096).get s.data.toList qk 0 with ⟨a2, qb, eb⟩
        rw [g2] at hsn
        simp only at hsn
        have i2 : Str a2 := text_fit (by decide) g2
        have K2 := Lib.hid (ftext_of (by decide) g2)
        have HSN := Lib.hid hsn
        have HPK := Lib.hid hpk
        clear hgn g2 hsn hpk
        go_wp2_with fail
        refine (K2.out _ _ _ hFk HPK.out).mono ?_
        rintro en w2 ⟨pb, rfl, hFb, hpb, hka2⟩
        have HPB := Lib.hid hpb; clear hpb
        have hacc1 := (hacc.keep (WkE_ok textE_ok) hka2 (fun g hg hs => by have hs' : g = b := hs; have hg' : w.heap.size ≤ g := hg; omega)).weak (e' := eb) (fun _ => rfl)
        have hE2 : WkE eb textE w2 (fun g => w.heap.size ≤ g ∧ some g ≠ u3.ownBlock) [.string a2] a2 := fun _ => ⟨rfl, i2⟩
        have hfl : Flat 1 [Value.string a2] := ⟨rfl, by simp [Value.oneCell']⟩
        have hwl : w.heap.size ≤ w2.heap.size := Nat.le_trans hK.size hka2.size
        have hK1 := hK.trans hka2
        clear hacc hK hka2 hFk K2 c2 HPK
        go_wp2_with (first | (refine wpList_one rfl 29 9 (.tmp 24) rfl (.string a2) [.string a2] rfl rfl i0 _ Tryz.underlying29 HI.out HZ0.out (by rw [HZ1.out]; rfl) (by decide) (by decide) ?_) | (at_builtin; go_loud (refine wpList_push (WkE_ok textE_ok) w w2 rfl (.tmp 23) (.tmp 25) 29 rfl 9 i0 _ 1 16 Tryz.underlying29 HI.out HZ0.out HZ1.out HZ2.out rfl (by decide) u3 _ hacc1 _ _ hE2 hfl rfl rfl (by omega) (by decide) hwl ?_); intro v' w' hacc' hk'))
        go_roundw
        case rel => exact ⟨k + 1, pb, by go_num, hlt, by rw [HSN.out]; exact hacc', by rw [HSN.out]; exact hFb.keep hk' (fun hs => by have hs' : w.heap.size ≤ b := hs; omega), by rw [HSN.out]; exact HPB.out, Kept.trans' hK1 hk' (fun g hg hs => by have hs' : w.heap.size ≤ g := hs; omega)⟩
        case measure => simp [intOf]; omega
      · have hne : (((getN (textF 4096).get k s.data.toList p1 e1).2.2 : Nat) : Int) ≠ 0 := by omega
        have hfin : e' ≠ 0 := by
          have h2 := getN_wrong (textF_ok (by decide)) hkn hz
          rw [HH.out] at h2
          simp only at h2
          omega
        have hee : (getN (textF 4096).get k s.data.toList p1 e1).2.2 = e' := by
          have h2 := getN_wrong (textF_ok (by decide)) hkn hz
          rw [HH.out] at h2
          exact h2.symm
        have hsl := hacc.isSl
        rw [hee] at hFk c2 hne
        have HSL := Lib.hid hsl
        clear hacc hpk hz hee hsl HH
        have hneb : (((e' : Nat) : Int) == 0) = false := by simpa using hne
        go_wp2_with fail
        go_ret
        exact ⟨_, pk, rfl, HSL.out, fun h0 => absurd h0 hfin, hFk, fun h0 => absurd h0 hfin, hK⟩
    · have hkl : ¬ (k : Int) < (n : Int) := by omega
      obtain rfl : k = n := by omega
      have hlist := hacc.list (WkE_ok textE_ok)
      have hsl := hacc.isSl
      rw [HH.out] at hlist hFk hpk c2
      have HL := Lib.hid hlist.weak
      have HSL := Lib.hid hsl
      have HPK := Lib.hid hpk
      clear hacc hlist hpk hsl HH
      go_wp2_with fail
      go_ret
      exact ⟨_, pk, rfl, HSL.out, HL.out, hFk, HPK.out, hK⟩
end Go.Proofs.YtpmemcpfoapjmaaGreat
