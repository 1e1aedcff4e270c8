/- The document's own answers of layer 2: lists of rows, of texts, laid. -/
import Derived.Test.YtngcfnffbggniaaRput
namespace Go.Proofs.Ytngcfnffbggniaa
open Go.ChangeShapes Go.WideShapes Go.ChangeAt Go.RowKit
set_option linter.unusedVariables false

/-- what has been laid of a list, behind pre -/
structure LaidRel {α : Type} (f : Fmt α) (pre : List UInt8) (w : World) (xs : List α) (sv iv : Value) (wr : World) : Prop where
  ex : ∃ k, iv = .int .i64 (k : Nat) ∧ k ≤ xs.length ∧ sv = .string ⟨(pre ++ layN f (xs.take k)).toArray⟩ ∧ Old w wr

theorem layN_zero {α : Type} (f : Fmt α) (pre : List UInt8) (xs : List α) : pre ++ layN f (xs.take 0) = pre := by simp [layN]

set_option maxRecDepth 100000 in
set_option maxHeartbeats 600000 in
theorem refacls_any (xs : List Acl) (sv : Value) (ok : Nat → Prop) (w : World) (hL : ListR aclE w ok 2 sv xs) (hl : ((listF aclF).lay xs).length ≤ 1000000000000000) :
    Calls Try.prog 81 #[sv] w (OldStr w ((listF aclF).lay xs)) := by
  obtain ⟨rows, ⟨A, c, rfl, hlc, hm, hat⟩, hlen, hel⟩ := hL
  unfold maxLen at hm
  have hlay : (listF aclF).lay xs = sev rows.length ++ layN aclF xs := by rw [hlen]; rfl
  rw [hlay] at hl ⊢
  rw [List.length_append] at hl
  have hlen1 : rows.length ≤ xs.length := by omega
  have hlen2 : xs.length ≤ rows.length := by omega
  clear hlen hlay
  have hst : ∀ W, Old w W → LaidRel aclF (sev rows.length) w xs (.string ⟨(sev rows.length).toArray⟩) (.int .i64 0) W := fun W h => ⟨0, rfl, Nat.zero_le _, by rw [layN_zero], h⟩
  have HST := Lib.hid hst; clear hst
  go_enter Try.func81, Try.ntmps81
  go_wp2_with fail
  refine (refcount_any rows.length _ (by unfold I64; omega)).mono ?_
  rintro e w0 ⟨rfl, hO0⟩
  rw [Int.toNat_natCast]
  have HO0 := Lib.hid hO0; clear hO0
  go_wp2_with fail
  go_loopw [3, 4] (fun sv iv wr => LaidRel aclF (sev rows.length) w xs sv iv wr) (fun _ iv _ => xs.length - (intOf iv).toNat)
  case atStart => exact HST.out _ HO0.out
  case round =>
    obtain ⟨k, rfl, hk, rfl, hO⟩ := hrel.ex
    clear hrel HST HO0
    by_cases hlt : k < xs.length
    · have hkr : k < rows.length := by omega
      rcases hat with h0 | ⟨g, off, rfl, hok, hg, hc⟩
      · subst h0; simp at hkr
      have hE := aclE_ok.keep (hel k hlt hkr) hO (disj_none _)
      have hcell : ∀ j (hj : j < rows[k].length), wr.cell? ⟨g, off + k * 2 + j, none⟩ = some rows[k][j] := fun j hj => by
        rw [← (hc k hkr).2 j hj]; exact World.cell?_of_block (hO.block g hg id)
      have hle := layN_le (f := aclF) hlt
      have HTK := Lib.hid (layN_take (f := aclF) hlt)
      generalize rows[k] = cs at hcell hE
      generalize xs[k] = x at hle hE HTK
      clear hc hel
      obtain ⟨rfl, h0, h1⟩ := hE
      have c0 : wr.cell? ⟨g, off + k * 2, none⟩ = some (.int .i64 x.perms) := hcell 0 (by simp)
      have c1 : wr.cell? ⟨g, off + k * 2 + 1, none⟩ = some (.string x.id) := hcell 1 (by simp)
      clear hcell
      have t1 : x.id.size ≤ 9223372036854775000 := by unfold Str at h1; omega
      clear h1
      have hkl : (k : Int) < (rows.length : Int) := by omega
      have hlx : aclF.lay x = sev (zz x.perms) ++ (sev x.id.size ++ x.id.data.toList) := rfl
      obtain ⟨D, hD⟩ : ∃ D, sev rows.length ++ layN aclF (xs.take k) = D := ⟨_, rfl⟩
      have hDl : D.length + ((sev (zz x.perms)).length + ((sev x.id.size).length + x.id.data.toList.length)) ≤ 1000000000000000 := by
        rw [hlx] at hle
        simp only [List.length_append] at hle
        rw [← hD, List.length_append]; omega
      have hfin : D ++ (sev (zz x.perms) ++ (sev x.id.size ++ x.id.data.toList)) = sev rows.length ++ layN aclF (xs.take (k + 1)) := by
        rw [← hD, HTK.out, List.append_assoc, ← hlx]
      rw [hD]
      have HF := Lib.hid hfin
      clear hD hlx hle HTK hfin
      have q0 : ∀ W, Sem.run Try.prog (Op.stringOp .add ⟨D.toArray⟩ ⟨(sev (zz x.perms)).toArray⟩) W = .ok (.string ⟨(D ++ sev (zz x.perms)).toArray⟩) W := fun W => add_str _ _ _ (by omega) W
      have q1 : ∀ W, Sem.run Try.prog (Op.stringOp .add ⟨(D ++ sev (zz x.perms)).toArray⟩ ⟨(sev x.id.size ++ x.id.data.toList).toArray⟩) W = .ok (.string ⟨(D ++ (sev (zz x.perms) ++ (sev x.id.size ++ x.id.data.toList))).toArray⟩) W := fun W => by
        rw [add_str _ _ _ (by simp only [List.length_append]; omega) W, List.append_assoc]
      clear hDl
      go_upto_region 5 with fail
      go_region_held3 (fun w' => w'.cell? ⟨g, off + k * 2, none⟩ = some (.int .i64 x.perms) ∧ w'.cell? ⟨g, off + k * 2 + 1, none⟩ = some (.string x.id) ∧ Old w w')
        (((try dsimp only); (repeat' apply And.intro) <;> first | assumption | (simp only [World.cell?_drew]; assumption) | exact Old.drew (by assumption)))
        (first
          | (go_at_call 42; refine (refnum_any _ _ (by assumption)).mono ?_; rintro e w9 ⟨rfl, hO9⟩; go_split_ands; have hP9 : Old w w9 := Old.none (by assumption) hO9; have d0 : w9.cell? ⟨g, off + k * 2, none⟩ = some (.int .i64 x.perms) := Old.cell hO9 (by assumption); have d1 : w9.cell? ⟨g, off + k * 2 + 1, none⟩ = some (.string x.id) := Old.cell hO9 (by assumption); clear hO9)
          | (go_at_call 43; refine (reftext_any _ _ (by assumption)).mono ?_; rintro e w9 ⟨rfl, hO9⟩; go_split_ands; have hP9 : Old w w9 := Old.none (by assumption) hO9; have d0 : w9.cell? ⟨g, off + k * 2, none⟩ = some (.int .i64 x.perms) := Old.cell hO9 (by assumption); have d1 : w9.cell? ⟨g, off + k * 2 + 1, none⟩ = some (.string x.id) := Old.cell hO9 (by assumption); clear hO9))
      all_goals go_wp2_with fail
      all_goals go_roundw
      all_goals first
        | (case rel => exact ⟨k + 1, by go_num, hlt, by rw [HF.out], by assumption⟩)
        | (case measure => simp [intOf]; omega)
    · have hkl : ¬ (k : Int) < (rows.length : Int) := by omega
      obtain rfl : k = xs.length := by omega
      have ht : xs.take xs.length = xs := List.take_length
      rw [ht]
      go_wp2_with fail
      go_ret
      exact ⟨rfl, hO⟩
end Go.Proofs.Ytngcfnffbggniaa
