/- Lists of rows, laid. -/
import Derived.Test.YtngcfnffbggniaaPscal
namespace Go.Proofs.Ytngcfnffbggniaa
open Go.ChangeShapes Go.WideShapes Go.ChangeAt Go.RowKit
set_option linter.unusedVariables false

theorem put_acl (x : Acl) (cs : List Value) (ok : Nat → Prop) (w : World) (b : Nat) (v : Value) (l : List UInt8) (hW : WAt w b v l) (hE : aclE w ok cs x) (hd : Disj ok (WS b v)) (hi : In w ok) (hl : l.length + (aclF.lay x).length ≤ 144900000000000) :
    Calls Try.prog 126 #[.pointer (some ⟨b, 0, none⟩), .agg cs.toArray] w (WPost w b v (l ++ aclF.lay x)) := by
  obtain ⟨rfl, h1, h2⟩ := hE
  exact putAcl_any x w b v l hW h1 h2 hl

set_option maxRecDepth 100000 in
theorem putList_acl (xs : List Acl) (sv : Value) (ok : Nat → Prop) (w : World) (b : Nat) (v : Value) (l : List UInt8) (hW : WAt w b v l) (hL : ListR aclE w ok 2 sv xs) (hd : Disj ok (WS b v)) (hi : In w ok) (hl : l.length + ((listF aclF).lay xs).length ≤ 144900000000000) :
    Calls Try.prog 125 #[.pointer (some ⟨b, 0, none⟩), sv, .func (.func 126) #[] #[]] w (WPost w b v (l ++ (listF aclF).lay xs)) := by
  obtain ⟨rows, ⟨A, c, rfl, hlc, hm, hat⟩, hlen, hel⟩ := hL
  unfold maxLen at hm
  have hlen1 : rows.length ≤ xs.length := by omega
  have hlen2 : xs.length ≤ rows.length := by omega
  have hfin := (show (listF aclF).lay xs = sev xs.length ++ layN aclF xs from rfl)
  rw [hfin] at hl ⊢
  rw [← hlen] at hl ⊢
  clear hfin hlen
  rw [List.length_append] at hl
  go_enter Try.func125, Try.ntmps125
  go_wp2_with fail
  refine (wcount_wide rows.length _ b v l hW (by omega) (by omega)).mono ?_
  rintro e w0 h0
  obtain ⟨v0, rfl, S0⟩ := (WSt.start hW).step h0
  clear h0
  go_wp2_with fail
  go_loopw [14] (fun iv wr => PutRelL w b v (l ++ sev rows.length) xs.length (fun k => layN aclF (xs.take k)) iv wr) (fun iv _ => xs.length - (intOf iv).toNat)
  case atStart => exact ⟨0, v0, rfl, Nat.zero_le _, by simpa [layN] using S0⟩
  case round =>
    obtain ⟨k, v1, rfl, hk, S1⟩ := hrel.ex
    clear hrel S0
    by_cases hlt : k < xs.length
    · have hkr : k < rows.length := by omega
      rcases hat with h0 | ⟨g, off, rfl, hok, hg, hc⟩
      · subst h0; simp at hkr
      have hE := aclE_ok.keep (hel k hlt hkr) S1.kept hd
      have hcell : ∀ j (hj : j < rows[k].length), wr.cell? ⟨g, off + k * 2 + j, none⟩ = some rows[k][j] := fun j hj => by
        rw [← (hc k hkr).2 j hj]; exact World.cell?_of_block (S1.kept.block g hg (hd g hok.1))
      have hle := layN_le (f := aclF) hlt
      have HTK := Lib.hid (layN_take (f := aclF) hlt)
      generalize rows[k] = cs at hcell hE
      generalize xs[k] = x at hle hE HTK
      clear hc hel
      obtain ⟨rfl, _⟩ := id hE
      have c0 : wr.cell? ⟨g, off + k * 2, none⟩ = some (.int .i64 x.perms) := hcell 0 (by simp)
      have c1 : wr.cell? ⟨g, off + k * 2 + 1, none⟩ = some (.string x.id) := hcell 1 (by simp)
      clear hcell
      have hkl : (k : Int) < (rows.length : Int) := by omega
      have hd1 := (hd.symm.sep hi S1.sep).symm
      have hi1 : In wr ok := hi.kept S1.kept
      have hll : (l ++ sev rows.length ++ layN aclF (xs.take k)).length + (aclF.lay x).length ≤ 144900000000000 := by simp only [List.length_append]; omega
      have hcall : ∀ (o : Obj), Calls Try.prog 126 #[.pointer (some ⟨b, 0, none⟩), .agg #[.int .i64 x.perms, .string x.id]] (wr.alloc o) (WPost (wr.alloc o) b v1 (l ++ sev rows.length ++ layN aclF (xs.take k) ++ aclF.lay x)) := fun o =>
        put_acl x _ ok _ b v1 _ (S1.alloc o).at_ (aclE_ok.keep hE ((Kept.refl (fun _ => False) wr).alloc o) (disj_none ok)) hd1 (hi1.kept ((Kept.refl (fun _ => False) wr).alloc o)) hll
      have HCALL := Lib.hid hcall
      have HS := Lib.hid (fun (o : Obj) => S1.alloc o)
      clear hcall hE S1 hd1 hi1 hll
      go_wp2_with fail
      refine (HCALL.out _).mono ?_
      rintro e w2 h2
      obtain ⟨v2, rfl, S2⟩ := (HS.out _).step h2
      clear h2 HCALL HS
      go_wp2_with fail
      go_roundw
      case rel => exact ⟨k + 1, v2, rfl, hlt, by rw [HTK.out, ← List.append_assoc]; exact S2⟩
      case measure => simp [intOf]; omega
    · have hkl : ¬ (k : Int) < (rows.length : Int) := by omega
      obtain rfl : k = xs.length := by omega
      go_wp2_with fail
      go_end0
      exact S1.fin (by rw [List.take_length, List.append_assoc])
end Go.Proofs.Ytngcfnffbggniaa
