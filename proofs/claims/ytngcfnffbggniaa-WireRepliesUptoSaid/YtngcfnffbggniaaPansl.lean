/- Lists of answers, laid. -/
import Derived.Test.YtngcfnffbggniaaPans
import Derived.Test.YtngcfnffbggniaaFlat
namespace Go.Proofs.Ytngcfnffbggniaa
open Go.ChangeShapes Go.WideShapes Go.ChangeAt Go.RowKit
set_option linter.unusedVariables false

set_option maxRecDepth 100000 in
theorem putList_ans (xs : List Ans) (sv : Value) (ok : Nat → Prop) (w : World) (b : Nat) (v : Value) (l : List UInt8) (hW : WAt w b v l) (hL : ListR ansE w ok 17 sv xs) (hd : Disj ok (WS b v)) (hi : In w ok) (hl : l.length + ((listF ansF).lay xs).length ≤ 144900000000000) :
    Calls Try.prog 89 #[.pointer (some ⟨b, 0, none⟩), sv, .func (.func 88) #[] #[]] w (WPost w b v (l ++ (listF ansF).lay xs)) := by
  obtain ⟨rows, ⟨A, c, rfl, hlc, hm, hat⟩, hlen, hel⟩ := hL
  unfold maxLen at hm
  have hlen1 : rows.length ≤ xs.length := by omega
  have hlen2 : xs.length ≤ rows.length := by omega
  have hfin := (show (listF ansF).lay xs = sev xs.length ++ layN ansF xs from rfl)
  rw [hfin] at hl ⊢
  rw [← hlen] at hl ⊢
  clear hfin hlen
  rw [List.length_append] at hl
  go_enter Try.func89, Try.ntmps89
  go_wp2_with fail
  refine (wcount_wide rows.length _ b v l hW (by omega) (by omega)).mono ?_
  rintro e w0 h0
  obtain ⟨v0, rfl, S0⟩ := (WSt.start hW).step h0
  clear h0
  go_wp2_with fail
  go_loopw [14] (fun iv wr => PutRelL w b v (l ++ sev rows.length) xs.length (fun k => layN ansF (xs.take k)) iv wr) (fun iv _ => xs.length - (intOf iv).toNat)
  case atStart => exact ⟨0, v0, rfl, Nat.zero_le _, by simpa [layN] using S0⟩
  case round =>
    obtain ⟨k, v1, rfl, hk, S1⟩ := hrel.ex
    clear hrel S0
    by_cases hlt : k < xs.length
    · have hkr : k < rows.length := by omega
      rcases hat with h0 | ⟨g, off, rfl, hok, hg, hc⟩
      · subst h0; simp at hkr
      have hE := ansE_ok.keep (hel k hlt hkr) S1.kept hd
      have hra : wr.rangeAt g (off + k * 17) rows[k] := fun j u hu => by
        obtain ⟨hj, rfl⟩ := List.getElem?_eq_some_iff.1 hu
        rw [← (hc k hkr).2 j hj]; exact World.cell?_of_block (S1.kept.block g hg (hd g hok.1))
      have hle := layN_le (f := ansF) hlt
      have HTK := Lib.hid (layN_take (f := ansF) hlt)
      generalize rows[k] = cs at hra hE
      generalize xs[k] = x at hle hE HTK
      clear hc hel
      have hkl : (k : Int) < (rows.length : Int) := by omega
      have hd1 := (hd.symm.sep hi S1.sep).symm
      have hi1 : In wr ok := hi.kept S1.kept
      have hll : (l ++ sev rows.length ++ layN ansF (xs.take k)).length + (ansF.lay x).length ≤ 144900000000000 := by simp only [List.length_append]; omega
      have hcall : ∀ (o : Obj), Calls Try.prog 88 #[.pointer (some ⟨b, 0, none⟩), .agg cs.toArray] (wr.alloc o) (WPost (wr.alloc o) b v1 (l ++ sev rows.length ++ layN ansF (xs.take k) ++ ansF.lay x)) := fun o =>
        put_ans x _ ok _ b v1 _ (S1.alloc o).at_ (ansE_ok.keep hE ((Kept.refl (fun _ => False) wr).alloc o) (disj_none ok)) hd1 (hi1.kept ((Kept.refl (fun _ => False) wr).alloc o)) hll
      have hfl := ansE_flat hE
      have HSZ := Lib.hid (show (Try.prog.info? 46).map (·.size) = some cs.length by rw [hfl.1]; kernel_rfl)
      have HC := Lib.hid hfl.1
      have H1 := Lib.hid hfl.2
      have HRA := Lib.hid hra
      have HCALL := Lib.hid hcall
      have HS := Lib.hid (fun (o : Obj) => S1.alloc o)
      clear hcall hE S1 hd1 hi1 hll hfl hra
      go_wp2_with (first | (refine wpList_store_new _ rfl 46 _ _ rfl _ cs rfl rfl HSZ.out HC.out.symm H1.out ?_) | (refine wpList_load_mid rfl 46 (.tmp 16) rfl g (off + k * 17) rfl cs _ HRA.out Try.underlying46 rfl HSZ.out ?_) | (refine wpList_load_mid rfl 46 (.tmp 7) rfl _ 0 rfl cs _ (range_new _ cs _) Try.underlying46 rfl HSZ.out ?_))
      refine (HCALL.out _).mono ?_
      rintro e w2 h2
      obtain ⟨v2, rfl, S2⟩ := (HS.out _).step h2
      clear h2 HCALL HS
      go_wp2_with fail
      go_roundw
      case rel => exact ⟨k + 1, v2, rfl, hlt, by rw [HTK.out, ← List.append_assoc]; exact S2⟩
      case measure => simp [intOf]; omega
    · have hkl : ¬ (k : Int) < (rows.length : Int) := by omega
      obtain rfl : k = xs.length := by omega
      go_wp2_with fail
      go_end0
      exact S1.fin (by rw [List.take_length, List.append_assoc])

end Go.Proofs.Ytngcfnffbggniaa
