/- The writer's calls, on rows up to what the inputs can reach. -/
import Derived.Test.YtngcfnffbggniaaBig
namespace Go.Proofs.Ytngcfnffbggniaa
open Go.ChangeShapes Go.WideShapes Go.ChangeAt Go.RowKit
set_option linter.unusedVariables false

set_option maxRecDepth 100000 in
theorem put_wide (n : Nat) (w : World) (v : Value) (l : List UInt8) (h2 : n ≤ 18446744073709551615) (hl : l.length ≤ 144900000000000) (hown : Row w v l) :
    Calls Try.prog 141 #[v, .int .u64 n] w (PutPost w v (l ++ sev n)) := by
  have HN := Lib.hid h2
  clear h2
  go_enter Try.func141, Try.ntmps141
  go_wp2
  go_loopw [0, 1] (fun v1 i wr => PutRel w v l n v1 i wr) (fun _ i _ => (intOf i).toNat)
  case atStart => exact ⟨n, [], rfl, Nat.le_refl _, rfl, by simpa using hown, World.grownBy.refl _ _, Sep.refl _ _⟩
  case round =>
    obtain ⟨m, done, rfl, hmn, hsev, hrow, hg, hsep⟩ := hrel.ex
    clear hrel
    have HS := Lib.hid hsev; clear hsev
    have hm64 : m ≤ 18446744073709551615 := by have := HN.out; omega
    have hdl : done.length ≤ 10 := by
      have := congrArg List.length HS.out
      simp only [List.length_append] at this
      have := sev_length_u64 HN.out
      omega
    by_cases hlt : 128 ≤ m
    · have hcell : ∀ w : World, (w.alloc (.cells #[.int .u8 (bits BinOp.or IntKind.u8 ((m : Int) % 256) 128)] 5)).cell? ⟨w.heap.size, 0, none⟩ = some (.int .u8 (UInt8.ofNat (m % 128 + 128)).toNat) := fun w => by rw [cell_new, byte_hi]
      have HC := Lib.hid hcell; clear hcell
      go_wp2_with (at_builtin; go_loud (refine wpList_byte_wide _ rfl _ _ rfl u0 (l ++ done) rfl (hrow.alloc _) (by simp; omega) ⟨wr.heap.size, 0, none⟩ 1 (UInt8.ofNat (m % 128 + 128)) rfl (HC.out _) ?_); intro v' w' hrow' hg' hs')
      obtain ⟨hg2, hs2⟩ := step_alloc hg hsep _ hg' hs'
      refine ⟨⟨m / 128, done ++ [UInt8.ofNat (m % 128 + 128)], rfl, by omega, ?_, by rw [← List.append_assoc]; exact hrow', hg2, hs2⟩, by simp [intOf]; omega⟩
      rw [← HS.out, sev_ge hlt]; simp
    · have hcell : ∀ w : World, (w.alloc (.cells #[.int .u8 (m : Int)] 5)).cell? ⟨w.heap.size, 0, none⟩ = some (.int .u8 (UInt8.ofNat m).toNat) := fun w => by rw [cell_new, toNat_ofNat_lt (by omega)]
      have HC := Lib.hid hcell; clear hcell
      go_wp2_with (at_builtin; go_loud (refine wpList_byte_wide _ rfl _ _ rfl u0 (l ++ done) rfl (hrow.alloc _) (by simp; omega) ⟨wr.heap.size, 0, none⟩ 1 (UInt8.ofNat m) rfl (HC.out _) ?_); intro v' w' hrow' hg' hs')
      obtain ⟨hg2, hs2⟩ := step_alloc hg hsep _ hg' hs'
      have hfin : l ++ done ++ [UInt8.ofNat m] = l ++ sev n := by rw [← HS.out, sev_lt (by omega)]; simp
      rw [hfin] at hrow'
      go_ret
      exact ⟨_, rfl, hrow', hg2, hs2⟩

theorem wcount_wide (n : Nat) (w : World) (b : Nat) (v : Value) (l : List UInt8) (hW : WAt w b v l) (h2 : n ≤ 9223372036854775807) (hl : l.length ≤ 144900000000000) :
    Calls Try.prog 128 #[.pointer (some ⟨b, 0, none⟩), .int .i64 n] w (WPost w b v (l ++ sev n)) := by
  have hc := cell_of_one hW.at_
  have hf := free_of_one hW.at_
  go_enter Try.func128, Try.ntmps128
  go_wp2_with (go_at_call 141; refine (put_wide _ _ _ l (by omega) hl hW.row).mono ?_; rintro e w1 ⟨v1, rfl, hrow, hg, hs⟩; obtain ⟨hc1, hf1⟩ := hW.behind hg; obtain ⟨p1, n1, c1, rfl⟩ := hrow.shape)
  go_end0
  exact ⟨_, rfl, (WPost.mk hW hrow hg hs).1, (WPost.mk hW hrow hg hs).2, hs⟩

theorem wnum_wide (n : Int) (w : World) (b : Nat) (v : Value) (l : List UInt8) (hW : WAt w b v l) (h1 : -9223372036854775808 ≤ n) (h2 : n ≤ 9223372036854775807) (hl : l.length ≤ 144900000000000) :
    Calls Try.prog 95 #[.pointer (some ⟨b, 0, none⟩), .int .i64 n] w (WPost w b v (l ++ sev (zz n))) := by
  have hc := cell_of_one hW.at_
  have hf := free_of_one hW.at_
  have hz := zz_le h1 h2
  have hz0 : (0 : Int) ≤ zz n := Int.natCast_nonneg _
  go_enter Try.func95, Try.ntmps95
  go_region_with (first | (go_at_call 142; refine (zig_any n _ h1 h2).mono ?_; rintro e w' ⟨rfl, rfl⟩) | (go_at_call 141; refine (put_wide _ _ _ l (by omega) hl hW.row.drew).mono ?_; rintro e w1 ⟨v1, rfl, hrow, hg, hs⟩; replace hg := grownBy_drew hg; obtain ⟨hc1, hf1⟩ := hW.behind hg; obtain ⟨p1, n1, c1, rfl⟩ := hrow.shape))
  all_goals go_end0
  all_goals exact ⟨_, rfl, (WPost.mk hW hrow hg hs).1, (WPost.mk hW hrow hg hs).2, hs⟩

theorem wflag_wide (x : Bool) (w : World) (b : Nat) (v : Value) (l : List UInt8) (hW : WAt w b v l) (hl : l.length ≤ 144900000000000) :
    Calls Try.prog 127 #[.pointer (some ⟨b, 0, none⟩), .bool x] w (WPost w b v (l ++ [if x then 1 else 0])) := by
  have hc := cell_of_one hW.at_
  have hf := free_of_one hW.at_
  have HC : ∀ (w : World) (x : UInt8), (w.alloc (.cells #[.int .u8 (x.toNat : Int)] 5)).cell? ⟨w.heap.size, 0, none⟩ = some (.int .u8 x.toNat) := fun w x => cell_new _ _ _
  have HC := Lib.hid HC
  cases x
  · go_enter Try.func127, Try.ntmps127
    go_wp2_with (at_builtin; go_loud (refine wpList_byte_wide _ rfl _ _ rfl v l rfl (hW.row.alloc _) (by omega) ⟨w.heap.size, 0, none⟩ 1 0 rfl (HC.out _ 0) ?_); intro v1 w1 hrow hg' hs'; obtain ⟨hg, hs⟩ := step_alloc (World.grownBy.refl w v.ownBlock) (Sep.refl w v) _ hg' hs'; obtain ⟨hc1, hf1⟩ := hW.behind hg; obtain ⟨p1, n1, c1, rfl⟩ := hrow.shape)
    go_end0
    exact ⟨_, rfl, (WPost.mk hW hrow hg hs).1, (WPost.mk hW hrow hg hs).2, hs⟩
  · go_enter Try.func127, Try.ntmps127
    go_wp2_with (at_builtin; go_loud (refine wpList_byte_wide _ rfl _ _ rfl v l rfl (hW.row.alloc _) (by omega) ⟨w.heap.size, 0, none⟩ 1 1 rfl (HC.out _ 1) ?_); intro v1 w1 hrow hg' hs'; obtain ⟨hg, hs⟩ := step_alloc (World.grownBy.refl w v.ownBlock) (Sep.refl w v) _ hg' hs'; obtain ⟨hc1, hf1⟩ := hW.behind hg; obtain ⟨p1, n1, c1, rfl⟩ := hrow.shape)
    go_end0
    exact ⟨_, rfl, (WPost.mk hW hrow hg hs).1, (WPost.mk hW hrow hg hs).2, hs⟩

theorem wtext_wide (s : ByteArray) (w : World) (b : Nat) (v : Value) (l : List UInt8) (hW : WAt w b v l) (hs : s.size ≤ 140737488355328) (hl : l.length + s.size ≤ 144900000000000) :
    Calls Try.prog 96 #[.pointer (some ⟨b, 0, none⟩), .string s] w (WPost w b v (l ++ (sev s.size ++ s.data.toList))) := by
  go_enter Try.func96, Try.ntmps96
  go_wp2_with fail
  refine (wcount_wide _ _ _ v l hW (by omega) (by omega)).mono ?_
  rintro e w1 ⟨v1, rfl, hW1, hk1, hs1⟩
  obtain ⟨p1, n1, c1, rfl⟩ := hW1.row.shape
  have hc := cell_of_one hW1.at_
  have hf := free_of_one hW1.at_
  have hlen : (sev s.size).length ≤ 10 := sev_length_u64 (by omega)
  go_wp2_with (at_builtin; go_loud (refine wpList_text_wide _ rfl _ _ rfl (.slice p1 n1 c1) _ rfl hW1.row s rfl hs (by simp only [List.length_append]; omega) ?_); intro v2 w2 hrow2 hg2 hs2; obtain ⟨hc2, hf2⟩ := hW1.behind hg2; obtain ⟨p2, n2, c2, rfl⟩ := hrow2.shape)
  go_end0
  have hfin := WPost.mk hW1 hrow2 hg2 hs2
  rw [List.append_assoc] at hfin
  exact ⟨_, rfl, hfin.1, hk1.trans' hfin.2 (WS.sep hs1), hs1.trans hs2 hk1.size⟩
end Go.Proofs.Ytngcfnffbggniaa
