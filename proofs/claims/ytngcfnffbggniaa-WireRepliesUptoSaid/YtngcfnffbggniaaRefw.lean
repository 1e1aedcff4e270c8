/- The document's own answers: what is laid; and the law's helpers size, lay. -/
import Derived.Test.YtngcfnffbggniaaI64
import Derived.Laws.Concat
namespace Go.Proofs.Ytngcfnffbggniaa
open Go.ChangeShapes Go.WideShapes Go.ChangeAt Go.RowKit
set_option linter.unusedVariables false

theorem refzig_any (n : Int) (w : World) (h : I64 n) :
    Calls Try.prog 84 #[.int .i64 n] w fun e w' => e = .returned (.int .u64 (zz n)) ∧ w = w' := by
  obtain ⟨h1, h2⟩ := h
  by_cases hn : 0 ≤ n
  · go_enter Try.func84, Try.ntmps84
    go_wp2
    go_ret
    exact ⟨ret_val (congrArg (Value.int .u64) (by unfold zz; rw [if_pos hn]; omega)), rfl⟩
  · go_enter Try.func84, Try.ntmps84
    go_wp2
    go_ret
    exact ⟨ret_val (congrArg (Value.int .u64) (by unfold zz; rw [if_neg (by omega)]; omega)), rfl⟩

structure RefPutRel (w : World) (n : Nat) (v i : Value) (wr : World) : Prop where
  ex : ∃ (m : Nat) (done : List UInt8), i = .int .u64 m ∧ m ≤ n ∧ done ++ sev m = sev n ∧ Row wr v done ∧ Old w wr ∧ Off w.heap.size (fun k => some k = v.ownBlock)

def OldStr (w : World) (l : List UInt8) (e : Ending) (w' : World) : Prop := e = .returned (.string ⟨l.toArray⟩) ∧ Old w w'

theorem convert_row {w : World} {v : Value} {l : List UInt8} (h : Row w v l) :
    Sem.run Try.prog (convert 157 9 v) w = .ok (.string ⟨l.toArray⟩) w := by
  obtain ⟨p, c, rfl, _, _, hp⟩ := h.reads.ex
  rcases hp with ⟨rfl, h0⟩ | ⟨g, rfl, _, hc⟩
  · have hl := h.1
    rcases h.2 with ⟨hv, hn⟩ | ⟨g, cap, cur, hv, _⟩
    · have : l = [] := List.eq_nil_of_length_eq_zero hn
      subst this
      exact run_convert_bytes_nil (P := Try.prog) w 157 5 Try.underlying157 Try.underlying5 _ _ 9 Try.underlying9
    · simp at hv
  · exact run_convert_bytes_back (P := Try.prog) w 157 9 5 ⟨g, 0, none⟩ c l Try.underlying157 Try.underlying5 Try.underlying9 (fun j hj => by
      have hadd : (⟨g, 0, none⟩ : Addr).add j = ⟨g, j, none⟩ := by unfold Addr.add; split <;> simp_all
      rw [hadd]; exact hc j hj)

set_option maxRecDepth 100000 in
theorem refsev_any (n : Nat) (w : World) (h2 : n ≤ 18446744073709551615) :
    Calls Try.prog 83 #[.int .u64 n] w (OldStr w (sev n)) := by
  have HN := Lib.hid h2
  clear h2
  go_enter Try.func83, Try.ntmps83
  go_wp2
  go_loopw [3, 0] (fun v1 i wr => RefPutRel w n v1 i wr) (fun _ i _ => (intOf i).toNat)
  case atStart => exact ⟨n, [], rfl, Nat.le_refl _, rfl, World.ownsRow_nil _ _ _ _, Old.refl _, fun k hk => by simp [Value.ownBlock] at hk⟩
  case round =>
    obtain ⟨m, done, rfl, hmn, hsev, hrow, hO, hoff⟩ := hrel.ex
    clear hrel
    have HS := Lib.hid hsev; clear hsev
    have hm64 : m ≤ 18446744073709551615 := by have := HN.out; omega
    have hdl : done.length ≤ 10 := by
      have := congrArg List.length HS.out
      simp only [List.length_append] at this
      have := sev_length_u64 HN.out
      omega
    have hback : ∀ (o : Obj) (v' : Value) (w' : World), (wr.alloc o).grownBy w' u3.ownBlock → Sep (wr.alloc o) u3.ownBlock v' → Old w w' ∧ Off w.heap.size (fun k => some k = v'.ownBlock) := by
      intro o v' w' hg hs
      have h1 : Old w (wr.alloc o) := Kept.alloc hO o
      refine ⟨h1.step (Kept.of_grownBy hg) hoff, fun k hk => ?_⟩
      rcases hs with hs | hs
      · exact hoff k (Eq.trans hk hs)
      · have := hs k hk.symm
        have := h1.size
        omega
    have HB := Lib.hid hback; clear hback
    by_cases hlt : 128 ≤ m
    · have hcell : ∀ w : World, (w.alloc (.cells #[.int .u8 ((m : Int) % 128 + 128)] 5)).cell? ⟨w.heap.size, 0, none⟩ = some (.int .u8 (UInt8.ofNat (m % 128 + 128)).toNat) := fun w => by
        rw [cell_new, toNat_ofNat_lt (by omega)]; congr 2
      have HC := Lib.hid hcell; clear hcell
      go_wp2_with (at_builtin; go_loud (refine wpList_append_byte _ rfl _ _ rfl u3 done rfl (hrow.alloc _) (by omega) ⟨wr.heap.size, 0, none⟩ 1 (UInt8.ofNat (m % 128 + 128)) rfl (HC.out _) ?_); intro v' w' hrow' hg' hs')
      obtain ⟨hO', hoff'⟩ := HB.out _ _ _ hg' hs'
      refine ⟨⟨m / 128, done ++ [UInt8.ofNat (m % 128 + 128)], rfl, by omega, ?_, hrow', hO', hoff'⟩, by simp [intOf]; omega⟩
      rw [← HS.out, sev_ge hlt]; simp
    · have hcell : ∀ w : World, (w.alloc (.cells #[.int .u8 (m : Int)] 5)).cell? ⟨w.heap.size, 0, none⟩ = some (.int .u8 (UInt8.ofNat m).toNat) := fun w => by rw [cell_new, toNat_ofNat_lt (by omega)]
      have HC := Lib.hid hcell; clear hcell
      have hfin : done ++ [UInt8.ofNat m] = sev n := by rw [← HS.out, sev_lt (by omega)]
      have HF := Lib.hid hfin; clear hfin
      go_wp2_with (at_builtin; go_loud (refine wpList_append_byte _ rfl _ _ rfl u3 done rfl (hrow.alloc _) (by omega) ⟨wr.heap.size, 0, none⟩ 1 (UInt8.ofNat m) rfl (HC.out _) ?_); intro v' w' hrow' hg' hs'; rw [HF.out] at hrow'; have hconv := convert_row hrow')
      obtain ⟨hO', hoff'⟩ := HB.out _ _ _ hg' hs'
      go_ret
      exact ⟨rfl, hO'⟩

theorem refnum_any (n : Int) (w : World) (h : I64 n) :
    Calls Try.prog 42 #[.int .i64 n] w (OldStr w (sev (zz n))) := by
  have hz := zz_le h.1 h.2
  go_enter Try.func42, Try.ntmps42
  go_wp2_with (first | (go_at_call 84; refine (refzig_any _ _ h).mono ?_; rintro e w' ⟨rfl, rfl⟩) | (go_at_call 83; refine (refsev_any _ _ hz).mono ?_; rintro e w1 ⟨rfl, hO⟩))
  go_ret
  exact ⟨rfl, hO⟩

theorem refcount_any (n : Int) (w : World) (h : I64 n) :
    Calls Try.prog 41 #[.int .i64 n] w (OldStr w (sev n.toNat)) := by
  obtain ⟨h1, h2⟩ := h
  by_cases hn : 0 ≤ n
  · obtain ⟨m, rfl⟩ := Int.eq_ofNat_of_zero_le hn
    rw [Int.toNat_natCast]
    go_enter Try.func41, Try.ntmps41
    go_wp2_with (go_at_call 83; refine (refsev_any m _ (by omega)).mono ?_; rintro e w1 ⟨rfl, hO⟩)
    go_ret
    exact ⟨rfl, hO⟩
  · rw [show n.toNat = 0 from by omega]
    go_enter Try.func41, Try.ntmps41
    go_wp2_with (go_at_call 83; refine (refsev_any 0 _ (by omega)).mono ?_; rintro e w1 ⟨rfl, hO⟩)
    go_ret
    exact ⟨rfl, hO⟩

theorem size_mk (l : List UInt8) : (⟨l.toArray⟩ : ByteArray).size = l.length := by simp [ByteArray.size]
theorem str_append (a : List UInt8) (s : ByteArray) : (⟨a.toArray⟩ : ByteArray) ++ s = ⟨(a ++ s.data.toList).toArray⟩ := by
  apply ByteArray.ext
  simp [ByteArray.data_append]

theorem reftext_any (s : ByteArray) (w : World) (h : s.size ≤ 9223372036854775000) :
    Calls Try.prog 43 #[.string s] w (OldStr w (sev s.size ++ s.data.toList)) := by
  have hl : (sev s.size).length ≤ 10 := sev_length_u64 (by omega)
  have hsz := size_mk (sev s.size)
  have q : ∀ W, Sem.run Try.prog (Op.stringOp .add ⟨(sev s.size).toArray⟩ s) W = .ok (.string ⟨(sev s.size ++ s.data.toList).toArray⟩) W := fun W => by
    rw [run_string_add_sum W _ _ (by rw [hsz]; omega), str_append]
  clear hsz hl
  go_enter Try.func43, Try.ntmps43
  go_wp2_with (go_at_call 41; refine (refcount_any s.size _ (by unfold I64; omega)).mono ?_; rintro e w1 ⟨rfl, hO⟩)
  go_ret
  exact ⟨rfl, hO⟩

theorem refflag_any (x : Bool) (w : World) :
    Calls Try.prog 82 #[.bool x] w (OldStr w [if x then 1 else 0]) := by
  cases x
  · go_enter Try.func82, Try.ntmps82
    go_wp2
    go_ret
    exact ⟨rfl, Old.refl _⟩
  · go_enter Try.func82, Try.ntmps82
    go_wp2
    go_ret
    exact ⟨rfl, Old.refl _⟩
end Go.Proofs.Ytngcfnffbggniaa
