/- The document's own answers of layer 2: numbers and texts, laid. -/
import Derived.Test.YtngcfnffbggniaaIo
import Derived.Test.YtngcfnffbggniaaPut
namespace Go.Proofs.Ytngcfnffbggniaa
open Go.ChangeShapes Go.WideShapes Go.ChangeAt Go.RowKit
set_option linter.unusedVariables false

theorem add_str (P : Program) (a b : List UInt8) (h : a.length + b.length ≤ 1000000000000000) (W : World) : Sem.run P (Op.stringOp .add ⟨a.toArray⟩ ⟨b.toArray⟩) W = .ok (.string ⟨(a ++ b).toArray⟩) W := by
  rw [run_string_add_sum W _ _ (by rw [size_mk, size_mk]; omega), str_append]

structure NumsRel (w : World) (ns : List Int) (sv iv : Value) (wr : World) : Prop where
  ex : ∃ k, iv = .int .i64 (k : Nat) ∧ k ≤ ns.length ∧ sv = .string ⟨(layN numF (ns.take k)).toArray⟩ ∧ Old w wr

theorem refnums_any (ns : List Int) (sv : Value) (ok : Nat → Prop) (w : World) (hL : ListR intE w ok 1 sv ns) (hl : (layN numF ns).length ≤ 1000000000) :
    Calls Try.prog 34 #[sv] w (OldStr w (layN numF ns)) := by
  obtain ⟨rows, ⟨A, c, rfl, hlc, hm, hat⟩, hlen, hel⟩ := hL
  unfold maxLen at hm
  have hlen1 : rows.length ≤ ns.length := by omega
  have hlen2 : ns.length ≤ rows.length := by omega
  clear hlen
  go_enter Try.func34, Try.ntmps34
  go_wp2_with fail
  go_loopw [3, 4] (fun s i wr => NumsRel w ns s i wr) (fun _ i _ => ns.length - (intOf i).toNat)
  case atStart => exact ⟨0, rfl, Nat.zero_le _, rfl, Old.refl _⟩
  case round =>
    obtain ⟨k, rfl, hk, rfl, hO⟩ := hrel.ex
    clear hrel
    by_cases hlt : k < ns.length
    · have hkr : k < rows.length := by omega
      rcases hat with h0 | ⟨g, off, rfl, hok, hg, hc⟩
      · subst h0; simp at hkr
      have hx := (hel k hlt hkr).1
      have hi := (hel k hlt hkr).2
      have hcell := (hc k hkr).2 0 (by rw [hx]; simp)
      simp only [hx, List.getElem_cons_zero, Nat.mul_one, Nat.add_zero] at hcell
      have hcell1 : wr.cell? ⟨g, off + k, none⟩ = some (.int .i64 ns[k]) := by
        rw [← hcell]; exact World.cell?_of_block (hO.block g hg id)
      have hle := layN_le (f := numF) hlt
      have HTK := Lib.hid (layN_take (f := numF) hlt)
      generalize ns[k] = x at hcell1 hi hle HTK
      clear hcell hx hc hel
      have hq : ∀ W, Sem.run Try.prog (Op.stringOp .add ⟨(layN numF (ns.take k)).toArray⟩ ⟨(sev (zz x)).toArray⟩) W = .ok (.string ⟨(layN numF (ns.take (k + 1))).toArray⟩) W := fun W => by
        rw [HTK.out]; exact add_str _ _ _ (by have e : (numF.lay x).length = (sev (zz x)).length := rfl; omega) W
      have hkl : (k : Int) < (rows.length : Int) := by omega
      go_wp2_with (go_at_call 42; refine (refnum_any x _ hi).mono ?_; rintro e w2 ⟨rfl, hO2⟩)
      go_roundw
      case rel => exact ⟨k + 1, by go_num, hlt, rfl, hO.none hO2⟩
      case measure => simp [intOf]; omega
    · have hkl : ¬ (k : Int) < (rows.length : Int) := by omega
      obtain rfl : k = ns.length := by omega
      have ht : ns.take ns.length = ns := List.take_length
      rw [ht]
      go_wp2_with fail
      go_ret
      exact ⟨rfl, hO⟩
end Go.Proofs.Ytngcfnffbggniaa
