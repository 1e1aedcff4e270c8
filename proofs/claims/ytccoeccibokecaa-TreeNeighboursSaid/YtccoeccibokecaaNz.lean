/- The law's pick; the plain answers of awake. -/
import Derived.Test.YtccoeccibokecaaNy
import Derived.IntWalk
namespace Go.Proofs.Ytccoeccibokecaa
open Go.ChangeShapes Go.WideShapes Go.ChangeAt Go.RowKit Go.Maps
set_option linter.unusedVariables false
set_option linter.unusedSimpArgs false
def absN (f : Int) : Nat := (if f < 0 then -(f + 1) else f).toNat
theorem tpick_any (c n : Int) (w : World) (h1 : -9223372036854775808 ≤ c) (h2 : c ≤ 9223372036854775807) (hn : 0 < n) (hn2 : n ≤ 9223372036854775807) :
    Calls Try.prog 10 #[.int .i64 c, .int .i64 n] w fun e w' => e = .returned (.int .i64 ((absN c : Int) % n)) ∧ w = w' := by
  by_cases hc : c < 0
  · have HF : Hid (-(c + 1).tmod n = (absN c : Int) % n) := Lib.hid (by
      rw [← Int.neg_tmod, Int.tmod_eq_emod_of_nonneg (by omega)]
      unfold absN; rw [if_pos hc]; congr 1; omega)
    have hp : 0 ≤ -(c + 1) := by omega
    go_enter Try.func10, Try.ntmps10
    go_wp2
    go_ret
    exact ⟨ret_int HF.out, rfl⟩
  · have HF : Hid ((c % n) = (absN c : Int) % n) := Lib.hid (by unfold absN; rw [if_neg hc]; congr 1; omega)
    have hp : 0 ≤ c := by omega
    go_enter Try.func10, Try.ntmps10
    go_wp2
    go_ret
    exact ⟨ret_int HF.out, rfl⟩
theorem tpick_nat (c : Int) (n : Nat) (w : World) (h1 : -9223372036854775808 ≤ c) (h2 : c ≤ 9223372036854775807) (hn : 0 < n) (hn2 : n ≤ 1000000) {x : Nat} (hx : absN c % n = x) :
    Calls Try.prog 10 #[.int .i64 c, .int .i64 n] w fun e w' => e = .returned (.int .i64 x) ∧ w = w' := by
  have := tpick_any c n w h1 h2 (by omega) (by omega)
  rw [show (absN c : Int) % (n : Int) = (x : Int) by rw [← hx]; omega] at this
  exact this


/-! ### awake, plainly -/
def pa : ByteArray := ⟨#[47, 97]⟩
def pbc : ByteArray := ⟨#[47, 98, 47, 99]⟩
def aw1 : T1 := ⟨1, pa, ⟨#[120]⟩, [], 0, 1⟩
def aw2 : T1 := ⟨1, pbc, ⟨#[]⟩, [], 0, 1⟩
theorem ok_slash : okP slashS = true := by
  have h : checkS slashS = 0 := by decide
  unfold okP; rw [h]; rfl
theorem may_pa : mayCome pa = true := by
  have h : checkS pa = 0 := by decide
  unfold mayCome okP; rw [h]; decide
theorem may_pbc : mayCome pbc = true := by
  have h : checkS pbc = 0 := by decide
  unfold mayCome okP; rw [h]; decide
theorem par_pa : parS pa = slashS := by decide
theorem par_pbc : parS pbc = ⟨#[47, 98]⟩ := by decide
def aN1 : Nd := ⟨⟨#[120]⟩, [], ⟨5, 5, 5, 0, 0, 0, 0⟩⟩
def aRoot : Nd := ⟨⟨#[]⟩, [⟨31, worldB⟩], ⟨0, 0, 5, 0, 1, 0, 0⟩⟩
def awM : TM := { N := updN (updN newM.N slashS.data.toList (some aRoot)) pa.data.toList (some aN1), S := fun _ => none, z := 5 }
theorem new_root : newM.N slashS.data.toList = some ⟨⟨#[]⟩, [⟨31, worldB⟩], ⟨0, 0, 0, 0, 0, 0, 0⟩⟩ := by
  simp [newM, layM, ok_slash, updN]
theorem new_other {k : List UInt8} (h : k ≠ [47]) : newM.N k = none := by
  unfold newM layM; rw [if_pos ok_slash]; exact updN_other noM.N _ _ h
theorem aw_first : { (partM newM aw1 5).1 with z := 5 } = awM ∧ (partM newM aw1 5).2 = [⟨1, pa, 5⟩, ⟨4, slashS, 5⟩] := by
  have hk : kidsOf newM slashS 1 5 = { newM with N := updN newM.N slashS.data.toList (some aRoot) } := by
    unfold kidsOf; rw [new_root]; rfl
  have hh : hasN newM slashS = true := by unfold hasN; rw [new_root]; rfl
  have hpa : hasN ({ newM with N := updN newM.N slashS.data.toList (some aRoot) } : TM) pa = false := by
    unfold hasN
    show (updN newM.N slashS.data.toList (some aRoot) pa.data.toList).isSome = false
    rw [updN_other _ _ _ (by decide), new_other (by decide)]; rfl
  have hok : okP pa = true := by
    have h := may_pa
    unfold mayCome at h
    simp only [Bool.and_eq_true] at h; exact h.2
  have hc : createM newM aw1 5 = (layM { newM with N := updN newM.N slashS.data.toList (some aRoot) } pa ⟨#[120]⟩ [] ⟨5, 5, 5, 0, 0, 0, 0⟩, [⟨1, pa, 5⟩, ⟨4, slashS, 5⟩]) := by
    unfold createM
    simp only [aw1, par_pa]
    rw [if_pos ⟨may_pa, hh⟩, hk, hpa]; rfl
  unfold partM
  rw [if_pos (show aw1.kind = 1 from rfl), hc]
  refine ⟨?_, rfl⟩
  unfold layM
  rw [if_pos hok]; rfl
theorem aw_second : partM awM aw2 6 = (awM, []) := by
  have hh : hasN awM (parS pbc) = false := by
    unfold hasN
    rw [par_pbc]
    show (updN (updN newM.N slashS.data.toList (some aRoot)) pa.data.toList (some aN1) [47, 98]).isSome = false
    rw [updN_other _ _ _ (by decide), updN_other _ _ _ (by decide), new_other (by decide)]; rfl
  unfold partM
  rw [if_pos (show aw2.kind = 1 from rfl)]
  unfold createM
  rw [if_neg]
  rintro ⟨_, h⟩
  rw [show parS aw2.path = parS pbc from rfl, hh] at h; cases h
end Go.Proofs.Ytccoeccibokecaa
