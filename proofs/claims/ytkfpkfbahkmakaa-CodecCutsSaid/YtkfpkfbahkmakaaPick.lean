/- pick, and sums that part. -/
import Derived.Test.YtkfpkfbahkmakaaSum
import Derived.Laws.BitsAllLaws
namespace Go.Proofs.Ytkfpkfbahkmakaa
open Go.ChangeShapes Go.WideShapes Go.ChangeAt Go.RowKit
set_option linter.unusedVariables false

/-- which of n things a raw number speaks of -/
def pickN (c : Int) (n : Nat) : Nat := ((if c < 0 then -c - 1 else c) % n).toNat
theorem pickN_lt {c : Int} {n : Nat} (h : 0 < n) : pickN c n < n := by
  unfold pickN
  have := Int.emod_nonneg (if c < 0 then -c - 1 else c) (show (n : Int) ≠ 0 by omega)
  have := Int.emod_lt_of_pos (if c < 0 then -c - 1 else c) (show (0 : Int) < n by omega)
  omega
theorem pickN_cast {c : Int} {n : Nat} (h : 0 < n) : (pickN c n : Int) = (if c < 0 then -c - 1 else c) % n := by
  unfold pickN
  have := Int.emod_nonneg (if c < 0 then -c - 1 else c) (show (n : Int) ≠ 0 by omega)
  omega

theorem pick_any (c : Int) (n : Nat) (w : World) (h1 : -9223372036854775808 ≤ c) (h2 : c ≤ 9223372036854775807) (hn : 0 < n) (hn2 : n ≤ 9223372036854775807) :
    Calls Try.prog 30 #[.int .i64 c, .int .i64 n] w fun e w' => e = .returned (.int .i64 (pickN c n)) ∧ w = w' := by
  have hp := pickN_cast (c := c) hn
  have HP := Lib.hid hp; clear hp
  by_cases hc : c < 0
  · go_enter Try.func30, Try.ntmps30
    go_wp2
    go_ret
    exact ⟨ret_int (by rw [HP.out, if_pos hc, ← Int.neg_tmod, Int.tmod_eq_emod_of_nonneg (by omega)]; congr 1; omega), rfl⟩
  · go_enter Try.func30, Try.ntmps30
    go_wp2
    go_ret
    exact ⟨ret_int (by rw [HP.out, if_neg (by omega)]), rfl⟩

/-! sums that part -/
def stN (h : Nat) (b : UInt8) : Nat := (h ^^^ b.toNat) * 16777619 % 4294967296
def Fits32 (h : Nat) : Prop := h < 4294967296
theorem stN_fits (h : Nat) (b : UInt8) : Fits32 (stN h b) := Nat.mod_lt _ (by decide)
theorem xor_lt32 {h : Nat} (b : UInt8) (hh : Fits32 h) : h ^^^ b.toNat < 4294967296 := by
  have hb := b.toNat_lt
  exact Nat.xor_lt_two_pow (n := 32) (by simpa [Fits32] using hh) (by omega)
theorem sumStep_nat {h : Nat} (b : UInt8) (hh : Fits32 h) : sumStep h b = (stN h b : Int) := by
  unfold sumStep stN
  have hb := b.toNat_lt
  rw [show ((b.toNat : Int) % 4294967296) = (b.toNat : Int) from by omega, u32_xor_nat _ _ hh (by omega)]
  omega
theorem unmul {x : Nat} (M p q t : Nat) (hx : x < M) (hq : p * q = M * t + 1) : x * p % M * q % M = x := by
  rw [Nat.mod_mul_mod, Nat.mul_assoc, hq, Nat.mul_add, Nat.mul_one, Nat.mul_left_comm, Nat.mul_add_mod, Nat.mod_eq_of_lt hx]
theorem mul_inj {x y : Nat} (hx : x < 4294967296) (hy : y < 4294967296) (h : x * 16777619 % 4294967296 = y * 16777619 % 4294967296) : x = y := by
  rw [← unmul 4294967296 16777619 899433627 3513497 hx (by decide), h, unmul 4294967296 16777619 899433627 3513497 hy (by decide)]
theorem xor_left_inj {h a b : Nat} (e : h ^^^ a = h ^^^ b) : a = b := by
  have := congrArg (fun x => h ^^^ x) e
  simpa [← Nat.xor_assoc] using this
theorem xor_right_inj {h a b : Nat} (e : a ^^^ h = b ^^^ h) : a = b := by
  have := congrArg (fun x => x ^^^ h) e
  simpa [Nat.xor_assoc] using this
theorem stN_inj {h g : Nat} {b c : UInt8} (hh : Fits32 h) (hg : Fits32 g) (e : stN h b = stN g c) : h ^^^ b.toNat = g ^^^ c.toNat :=
  mul_inj (xor_lt32 b hh) (xor_lt32 c hg) e
attribute [irreducible] stN
attribute [irreducible] Fits32
attribute [local irreducible] sumStep

def foldN (f : Nat → UInt8 → Nat) (l : List UInt8) (h : Nat) : Nat := l.foldl f h
theorem foldN_cons (f : Nat → UInt8 → Nat) (b : UInt8) (l : List UInt8) (h : Nat) : foldN f (b :: l) h = foldN f l (f h b) := List.foldl_cons ..
theorem foldN_append (f : Nat → UInt8 → Nat) (a b : List UInt8) (h : Nat) : foldN f (a ++ b) h = foldN f b (foldN f a h) := List.foldl_append ..
theorem foldN_nil (f : Nat → UInt8 → Nat) (h : Nat) : foldN f [] h = h := List.foldl_nil ..
theorem foldN_fits (f : Nat → UInt8 → Nat) (F : Nat → Prop) (hf : ∀ h b, F (f h b)) (l : List UInt8) : ∀ h, F h → F (foldN f l h) := by
  induction l with
  | nil => intro h hh; rw [foldN_nil]; exact hh
  | cons b l ih => intro h hh; rw [foldN_cons]; exact ih _ (hf h b)
theorem foldN_int (f : Nat → UInt8 → Nat) (F : Nat → Prop) (g : Int → UInt8 → Int) (hf : ∀ h b, F (f h b)) (hg : ∀ h b, F h → g (h : Int) b = (f h b : Int)) (l : List UInt8) :
    ∀ h : Nat, F h → l.foldl g (h : Int) = (foldN f l h : Int) := by
  induction l with
  | nil => intro h hh; rw [foldN_nil, List.foldl_nil]
  | cons b l ih => intro h hh; rw [List.foldl_cons, hg h b hh, ih _ (hf h b), foldN_cons]
theorem foldN_inj (f : Nat → UInt8 → Nat) (F : Nat → Prop) (hf : ∀ h b, F (f h b)) (hi : ∀ h g b, F h → F g → f h b = f g b → h = g) (l : List UInt8) :
    ∀ h g, F h → F g → foldN f l h = foldN f l g → h = g := by
  induction l with
  | nil => intro h g _ _ e; rw [foldN_nil, foldN_nil] at e; exact e
  | cons b l ih =>
    intro h g hh hg e
    rw [foldN_cons, foldN_cons] at e
    exact hi h g b hh hg (ih _ _ (hf h b) (hf g b) e)
theorem foldN_parts (f : Nat → UInt8 → Nat) (F : Nat → Prop) (hf : ∀ h b, F (f h b)) (hi : ∀ h g b, F h → F g → f h b = f g b → h = g) (hj : ∀ h b c, F h → f h b = f h c → b = c)
    {a r : List UInt8} {b c : UInt8} (hne : b ≠ c) (h : Nat) (hh : F h) : foldN f (a ++ (b :: r)) h ≠ foldN f (a ++ (c :: r)) h := by
  intro e
  rw [foldN_append, foldN_append, foldN_cons, foldN_cons] at e
  have hlt := foldN_fits f F hf a h hh
  exact hne (hj _ _ _ hlt (foldN_inj f F hf hi r _ _ (hf _ _) (hf _ _) e))
theorem fits_first : Fits32 2166136261 := by unfold Fits32; decide
theorem stN_left (h g : Nat) (b : UInt8) (hh : Fits32 h) (hg : Fits32 g) (e : stN h b = stN g b) : h = g := xor_right_inj (stN_inj hh hg e)
theorem stN_right (h : Nat) (b c : UInt8) (hh : Fits32 h) (e : stN h b = stN h c) : b = c := UInt8.toNat_inj.1 (xor_left_inj (stN_inj hh hh e))
theorem sumI_eq (l : List UInt8) : sumI l = (foldN stN l 2166136261 : Int) := foldN_int stN Fits32 sumStep stN_fits (fun h b hh => sumStep_nat b hh) l _ fits_first
theorem sum_parts {a r : List UInt8} {b c : UInt8} (hne : b ≠ c) : sumI (a ++ (b :: r)) ≠ sumI (a ++ (c :: r)) := by
  intro e
  rw [sumI_eq, sumI_eq] at e
  exact foldN_parts stN Fits32 stN_fits stN_left stN_right hne _ fits_first (Int.ofNat_inj.1 e)
end Go.Proofs.Ytkfpkfbahkmakaa
