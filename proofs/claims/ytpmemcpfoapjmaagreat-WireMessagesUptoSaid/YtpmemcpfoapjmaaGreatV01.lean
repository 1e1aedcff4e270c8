/- Words of this project's proofs: rows of bytes that a call owns, and appends that leave other rows alone. The codec's numbers, in plain mathematics: sevens, zigzag, what a reader finds. No program. The writer's calls. The writer's calls: New, Num, Flag, Count, Text, Bytes. getSevens. -/
import Derived.Test.YtpmemcpfoapjmaaGreatProg
import Derived.WalkKit
import Derived.ProofKit
import Derived.Lib.Hide
import Derived.Lib.AppendStr
import Derived.OwnWalk
import Derived.WalkSmall
import Derived.OneCell
import Derived.Laws.BitsAllLaws
import Derived.Laws.DeepNot64
import Derived.BigGuardPart
import Derived.BigQuiet
import Derived.Outline
import Derived.Deep.RegionWith
import Derived.Deep.QuietTactic
import Derived.Deep.DeepFit
import Derived.Laws.IdiomStrings
import Derived.Laws.BytesArg
namespace Go.Proofs.YtpmemcpfoapjmaaGreat
open Go.ChangeShapes Go.WideShapes Go.ChangeAt Go.RowKit

/-- v's row is the row 'row', or one that the world w did not have. -/
def Sep (w : World) (row : Option Nat) (v : Value) : Prop := v.ownBlock = row ∨ ∀ g, v.ownBlock = some g → w.heap.size ≤ g

theorem Sep.refl (w : World) (v : Value) : Sep w v.ownBlock v := Or.inl rfl
theorem Sep.mono {w w1 : World} {row : Option Nat} {v : Value} (h : Sep w1 row v) (hs : w.heap.size ≤ w1.heap.size) : Sep w row v :=
  h.imp id fun f g hg => Nat.le_trans hs (f g hg)
/-- two steps: v1's row after the first is row or new; v2's is v1's or new -/
theorem Sep.trans {w w1 : World} {row : Option Nat} {v1 v2 : Value} (h1 : Sep w row v1) (h2 : Sep w1 v1.ownBlock v2) (hs : w.heap.size ≤ w1.heap.size) : Sep w row v2 := by
  rcases h2 with h2 | h2
  · unfold Sep at h1 ⊢; rw [h2]; exact h1
  · exact Or.inr fun g hg => Nat.le_trans hs (h2 g hg)

theorem grownBy_trans {w w1 w2 : World} {row : Option Nat} {v1 : Value} (h1 : w.grownBy w1 row) (hs : Sep w row v1) (h2 : w1.grownBy w2 v1.ownBlock) : w.grownBy w2 row := by
  refine ⟨h2.os.trans h1.os, h2.tape.trans h1.tape, h2.output.trans h1.output, Nat.le_trans h1.size h2.size, fun k hk hne => ?_⟩
  rw [h2.block k (Nat.lt_of_lt_of_le hk h1.size) ?_, h1.block k hk hne]
  intro e
  rcases hs with hs | hs
  · exact hne (e.trans hs)
  · exact absurd (hs k e.symm) (by omega)

theorem run_append_apart {P : Program} (w : World) (base : Nat) (t ty e : TypeId) (i : TypeInfo) (z : Value) (size bytes : Nat) (ht : P.underlying t = some (.slice e)) (hi : P.info? e = some i) (hz : i.zero = some z)
    (hsize : i.size = size) (hby : i.bytes = bytes) (hzs : z.cells.size = size) (hsz : 0 < size)
    (v : Value) (n : Nat) (xs : List Value) (hown : w.ownsRow base e size v n xs)
    (a : Addr) (m c : Nat) (news : List Value) (hl : news.length = m * size) (hnews : ∀ j u, news[j]? = some u → w.cell? (a.add j) = some u) (h1 : ∀ u ∈ news, u.oneCell' = true)
    (h63 : n + m ≤ maxLen) (hbytes : (n + m) * bytes ≤ 140737488355328) (hbase : base ≤ w.heap.size) :
    ∃ v' w', (Builtin.append_ #[t, t] ty #[v, .slice (some a) m c]).run P w = .ok v' w' ∧ w'.ownsRow base e size v' (n + m) (xs ++ news) ∧ w.grownBy w' v.ownBlock ∧ Sep w v.ownBlock v' := by
  obtain ⟨v', w', hr, h2, h3, _⟩ := run_append_own (P := P) w base t ty e i z size bytes ht hi hz hsize hby hzs hsz v n xs hown a m c news hl hnews h1 h63 hbytes hbase
  refine ⟨v', w', hr, h2, h3, ?_⟩
  rcases hown.2 with ⟨rfl, rfl⟩ | ⟨g, cap, cur, rfl, hbg, hg, hnc, hcm, hcs, htake⟩
  · have hx : xs = [] := List.eq_nil_of_length_eq_zero (by simpa using hown.1)
    subst hx
    obtain ⟨v2, w2, hr2, h22, _, _⟩ := run_append_own (P := P) w w.heap.size t ty e i z size bytes ht hi hz hsize hby hzs hsz (.slice none 0 0) 0 [] (World.ownsRow_nil w _ e size) a m c news hl hnews h1 h63 hbytes (Nat.le_refl _)
    rw [hr] at hr2
    injection hr2 with e1 e2
    subst e1 e2
    exact Or.inr fun g hg => (h22.lt g hg).1
  · by_cases hroom : n + m ≤ cap
    · subst hsize
      have hfit : n * i.size + news.length ≤ cur.size := by rw [hl, hcs, ← Nat.add_mul]; exact Nat.mul_le_mul_right _ hroom
      have hr2 := run_append_room (P := P) w t ty e i ht hi g n cap cur hg a m c news hl hnews h1 hroom hfit
      rw [hr] at hr2
      injection hr2 with e1 e2
      subst e1
      exact Or.inl rfl
    · subst hsize
      subst hby
      have hsmall : n + m ≤ 9223372036854775807 := by simp only [maxLen] at h63; omega
      have holds : ∀ j u, xs[j]? = some u → w.cell? ((⟨g, 0, none⟩ : Addr).add j) = some u := hown.cells (g := g) rfl
      have hr2 := run_append_grow (P := P) w t ty e i z ht hi hz ⟨g, 0, none⟩ n cap xs hown.1 holds a m c news hl hnews (by omega) (by omega) (growslice_fits (by omega) hbytes)
      rw [hr] at hr2
      injection hr2 with e1 e2
      subst e1
      refine Or.inr fun k hk => ?_
      simp only [Value.ownBlock, Option.some.injEq] at hk
      omega

theorem wpList_append_apart {P : Program} (w : World) {ops : Array Oper} {rest : List Oper} {o : Oper} {a : Act} {Q : Exit → Act → World → Prop} (hgd : o.guard = none) (s x : Operand) (t : TypeId)
    (ho : o.op = .call { callee := .builtin .append, args := #[s, x], argTypes := #[t, t] })
    (base : Nat) (e : TypeId) (i : TypeInfo) (z : Value) (size bytes : Nat) (ht : P.underlying t = some (.slice e)) (hi : P.info? e = some i) (hz : i.zero = some z)
    (hsize : i.size = size) (hby : i.bytes = bytes) (hzs : z.cells.size = size) (hsz : 0 < size)
    (v : Value) (n : Nat) (xs : List Value) (hs : a.eval s = v) (hown : w.ownsRow base e size v n xs)
    (ad : Addr) (m c : Nat) (news : List Value) (hx : a.eval x = .slice (some ad) m c) (hl : news.length = m * size) (hnews : ∀ j u, news[j]? = some u → w.cell? (ad.add j) = some u) (h1 : ∀ u ∈ news, u.oneCell' = true)
    (h63 : n + m ≤ maxLen) (hbytes : (n + m) * bytes ≤ 140737488355328) (hbase : base ≤ w.heap.size)
    (h : ∀ v' w', w'.ownsRow base e size v' (n + m) (xs ++ news) → w.grownBy w' v.ownBlock → Sep w v.ownBlock v' → wpList P ops Q rest (a.put o.dst v') w') : wpList P ops Q (o :: rest) a w := by
  refine wpList_plain hgd fun K hK => ?_
  obtain ⟨v', w', hr, h2, h3, h4⟩ := run_append_apart (P := P) w base t o.type e i z size bytes ht hi hz hsize hby hzs hsz v n xs hown ad m c news hl hnews h1 h63 hbytes hbase
  unfold Oper.wp execOp
  simp only [ho, resolve, invoke, builtin, Sem.run_bind, Sem.run_pure, Result.andThen_ok, List.map_toArray, List.map_cons, List.map_nil, hs, hx, hr]
  exact hK _ _ (h v' w' h2 h3 h4)

theorem run_append_apart_string {P : Program} (w : World) (base : Nat) (t u ty e : TypeId) (i : TypeInfo) (ht : P.underlying t = some (.slice e)) (hu : P.underlying u = some .string) (hi : P.info? e = some i) (hz : i.zero = some (.int .u8 0))
    (hsize : i.size = 1) (hby : i.bytes = 1)
    (v : Value) (n : Nat) (xs : List Value) (hown : w.ownsRow base e 1 v n xs) (s : ByteArray)
    (h63 : n + s.size ≤ maxLen) (hbytes : n + s.size ≤ 140737488355328) (hbase : base ≤ w.heap.size) :
    ∃ v' w', (Builtin.append_ #[t, u] ty #[v, .string s]).run P w = .ok v' w' ∧ w'.ownsRow base e 1 v' (n + s.size) (xs ++ Lib.strCells s) ∧ w.grownBy w' v.ownBlock ∧ Sep w v.ownBlock v' := by
  obtain ⟨v', w', hr, h2, h3, _⟩ := Lib.run_append_own_string (P := P) w base t u ty e i ht hu hi hz hsize hby v n xs hown s h63 hbytes hbase
  refine ⟨v', w', hr, h2, h3, ?_⟩
  rcases hown.2 with ⟨rfl, rfl⟩ | ⟨g, cap, cur, rfl, hbg, hg, hnc, hcm, hcs, htake⟩
  · have hx : xs = [] := List.eq_nil_of_length_eq_zero (by simpa using hown.1)
    subst hx
    obtain ⟨v2, w2, hr2, h22, _, _⟩ := Lib.run_append_own_string (P := P) w w.heap.size t u ty e i ht hu hi hz hsize hby (.slice none 0 0) 0 [] (World.ownsRow_nil w _ e 1) s h63 hbytes (Nat.le_refl _)
    rw [hr] at hr2
    injection hr2 with e1 e2
    subst e1 e2
    exact Or.inr fun g hg => (h22.lt g hg).1
  · have hcs' : cur.size = cap := by simpa using hcs
    by_cases hroom : n + s.size ≤ cap
    · have hr2 := Lib.run_append_room_string (P := P) w t u ty e i ht hu hi hsize g n cap cur hg s hroom (by omega)
      rw [hr] at hr2
      injection hr2 with e1 e2
      subst e1
      exact Or.inl rfl
    · have hsmall : n + s.size ≤ 9223372036854775807 := by simp only [maxLen] at h63; omega
      have hxl : xs.length = n := by simpa using hown.1
      have holds : ∀ j u, xs[j]? = some u → w.cell? ((⟨g, 0, none⟩ : Addr).add j) = some u := hown.cells (g := g) rfl
      have hr2 := Lib.run_append_grow_string (P := P) w t u ty e i (.int .u8 0) ht hu hi hz ⟨g, 0, none⟩ n cap xs (by rw [hsize]; simpa using hxl) holds s (by omega) (by omega) (by rw [hby]; exact growslice_fits (by omega) (by omega))
      rw [hr] at hr2
      injection hr2 with e1 e2
      subst e1
      refine Or.inr fun k hk => ?_
      simp only [Value.ownBlock, Option.some.injEq] at hk
      omega

theorem wpList_append_apart_string {P : Program} (w : World) {ops : Array Oper} {rest : List Oper} {o : Oper} {a : Act} {Q : Exit → Act → World → Prop} (hgd : o.guard = none) (sl x : Operand) (t u : TypeId)
    (ho : o.op = .call { callee := .builtin .append, args := #[sl, x], argTypes := #[t, u] })
    (base : Nat) (e : TypeId) (i : TypeInfo) (ht : P.underlying t = some (.slice e)) (hu : P.underlying u = some .string) (hi : P.info? e = some i) (hz : i.zero = some (.int .u8 0))
    (hsize : i.size = 1) (hby : i.bytes = 1)
    (v : Value) (n : Nat) (xs : List Value) (hs : a.eval sl = v) (hown : w.ownsRow base e 1 v n xs) (s : ByteArray) (hx : a.eval x = .string s)
    (h63 : n + s.size ≤ maxLen) (hbytes : n + s.size ≤ 140737488355328) (hbase : base ≤ w.heap.size)
    (h : ∀ v' w', w'.ownsRow base e 1 v' (n + s.size) (xs ++ Lib.strCells s) → w.grownBy w' v.ownBlock → Sep w v.ownBlock v' → wpList P ops Q rest (a.put o.dst v') w') : wpList P ops Q (o :: rest) a w := by
  refine wpList_plain hgd fun K hK => ?_
  obtain ⟨v', w', hr, h2, h3, h4⟩ := run_append_apart_string (P := P) w base t u o.type e i ht hu hi hz hsize hby v n xs hown s h63 hbytes hbase
  unfold Oper.wp execOp
  simp only [ho, resolve, invoke, builtin, Sem.run_bind, Sem.run_pure, Result.andThen_ok, List.map_toArray, List.map_cons, List.map_nil, hs, hx, hr]
  exact hK _ _ (h v' w' h2 h3 h4)
end Go.Proofs.YtpmemcpfoapjmaaGreat

namespace Go.Proofs.YtpmemcpfoapjmaaGreat

/-! ## sevens -/
def sevF : Nat → Nat → List UInt8
  | 0, _ => []
  | f + 1, n => if n < 128 then [UInt8.ofNat n] else UInt8.ofNat (n % 128 + 128) :: sevF f (n / 128)
def sev (n : Nat) : List UInt8 := sevF (n + 1) n

theorem sevF_eq : ∀ f g n : Nat, n < f → n < g → sevF f n = sevF g n := by
  intro f
  induction f with
  | zero => intro g n h; omega
  | succ f ih =>
    intro g n hf hg
    cases g with
    | zero => omega
    | succ g =>
      simp only [sevF]
      by_cases h : n < 128
      · rw [if_pos h, if_pos h]
      · rw [if_neg h, if_neg h, ih g (n / 128) (by omega) (by omega)]

theorem sev_lt {n : Nat} (h : n < 128) : sev n = [UInt8.ofNat n] := by simp [sev, sevF, h]
theorem sev_ge {n : Nat} (h : 128 ≤ n) : sev n = UInt8.ofNat (n % 128 + 128) :: sev (n / 128) := by
  unfold sev
  rw [show sevF (n + 1) n = UInt8.ofNat (n % 128 + 128) :: sevF n (n / 128) from by simp only [sevF]; rw [if_neg (by omega)], sevF_eq n (n / 128 + 1) (n / 128) (by omega) (by omega)]

theorem sev_length_pos (n : Nat) : 0 < (sev n).length := by
  by_cases h : n < 128
  · simp [sev_lt h]
  · simp [sev_ge (by omega : 128 ≤ n)]

theorem sev_length_le (k : Nat) : ∀ n : Nat, n < 128 ^ (k + 1) → (sev n).length ≤ k + 1 := by
  induction k with
  | zero => intro n h; rw [sev_lt (by simpa using h)]; simp
  | succ k ih =>
    intro n h
    by_cases hn : n < 128
    · rw [sev_lt hn]; simp
    · rw [sev_ge (by omega)]
      have : n / 128 < 128 ^ (k + 1) := by
        rw [Nat.pow_succ] at h
        omega
      have := ih (n / 128) this
      simp only [List.length_cons]
      omega

theorem sev_length_u64 {n : Nat} (h : n ≤ 18446744073709551615) : (sev n).length ≤ 10 :=
  sev_length_le 9 n (by have : (128 : Nat) ^ (9 + 1) = 1180591620717411303424 := by decide
                        omega)

/-! ## what a reader finds -/
def seek : Nat → Nat → List UInt8 → Nat × Nat × Nat
  | _, _, [] => (0, 0, 10)
  | i, acc, b :: r =>
    if i = 9 ∧ 1 < b.toNat then (0, 0, 11)
    else if 128 ≤ b.toNat then seek (i + 1) (acc + b.toNat % 128 * 128 ^ i) r
    else if b.toNat = 0 ∧ 0 < i then (0, 0, 11)
    else (acc + b.toNat * 128 ^ i, i + 1, 0)

theorem toNat_ofNat_lt {n : Nat} (h : n < 256) : (UInt8.ofNat n).toNat = n := by simp [UInt8.toNat_ofNat', Nat.mod_eq_of_lt h]

theorem pow9 : (128 : Nat) ^ 9 = 9223372036854775808 := by decide

/-- what was laid is found -/
theorem seek_sev : ∀ (f n i acc : Nat) (r : List UInt8), n < f → i ≤ 9 → n * 128 ^ i ≤ 18446744073709551615 → (i = 0 ∨ 0 < n) →
    seek i acc (sev n ++ r) = (acc + n * 128 ^ i, i + (sev n).length, 0) := by
  intro f
  induction f with
  | zero => intro n i acc r h; omega
  | succ f ih =>
    intro n i acc r hf hi hn hp
    have h9 : i = 9 → n ≤ 1 := by
      intro e; subst e; rw [pow9] at hn; omega
    by_cases h : n < 128
    · rw [sev_lt h]
      simp only [List.cons_append, List.nil_append, seek, toNat_ofNat_lt (show n < 256 by omega), List.length_cons, List.length_nil]
      rw [if_neg (by omega), if_neg (by omega), if_neg (by omega)]
    · rw [sev_ge (by omega)]
      have hlt : n % 128 + 128 < 256 := by omega
      simp only [List.cons_append, seek, toNat_ofNat_lt hlt, List.length_cons]
      have hi9 : i ≠ 9 := fun e => by have := h9 e; omega
      rw [if_neg (by omega), if_pos (by omega)]
      have e1 : (n % 128 + 128) % 128 = n % 128 := by omega
      have hdm : n / 128 * 128 ≤ n := by omega
      have e2 : n / 128 * 128 ^ (i + 1) ≤ 18446744073709551615 := by
        rw [Nat.pow_succ, Nat.mul_comm (128 ^ i) 128, ← Nat.mul_assoc]
        exact Nat.le_trans (Nat.mul_le_mul_right _ hdm) hn
      rw [ih (n / 128) (i + 1) _ r (by omega) (by omega) e2 (by omega), e1]
      have e3 : n * 128 ^ i = n % 128 * 128 ^ i + n / 128 * 128 ^ (i + 1) := by
        rw [Nat.pow_succ, Nat.mul_comm (128 ^ i) 128, ← Nat.mul_assoc, ← Nat.add_mul]
        congr 1
        omega
      rw [e3]
      simp only [Prod.mk.injEq, and_true]
      constructor <;> omega

theorem seek_lay {n : Nat} (h : n ≤ 18446744073709551615) (r : List UInt8) : seek 0 0 (sev n ++ r) = (n, (sev n).length, 0) := by
  have := seek_sev (n + 1) n 0 0 r (by omega) (by omega) (by simpa using h) (Or.inl rfl)
  simpa using this

/-- what is found was laid -/
theorem seek_found : ∀ (l : List UInt8) (i acc n k : Nat), seek i acc l = (n, k, 0) →
    ∃ m, n = acc + m * 128 ^ i ∧ k = i + (sev m).length ∧ l.take (sev m).length = sev m ∧ (sev m).length ≤ l.length ∧ (i = 0 ∨ 0 < m) := by
  intro l
  induction l with
  | nil => intro i acc n k h; simp [seek] at h
  | cons b r ih =>
    intro i acc n k h
    have hb := b.toNat_lt
    simp only [seek] at h
    by_cases h1 : i = 9 ∧ 1 < b.toNat
    · rw [if_pos h1] at h; simp at h
    · rw [if_neg h1] at h
      by_cases h2 : 128 ≤ b.toNat
      · rw [if_pos h2] at h
        obtain ⟨m, e1, e2, e3, e4, e5⟩ := ih _ _ _ _ h
        have hm : 0 < m := by omega
        refine ⟨m * 128 + b.toNat % 128, ?_, ?_, ?_, ?_, by omega⟩
        · rw [e1, Nat.pow_succ, Nat.add_mul, Nat.mul_assoc m 128, Nat.mul_comm 128 (128 ^ i)]
          omega
        · rw [sev_ge (by omega), show (m * 128 + b.toNat % 128) / 128 = m from by omega, List.length_cons]; omega
        · rw [sev_ge (by omega), show (m * 128 + b.toNat % 128) / 128 = m from by omega, show (m * 128 + b.toNat % 128) % 128 + 128 = b.toNat from by omega]
          simp [e3]
        · rw [sev_ge (by omega), show (m * 128 + b.toNat % 128) / 128 = m from by omega]
          simpa using e4
      · rw [if_neg h2] at h
        by_cases h3 : b.toNat = 0 ∧ 0 < i
        · rw [if_pos h3] at h; simp at h
        · rw [if_neg h3] at h
          simp only [Prod.mk.injEq, and_true] at h
          refine ⟨b.toNat, h.1.symm, ?_, ?_, ?_, by omega⟩
          · rw [sev_lt (by omega)]; simpa using h.2.symm
          · rw [sev_lt (by omega)]; simp
          · rw [sev_lt (by omega)]; simp

/-- whatever is found fits 64 bits, and its errors are 10 and 11 -/
theorem seek_fits : ∀ (l : List UInt8) (i acc : Nat), i ≤ 9 → acc < 128 ^ i → (seek i acc l).1 ≤ 18446744073709551615 := by
  intro l
  induction l with
  | nil => intro i acc _ _; simp [seek]
  | cons b r ih =>
    intro i acc hi ha
    have hb := b.toNat_lt
    simp only [seek]
    have key : ∀ d, d < 128 → acc + d * 128 ^ i < 128 ^ (i + 1) := by
      intro d hd
      rw [Nat.pow_succ, Nat.mul_comm (128 ^ i) 128]
      have : (d + 1) * 128 ^ i ≤ 128 * 128 ^ i := Nat.mul_le_mul_right _ (by omega)
      rw [Nat.add_mul] at this
      omega
    by_cases h1 : i = 9 ∧ 1 < b.toNat
    · rw [if_pos h1]; simp
    · rw [if_neg h1]
      by_cases h2 : 128 ≤ b.toNat
      · rw [if_pos h2]
        exact ih _ _ (by omega) (key _ (by omega))
      · rw [if_neg h2]
        by_cases h3 : b.toNat = 0 ∧ 0 < i
        · rw [if_pos h3]; simp
        · rw [if_neg h3]
          show acc + b.toNat * 128 ^ i ≤ _
          by_cases hi9 : i = 9
          · subst hi9
            rw [pow9] at *
            have : b.toNat ≤ 1 := by omega
            have : b.toNat * 9223372036854775808 ≤ 1 * 9223372036854775808 := Nat.mul_le_mul_right _ this
            omega
          · have h8 := key b.toNat (by omega)
            have : (128 : Nat) ^ (i + 1) ≤ 128 ^ 9 := Nat.pow_le_pow_right (by omega) (by omega)
            rw [pow9] at this
            omega

theorem seek_err : ∀ (l : List UInt8) (i acc : Nat), ((seek i acc l).2.2 = 0 ∧ (seek i acc l).2.1 ≤ i + l.length) ∨ (seek i acc l = (0, 0, 10)) ∨ (seek i acc l = (0, 0, 11)) := by
  intro l
  induction l with
  | nil => intro i acc; simp [seek]
  | cons b r ih =>
    intro i acc
    simp only [seek]
    by_cases h1 : i = 9 ∧ 1 < b.toNat
    · rw [if_pos h1]; simp
    · rw [if_neg h1]
      by_cases h2 : 128 ≤ b.toNat
      · rw [if_pos h2]
        rcases ih (i + 1) (acc + b.toNat % 128 * 128 ^ i) with h | h | h
        · left; exact ⟨h.1, by simp only [List.length_cons]; omega⟩
        · right; left; exact h
        · right; right; exact h
      · rw [if_neg h2]
        by_cases h3 : b.toNat = 0 ∧ 0 < i
        · rw [if_pos h3]; simp
        · rw [if_neg h3]; left; simp

/-! ## zigzag -/
def zz (n : Int) : Nat := if 0 ≤ n then 2 * n.toNat else 2 * (-n - 1).toNat + 1
def unzz (z : Nat) : Int := if z % 2 = 0 then (z / 2 : Nat) else -((z / 2 : Nat) : Int) - 1

theorem unzz_zz (n : Int) : unzz (zz n) = n := by unfold unzz zz; split <;> split <;> omega
theorem zz_unzz (z : Nat) : zz (unzz z) = z := by unfold unzz zz; split <;> split <;> omega
theorem zz_le {n : Int} (h1 : -9223372036854775808 ≤ n) (h2 : n ≤ 9223372036854775807) : zz n ≤ 18446744073709551615 := by unfold zz; split <;> omega
theorem unzz_lo {z : Nat} (h : z ≤ 18446744073709551615) : -9223372036854775808 ≤ unzz z := by unfold unzz; split <;> omega
theorem unzz_hi {z : Nat} (h : z ≤ 18446744073709551615) : unzz z ≤ 9223372036854775807 := by unfold unzz; split <;> omega

theorem xor_ones (x : Nat) (h : x < 18446744073709551616) : 18446744073709551615 ^^^ x = 18446744073709551615 - x := by
  have e : (18446744073709551615 : Nat) = 2 ^ 64 - 1 := by decide
  rw [e]
  apply Nat.eq_of_testBit_eq
  intro i
  rw [Nat.testBit_xor, Nat.testBit_two_pow_sub_one, show 2 ^ 64 - 1 - x = 2 ^ 64 - (x + 1) from by omega, Nat.testBit_two_pow_sub_succ (by simpa using h)]
  by_cases hi : i < 64
  · simp [hi]
  · have hx : x.testBit i = false := Nat.testBit_lt_two_pow (Nat.lt_of_lt_of_le (by simpa using h : x < 2 ^ 64) (Nat.pow_le_pow_right (by omega) (by omega)))
    simp [hi, hx]

theorem zig_neg {n : Int} (h1 : -9223372036854775808 ≤ n) (h2 : n < 0) :
    bits BinOp.xor IntKind.u64 IntKind.u64.max (IntKind.u64.wrap (IntKind.u64.wrap n * 2)) = (zz n : Int) := by
  have e1 : IntKind.u64.max = 18446744073709551615 := by decide
  have e2 : IntKind.u64.wrap (IntKind.u64.wrap n * 2) = (2 * n) % 18446744073709551616 := by
    rw [IntKind.wrap_u64, IntKind.wrap_u64]; omega
  rw [e1, e2, u64_xor _ _ (by omega) (by omega) (by omega) (by omega)]
  have hx : (((18446744073709551615 : Int).toNat ^^^ (2 * n % 18446744073709551616).toNat : Nat) : Int) = ((18446744073709551615 - (2 * n % 18446744073709551616).toNat : Nat) : Int) := by
    rw [show (18446744073709551615 : Int).toNat = 18446744073709551615 from by decide, xor_ones _ (by omega)]
  rw [hx]
  unfold zz
  split <;> omega

theorem zig_pos {n : Int} (h : 0 ≤ n) : n * 2 = (zz n : Int) := by unfold zz; split <;> omega

theorem unzig_odd {z : Nat} (h : z ≤ 18446744073709551615) (hb : (bits BinOp.and IntKind.u64 (z : Int) 1 == 1) = true) :
    bits BinOp.xor IntKind.i64 (-1) ((z : Int) / 2) = unzz z := by
  have e : bits BinOp.and IntKind.u64 (z : Int) 1 = ((z % 2 : Nat) : Int) := by
    have := u64_and_nat z 1 (by omega) (by omega)
    rw [nat_mask1] at this
    simpa using this
  rw [e] at hb
  have hz : z % 2 = 1 := by simp at hb; omega
  have := i64_not (z / 2) (by omega)
  rw [show ((z : Int) / 2) = ((z / 2 : Nat) : Int) from by omega, this]
  unfold unzz
  split <;> omega

theorem unzig_even {z : Nat} (h : z ≤ 18446744073709551615) (hb : (bits BinOp.and IntKind.u64 (z : Int) 1 == 1) = false) :
    (z : Int) / 2 = unzz z := by
  have e : bits BinOp.and IntKind.u64 (z : Int) 1 = ((z % 2 : Nat) : Int) := by
    have := u64_and_nat z 1 (by omega) (by omega)
    rw [nat_mask1] at this
    simpa using this
  rw [e] at hb
  have hz : z % 2 = 0 := by simp at hb; omega
  unfold unzz
  split <;> omega
end Go.Proofs.YtpmemcpfoapjmaaGreat

namespace Go.Proofs.YtpmemcpfoapjmaaGreat
open Go.ChangeShapes Go.WideShapes Go.ChangeAt Go.RowKit

theorem ret_val {a b : Value} (h : a = b) : Ending.returned a = .returned b := by rw [h]

theorem zig_any (n : Int) (w : World) (h1 : -9223372036854775808 ≤ n) (h2 : n ≤ 9223372036854775807) :
    Calls Tryz.prog 124 #[.int .i64 n] w fun e w' => e = .returned (.int .u64 (zz n)) ∧ w = w' := by
  by_cases hn : n < 0
  · go_enter Tryz.func124, Tryz.ntmps124
    go_wp2
    go_ret
    exact ⟨ret_val (congrArg (Value.int .u64) (zig_neg h1 hn)), rfl⟩
  · go_enter Tryz.func124, Tryz.ntmps124
    go_wp2
    go_ret
    exact ⟨ret_val (congrArg (Value.int .u64) (zig_pos (by omega))), rfl⟩

theorem unzig_any (z : Nat) (w : World) (hz : z ≤ 18446744073709551615) :
    Calls Tryz.prog 126 #[.int .u64 z] w fun e w' => e = .returned (.int .i64 (unzz z)) ∧ w = w' := by
  go_enter Tryz.func126, Tryz.ntmps126
  go_wp2
  all_goals go_ret
  · exact ⟨ret_val (congrArg (Value.int .i64) (unzig_odd hz ‹_›)), rfl⟩
  · exact ⟨ret_val (congrArg (Value.int .i64) (unzig_even hz ‹_›)), rfl⟩

/-- bytes as cells -/
def cells (l : List UInt8) : List Value := l.map fun b => Value.int .u8 b.toNat
theorem cells_length (l : List UInt8) : (cells l).length = l.length := by simp [cells]
theorem cells_append (a b : List UInt8) : cells (a ++ b) = cells a ++ cells b := by simp [cells]
theorem cells_str (s : ByteArray) : Lib.strCells s = cells s.data.toList := rfl

/-- v owns the bytes l -/
def Row (w : World) (v : Value) (l : List UInt8) : Prop := w.ownsRow 0 5 1 v l.length (cells l)
theorem Row.alloc {w : World} {v : Value} {l : List UInt8} (h : Row w v l) (o : Obj) : Row (w.alloc o) v l := World.ownsRow.alloc h o
theorem Row.drew {w : World} {v : Value} {l : List UInt8} (h : Row w v l) : Row w.drew v l := h

theorem info_u8 : (Tryz.prog.info? 5).map (fun i => (i.zero, i.size, i.bytes)) = some (some (.int .u8 0), 1, 1) := by kernel_rfl

/-- one byte behind a row -/
theorem wpList_append_byte (w : World) {ops : Array Oper} {rest : List Oper} {o : Oper} {a : Act} {Q : Exit → Act → World → Prop} (hgd : o.guard = none) (s x : Operand)
    (ho : o.op = .call { callee := .builtin .append, args := #[s, x], argTypes := #[136, 136] })
    (v : Value) (l : List UInt8) (hs : a.eval s = v) (hrow : Row w v l) (hl : l.length ≤ 100000000000)
    (ad : Addr) (c : Nat) (b : UInt8) (hx : a.eval x = .slice (some ad) 1 c) (hb : w.cell? ad = some (.int .u8 b.toNat))
    (h : ∀ v' w', Row w' v' (l ++ [b]) → w.grownBy w' v.ownBlock → Sep w v.ownBlock v' → wpList Tryz.prog ops Q rest (a.put o.dst v') w') : wpList Tryz.prog ops Q (o :: rest) a w := by
  obtain ⟨i0, hi, hz0, hz1, hz2⟩ := info_parts info_u8
  refine wpList_append_apart w hgd s x 136 ho 0 5 i0 (.int .u8 0) 1 1 Tryz.underlying136 hi hz0 hz1 hz2 rfl (by decide) v l.length (cells l) hs hrow ad 1 c (cells [b]) hx rfl ?_ ?_ ?_ ?_ (Nat.zero_le _) ?_
  · intro j u hu
    cases j with
    | zero => simp only [cells, List.map_cons, List.map_nil, List.getElem?_cons_zero, Option.some.injEq] at hu; subst hu; rw [← hb]; rfl
    | succ j => simp [cells] at hu
  · intro u hu; simp [cells] at hu; subst hu; rfl
  · unfold maxLen; omega
  · omega
  · intro v' w' h1 h2 h3
    exact h v' w' (by unfold Row; rw [cells_append, List.length_append]; exact h1) h2 h3

def PutPost (w : World) (v : Value) (l : List UInt8) (e : Ending) (w' : World) : Prop :=
  ∃ v', e = .returned v' ∧ Row w' v' l ∧ w.grownBy w' v.ownBlock ∧ Sep w v.ownBlock v'

theorem byte_hi (k : Nat) : bits BinOp.or IntKind.u8 ((k : Int) % 256) 128 = ((UInt8.ofNat (k % 128 + 128)).toNat : Int) := by
  rw [u8_or _ _ (by omega) (by omega) (by omega) (by omega), toNat_ofNat_lt (by omega)]
  have e : ((k : Int) % 256).toNat = k % 256 := by omega
  rw [e]
  have : ∀ x : Fin 256, (x.val ||| (128 : Int).toNat) = x.val % 128 + 128 := by decide +kernel
  have h := this ⟨k % 256, by omega⟩
  simp only at h
  rw [h]
  omega

structure PutRel (w : World) (v0 : Value) (l : List UInt8) (n : Nat) (v i : Value) (wr : World) : Prop where
  ex : ∃ (m : Nat) (done : List UInt8), i = .int .u64 m ∧ m ≤ n ∧ done ++ sev m = sev n ∧ Row wr v (l ++ done) ∧ w.grownBy wr v0.ownBlock ∧ Sep w v0.ownBlock v

theorem cell_new (w : World) (x : Value) (t : TypeId) : (w.alloc (.cells #[x] t)).cell? ⟨w.heap.size, 0, none⟩ = some x := by
  rw [World.cell?_alloc_at _ _ _ _ rfl]; rfl

theorem step_alloc {w wr w' : World} {row : Option Nat} {vr v' : Value} (hg : w.grownBy wr row) (hsep : Sep w row vr) (o : Obj) (hg' : (wr.alloc o).grownBy w' vr.ownBlock) (hs' : Sep (wr.alloc o) vr.ownBlock v') :
    w.grownBy w' row ∧ Sep w row v' := by
  have h1 : w.grownBy (wr.alloc o) row := ⟨hg.os, hg.tape, hg.output, Nat.le_trans hg.size (by simp), fun k hk hne => by rw [← hg.block k hk hne]; exact Below.heap_alloc _ _ _ (Nat.lt_of_lt_of_le hk hg.size)⟩
  exact ⟨grownBy_trans h1 hsep hg', hsep.trans hs' h1.size⟩

set_option maxRecDepth 100000 in
theorem put_any (n : Nat) (w : World) (v : Value) (l : List UInt8) (h2 : n ≤ 18446744073709551615) (hl : l.length ≤ 70000000000) (hown : Row w v l) :
    Calls Tryz.prog 123 #[v, .int .u64 n] w (PutPost w v (l ++ sev n)) := by
  have HN := Lib.hid h2
  clear h2
  go_enter Tryz.func123, Tryz.ntmps123
  go_wp2
  go_loopw [0, 1] (fun v1 i wr => PutRel w v l n v1 i wr) (fun _ i _ => (intOf i).toNat)
  case atStart => exact ⟨n, [], rfl, Nat.le_refl _, rfl, by simpa using hown, World.grownBy.refl _ _, Sep.refl _ _⟩
  case round =>
    obtain ⟨m, done, rfl, hmn, hsev, hrow, hg, hsep⟩ := hrel.ex
    clear hrel
    have HS := Lib.hid hsev; clear hsev
    have hm64 : m ≤ 18446744073709551615 := by have := HN.out; omega
    have hdl : done.length ≤ 10 := by
      have := congrArg List.length HS.out
      simp only [List.length_append] at this
      have := sev_length_u64 HN.out
      omega
    by_cases hlt : 128 ≤ m
    · have hcell : ∀ w : World, (w.alloc (.cells #[.int .u8 (bits BinOp.or IntKind.u8 ((m : Int) % 256) 128)] 5)).cell? ⟨w.heap.size, 0, none⟩ = some (.int .u8 (UInt8.ofNat (m % 128 + 128)).toNat) := fun w => by rw [cell_new, byte_hi]
      have HC := Lib.hid hcell; clear hcell
      go_wp2_with (at_builtin; go_loud (refine wpList_append_byte _ rfl _ _ rfl u0 (l ++ done) rfl (hrow.alloc _) (by simp; omega) ⟨wr.heap.size, 0, none⟩ 1 (UInt8.ofNat (m % 128 + 128)) rfl (HC.out _) ?_); intro v' w' hrow' hg' hs')
      obtain ⟨hg2, hs2⟩ := step_alloc hg hsep _ hg' hs'
      refine ⟨⟨m / 128, done ++ [UInt8.ofNat (m % 128 + 128)], rfl, by omega, ?_, by rw [← List.append_assoc]; exact hrow', hg2, hs2⟩, by simp [intOf]; omega⟩
      rw [← HS.out, sev_ge hlt]; simp
    · have hcell : ∀ w : World, (w.alloc (.cells #[.int .u8 (m : Int)] 5)).cell? ⟨w.heap.size, 0, none⟩ = some (.int .u8 (UInt8.ofNat m).toNat) := fun w => by rw [cell_new, toNat_ofNat_lt (by omega)]
      have HC := Lib.hid hcell; clear hcell
      go_wp2_with (at_builtin; go_loud (refine wpList_append_byte _ rfl _ _ rfl u0 (l ++ done) rfl (hrow.alloc _) (by simp; omega) ⟨wr.heap.size, 0, none⟩ 1 (UInt8.ofNat m) rfl (HC.out _) ?_); intro v' w' hrow' hg' hs')
      obtain ⟨hg2, hs2⟩ := step_alloc hg hsep _ hg' hs'
      have hfin : l ++ done ++ [UInt8.ofNat m] = l ++ sev n := by rw [← HS.out, sev_lt (by omega)]; simp
      rw [hfin] at hrow'
      go_ret
      exact ⟨_, rfl, hrow', hg2, hs2⟩
end Go.Proofs.YtpmemcpfoapjmaaGreat

namespace Go.Proofs.YtpmemcpfoapjmaaGreat
open Go.ChangeShapes Go.WideShapes Go.ChangeAt Go.RowKit
set_option linter.unusedVariables false

/-- all blocks that were there are as they were, but those in S -/
structure Kept (S : Nat → Prop) (w w' : World) : Prop where
  os : w'.os = w.os
  tape : w'.tape = w.tape
  output : w'.output = w.output
  size : w.heap.size ≤ w'.heap.size
  block : ∀ k, k < w.heap.size → ¬ S k → w'.heap[k]? = w.heap[k]?

theorem Kept.refl (S : Nat → Prop) (w : World) : Kept S w w := ⟨rfl, rfl, rfl, Nat.le_refl _, fun _ _ _ => rfl⟩
theorem Kept.mono {S T : Nat → Prop} {w w' : World} (h : Kept S w w') (hst : ∀ k, k < w.heap.size → S k → T k) : Kept T w w' :=
  ⟨h.os, h.tape, h.output, h.size, fun k hk hn => h.block k hk fun s => hn (hst k hk s)⟩
theorem Kept.trans {S : Nat → Prop} {w w1 w2 : World} (h : Kept S w w1) (g : Kept S w1 w2) : Kept S w w2 :=
  ⟨g.os.trans h.os, g.tape.trans h.tape, g.output.trans h.output, Nat.le_trans h.size g.size, fun k hk hn => (g.block k (Nat.lt_of_lt_of_le hk h.size) hn).trans (h.block k hk hn)⟩
theorem Kept.trans' {S T : Nat → Prop} {w w1 w2 : World} (h : Kept S w w1) (g : Kept T w1 w2) (hst : ∀ k, k < w.heap.size → T k → S k) : Kept S w w2 :=
  ⟨g.os.trans h.os, g.tape.trans h.tape, g.output.trans h.output, Nat.le_trans h.size g.size, fun k hk hn => (g.block k (Nat.lt_of_lt_of_le hk h.size) fun t => hn (hst k hk t)).trans (h.block k hk hn)⟩
theorem Kept.of_grownBy {w w' : World} {row : Option Nat} (h : w.grownBy w' row) : Kept (fun k => some k = row) w w' :=
  ⟨h.os, h.tape, h.output, h.size, fun k hk hn => h.block k hk hn⟩
theorem Kept.alloc {S : Nat → Prop} {w w' : World} (h : Kept S w w') (o : Obj) : Kept S w (w'.alloc o) :=
  ⟨h.os, h.tape, h.output, Nat.le_trans h.size (by simp), fun k hk hn => by rw [Below.heap_alloc _ _ _ (Nat.lt_of_lt_of_le hk h.size)]; exact h.block k hk hn⟩
theorem Kept.drew {S : Nat → Prop} {w w' : World} (h : Kept S w w') : Kept S w w'.drew := ⟨h.os, h.tape, h.output, h.size, h.block⟩
theorem Kept.drewN {S : Nat → Prop} {w w' : World} (h : Kept S w w') (n : Nat) : Kept S w (w'.drewN n) := ⟨h.os, h.tape, h.output, h.size, h.block⟩
theorem Kept.setCell {S : Nat → Prop} {w w' : World} (h : Kept S w w') {a : Addr} (ha : S a.block ∨ w.heap.size ≤ a.block) (u : Value) : Kept S w (w'.setCell a u) :=
  ⟨h.os, h.tape, h.output, by simp [World.setCell]; exact h.size, fun k hk hn => by
    rw [Below.heap_setCell _ _ _ _ (fun e => by subst e; rcases ha with ha | ha; exact hn ha; omega)]; exact h.block k hk hn⟩

/-- block b is a writer whose slice is v, and v owns the bytes l -/
structure WAt (w : World) (b : Nat) (v : Value) (l : List UInt8) : Prop where
  at_ : w.heap[b]? = some (.cells #[v] 140 (0, 0))
  row : Row w v l
  apart : v.ownBlock ≠ some b

/-- a writer's own blocks -/
def WS (b : Nat) (v : Value) : Nat → Prop := fun k => k = b ∨ some k = v.ownBlock

theorem Row.kept {S : Nat → Prop} {w w' : World} {v : Value} {l : List UInt8} (h : Row w v l) (hk : Kept S w w') (hn : ∀ k, v.ownBlock = some k → ¬ S k) : Row w' v l := by
  refine ⟨h.1, ?_⟩
  rcases h.2 with h2 | ⟨g, cap, cur, rfl, hb, hh, r⟩
  · exact Or.inl h2
  · exact Or.inr ⟨g, cap, cur, rfl, hb, by rw [hk.block g (lt_of_block hh) (hn g rfl)]; exact hh, r⟩

theorem WAt.kept {S : Nat → Prop} {w w' : World} {b : Nat} {v : Value} {l : List UInt8} (h : WAt w b v l) (hk : Kept S w w') (hb : ¬ S b) (hn : ∀ k, v.ownBlock = some k → ¬ S k) : WAt w' b v l :=
  ⟨by rw [hk.block b (lt_of_block h.at_) hb]; exact h.at_, h.row.kept hk hn, h.apart⟩

theorem WS.sep {w : World} {b : Nat} {v v1 : Value} (hs : Sep w v.ownBlock v1) : ∀ k, k < w.heap.size → WS b v1 k → WS b v k := by
  intro k hk h
  rcases h with h | h
  · exact Or.inl h
  · rcases hs with hs | hs
    · exact Or.inr (by rw [h, hs])
    · have := hs k h.symm; omega

/-- behind a call that lays: the writer bears l, all else is kept -/
def WPost (w : World) (b : Nat) (v : Value) (l : List UInt8) (e : Ending) (w' : World) : Prop :=
  ∃ v', e = .returned (.tuple #[]) ∧ WAt w' b v' l ∧ Kept (WS b v) w w' ∧ Sep w v.ownBlock v'

/-- what is stored back -/
theorem WPost.mk {w w1 : World} {b : Nat} {v v1 : Value} {l l1 : List UInt8} (h : WAt w b v l) (hrow : Row w1 v1 l1) (hg : w.grownBy w1 v.ownBlock) (hs : Sep w v.ownBlock v1) :
    WAt (w1.setCell ⟨b, 0, none⟩ v1) b v1 l1 ∧ Kept (WS b v) w (w1.setCell ⟨b, 0, none⟩ v1) := by
  have hb := lt_of_block h.at_
  have h1 : w1.heap[b]? = some (.cells #[v] 140 (0, 0)) := by
    rw [hg.block b hb (fun e => h.apart e.symm)]; exact h.at_
  have hap : v1.ownBlock ≠ some b := by
    rcases hs with hs | hs
    · rw [hs]; exact h.apart
    · intro e; have := hs b e; omega
  exact ⟨⟨one_setCell h1, ownsRow_setCell_other hrow hap _, hap⟩, Kept.setCell (S := WS b v) ((Kept.of_grownBy hg).mono fun k _ e => Or.inr e) (a := ⟨b, 0, none⟩) (Or.inl (Or.inl rfl)) _⟩

theorem new_any (w : World) : Calls Tryz.prog 50 #[] w fun e w' => e = .returned (.pointer (some ⟨w.heap.size, 0, none⟩)) ∧ w' = w.alloc (.cells #[.slice none 0 0] 140) := by
  go_enter Tryz.func50, Tryz.ntmps50
  go_wp2
  go_ret
  exact ⟨rfl, rfl⟩

theorem new_at (w : World) : WAt (w.alloc (.cells #[.slice none 0 0] 140)) w.heap.size (.slice none 0 0) [] :=
  ⟨heap_alloc_new w _, World.ownsRow_nil _ _ _ _, by simp [Value.ownBlock]⟩

theorem WAt.behind {w w1 : World} {b : Nat} {v : Value} {l : List UInt8} (h : WAt w b v l) (hg : w.grownBy w1 v.ownBlock) :
    w1.cell? ⟨b, 0, none⟩ = some v ∧ w1.frozen? ⟨b, 0, none⟩ = false := by
  have h1 : w1.heap[b]? = some (.cells #[v] 140 (0, 0)) := by
    rw [hg.block b (lt_of_block h.at_) (fun e => h.apart e.symm)]; exact h.at_
  exact ⟨cell_of_one h1, free_of_one h1⟩

theorem Row.shape {w : World} {v : Value} {l : List UInt8} (h : Row w v l) : ∃ p n c, v = .slice p n c := by
  rcases h.2 with ⟨rfl, _⟩ | ⟨g, cap, cur, rfl, _⟩
  · exact ⟨_, _, _, rfl⟩
  · exact ⟨_, _, _, rfl⟩
theorem WAt.drew {w : World} {b : Nat} {v : Value} {l : List UInt8} (h : WAt w b v l) : WAt w.drew b v l := ⟨h.at_, h.row, h.apart⟩
theorem grownBy_drew {w w' : World} {r : Option Nat} (h : w.drew.grownBy w' r) : w.grownBy w' r := ⟨h.os, h.tape, h.output, h.size, h.block⟩

theorem wcount_nat (n : Nat) (w : World) (b : Nat) (v : Value) (l : List UInt8) (hW : WAt w b v l) (h2 : n ≤ 9223372036854775807) (hl : l.length ≤ 70000000000) :
    Calls Tryz.prog 94 #[.pointer (some ⟨b, 0, none⟩), .int .i64 n] w (WPost w b v (l ++ sev n)) := by
  have hc := cell_of_one hW.at_
  have hf := free_of_one hW.at_
  go_enter Tryz.func94, Tryz.ntmps94
  go_wp2_with (go_at_call 123; refine (put_any _ _ _ l (by omega) hl hW.row).mono ?_; rintro e w1 ⟨v1, rfl, hrow, hg, hs⟩; obtain ⟨hc1, hf1⟩ := hW.behind hg; obtain ⟨p1, n1, c1, rfl⟩ := hrow.shape)
  go_end0
  exact ⟨_, rfl, (WPost.mk hW hrow hg hs).1, (WPost.mk hW hrow hg hs).2, hs⟩

theorem wcount_neg (n : Int) (w : World) (b : Nat) (v : Value) (l : List UInt8) (hW : WAt w b v l) (h1 : -9223372036854775808 ≤ n) (h2 : n < 0) (hl : l.length ≤ 70000000000) :
    Calls Tryz.prog 94 #[.pointer (some ⟨b, 0, none⟩), .int .i64 n] w (WPost w b v (l ++ sev 0)) := by
  have hc := cell_of_one hW.at_
  have hf := free_of_one hW.at_
  go_enter Tryz.func94, Tryz.ntmps94
  go_wp2_with (go_at_call 123; refine (put_any 0 _ _ l (by omega) hl hW.row).mono ?_; rintro e w1 ⟨v1, rfl, hrow, hg, hs⟩; obtain ⟨hc1, hf1⟩ := hW.behind hg; obtain ⟨p1, n1, c1, rfl⟩ := hrow.shape)
  go_end0
  exact ⟨_, rfl, (WPost.mk hW hrow hg hs).1, (WPost.mk hW hrow hg hs).2, hs⟩

theorem wcount_any (n : Int) (w : World) (b : Nat) (v : Value) (l : List UInt8) (hW : WAt w b v l) (h1 : -9223372036854775808 ≤ n) (h2 : n ≤ 9223372036854775807) (hl : l.length ≤ 70000000000) :
    Calls Tryz.prog 94 #[.pointer (some ⟨b, 0, none⟩), .int .i64 n] w (WPost w b v (l ++ sev n.toNat)) := by
  by_cases hn : 0 ≤ n
  · obtain ⟨m, rfl⟩ := Int.eq_ofNat_of_zero_le hn
    exact wcount_nat m w b v l hW (by omega) hl
  · rw [show n.toNat = 0 from by omega]
    exact wcount_neg n w b v l hW h1 (by omega) hl

theorem wnum_any (n : Int) (w : World) (b : Nat) (v : Value) (l : List UInt8) (hW : WAt w b v l) (h1 : -9223372036854775808 ≤ n) (h2 : n ≤ 9223372036854775807) (hl : l.length ≤ 70000000000) :
    Calls Tryz.prog 87 #[.pointer (some ⟨b, 0, none⟩), .int .i64 n] w (WPost w b v (l ++ sev (zz n))) := by
  have hc := cell_of_one hW.at_
  have hf := free_of_one hW.at_
  have hz := zz_le h1 h2
  have hz0 : (0 : Int) ≤ zz n := Int.natCast_nonneg _
  go_enter Tryz.func87, Tryz.ntmps87
  go_region_with (first | (go_at_call 124; refine (zig_any n _ h1 h2).mono ?_; rintro e w' ⟨rfl, rfl⟩) | (go_at_call 123; refine (put_any _ _ _ l (by omega) hl hW.row.drew).mono ?_; rintro e w1 ⟨v1, rfl, hrow, hg, hs⟩; replace hg := grownBy_drew hg; obtain ⟨hc1, hf1⟩ := hW.behind hg; obtain ⟨p1, n1, c1, rfl⟩ := hrow.shape))
  all_goals go_end0
  all_goals exact ⟨_, rfl, (WPost.mk hW hrow hg hs).1, (WPost.mk hW hrow hg hs).2, hs⟩

theorem wflag_any (x : Bool) (w : World) (b : Nat) (v : Value) (l : List UInt8) (hW : WAt w b v l) (hl : l.length ≤ 70000000000) :
    Calls Tryz.prog 132 #[.pointer (some ⟨b, 0, none⟩), .bool x] w (WPost w b v (l ++ [if x then 1 else 0])) := by
  have hc := cell_of_one hW.at_
  have hf := free_of_one hW.at_
  have HC : ∀ (w : World) (x : UInt8), (w.alloc (.cells #[.int .u8 (x.toNat : Int)] 5)).cell? ⟨w.heap.size, 0, none⟩ = some (.int .u8 x.toNat) := fun w x => cell_new _ _ _
  have HC := Lib.hid HC
  cases x
  · go_enter Tryz.func132, Tryz.ntmps132
    go_wp2_with (at_builtin; go_loud (refine wpList_append_byte _ rfl _ _ rfl v l rfl (hW.row.alloc _) (by omega) ⟨w.heap.size, 0, none⟩ 1 0 rfl (HC.out _ 0) ?_); intro v1 w1 hrow hg' hs'; obtain ⟨hg, hs⟩ := step_alloc (World.grownBy.refl w v.ownBlock) (Sep.refl w v) _ hg' hs'; obtain ⟨hc1, hf1⟩ := hW.behind hg; obtain ⟨p1, n1, c1, rfl⟩ := hrow.shape)
    go_end0
    exact ⟨_, rfl, (WPost.mk hW hrow hg hs).1, (WPost.mk hW hrow hg hs).2, hs⟩
  · go_enter Tryz.func132, Tryz.ntmps132
    go_wp2_with (at_builtin; go_loud (refine wpList_append_byte _ rfl _ _ rfl v l rfl (hW.row.alloc _) (by omega) ⟨w.heap.size, 0, none⟩ 1 1 rfl (HC.out _ 1) ?_); intro v1 w1 hrow hg' hs'; obtain ⟨hg, hs⟩ := step_alloc (World.grownBy.refl w v.ownBlock) (Sep.refl w v) _ hg' hs'; obtain ⟨hc1, hf1⟩ := hW.behind hg; obtain ⟨p1, n1, c1, rfl⟩ := hrow.shape)
    go_end0
    exact ⟨_, rfl, (WPost.mk hW hrow hg hs).1, (WPost.mk hW hrow hg hs).2, hs⟩

theorem wtext_any (s : ByteArray) (w : World) (b : Nat) (v : Value) (l : List UInt8) (hW : WAt w b v l) (hs : s.size ≤ 60000000000) (hl : l.length ≤ 60000000000) :
    Calls Tryz.prog 55 #[.pointer (some ⟨b, 0, none⟩), .string s] w (WPost w b v (l ++ (sev s.size ++ s.data.toList))) := by
  obtain ⟨i0, hi, hz0, hz1, hz2⟩ := info_parts info_u8
  go_enter Tryz.func55, Tryz.ntmps55
  go_wp2_with fail
  refine (wcount_nat _ _ _ v l hW (by omega) (by omega)).mono ?_
  rintro e w1 ⟨v1, rfl, hW1, hk1, hs1⟩
  obtain ⟨p1, n1, c1, rfl⟩ := hW1.row.shape
  have hc := cell_of_one hW1.at_
  have hf := free_of_one hW1.at_
  have hlen : (sev s.size).length ≤ 10 := sev_length_u64 (by omega)
  have hss : s.data.toList.length = s.size := by simp
  go_wp2_with (at_builtin; go_loud (refine wpList_append_apart_string _ rfl _ _ 136 9 rfl 0 5 i0 Tryz.underlying136 Tryz.underlying9 hi hz0 hz1 hz2 (.slice p1 n1 c1) _ _ rfl hW1.row s rfl (by unfold maxLen; simp only [List.length_append]; omega) (by simp only [List.length_append]; omega) (Nat.zero_le _) ?_); intro v2 w2 ho2 hg2 hs2; have hrow2 : Row w2 v2 ((l ++ sev s.size) ++ s.data.toList) := (by unfold Row; rw [cells_append, List.length_append, hss]; exact ho2); obtain ⟨hc2, hf2⟩ := hW1.behind hg2; obtain ⟨p2, n2, c2, rfl⟩ := hrow2.shape)
  go_end0
  have hfin := WPost.mk hW1 hrow2 hg2 hs2
  rw [List.append_assoc] at hfin
  exact ⟨_, rfl, hfin.1, hk1.trans' hfin.2 (WS.sep hs1), hs1.trans hs2 hk1.size⟩

/-- v reads as the bytes l -/
structure Reads (w : World) (v : Value) (l : List UInt8) : Prop where
  ex : ∃ p c, v = .slice p l.length c ∧ l.length ≤ c ∧ c ≤ maxLen ∧ ((p = none ∧ c = 0) ∨ ∃ g, p = some ⟨g, 0, none⟩ ∧ g < w.heap.size ∧ ∀ i (h : i < l.length), w.cell? ⟨g, i, none⟩ = some (.int .u8 (l[i].toNat : Int)))

theorem Row.reads {w : World} {v : Value} {l : List UInt8} (h : Row w v l) : Reads w v l := by
  have hl := h.1
  rcases h.2 with ⟨rfl, hn⟩ | ⟨g, cap, cur, rfl, _, hg, hnc, hcm, hcs, htake⟩
  · exact ⟨none, 0, by rw [hn], by omega, by unfold maxLen; omega, Or.inl ⟨rfl, rfl⟩⟩
  · refine ⟨_, cap, rfl, hnc, hcm, Or.inr ⟨g, rfl, lt_of_block hg, fun i hi => ?_⟩⟩
    have hc := World.ownsRow.cells h (g := g) rfl i (.int .u8 (l[i].toNat : Int)) (by simp [cells, List.getElem?_eq_getElem hi])
    have hadd : (⟨g, 0, none⟩ : Addr).add i = ⟨g, i, none⟩ := by unfold Addr.add; split <;> simp_all
    rw [hadd] at hc
    exact hc

theorem Reads.kept {S : Nat → Prop} {w w' : World} {v : Value} {l : List UInt8} (h : Reads w v l) (hk : Kept S w w') (hn : ∀ k, v.ownBlock = some k → ¬ S k) : Reads w' v l := by
  obtain ⟨p, c, rfl, h1, h2, h3⟩ := h.ex
  refine ⟨p, c, rfl, h1, h2, ?_⟩
  rcases h3 with h3 | ⟨g, rfl, hg, h3⟩
  · exact Or.inl h3
  · exact Or.inr ⟨g, rfl, Nat.lt_of_lt_of_le hg hk.size, fun i hi => by rw [← h3 i hi]; exact World.cell?_of_block (hk.block g hg (hn g rfl))⟩

theorem size_any (w : World) (b : Nat) (v : Value) (l : List UInt8) (hc : w.cell? ⟨b, 0, none⟩ = some v) (hrow : Reads w v l) :
    Calls Tryz.prog 93 #[.pointer (some ⟨b, 0, none⟩)] w fun e w' => e = .returned (.int .i64 l.length) ∧ w = w' := by
  obtain ⟨p1, c1, rfl, hle, _, _⟩ := hrow.ex
  go_enter Tryz.func93, Tryz.ntmps93
  go_wp2
  go_ret
  exact ⟨rfl, rfl⟩

theorem piece_any (w : World) (b : Nat) (v : Value) (l : List UInt8) (i j : Nat) (hc : w.cell? ⟨b, 0, none⟩ = some v) (hrow : Reads w v l) (hij : i ≤ j) (hj : j ≤ l.length) :
    Calls Tryz.prog 92 #[.pointer (some ⟨b, 0, none⟩), .int .i64 i, .int .i64 j] w fun e w' => e = .returned (.string ⟨((l.take j).drop i).toArray⟩) ∧ w = w' := by
  obtain ⟨p1, c1, rfl, hle, hm, hp⟩ := hrow.ex
  unfold maxLen at hm
  rcases hp with ⟨rfl, hc0⟩ | ⟨g, rfl, hg, hcell⟩
  · have hl0 : l = [] := List.eq_nil_of_length_eq_zero (by omega)
    subst hl0
    simp only [List.length_nil] at hj hle
    obtain rfl : j = 0 := by omega
    obtain rfl : i = 0 := by omega
    obtain rfl : c1 = 0 := by omega
    have hconv := run_convert_bytes_nil (P := Tryz.prog) w 136 5 Tryz.underlying136 Tryz.underlying5 0 0 9 Tryz.underlying9
    have HV := Lib.hid hconv
    go_enter Tryz.func92, Tryz.ntmps92
    go_wp2
    go_ret
    exact ⟨rfl, rfl⟩
  · by_cases hci : c1 = i
    · obtain rfl : j = i := by omega
      have hconv := run_convert_bytes_back (P := Tryz.prog) w 136 9 5 ⟨g, 0, none⟩ 0 [] Tryz.underlying136 Tryz.underlying5 Tryz.underlying9 (fun j hj => by simp at hj)
      simp only [List.length_nil] at hconv
      have hres : ((l.take j).drop j) = [] := by simp
      rw [hres]
      subst hci
      go_enter Tryz.func92, Tryz.ntmps92
      go_wp2
      go_ret
      exact ⟨rfl, rfl⟩
    · have hlen : ((l.take j).drop i).length = j - i := by simp; omega
      have hconv := run_convert_bytes_back (P := Tryz.prog) w 136 9 5 ⟨g, i, none⟩ (c1 - i) ((l.take j).drop i) Tryz.underlying136 Tryz.underlying5 Tryz.underlying9 (fun k hk => by
        have hadd : (⟨g, i, none⟩ : Addr).add k = ⟨g, i + k, none⟩ := by unfold Addr.add; split <;> simp_all
        rw [hadd, hcell (i + k) (by omega)]
        simp)
      rw [hlen] at hconv
      go_enter Tryz.func92, Tryz.ntmps92
      go_wp2
      go_ret
      exact ⟨rfl, rfl⟩

theorem quiet_same {P : Program} {f : FuncId} {args : Array Value} {w : World} {n : Nat} {v : Value}
    (h : Calls P f args (w.drewN n) fun e w' => e = .returned v ∧ w.drewN n = w') : Calls P f args (w.drewN n) fun e w'' => e = .returned v ∧ ∃ m, w'' = w.drewN m :=
  h.mono fun _ _ ⟨he, hm⟩ => ⟨he, n, hm.symm⟩
theorem cell_drewN {w : World} {a : Addr} {v : Value} (h : w.cell? a = some v) (n : Nat) : (w.drewN n).cell? a = some v := h
theorem Reads.drewN {w : World} {v : Value} {l : List UInt8} (h : Reads w v l) (n : Nat) : Reads (w.drewN n) v l :=
  h.kept ((Kept.refl (fun _ => False) w).drewN n) (fun _ _ f => f)

theorem wbytes_any (w : World) (b : Nat) (v : Value) (l : List UInt8) (hW : WAt w b v l) :
    Calls Tryz.prog 51 #[.pointer (some ⟨b, 0, none⟩)] w fun e w' => e = .returned (.string ⟨l.toArray⟩) ∧ ∃ n, w' = w.drewN n := by
  have hc := cell_of_one hW.at_
  have hrd := hW.row.reads
  have hpc : ∀ n, _ := fun n => piece_any (w.drewN n) b v l 0 l.length (cell_drewN hc n) (hrd.drewN n) (Nat.zero_le _) (Nat.le_refl _)
  simp only [List.take_of_length_le (Nat.le_refl _), List.drop_zero] at hpc
  have HP := Lib.hid hpc; clear hpc
  go_enter Tryz.func51, Tryz.ntmps51
  go_wp2
  go_quiet ((first | (go_at_call 93; exact quiet_same (size_any _ b v l (cell_drewN hc _) (hrd.drewN _))) | (go_at_call 92; exact quiet_same (HP.out _))))
  go_wp2
  go_ret
  exact ⟨rfl, _, rfl⟩
end Go.Proofs.YtpmemcpfoapjmaaGreat

namespace Go.Proofs.YtpmemcpfoapjmaaGreat
open Go.ChangeShapes Go.WideShapes Go.ChangeAt Go.RowKit
set_option linter.unusedVariables false

/-- what getSevens gives back -/
def sevRes (r : Nat × Nat × Nat) : Value := .tuple #[.int .u64 r.1, .int .i64 r.2.1, .int .i64 r.2.2]

structure SeekRel (l : List UInt8) (acc i : Value) : Prop where
  ex : ∃ (k n : Nat), i = .int .i64 k ∧ acc = .int .u64 n ∧ k ≤ l.length ∧ k ≤ 9 ∧ n < 128 ^ k ∧ seek k n (l.drop k) = seek 0 0 l

theorem pow7 (k : Nat) : (2 : Nat) ^ (7 * k) = 128 ^ k := by rw [Nat.pow_mul]

theorem or_step (n x k : Nat) (hx : x < 256) (hk : k ≤ 9) (hn : n < 128 ^ k) (h9 : k = 9 → x ≤ 1) :
    bits BinOp.or IntKind.u64 (n : Int) (IntKind.u64.wrap (IntKind.u64.wrap (bits BinOp.and IntKind.u8 (x : Int) 127) * 2 ^ (7 * k))) = ((n + x % 128 * 128 ^ k : Nat) : Int) := by
  have e1 : bits BinOp.and IntKind.u8 (x : Int) 127 = ((x % 128 : Nat) : Int) := by
    have := bits_mask .u8 8 (by decide) wraps_u8 7 (by decide) (x : Int) (by omega) (by omega)
    have e : ((2 : Int) ^ 7 - 1) = 127 := by decide
    have e2 : ((2 : Int) ^ 7) = 128 := by decide
    rw [e, e2] at this
    rw [this]; omega
  have e2 : IntKind.u64.wrap ((x % 128 : Nat) : Int) = ((x % 128 : Nat) : Int) := by rw [IntKind.wrap_u64]; omega
  have hpk : (128 : Nat) ^ k ≤ 128 ^ 9 := Nat.pow_le_pow_right (by omega) hk
  have hb : x % 128 * 128 ^ k < 18446744073709551616 := by
    by_cases h : k = 9
    · subst h
      rw [pow9]
      have := h9 rfl
      have : x % 128 * 9223372036854775808 ≤ 1 * 9223372036854775808 := Nat.mul_le_mul_right _ (by omega)
      omega
    · have h8 : (128 : Nat) ^ k ≤ 128 ^ 8 := Nat.pow_le_pow_right (by omega) (by omega)
      have e8 : (128 : Nat) ^ 8 = 72057594037927936 := by decide
      rw [e8] at h8
      have := Nat.mul_le_mul (show x % 128 ≤ 127 by omega) h8
      omega
  have e3 : IntKind.u64.wrap (((x % 128 : Nat) : Int) * 2 ^ (7 * k)) = ((x % 128 * 128 ^ k : Nat) : Int) := by
    have : (((x % 128 : Nat) : Int) * 2 ^ (7 * k)) = ((x % 128 * 128 ^ k : Nat) : Int) := by
      rw [← pow7]; push_cast; rfl
    rw [this, IntKind.wrap_u64]
    omega
  rw [e1, e2, e3, u64_or_nat _ _ (by rw [pow9] at hpk; omega) hb, Nat.or_comm]
  have hj := nat_join (7 * k) (x % 128 * 128 ^ k) n (by rw [pow7]; exact Nat.mul_mod_left _ _) (by rw [pow7]; exact hn)
  rw [hj, Nat.add_comm]

theorem seek_drop {l : List UInt8} {k : Nat} (h : k < l.length) (n : Nat) : seek k n (l.drop k) =
    if k = 9 ∧ 1 < l[k].toNat then (0, 0, 11)
    else if 128 ≤ l[k].toNat then seek (k + 1) (n + l[k].toNat % 128 * 128 ^ k) (l.drop (k + 1))
    else if l[k].toNat = 0 ∧ 0 < k then (0, 0, 11)
    else (n + l[k].toNat * 128 ^ k, k + 1, 0) := by
  rw [List.drop_eq_getElem_cons h]; rfl

theorem acc_lt {n x k : Nat} (hn : n < 128 ^ k) : n + x % 128 * 128 ^ k < 128 ^ (k + 1) := by
  rw [Nat.pow_succ, Nat.mul_comm (128 ^ k) 128]
  have : (x % 128 + 1) * 128 ^ k ≤ 128 * 128 ^ k := Nat.mul_le_mul_right _ (by omega)
  rw [Nat.add_mul] at this
  omega

theorem ret3 {a b : Nat × Nat × Nat} (h : a = b) : Ending.returned (sevRes a) = .returned (sevRes b) := by rw [h]

set_option maxRecDepth 100000 in
theorem get_any (w : World) (g off c : Nat) (l : List UInt8) (hl : l.length ≤ 9223372036854775807) (hcell : ∀ i (h : i < l.length), w.cell? ⟨g, off + i, none⟩ = some (.int .u8 (l[i].toNat : Int))) :
    Calls Tryz.prog 143 #[.slice (some ⟨g, off, none⟩) l.length c] w fun e w' => e = .returned (sevRes (seek 0 0 l)) ∧ w = w' := by
  have HC := Lib.hid hcell; clear hcell
  go_enter Tryz.func143, Tryz.ntmps143
  go_wp2
  go_loop [5, 10] (fun acc i => SeekRel l acc i) (fun _ i => l.length - (intOf i).toNat)
  case atStart => exact ⟨0, 0, rfl, rfl, Nat.zero_le _, by omega, by decide, rfl⟩
  case round =>
    obtain ⟨k, n, rfl, rfl, hk, hk9, hn, hs⟩ := hrel.ex
    clear hrel
    by_cases hlt : k < l.length
    · have hcell := HC.out k hlt
      have HD := Lib.hid (seek_drop hlt n)
      have HS := Lib.hid hs; clear hs
      generalize hx : l[k].toNat = x at hcell
      have HX := Lib.hid hx; clear hx
      have hx256 : x < 256 := by rw [← HX.out]; exact l[k].toNat_lt
      by_cases h9 : k = 9 ∧ 1 < x
      · obtain ⟨h9, h1⟩ := h9
        subst h9
        have HF : Hid (seek 0 0 l = (0, 0, 11)) := by rw [← HS.out, HD.out, HX.out, if_pos ⟨rfl, h1⟩]; exact rfl
        go_wp2
        go_ret3
        exact ⟨ret3 HF.out.symm, rfl⟩
      · have HO := Lib.hid (or_step n x k hx256 hk9 hn (fun e => by omega))
        have HA := Lib.hid (acc_lt (x := x) hn)
        have HNF := Lib.hid h9
        by_cases h128 : 128 ≤ x
        · have h9' : k ≠ 9 := by omega
          clear h9
          go_wp2
          have hfin : seek (k + 1) (n + x % 128 * 128 ^ k) (l.drop (k + 1)) = seek 0 0 l := by
            rw [← HS.out, HD.out, HX.out, if_neg HNF.out, if_pos h128]
          exact ⟨⟨k + 1, _, rfl, congrArg (Value.int .u64) HO.out, by omega, by omega, HA.out, hfin⟩, by simp [intOf]; omega⟩
        · have hmod : x % 128 = x := by omega
          rw [hmod] at HO
          by_cases h0 : x = 0 ∧ 0 < k
          · obtain ⟨h0, hk0⟩ := h0
            have HF : Hid (seek 0 0 l = (0, 0, 11)) := by rw [← HS.out, HD.out, HX.out, if_neg HNF.out, if_neg h128, if_pos ⟨h0, hk0⟩]; exact rfl
            subst h0
            by_cases h9' : k = 9
            · subst h9'
              clear h9
              go_wp2
              go_ret3
              exact ⟨ret3 HF.out.symm, rfl⟩
            · clear h9
              go_wp2
              go_ret3
              exact ⟨ret3 HF.out.symm, rfl⟩
          · have HF : Hid (seek 0 0 l = (n + x * 128 ^ k, k + 1, 0)) := by rw [← HS.out, HD.out, HX.out, if_neg HNF.out, if_neg h128, if_neg h0]; exact rfl
            have hres : Hid (∀ y : Int, y = ((n + x * 128 ^ k : Nat) : Int) → Ending.returned (.tuple #[.int .u64 y, .int .i64 (k + 1), .int .i64 0]) = .returned (sevRes (seek 0 0 l))) := by
              intro y hy; rw [HF.out, hy]; rfl
            by_cases h9' : k = 9
            · subst h9'
              obtain rfl : x = 1 := by omega
              clear h9 h0
              go_wp2
              go_ret3
              exact ⟨hres.out _ HO.out, rfl⟩
            · clear h9
              by_cases hx0 : x = 0
              · obtain rfl : k = 0 := by omega
                subst hx0
                clear h0
                rw [Nat.add_zero] at hcell
                go_wp2
                go_ret3
                exact ⟨hres.out _ HO.out, rfl⟩
              · clear h0
                have hx1 : ((x : Int) == 0) = false := by simp; omega
                go_wp2
                go_ret3
                exact ⟨hres.out _ HO.out, rfl⟩
    · have HF : Hid (seek 0 0 l = (0, 0, 10)) := by rw [← hs, List.drop_of_length_le (by omega)]; exact rfl
      clear hs
      go_wp2
      go_ret3
      exact ⟨ret3 HF.out.symm, rfl⟩

theorem get_nil (w : World) (a : Option Addr) (c : Nat) :
    Calls Tryz.prog 143 #[.slice a 0 c] w fun e w' => e = .returned (sevRes (seek 0 0 [])) ∧ w = w' := by
  have HF : Hid (seek 0 0 [] = (0, 0, 10)) := rfl
  go_enter Tryz.func143, Tryz.ntmps143
  go_wp2
  go_loop [5, 10] (fun acc i => i = .int .i64 0 ∧ acc = .int .u64 0) (fun _ i => 0 - (intOf i).toNat)
  case atStart => exact ⟨rfl, rfl⟩
  case round =>
    obtain ⟨rfl, rfl⟩ := hrel
    go_wp2
    go_ret3
    exact ⟨ret3 HF.out.symm, rfl⟩
end Go.Proofs.YtpmemcpfoapjmaaGreat
