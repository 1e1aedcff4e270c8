/- The writer's calls. -/
import Derived.Test.YtngcfnffbggniaaBase
import Derived.Test.YtngcfnffbggniaaMath
import Derived.BigGuardPart
import Derived.BigQuiet
import Derived.Outline
namespace Go.Proofs.Ytngcfnffbggniaa
open Go.ChangeShapes Go.WideShapes Go.ChangeAt Go.RowKit

theorem ret_val {a b : Value} (h : a = b) : Ending.returned a = .returned b := by rw [h]

theorem zig_any (n : Int) (w : World) (h1 : -9223372036854775808 ≤ n) (h2 : n ≤ 9223372036854775807) :
    Calls Try.prog 142 #[.int .i64 n] w fun e w' => e = .returned (.int .u64 (zz n)) ∧ w = w' := by
  by_cases hn : n < 0
  · go_enter Try.func142, Try.ntmps142
    go_wp2
    go_ret
    exact ⟨ret_val (congrArg (Value.int .u64) (zig_neg h1 hn)), rfl⟩
  · go_enter Try.func142, Try.ntmps142
    go_wp2
    go_ret
    exact ⟨ret_val (congrArg (Value.int .u64) (zig_pos (by omega))), rfl⟩

theorem unzig_any (z : Nat) (w : World) (hz : z ≤ 18446744073709551615) :
    Calls Try.prog 146 #[.int .u64 z] w fun e w' => e = .returned (.int .i64 (unzz z)) ∧ w = w' := by
  go_enter Try.func146, Try.ntmps146
  go_wp2
  all_goals go_ret
  · exact ⟨ret_val (congrArg (Value.int .i64) (unzig_odd hz ‹_›)), rfl⟩
  · exact ⟨ret_val (congrArg (Value.int .i64) (unzig_even hz ‹_›)), rfl⟩

/-- bytes as cells -/
def cells (l : List UInt8) : List Value := l.map fun b => Value.int .u8 b.toNat
theorem cells_length (l : List UInt8) : (cells l).length = l.length := by simp [cells]
theorem cells_append (a b : List UInt8) : cells (a ++ b) = cells a ++ cells b := by simp [cells]
theorem cells_str (s : ByteArray) : Lib.strCells s = cells s.data.toList := rfl

/-- v owns the bytes l -/
def Row (w : World) (v : Value) (l : List UInt8) : Prop := w.ownsRow 0 5 1 v l.length (cells l)
theorem Row.alloc {w : World} {v : Value} {l : List UInt8} (h : Row w v l) (o : Obj) : Row (w.alloc o) v l := World.ownsRow.alloc h o
theorem Row.drew {w : World} {v : Value} {l : List UInt8} (h : Row w v l) : Row w.drew v l := h

theorem info_u8 : (Try.prog.info? 5).map (fun i => (i.zero, i.size, i.bytes)) = some (some (.int .u8 0), 1, 1) := by kernel_rfl

/-- one byte behind a row -/
theorem wpList_append_byte (w : World) {ops : Array Oper} {rest : List Oper} {o : Oper} {a : Act} {Q : Exit → Act → World → Prop} (hgd : o.guard = none) (s x : Operand)
    (ho : o.op = .call { callee := .builtin .append, args := #[s, x], argTypes := #[157, 157] })
    (v : Value) (l : List UInt8) (hs : a.eval s = v) (hrow : Row w v l) (hl : l.length ≤ 100000000000)
    (ad : Addr) (c : Nat) (b : UInt8) (hx : a.eval x = .slice (some ad) 1 c) (hb : w.cell? ad = some (.int .u8 b.toNat))
    (h : ∀ v' w', Row w' v' (l ++ [b]) → w.grownBy w' v.ownBlock → Sep w v.ownBlock v' → wpList Try.prog ops Q rest (a.put o.dst v') w') : wpList Try.prog ops Q (o :: rest) a w := by
  obtain ⟨i0, hi, hz0, hz1, hz2⟩ := info_parts info_u8
  refine wpList_append_apart w hgd s x 157 ho 0 5 i0 (.int .u8 0) 1 1 Try.underlying157 hi hz0 hz1 hz2 rfl (by decide) v l.length (cells l) hs hrow ad 1 c (cells [b]) hx rfl ?_ ?_ ?_ ?_ (Nat.zero_le _) ?_
  · intro j u hu
    cases j with
    | zero => simp only [cells, List.map_cons, List.map_nil, List.getElem?_cons_zero, Option.some.injEq] at hu; subst hu; rw [← hb]; rfl
    | succ j => simp [cells] at hu
  · intro u hu; simp [cells] at hu; subst hu; rfl
  · unfold maxLen; omega
  · omega
  · intro v' w' h1 h2 h3
    exact h v' w' (by unfold Row; rw [cells_append, List.length_append]; exact h1) h2 h3

def PutPost (w : World) (v : Value) (l : List UInt8) (e : Ending) (w' : World) : Prop :=
  ∃ v', e = .returned v' ∧ Row w' v' l ∧ w.grownBy w' v.ownBlock ∧ Sep w v.ownBlock v'

theorem byte_hi (k : Nat) : bits BinOp.or IntKind.u8 ((k : Int) % 256) 128 = ((UInt8.ofNat (k % 128 + 128)).toNat : Int) := by
  rw [u8_or _ _ (by omega) (by omega) (by omega) (by omega), toNat_ofNat_lt (by omega)]
  have e : ((k : Int) % 256).toNat = k % 256 := by omega
  rw [e]
  have : ∀ x : Fin 256, (x.val ||| (128 : Int).toNat) = x.val % 128 + 128 := by decide +kernel
  have h := this ⟨k % 256, by omega⟩
  simp only at h
  rw [h]
  omega

structure PutRel (w : World) (v0 : Value) (l : List UInt8) (n : Nat) (v i : Value) (wr : World) : Prop where
  ex : ∃ (m : Nat) (done : List UInt8), i = .int .u64 m ∧ m ≤ n ∧ done ++ sev m = sev n ∧ Row wr v (l ++ done) ∧ w.grownBy wr v0.ownBlock ∧ Sep w v0.ownBlock v

theorem cell_new (w : World) (x : Value) (t : TypeId) : (w.alloc (.cells #[x] t)).cell? ⟨w.heap.size, 0, none⟩ = some x := by
  rw [World.cell?_alloc_at _ _ _ _ rfl]; rfl

theorem step_alloc {w wr w' : World} {row : Option Nat} {vr v' : Value} (hg : w.grownBy wr row) (hsep : Sep w row vr) (o : Obj) (hg' : (wr.alloc o).grownBy w' vr.ownBlock) (hs' : Sep (wr.alloc o) vr.ownBlock v') :
    w.grownBy w' row ∧ Sep w row v' := by
  have h1 : w.grownBy (wr.alloc o) row := ⟨hg.os, hg.tape, hg.output, Nat.le_trans hg.size (by simp), fun k hk hne => by rw [← hg.block k hk hne]; exact Below.heap_alloc _ _ _ (Nat.lt_of_lt_of_le hk hg.size)⟩
  exact ⟨grownBy_trans h1 hsep hg', hsep.trans hs' h1.size⟩

set_option maxRecDepth 100000 in
theorem put_any (n : Nat) (w : World) (v : Value) (l : List UInt8) (h2 : n ≤ 18446744073709551615) (hl : l.length ≤ 70000000000) (hown : Row w v l) :
    Calls Try.prog 141 #[v, .int .u64 n] w (PutPost w v (l ++ sev n)) := by
  have HN := Lib.hid h2
  clear h2
  go_enter Try.func141, Try.ntmps141
  go_wp2
  go_loopw [0, 1] (fun v1 i wr => PutRel w v l n v1 i wr) (fun _ i _ => (intOf i).toNat)
  case atStart => exact ⟨n, [], rfl, Nat.le_refl _, rfl, by simpa using hown, World.grownBy.refl _ _, Sep.refl _ _⟩
  case round =>
    obtain ⟨m, done, rfl, hmn, hsev, hrow, hg, hsep⟩ := hrel.ex
    clear hrel
    have HS := Lib.hid hsev; clear hsev
    have hm64 : m ≤ 18446744073709551615 := by have := HN.out; omega
    have hdl : done.length ≤ 10 := by
      have := congrArg List.length HS.out
      simp only [List.length_append] at this
      have := sev_length_u64 HN.out
      omega
    by_cases hlt : 128 ≤ m
    · have hcell : ∀ w : World, (w.alloc (.cells #[.int .u8 (bits BinOp.or IntKind.u8 ((m : Int) % 256) 128)] 5)).cell? ⟨w.heap.size, 0, none⟩ = some (.int .u8 (UInt8.ofNat (m % 128 + 128)).toNat) := fun w => by rw [cell_new, byte_hi]
      have HC := Lib.hid hcell; clear hcell
      go_wp2_with (at_builtin; go_loud (refine wpList_append_byte _ rfl _ _ rfl u0 (l ++ done) rfl (hrow.alloc _) (by simp; omega) ⟨wr.heap.size, 0, none⟩ 1 (UInt8.ofNat (m % 128 + 128)) rfl (HC.out _) ?_); intro v' w' hrow' hg' hs')
      obtain ⟨hg2, hs2⟩ := step_alloc hg hsep _ hg' hs'
      refine ⟨⟨m / 128, done ++ [UInt8.ofNat (m % 128 + 128)], rfl, by omega, ?_, by rw [← List.append_assoc]; exact hrow', hg2, hs2⟩, by simp [intOf]; omega⟩
      rw [← HS.out, sev_ge hlt]; simp
    · have hcell : ∀ w : World, (w.alloc (.cells #[.int .u8 (m : Int)] 5)).cell? ⟨w.heap.size, 0, none⟩ = some (.int .u8 (UInt8.ofNat m).toNat) := fun w => by rw [cell_new, toNat_ofNat_lt (by omega)]
      have HC := Lib.hid hcell; clear hcell
      go_wp2_with (at_builtin; go_loud (refine wpList_append_byte _ rfl _ _ rfl u0 (l ++ done) rfl (hrow.alloc _) (by simp; omega) ⟨wr.heap.size, 0, none⟩ 1 (UInt8.ofNat m) rfl (HC.out _) ?_); intro v' w' hrow' hg' hs')
      obtain ⟨hg2, hs2⟩ := step_alloc hg hsep _ hg' hs'
      have hfin : l ++ done ++ [UInt8.ofNat m] = l ++ sev n := by rw [← HS.out, sev_lt (by omega)]; simp
      rw [hfin] at hrow'
      go_ret
      exact ⟨_, rfl, hrow', hg2, hs2⟩
end Go.Proofs.Ytngcfnffbggniaa
