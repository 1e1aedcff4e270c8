/- The writer's calls: New, Num, Flag, Count, Text, Bytes. -/
import Derived.Test.YtngcfnffbggniaaWriter
import Derived.Deep.RegionWith
import Derived.Deep.QuietTactic
import Derived.Deep.DeepFit
import Derived.Laws.IdiomStrings
import Derived.Laws.BytesArg
namespace Go.Proofs.Ytngcfnffbggniaa
open Go.ChangeShapes Go.WideShapes Go.ChangeAt Go.RowKit
set_option linter.unusedVariables false

/-- all blocks that were there are as they were, but those in S -/
structure Kept (S : Nat → Prop) (w w' : World) : Prop where
  os : w'.os = w.os
  tape : w'.tape = w.tape
  output : w'.output = w.output
  size : w.heap.size ≤ w'.heap.size
  block : ∀ k, k < w.heap.size → ¬ S k → w'.heap[k]? = w.heap[k]?

theorem Kept.refl (S : Nat → Prop) (w : World) : Kept S w w := ⟨rfl, rfl, rfl, Nat.le_refl _, fun _ _ _ => rfl⟩
theorem Kept.mono {S T : Nat → Prop} {w w' : World} (h : Kept S w w') (hst : ∀ k, k < w.heap.size → S k → T k) : Kept T w w' :=
  ⟨h.os, h.tape, h.output, h.size, fun k hk hn => h.block k hk fun s => hn (hst k hk s)⟩
theorem Kept.trans {S : Nat → Prop} {w w1 w2 : World} (h : Kept S w w1) (g : Kept S w1 w2) : Kept S w w2 :=
  ⟨g.os.trans h.os, g.tape.trans h.tape, g.output.trans h.output, Nat.le_trans h.size g.size, fun k hk hn => (g.block k (Nat.lt_of_lt_of_le hk h.size) hn).trans (h.block k hk hn)⟩
theorem Kept.trans' {S T : Nat → Prop} {w w1 w2 : World} (h : Kept S w w1) (g : Kept T w1 w2) (hst : ∀ k, k < w.heap.size → T k → S k) : Kept S w w2 :=
  ⟨g.os.trans h.os, g.tape.trans h.tape, g.output.trans h.output, Nat.le_trans h.size g.size, fun k hk hn => (g.block k (Nat.lt_of_lt_of_le hk h.size) fun t => hn (hst k hk t)).trans (h.block k hk hn)⟩
theorem Kept.of_grownBy {w w' : World} {row : Option Nat} (h : w.grownBy w' row) : Kept (fun k => some k = row) w w' :=
  ⟨h.os, h.tape, h.output, h.size, fun k hk hn => h.block k hk hn⟩
theorem Kept.alloc {S : Nat → Prop} {w w' : World} (h : Kept S w w') (o : Obj) : Kept S w (w'.alloc o) :=
  ⟨h.os, h.tape, h.output, Nat.le_trans h.size (by simp), fun k hk hn => by rw [Below.heap_alloc _ _ _ (Nat.lt_of_lt_of_le hk h.size)]; exact h.block k hk hn⟩
theorem Kept.drew {S : Nat → Prop} {w w' : World} (h : Kept S w w') : Kept S w w'.drew := ⟨h.os, h.tape, h.output, h.size, h.block⟩
theorem Kept.drewN {S : Nat → Prop} {w w' : World} (h : Kept S w w') (n : Nat) : Kept S w (w'.drewN n) := ⟨h.os, h.tape, h.output, h.size, h.block⟩
theorem Kept.setCell {S : Nat → Prop} {w w' : World} (h : Kept S w w') {a : Addr} (ha : S a.block ∨ w.heap.size ≤ a.block) (u : Value) : Kept S w (w'.setCell a u) :=
  ⟨h.os, h.tape, h.output, by simp [World.setCell]; exact h.size, fun k hk hn => by
    rw [Below.heap_setCell _ _ _ _ (fun e => by subst e; rcases ha with ha | ha; exact hn ha; omega)]; exact h.block k hk hn⟩

/-- block b is a writer whose slice is v, and v owns the bytes l -/
structure WAt (w : World) (b : Nat) (v : Value) (l : List UInt8) : Prop where
  at_ : w.heap[b]? = some (.cells #[v] 161 (0, 0))
  row : Row w v l
  apart : v.ownBlock ≠ some b

/-- a writer's own blocks -/
def WS (b : Nat) (v : Value) : Nat → Prop := fun k => k = b ∨ some k = v.ownBlock

theorem Row.kept {S : Nat → Prop} {w w' : World} {v : Value} {l : List UInt8} (h : Row w v l) (hk : Kept S w w') (hn : ∀ k, v.ownBlock = some k → ¬ S k) : Row w' v l := by
  refine ⟨h.1, ?_⟩
  rcases h.2 with h2 | ⟨g, cap, cur, rfl, hb, hh, r⟩
  · exact Or.inl h2
  · exact Or.inr ⟨g, cap, cur, rfl, hb, by rw [hk.block g (lt_of_block hh) (hn g rfl)]; exact hh, r⟩

theorem WAt.kept {S : Nat → Prop} {w w' : World} {b : Nat} {v : Value} {l : List UInt8} (h : WAt w b v l) (hk : Kept S w w') (hb : ¬ S b) (hn : ∀ k, v.ownBlock = some k → ¬ S k) : WAt w' b v l :=
  ⟨by rw [hk.block b (lt_of_block h.at_) hb]; exact h.at_, h.row.kept hk hn, h.apart⟩

theorem WS.sep {w : World} {b : Nat} {v v1 : Value} (hs : Sep w v.ownBlock v1) : ∀ k, k < w.heap.size → WS b v1 k → WS b v k := by
  intro k hk h
  rcases h with h | h
  · exact Or.inl h
  · rcases hs with hs | hs
    · exact Or.inr (by rw [h, hs])
    · have := hs k h.symm; omega

/-- behind a call that lays: the writer bears l, all else is kept -/
def WPost (w : World) (b : Nat) (v : Value) (l : List UInt8) (e : Ending) (w' : World) : Prop :=
  ∃ v', e = .returned (.tuple #[]) ∧ WAt w' b v' l ∧ Kept (WS b v) w w' ∧ Sep w v.ownBlock v'

/-- what is stored back -/
theorem WPost.mk {w w1 : World} {b : Nat} {v v1 : Value} {l l1 : List UInt8} (h : WAt w b v l) (hrow : Row w1 v1 l1) (hg : w.grownBy w1 v.ownBlock) (hs : Sep w v.ownBlock v1) :
    WAt (w1.setCell ⟨b, 0, none⟩ v1) b v1 l1 ∧ Kept (WS b v) w (w1.setCell ⟨b, 0, none⟩ v1) := by
  have hb := lt_of_block h.at_
  have h1 : w1.heap[b]? = some (.cells #[v] 161 (0, 0)) := by
    rw [hg.block b hb (fun e => h.apart e.symm)]; exact h.at_
  have hap : v1.ownBlock ≠ some b := by
    rcases hs with hs | hs
    · rw [hs]; exact h.apart
    · intro e; have := hs b e; omega
  exact ⟨⟨one_setCell h1, ownsRow_setCell_other hrow hap _, hap⟩, Kept.setCell (S := WS b v) ((Kept.of_grownBy hg).mono fun k _ e => Or.inr e) (a := ⟨b, 0, none⟩) (Or.inl (Or.inl rfl)) _⟩

theorem new_any (w : World) : Calls Try.prog 70 #[] w fun e w' => e = .returned (.pointer (some ⟨w.heap.size, 0, none⟩)) ∧ w' = w.alloc (.cells #[.slice none 0 0] 161) := by
  go_enter Try.func70, Try.ntmps70
  go_wp2
  go_ret
  exact ⟨rfl, rfl⟩

theorem new_at (w : World) : WAt (w.alloc (.cells #[.slice none 0 0] 161)) w.heap.size (.slice none 0 0) [] :=
  ⟨heap_alloc_new w _, World.ownsRow_nil _ _ _ _, by simp [Value.ownBlock]⟩

theorem WAt.behind {w w1 : World} {b : Nat} {v : Value} {l : List UInt8} (h : WAt w b v l) (hg : w.grownBy w1 v.ownBlock) :
    w1.cell? ⟨b, 0, none⟩ = some v ∧ w1.frozen? ⟨b, 0, none⟩ = false := by
  have h1 : w1.heap[b]? = some (.cells #[v] 161 (0, 0)) := by
    rw [hg.block b (lt_of_block h.at_) (fun e => h.apart e.symm)]; exact h.at_
  exact ⟨cell_of_one h1, free_of_one h1⟩

theorem Row.shape {w : World} {v : Value} {l : List UInt8} (h : Row w v l) : ∃ p n c, v = .slice p n c := by
  rcases h.2 with ⟨rfl, _⟩ | ⟨g, cap, cur, rfl, _⟩
  · exact ⟨_, _, _, rfl⟩
  · exact ⟨_, _, _, rfl⟩
theorem WAt.drew {w : World} {b : Nat} {v : Value} {l : List UInt8} (h : WAt w b v l) : WAt w.drew b v l := ⟨h.at_, h.row, h.apart⟩
theorem grownBy_drew {w w' : World} {r : Option Nat} (h : w.drew.grownBy w' r) : w.grownBy w' r := ⟨h.os, h.tape, h.output, h.size, h.block⟩

theorem wcount_nat (n : Nat) (w : World) (b : Nat) (v : Value) (l : List UInt8) (hW : WAt w b v l) (h2 : n ≤ 9223372036854775807) (hl : l.length ≤ 70000000000) :
    Calls Try.prog 128 #[.pointer (some ⟨b, 0, none⟩), .int .i64 n] w (WPost w b v (l ++ sev n)) := by
  have hc := cell_of_one hW.at_
  have hf := free_of_one hW.at_
  go_enter Try.func128, Try.ntmps128
  go_wp2_with (go_at_call 141; refine (put_any _ _ _ l (by omega) hl hW.row).mono ?_; rintro e w1 ⟨v1, rfl, hrow, hg, hs⟩; obtain ⟨hc1, hf1⟩ := hW.behind hg; obtain ⟨p1, n1, c1, rfl⟩ := hrow.shape)
  go_end0
  exact ⟨_, rfl, (WPost.mk hW hrow hg hs).1, (WPost.mk hW hrow hg hs).2, hs⟩

theorem wcount_neg (n : Int) (w : World) (b : Nat) (v : Value) (l : List UInt8) (hW : WAt w b v l) (h1 : -9223372036854775808 ≤ n) (h2 : n < 0) (hl : l.length ≤ 70000000000) :
    Calls Try.prog 128 #[.pointer (some ⟨b, 0, none⟩), .int .i64 n] w (WPost w b v (l ++ sev 0)) := by
  have hc := cell_of_one hW.at_
  have hf := free_of_one hW.at_
  go_enter Try.func128, Try.ntmps128
  go_wp2_with (go_at_call 141; refine (put_any 0 _ _ l (by omega) hl hW.row).mono ?_; rintro e w1 ⟨v1, rfl, hrow, hg, hs⟩; obtain ⟨hc1, hf1⟩ := hW.behind hg; obtain ⟨p1, n1, c1, rfl⟩ := hrow.shape)
  go_end0
  exact ⟨_, rfl, (WPost.mk hW hrow hg hs).1, (WPost.mk hW hrow hg hs).2, hs⟩

theorem wcount_any (n : Int) (w : World) (b : Nat) (v : Value) (l : List UInt8) (hW : WAt w b v l) (h1 : -9223372036854775808 ≤ n) (h2 : n ≤ 9223372036854775807) (hl : l.length ≤ 70000000000) :
    Calls Try.prog 128 #[.pointer (some ⟨b, 0, none⟩), .int .i64 n] w (WPost w b v (l ++ sev n.toNat)) := by
  by_cases hn : 0 ≤ n
  · obtain ⟨m, rfl⟩ := Int.eq_ofNat_of_zero_le hn
    exact wcount_nat m w b v l hW (by omega) hl
  · rw [show n.toNat = 0 from by omega]
    exact wcount_neg n w b v l hW h1 (by omega) hl

theorem wnum_any (n : Int) (w : World) (b : Nat) (v : Value) (l : List UInt8) (hW : WAt w b v l) (h1 : -9223372036854775808 ≤ n) (h2 : n ≤ 9223372036854775807) (hl : l.length ≤ 70000000000) :
    Calls Try.prog 95 #[.pointer (some ⟨b, 0, none⟩), .int .i64 n] w (WPost w b v (l ++ sev (zz n))) := by
  have hc := cell_of_one hW.at_
  have hf := free_of_one hW.at_
  have hz := zz_le h1 h2
  have hz0 : (0 : Int) ≤ zz n := Int.natCast_nonneg _
  go_enter Try.func95, Try.ntmps95
  go_region_with (first | (go_at_call 142; refine (zig_any n _ h1 h2).mono ?_; rintro e w' ⟨rfl, rfl⟩) | (go_at_call 141; refine (put_any _ _ _ l (by omega) hl hW.row.drew).mono ?_; rintro e w1 ⟨v1, rfl, hrow, hg, hs⟩; replace hg := grownBy_drew hg; obtain ⟨hc1, hf1⟩ := hW.behind hg; obtain ⟨p1, n1, c1, rfl⟩ := hrow.shape))
  all_goals go_end0
  all_goals exact ⟨_, rfl, (WPost.mk hW hrow hg hs).1, (WPost.mk hW hrow hg hs).2, hs⟩

theorem wflag_any (x : Bool) (w : World) (b : Nat) (v : Value) (l : List UInt8) (hW : WAt w b v l) (hl : l.length ≤ 70000000000) :
    Calls Try.prog 127 #[.pointer (some ⟨b, 0, none⟩), .bool x] w (WPost w b v (l ++ [if x then 1 else 0])) := by
  have hc := cell_of_one hW.at_
  have hf := free_of_one hW.at_
  have HC : ∀ (w : World) (x : UInt8), (w.alloc (.cells #[.int .u8 (x.toNat : Int)] 5)).cell? ⟨w.heap.size, 0, none⟩ = some (.int .u8 x.toNat) := fun w x => cell_new _ _ _
  have HC := Lib.hid HC
  cases x
  · go_enter Try.func127, Try.ntmps127
    go_wp2_with (at_builtin; go_loud (refine wpList_append_byte _ rfl _ _ rfl v l rfl (hW.row.alloc _) (by omega) ⟨w.heap.size, 0, none⟩ 1 0 rfl (HC.out _ 0) ?_); intro v1 w1 hrow hg' hs'; obtain ⟨hg, hs⟩ := step_alloc (World.grownBy.refl w v.ownBlock) (Sep.refl w v) _ hg' hs'; obtain ⟨hc1, hf1⟩ := hW.behind hg; obtain ⟨p1, n1, c1, rfl⟩ := hrow.shape)
    go_end0
    exact ⟨_, rfl, (WPost.mk hW hrow hg hs).1, (WPost.mk hW hrow hg hs).2, hs⟩
  · go_enter Try.func127, Try.ntmps127
    go_wp2_with (at_builtin; go_loud (refine wpList_append_byte _ rfl _ _ rfl v l rfl (hW.row.alloc _) (by omega) ⟨w.heap.size, 0, none⟩ 1 1 rfl (HC.out _ 1) ?_); intro v1 w1 hrow hg' hs'; obtain ⟨hg, hs⟩ := step_alloc (World.grownBy.refl w v.ownBlock) (Sep.refl w v) _ hg' hs'; obtain ⟨hc1, hf1⟩ := hW.behind hg; obtain ⟨p1, n1, c1, rfl⟩ := hrow.shape)
    go_end0
    exact ⟨_, rfl, (WPost.mk hW hrow hg hs).1, (WPost.mk hW hrow hg hs).2, hs⟩

theorem wtext_any (s : ByteArray) (w : World) (b : Nat) (v : Value) (l : List UInt8) (hW : WAt w b v l) (hs : s.size ≤ 60000000000) (hl : l.length ≤ 60000000000) :
    Calls Try.prog 96 #[.pointer (some ⟨b, 0, none⟩), .string s] w (WPost w b v (l ++ (sev s.size ++ s.data.toList))) := by
  obtain ⟨i0, hi, hz0, hz1, hz2⟩ := info_parts info_u8
  go_enter Try.func96, Try.ntmps96
  go_wp2_with fail
  refine (wcount_nat _ _ _ v l hW (by omega) (by omega)).mono ?_
  rintro e w1 ⟨v1, rfl, hW1, hk1, hs1⟩
  obtain ⟨p1, n1, c1, rfl⟩ := hW1.row.shape
  have hc := cell_of_one hW1.at_
  have hf := free_of_one hW1.at_
  have hlen : (sev s.size).length ≤ 10 := sev_length_u64 (by omega)
  have hss : s.data.toList.length = s.size := by simp
  go_wp2_with (at_builtin; go_loud (refine wpList_append_apart_string _ rfl _ _ 157 9 rfl 0 5 i0 Try.underlying157 Try.underlying9 hi hz0 hz1 hz2 (.slice p1 n1 c1) _ _ rfl hW1.row s rfl (by unfold maxLen; simp only [List.length_append]; omega) (by simp only [List.length_append]; omega) (Nat.zero_le _) ?_); intro v2 w2 ho2 hg2 hs2; have hrow2 : Row w2 v2 ((l ++ sev s.size) ++ s.data.toList) := (by unfold Row; rw [cells_append, List.length_append, hss]; exact ho2); obtain ⟨hc2, hf2⟩ := hW1.behind hg2; obtain ⟨p2, n2, c2, rfl⟩ := hrow2.shape)
  go_end0
  have hfin := WPost.mk hW1 hrow2 hg2 hs2
  rw [List.append_assoc] at hfin
  exact ⟨_, rfl, hfin.1, hk1.trans' hfin.2 (WS.sep hs1), hs1.trans hs2 hk1.size⟩

/-- v reads as the bytes l -/
structure Reads (w : World) (v : Value) (l : List UInt8) : Prop where
  ex : ∃ p c, v = .slice p l.length c ∧ l.length ≤ c ∧ c ≤ maxLen ∧ ((p = none ∧ c = 0) ∨ ∃ g, p = some ⟨g, 0, none⟩ ∧ g < w.heap.size ∧ ∀ i (h : i < l.length), w.cell? ⟨g, i, none⟩ = some (.int .u8 (l[i].toNat : Int)))

theorem Row.reads {w : World} {v : Value} {l : List UInt8} (h : Row w v l) : Reads w v l := by
  have hl := h.1
  rcases h.2 with ⟨rfl, hn⟩ | ⟨g, cap, cur, rfl, _, hg, hnc, hcm, hcs, htake⟩
  · exact ⟨none, 0, by rw [hn], by omega, by unfold maxLen; omega, Or.inl ⟨rfl, rfl⟩⟩
  · refine ⟨_, cap, rfl, hnc, hcm, Or.inr ⟨g, rfl, lt_of_block hg, fun i hi => ?_⟩⟩
    have hc := World.ownsRow.cells h (g := g) rfl i (.int .u8 (l[i].toNat : Int)) (by simp [cells, List.getElem?_eq_getElem hi])
    have hadd : (⟨g, 0, none⟩ : Addr).add i = ⟨g, i, none⟩ := by unfold Addr.add; split <;> simp_all
    rw [hadd] at hc
    exact hc

theorem Reads.kept {S : Nat → Prop} {w w' : World} {v : Value} {l : List UInt8} (h : Reads w v l) (hk : Kept S w w') (hn : ∀ k, v.ownBlock = some k → ¬ S k) : Reads w' v l := by
  obtain ⟨p, c, rfl, h1, h2, h3⟩ := h.ex
  refine ⟨p, c, rfl, h1, h2, ?_⟩
  rcases h3 with h3 | ⟨g, rfl, hg, h3⟩
  · exact Or.inl h3
  · exact Or.inr ⟨g, rfl, Nat.lt_of_lt_of_le hg hk.size, fun i hi => by rw [← h3 i hi]; exact World.cell?_of_block (hk.block g hg (hn g rfl))⟩

theorem size_any (w : World) (b : Nat) (v : Value) (l : List UInt8) (hc : w.cell? ⟨b, 0, none⟩ = some v) (hrow : Reads w v l) :
    Calls Try.prog 120 #[.pointer (some ⟨b, 0, none⟩)] w fun e w' => e = .returned (.int .i64 l.length) ∧ w = w' := by
  obtain ⟨p1, c1, rfl, hle, _, _⟩ := hrow.ex
  go_enter Try.func120, Try.ntmps120
  go_wp2
  go_ret
  exact ⟨rfl, rfl⟩

theorem piece_any (w : World) (b : Nat) (v : Value) (l : List UInt8) (i j : Nat) (hc : w.cell? ⟨b, 0, none⟩ = some v) (hrow : Reads w v l) (hij : i ≤ j) (hj : j ≤ l.length) :
    Calls Try.prog 119 #[.pointer (some ⟨b, 0, none⟩), .int .i64 i, .int .i64 j] w fun e w' => e = .returned (.string ⟨((l.take j).drop i).toArray⟩) ∧ w = w' := by
  obtain ⟨p1, c1, rfl, hle, hm, hp⟩ := hrow.ex
  unfold maxLen at hm
  rcases hp with ⟨rfl, hc0⟩ | ⟨g, rfl, hg, hcell⟩
  · have hl0 : l = [] := List.eq_nil_of_length_eq_zero (by omega)
    subst hl0
    simp only [List.length_nil] at hj hle
    obtain rfl : j = 0 := by omega
    obtain rfl : i = 0 := by omega
    obtain rfl : c1 = 0 := by omega
    have hconv := run_convert_bytes_nil (P := Try.prog) w 157 5 Try.underlying157 Try.underlying5 0 0 9 Try.underlying9
    have HV := Lib.hid hconv
    go_enter Try.func119, Try.ntmps119
    go_wp2
    go_ret
    exact ⟨rfl, rfl⟩
  · by_cases hci : c1 = i
    · obtain rfl : j = i := by omega
      have hconv := run_convert_bytes_back (P := Try.prog) w 157 9 5 ⟨g, 0, none⟩ 0 [] Try.underlying157 Try.underlying5 Try.underlying9 (fun j hj => by simp at hj)
      simp only [List.length_nil] at hconv
      have hres : ((l.take j).drop j) = [] := by simp
      rw [hres]
      subst hci
      go_enter Try.func119, Try.ntmps119
      go_wp2
      go_ret
      exact ⟨rfl, rfl⟩
    · have hlen : ((l.take j).drop i).length = j - i := by simp; omega
      have hconv := run_convert_bytes_back (P := Try.prog) w 157 9 5 ⟨g, i, none⟩ (c1 - i) ((l.take j).drop i) Try.underlying157 Try.underlying5 Try.underlying9 (fun k hk => by
        have hadd : (⟨g, i, none⟩ : Addr).add k = ⟨g, i + k, none⟩ := by unfold Addr.add; split <;> simp_all
        rw [hadd, hcell (i + k) (by omega)]
        simp)
      rw [hlen] at hconv
      go_enter Try.func119, Try.ntmps119
      go_wp2
      go_ret
      exact ⟨rfl, rfl⟩

theorem quiet_same {P : Program} {f : FuncId} {args : Array Value} {w : World} {n : Nat} {v : Value}
    (h : Calls P f args (w.drewN n) fun e w' => e = .returned v ∧ w.drewN n = w') : Calls P f args (w.drewN n) fun e w'' => e = .returned v ∧ ∃ m, w'' = w.drewN m :=
  h.mono fun _ _ ⟨he, hm⟩ => ⟨he, n, hm.symm⟩
theorem cell_drewN {w : World} {a : Addr} {v : Value} (h : w.cell? a = some v) (n : Nat) : (w.drewN n).cell? a = some v := h
theorem Reads.drewN {w : World} {v : Value} {l : List UInt8} (h : Reads w v l) (n : Nat) : Reads (w.drewN n) v l :=
  h.kept ((Kept.refl (fun _ => False) w).drewN n) (fun _ _ f => f)

theorem wbytes_any (w : World) (b : Nat) (v : Value) (l : List UInt8) (hW : WAt w b v l) :
    Calls Try.prog 71 #[.pointer (some ⟨b, 0, none⟩)] w fun e w' => e = .returned (.string ⟨l.toArray⟩) ∧ ∃ n, w' = w.drewN n := by
  have hc := cell_of_one hW.at_
  have hrd := hW.row.reads
  have hpc : ∀ n, _ := fun n => piece_any (w.drewN n) b v l 0 l.length (cell_drewN hc n) (hrd.drewN n) (Nat.zero_le _) (Nat.le_refl _)
  simp only [List.take_of_length_le (Nat.le_refl _), List.drop_zero] at hpc
  have HP := Lib.hid hpc; clear hpc
  go_enter Try.func71, Try.ntmps71
  go_wp2
  go_quiet ((first | (go_at_call 120; exact quiet_same (size_any _ b v l (cell_drewN hc _) (hrd.drewN _))) | (go_at_call 119; exact quiet_same (HP.out _))))
  go_wp2
  go_ret
  exact ⟨rfl, _, rfl⟩
end Go.Proofs.Ytngcfnffbggniaa
