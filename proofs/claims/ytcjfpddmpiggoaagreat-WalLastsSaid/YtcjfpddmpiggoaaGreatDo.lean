/- One disk, whatever its blocks; awake of layer 3. -/
import Derived.Test.YtcjfpddmpiggoaaGreatDn
import Derived.BigQuiet
namespace Go.Proofs.YtcjfpddmpiggoaaGreat
open Go.ChangeShapes Go.WideShapes Go.ChangeAt Go.RowKit
open Go.Maps Go.Sort Go.Shelf Go.Proofs
set_option linter.unusedVariables false
set_option linter.unusedSimpArgs false

theorem HowAt.mono {ok ok' : Nat → Prop} {w : World} {v : Value} {how : List Int} (h : HowAt w ok v how) (hm : ∀ k, ok k → ok' k) : HowAt w ok' v how := by
  obtain ⟨a, cap, hv, hc⟩ := h.ex
  refine ⟨⟨a, cap, hv, fun i hi => ?_⟩, h.wf⟩
  obtain ⟨g, off, ha, hg, hcell⟩ := hc i hi
  exact ⟨g, off, ha, hm g hg, hcell⟩

theorem quiet_same {P : Program} {f : FuncId} {args : Array Value} {w : World} {n : Nat} {v : Value}
    (h : Calls P f args (w.drewN n) fun e w' => e = .returned v ∧ w.drewN n = w') : Calls P f args (w.drewN n) fun e w'' => e = .returned v ∧ ∃ m, w'' = w.drewN m :=
  h.mono fun _ _ ⟨he, hm⟩ => ⟨he, n, hm.symm⟩
/-- a disk at b whose blocks lie at B or past it -/
structure Dk (B : Nat) (w : World) (b : Nat) (d : DSt) : Prop where
  ex : ∃ sb mb nn, DAt w b sb mb nn d ∧ B ≤ b ∧ B ≤ sb ∧ B ≤ mb
theorem Dk.le {B : Nat} {w : World} {b : Nat} {d : DSt} (h : Dk B w b d) : B ≤ w.heap.size := by
  obtain ⟨sb, mb, nn, hD, h1, h2, h3⟩ := h.ex
  have := hD.inn b (.inl rfl); omega
theorem Dk.kept {B : Nat} {w w' : World} {b : Nat} {d : DSt} (h : Dk B w b d) (hk : Kept (fun _ => False) w w') : Dk B w' b d := by
  obtain ⟨sb, mb, nn, hD, h1, h2, h3⟩ := h.ex
  exact ⟨sb, mb, nn, hD.kept hk (fun _ _ f => f), h1, h2, h3⟩
theorem Dk.drewN {B : Nat} {w : World} {b : Nat} {d : DSt} (h : Dk B w b d) (n : Nat) : Dk B (w.drewN n) b d := h.kept ((Kept.refl _ w).drewN n)
theorem Kept.bel {w w' : World} {B : Nat} (h : Kept (fun _ => False) w w') (hB : B ≤ w.heap.size) : Below B w w' := h.below (fun _ f => f.elim) hB
theorem keptBelow {w w' : World} (h : Below w.heap.size w w') : Kept (fun _ => False) w w' := ⟨h.os, h.tape, h.output, h.size, fun k hk _ => h.block k hk⟩

section
variable {B : Nat} {w : World} {b : Nat} {d : DSt}
theorem dk_new (w : World) (k : Int) (h1 : 16 ≤ k) (h2 : k ≤ 32768) : Calls Tryz.prog 5 #[.int .i64 k] w fun e w' => ∃ b, e = .returned (.tuple #[.pointer (some ⟨b, 0, none⟩), .int .i64 0]) ∧ Dk w.heap.size w' b (newD k.toNat) ∧ Kept (fun _ => False) w w' :=
  (new_any w k).mono fun e w' h => by
    rcases h with ⟨_, _, he, hD, hk⟩ | ⟨hr, _⟩
    · exact ⟨_, he, ⟨_, _, _, hD, by omega, by omega, by omega⟩, hk⟩
    · omega
theorem dk_write (h : Dk B w b d) (k : Int) (s : ByteArray) (ha : d.acts < 9223372036854775807) : Calls Tryz.prog 24 #[.pointer (some ⟨b, 0, none⟩), .int .i64 k, .string s] w fun e w' =>
    e = .returned (.int .i64 (writeD d k s.data.toList).2) ∧ Dk B w' b (writeD d k s.data.toList).1 ∧ Below B w w' := by
  have hle := h.le
  obtain ⟨sb, mb, nn, hD, h1, h2, h3⟩ := h.ex
  refine (write_any hD k s ha).mono ?_
  rintro e w' ⟨he, ⟨nn', hD'⟩, hk⟩
  exact ⟨he, ⟨sb, mb, nn', hD', h1, h2, h3⟩, hk.below (by rintro k (rfl | rfl | rfl) <;> assumption) hle⟩
theorem dk_sync (h : Dk B w b d) (ha : d.acts < 9223372036854775807) : Calls Tryz.prog 50 #[.pointer (some ⟨b, 0, none⟩)] w fun e w' =>
    e = .returned (.int .i64 (syncD d).2) ∧ Dk B w' b (syncD d).1 ∧ Below B w w' := by
  have hle := h.le
  obtain ⟨sb, mb, nn, hD, h1, h2, h3⟩ := h.ex
  refine (sync_any hD ha).mono ?_
  rintro e w' ⟨he, ⟨mb', nn', hD', hmb⟩, hk⟩
  exact ⟨he, ⟨sb, mb', nn', hD', h1, h2, by rcases hmb with rfl | hmb <;> omega⟩, hk.below (fun k e => by have e : k = b := e; omega) hle⟩
theorem dk_arm (h : Dk B w b d) (k : Int) (hk : k ≤ 9223372036854775807) : Calls Tryz.prog 9 #[.pointer (some ⟨b, 0, none⟩), .int .i64 k] w fun e w' =>
    e = .returned (.int .i64 (armD d k).2) ∧ Dk B w' b (armD d k).1 ∧ Below B w w' := by
  have hle := h.le
  obtain ⟨sb, mb, nn, hD, h1, h2, h3⟩ := h.ex
  refine (arm_any hD k hk).mono ?_
  rintro e w' ⟨he, hD', hk⟩
  exact ⟨he, ⟨sb, mb, nn, hD', h1, h2, h3⟩, hk.below (fun k e => by have e : k = b := e; omega) hle⟩
theorem dk_read (h : Dk B w b d) (k : Int) : Calls Tryz.prog 19 #[.pointer (some ⟨b, 0, none⟩), .int .i64 k] w fun e w' => e = .returned (.tuple #[.string ⟨(readD d k).1.toArray⟩, .int .i64 (readD d k).2]) ∧ w = w' := by
  obtain ⟨sb, mb, nn, hD, h1, h2, h3⟩ := h.ex
  exact read_any hD k
theorem dk_acts (h : Dk B w b d) : Calls Tryz.prog 22 #[.pointer (some ⟨b, 0, none⟩)] w fun e w' => e = .returned (.int .i64 d.acts) ∧ w = w' := by
  obtain ⟨sb, mb, nn, hD, h1, h2, h3⟩ := h.ex
  exact acts_any hD
theorem dk_pending (h : Dk B w b d) : Calls Tryz.prog 34 #[.pointer (some ⟨b, 0, none⟩)] w fun e w' => ∃ a cap, e = .returned (.slice a (pendL d.n d.O).length cap) ∧ Dk B w' b d ∧ Below B w w' := by
  have hle := h.le
  have H := Lib.hid h
  obtain ⟨sb, mb, nn, hD, h1, h2, h3⟩ := h.ex
  refine (pending_any hD).mono ?_
  rintro e w' ⟨v, he, hrow, hnil, hb⟩
  rcases hrow.2 with ⟨rfl, hl0⟩ | ⟨g, cap, cur, rfl, r⟩
  · exact ⟨none, 0, by rw [hl0]; exact he, H.out.kept (keptBelow hb), hb.mono hle⟩
  · exact ⟨_, _, he, H.out.kept (keptBelow hb), hb.mono hle⟩
theorem dk_crash (h : Dk B w b d) {hv : Value} {how : List Int} (hh : HowAt w (fun k => k < B) hv how) : Calls Tryz.prog 14 #[.pointer (some ⟨b, 0, none⟩), hv] w fun e w' =>
    e = .returned (.tuple #[]) ∧ Dk B w' b (crashD d how) ∧ Below B w w' := by
  have hle := h.le
  obtain ⟨sb, mb, nn, hD, h1, h2, h3⟩ := h.ex
  refine (crash_any hD (hh.mono (ok' := fun k => ¬ DB b sb mb k) (fun k hk => by rintro (rfl | rfl | rfl) <;> omega))).mono ?_
  rintro e w' ⟨he, ⟨mb', hD', hmb⟩, hk⟩
  exact ⟨he, ⟨sb, mb', 0, hD', h1, h2, by omega⟩, hk.below (fun k e => by rcases e with rfl | rfl <;> assumption) hle⟩
end

/-! ### awake -/
def two : List Int := [1, 14]
theorem two_at (w : World) : HowAt (w.alloc (.cells #[.int .i64 1, .int .i64 14] 3)) (fun k => k = w.heap.size) (.slice (some ⟨w.heap.size, 0, none⟩) 2 2) two := by
  refine ⟨⟨_, _, rfl, fun i hi => ⟨w.heap.size, 0, rfl, rfl, ?_⟩⟩, ?_⟩
  · have h := heap_alloc_last w (.cells #[.int .i64 1, .int .i64 14] 3)
    have hi : i < 2 := hi
    rw [cell_of_row _ w.heap.size (0 + i) _ _ (0, 0) h]
    rcases (show i = 0 ∨ i = 1 by omega) with rfl | rfl <;> rfl
  · intro x hx
    simp only [two, List.mem_cons, List.not_mem_nil, or_false] at hx
    omega
theorem crash_two {B : Nat} {w : World} {b : Nat} {d : DSt} (h : Dk B w b d) : Calls Tryz.prog 14 #[.pointer (some ⟨b, 0, none⟩), .slice (some ⟨w.heap.size, 0, none⟩) 2 2] (w.alloc (.cells #[.int .i64 1, .int .i64 14] 3)) fun e w' =>
    e = .returned (.tuple #[]) ∧ Dk B w' b (crashD d two) ∧ Below B w w' := by
  have hle := h.le
  have hk0 : Kept (fun _ => False) w (w.alloc (.cells #[.int .i64 1, .int .i64 14] 3)) := (Kept.refl _ w).alloc _
  obtain ⟨sb, mb, nn, hD, h1, h2, h3⟩ := h.ex
  refine (crash_any (hD.kept hk0 (fun _ _ f => f)) ((two_at w).mono (ok' := fun k => ¬ DB b sb mb k) (fun k hk => by
    intro hb; have hk : k = w.heap.size := hk; have := hD.inn k hb; omega))).mono ?_
  rintro e w' ⟨he, ⟨mb', hD', hmb⟩, hk⟩
  have hs := hk0.size
  exact ⟨he, ⟨sb, mb', 0, hD', h1, h2, by omega⟩, (hk0.bel hle).trans (hk.below (fun k e => by rcases e with rfl | rfl <;> assumption) (by omega))⟩

def aw0 : DSt := newD 16
def aw1 : DSt := (writeD aw0 3 (filledL 5)).1
def aw2 : DSt := (syncD aw1).1
def aw3 : DSt := (writeD aw2 3 (filledL 11)).1
def aw4 : DSt := (writeD aw3 1 (filledL 11)).1
def aw5 : DSt := crashD aw4 two
theorem aw_w1 : (writeD aw0 3 (filledL 5)).2 = 0 := by decide +kernel
theorem aw_s : (syncD aw1).2 = 0 := by decide +kernel
theorem aw_w2 : (writeD aw2 3 (filledL 11)).2 = 0 := by decide +kernel
theorem aw_w3 : (writeD aw3 1 (filledL 11)).2 = 0 := by decide +kernel
theorem aw_r3 : readD aw5 3 = ((filledL 11).take 4 ++ (filledL 5).drop 4, 0) := by decide +kernel
theorem aw_r1 : readD aw5 1 = (filledL 11, 0) := by decide +kernel
theorem aw_a : aw5.acts = 4 := by decide +kernel
theorem aw_a0 : aw0.acts < 9223372036854775807 ∧ aw1.acts < 9223372036854775807 ∧ aw2.acts < 9223372036854775807 ∧ aw3.acts < 9223372036854775807 := by decide +kernel

theorem aw_eq : ((filledL 11).take 4 ++ (filledL 5).drop 4 == ((⟨(filledL 11).toArray⟩ : ByteArray).extract 0 4 ++ (⟨(filledL 5).toArray⟩ : ByteArray).extract 4 64).toList) = true := by
  rw [ByteArray.toList_eq]; decide +kernel
end Go.Proofs.YtcjfpddmpiggoaaGreat
