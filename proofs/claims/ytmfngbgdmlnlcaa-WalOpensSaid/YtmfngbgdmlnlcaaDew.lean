/- The document's disk: New. -/
import Derived.Test.YtmfngbgdmlnlcaaDrw
import Derived.Deep.RegionLaw
import Derived.Deep.AppendLies
import Derived.Deep.DeepCutAuto
import Derived.Deep.RegionHeld3
namespace Go.Proofs.Ytmfngbgdmlnlcaa
open Go.ChangeShapes Go.WideShapes Go.ChangeAt Go.RowKit
open Go.Maps Go.Proofs
set_option linter.unusedVariables false
set_option linter.unusedSimpArgs false

theorem keptBelow {w w' : World} (h : Below w.heap.size w w') : Kept (fun _ => False) w w' := ⟨h.os, h.tape, h.output, h.size, fun k hk _ => h.block k hk⟩
theorem string_info : (Try.prog.info? 9).map (fun i => (i.zero, i.size, i.bytes)) = some (some (.string ByteArray.empty), 1, 16) := by kernel_rfl
theorem make_64 (w : World) : Sem.run Try.prog (Instr.makeSlice 31 (.int .i64 64) (.int .i64 64)) w = .ok (.slice (some ⟨w.heap.size, 0, none⟩) 64 64) (w.alloc (.cells (secL zeros).toArray 5)) := by
  obtain ⟨i0, hi, hz0, hz1, hz2⟩ := info_parts (show (Try.prog.info? 5).map (fun i => (i.zero, i.size, i.bytes)) = some (some (.int .u8 0), 1, 1) by kernel_rfl)
  have := run_makeSlice (P := Try.prog) w 31 5 i0 (.int .u8 0) Try.underlying31 hi hz0 .i64 .i64 64 64 (by decide) (by decide) (by rw [hz1]; decide) (by rw [hz2]; decide) (by decide)
  rw [hz1] at this
  rw [this, show madeCells (Value.int .u8 0).cells (Int.toNat 64 * 1) = (secL zeros).toArray by kernel_rfl]
  rfl

theorem conv_zeros_w (w : World) : Sem.run Try.prog (convert 31 9 (.slice (some ⟨w.heap.size, 0, none⟩) 64 64)) (w.alloc (.cells (secL zeros).toArray 5)) = .ok (.string ⟨zeros.toArray⟩) (w.alloc (.cells (secL zeros).toArray 5)) :=
  run_convert_bytes_back (P := Try.prog) _ 31 9 5 ⟨w.heap.size, 0, none⟩ 64 zeros Try.underlying31 Try.underlying5 Try.underlying9 (fun j hj => by
    rw [Addr.add_mid, cell_of_row _ w.heap.size (0 + j) _ _ (0, 0) (heap_alloc_last w _), List.getElem?_toArray]
    simp [secL, bcell, hj])
theorem xzeros_any (w : World) : Calls Try.prog 20 #[] w fun e w' => e = .returned (.string ⟨zeros.toArray⟩) ∧ w' = w.alloc (.cells (secL zeros).toArray 5) := by
  have hmk := make_64 w
  have hcv := conv_zeros_w w
  go_enter Try.func20, Try.ntmps20
  go_wp2_with fail
  go_ret
  exact ⟨rfl, rfl⟩
theorem made_bools (n : Nat) : madeCells #[Value.bool false] n = (List.replicate n (Value.bool false)).toArray := by
  unfold madeCells
  apply Array.ext
  · simp
  · intro i h1 h2; simp [Nat.mod_one]
theorem info_bool : (Try.prog.info? 4).map (fun i => (i.zero, i.size, i.bytes)) = some (some (.bool false), 1, 1) := by kernel_rfl
theorem make_pend (w : World) (n : Nat) (hn : n ≤ 32768) : Sem.run Try.prog (Instr.makeSlice 58 (.int .i64 (n : Int)) (.int .i64 (n : Int))) w = .ok (.slice (some ⟨w.heap.size, 0, none⟩) n n) (w.alloc (.cells (List.replicate n (Value.bool false)).toArray 4)) := by
  obtain ⟨i0, hi, hz0, hz1, hz2⟩ := info_parts info_bool
  have := run_makeSlice (P := Try.prog) w 58 4 i0 (.bool false) Try.underlying58 hi hz0 .i64 .i64 n n (by omega) (by omega) (by rw [hz1]; omega) (by rw [hz2]; omega) (by omega)
  rw [hz1, Int.toNat_natCast, Nat.mul_one] at this
  rw [this, show (Value.bool false).cells = #[Value.bool false] from rfl, made_bools]

def zstrX : Value := .string ⟨zeros.toArray⟩
theorem row_same {w w' : World} {base : Nat} {e : TypeId} {size n : Nat} {v : Value} {xs : List Value} (h : w.ownsRow base e size v n xs) (hb : ∀ k, v.ownBlock = some k → w'.heap[k]? = w.heap[k]?) : w'.ownsRow base e size v n xs := by
  refine ⟨h.1, h.2.imp id ?_⟩
  rintro ⟨g, cap, cur, hv, hb2, hh, r⟩
  exact ⟨g, cap, cur, hv, hb2, by rw [hb g (by rw [hv]; rfl)]; exact hh, r⟩
theorem row_two {w : World} {base : Nat} {e : TypeId} {size n : Nat} {v : Value} {xs : List Value} (h : w.ownsRow base e size v n xs) (o1 o2 : Obj) : (((w.alloc o1).alloc o2).drew).ownsRow base e size v n xs :=
  row_same h (fun k hk => by
    have := (World.ownsRow.lt h k hk).2
    show (((w.alloc o1).alloc o2)).heap[k]? = _
    rw [Below.heap_alloc _ _ _ (by simp; omega), Below.heap_alloc _ _ _ this])
theorem heap_two {w : World} {o1 o2 : Obj} {k : Nat} (hk : k < w.heap.size) : (((w.alloc o1).alloc o2).drew).heap[k]? = w.heap[k]? := by
  show (((w.alloc o1).alloc o2)).heap[k]? = _
  rw [Below.heap_alloc _ _ _ (by simp; omega), Below.heap_alloc _ _ _ hk]
/-- n sectors laid so far -/
structure NwAt (w0 : World) (n k : Nat) (vL vO : Value) (a b : Nat) (wr : World) : Prop where
  at_ : wr.heap[w0.heap.size + 1]? = some (.cells [vL, vO, .slice (some ⟨w0.heap.size, 0, none⟩) n n, .int .i64 0, .int .i64 0, .bool false].toArray 60 (0, 0))
  pend : wr.heap[w0.heap.size]? = some (.cells (List.replicate n (Value.bool false)).toArray 4 (0, 0))
  l : wr.ownsRow (w0.heap.size + 2) 9 1 vL a (List.replicate a zstrX)
  o : wr.ownsRow (w0.heap.size + 2) 9 1 vO b (List.replicate b zstrX)
  far : ∀ g, vL.ownBlock = some g → vO.ownBlock = some g → False
  kept : Below w0.heap.size w0 wr
structure NwRel (w0 : World) (n : Nat) (iv : Value) (wr : World) : Prop where
  ex : ∃ k vL vO, iv = .int .i64 (k : Nat) ∧ k ≤ n ∧ NwAt w0 n 0 vL vO k k wr
theorem NwAt.size {w0 wr : World} {n k a b : Nat} {vL vO : Value} (h : NwAt w0 n k vL vO a b wr) : w0.heap.size + 2 ≤ wr.heap.size := by have := lt_of_block h.at_; omega

theorem NwAt.keeps {w0 wr w6 : World} {n k a b : Nat} {vL vO own : Value} {o1 o2 : Obj} (h : NwAt w0 n k vL vO a b wr) (hg : (((wr.alloc o1).alloc o2).drew).grownBy w6 own.ownBlock) (hb : ∀ g, own.ownBlock = some g → w0.heap.size + 2 ≤ g) :
    ∀ g, g < wr.heap.size → own.ownBlock ≠ some g → w6.heap[g]? = wr.heap[g]? := fun g hgl hne => by
  rw [hg.block g (by simp; omega) (fun e => hne e.symm), heap_two hgl]
theorem grown_size {w w6 : World} {o1 o2 : Obj} {r : Option Nat} (hg : (((w.alloc o1).alloc o2).drew).grownBy w6 r) : w.heap.size + 2 ≤ w6.heap.size := by have := hg.size; simpa using this
theorem NwAt.pushL {w0 wr w6 : World} {n k a b : Nat} {vL vO : Value} {o1 o2 : Obj} (h : NwAt w0 n k vL vO a b wr) (hg : (((wr.alloc o1).alloc o2).drew).grownBy w6 vL.ownBlock)
    {gg cap : Nat} (hown : w6.ownsRow (w0.heap.size + 2) 9 1 (.slice (some ⟨gg, 0, none⟩) (a + 1) cap) (a + 1) (List.replicate a zstrX ++ [zstrX])) (hat : vL.ownBlock = some gg ∨ gg = wr.heap.size + 2) :
    NwAt w0 n k (.slice (some ⟨gg, 0, none⟩) (a + 1) cap) vO (a + 1) b (w6.setCell ⟨w0.heap.size + 1, 0, none⟩ (.slice (some ⟨gg, 0, none⟩) (a + 1) cap)) := by
  have hbl : ∀ g, vL.ownBlock = some g → w0.heap.size + 2 ≤ g ∧ g < wr.heap.size := World.ownsRow.lt h.l
  have hbo : ∀ g, vO.ownBlock = some g → w0.heap.size + 2 ≤ g ∧ g < wr.heap.size := World.ownsRow.lt h.o
  have hk := h.keeps hg (fun g e => (hbl g e).1)
  have hsz := h.size
  have hs6 := grown_size hg
  have ha : w6.heap[w0.heap.size + 1]? = _ := (hk _ (by omega) (fun e => by have := (hbl _ e).1; omega)).trans h.at_
  have hks := kept_set w6 (w0.heap.size + 1) 0 (.slice (some ⟨gg, 0, none⟩) (a + 1) cap)
  refine ⟨heap_set _ ha, ?_, ?_, ?_, ?_, ?_⟩
  · rw [hks.block _ (by omega) (fun e => by omega)]
    exact (hk _ (by omega) (fun e => by have := (hbl _ e).1; omega)).trans h.pend
  · rw [List.replicate_succ']
    exact row_same hown (fun g e => hks.block g (World.ownsRow.lt hown g e).2 (fun e' => by have := (World.ownsRow.lt hown g e).1; omega))
  · refine row_same h.o (fun g e => ?_)
    obtain ⟨h1, h2⟩ := hbo g e
    rw [hks.block g (by omega) (fun e' => by omega)]
    exact hk g h2 (fun e' => h.far g e' e)
  · intro g e1 e2
    simp only [Value.ownBlock, Option.some.injEq] at e1
    subst e1
    rcases hat with hat | hat
    · exact h.far _ hat e2
    · have := (hbo _ e2).2; omega
  · refine Below.setCell ?_ (by show _ ≤ w0.heap.size + 1; omega) _
    refine ⟨hg.os.trans h.kept.os, hg.tape.trans h.kept.tape, hg.output.trans h.kept.output, by omega, fun g hg0 => ?_⟩
    rw [hk g (by omega) (fun e => by have := (hbl _ e).1; omega)]
    exact h.kept.block g hg0
theorem NwAt.pushO {w0 wr w6 : World} {n k a b : Nat} {vL vO : Value} {o1 o2 : Obj} (h : NwAt w0 n k vL vO a b wr) (hg : (((wr.alloc o1).alloc o2).drew).grownBy w6 vO.ownBlock)
    {gg cap : Nat} (hown : w6.ownsRow (w0.heap.size + 2) 9 1 (.slice (some ⟨gg, 0, none⟩) (b + 1) cap) (b + 1) (List.replicate b zstrX ++ [zstrX])) (hat : vO.ownBlock = some gg ∨ gg = wr.heap.size + 2) :
    NwAt w0 n k vL (.slice (some ⟨gg, 0, none⟩) (b + 1) cap) a (b + 1) (w6.setCell ⟨w0.heap.size + 1, 1, none⟩ (.slice (some ⟨gg, 0, none⟩) (b + 1) cap)) := by
  have hbl : ∀ g, vL.ownBlock = some g → w0.heap.size + 2 ≤ g ∧ g < wr.heap.size := World.ownsRow.lt h.l
  have hbo : ∀ g, vO.ownBlock = some g → w0.heap.size + 2 ≤ g ∧ g < wr.heap.size := World.ownsRow.lt h.o
  have hk := h.keeps hg (fun g e => (hbo g e).1)
  have hsz := h.size
  have hs6 := grown_size hg
  have ha : w6.heap[w0.heap.size + 1]? = _ := (hk _ (by omega) (fun e => by have := (hbo _ e).1; omega)).trans h.at_
  have hks := kept_set w6 (w0.heap.size + 1) 1 (.slice (some ⟨gg, 0, none⟩) (b + 1) cap)
  refine ⟨heap_set _ ha, ?_, ?_, ?_, ?_, ?_⟩
  · rw [hks.block _ (by omega) (fun e => by omega)]
    exact (hk _ (by omega) (fun e => by have := (hbo _ e).1; omega)).trans h.pend
  · refine row_same h.l (fun g e => ?_)
    obtain ⟨h1, h2⟩ := hbl g e
    rw [hks.block g (by omega) (fun e' => by omega)]
    exact hk g h2 (fun e' => h.far g e e')
  · rw [List.replicate_succ']
    exact row_same hown (fun g e => hks.block g (World.ownsRow.lt hown g e).2 (fun e' => by have := (World.ownsRow.lt hown g e).1; omega))
  · intro g e1 e2
    simp only [Value.ownBlock, Option.some.injEq] at e2
    subst e2
    rcases hat with hat | hat
    · exact h.far _ e1 hat
    · have := (hbl _ e1).2; omega
  · refine Below.setCell ?_ (by show _ ≤ w0.heap.size + 1; omega) _
    refine ⟨hg.os.trans h.kept.os, hg.tape.trans h.kept.tape, hg.output.trans h.kept.output, by omega, fun g hg0 => ?_⟩
    rw [hk g (by omega) (fun e => by have := (hbo _ e).1; omega)]
    exact h.kept.block g hg0
theorem NwAt.cells {w0 wr : World} {n k a b : Nat} {vL vO : Value} (h : NwAt w0 n k vL vO a b wr) : wr.cell? ⟨w0.heap.size + 1, 0, none⟩ = some vL ∧ wr.cell? ⟨w0.heap.size + 1, 1, none⟩ = some vO := by
  constructor
  · rw [cell_of_row wr _ 0 _ _ (0, 0) h.at_]; rfl
  · rw [cell_of_row wr _ 1 _ _ (0, 0) h.at_]; rfl
theorem NwAt.cells6 {w0 wr w6 : World} {n k a b : Nat} {vL vO own : Value} {o1 o2 : Obj} (h : NwAt w0 n k vL vO a b wr) (hg : (((wr.alloc o1).alloc o2).drew).grownBy w6 own.ownBlock) (hb : ∀ g, own.ownBlock = some g → w0.heap.size + 2 ≤ g) :
    w6.cell? ⟨w0.heap.size + 1, 0, none⟩ = some vL ∧ w6.cell? ⟨w0.heap.size + 1, 1, none⟩ = some vO ∧ ∀ i, w6.frozen? ⟨w0.heap.size + 1, i, none⟩ = false := by
  have hsz := h.size
  have ha : w6.heap[w0.heap.size + 1]? = _ := (h.keeps hg hb _ (by omega) (fun e => by have := hb _ e; omega)).trans h.at_
  refine ⟨?_, ?_, fun i => by simp [World.frozen?, ha]⟩
  · rw [cell_of_row w6 _ 0 _ _ (0, 0) ha]; rfl
  · rw [cell_of_row w6 _ 1 _ _ (0, 0) ha]; rfl
theorem news_z (w : World) (o1 : Obj) : ∀ j u, [zstrX][j]? = some u → (((w.alloc o1).alloc (.cells #[zstrX] 9)).drew).cell? ((⟨w.heap.size + 1, 0, none⟩ : Addr).add j) = some u := by
  have h := heap_alloc_new (w.alloc o1) (.cells #[zstrX] 9)
  have e : (w.alloc o1).heap.size = w.heap.size + 1 := by simp
  rw [e] at h
  intro j u hu
  have hj : j = 0 := by
    have := (List.getElem?_eq_some_iff.1 hu).1
    simpa using this
  subst hj
  simp only [List.getElem?_cons_zero, Option.some.injEq] at hu
  subst hu
  rw [Addr.add_mid]
  show ((w.alloc o1).alloc (.cells #[zstrX] 9)).cell? ⟨w.heap.size + 1, 0 + 0, none⟩ = _
  rw [cell_of_row _ _ _ _ _ (0, 0) h]; rfl

theorem rowAt_own {w : World} {base n : Nat} {v : Value} (h : w.ownsRow base 9 1 v n (List.replicate n zstrX)) (hn : 0 < n) : ∃ g cap, v = .slice (some ⟨g, 0, none⟩) n cap ∧ base ≤ g ∧ RowAt w g 9 n (strF fun _ => zeros) := by
  rcases h.2 with ⟨_, h0⟩ | ⟨g, cap, cur, rfl, hb, hh, hnc, hcm, hcs, htake⟩
  · omega
  · refine ⟨g, cap, rfl, hb, ⟨⟨cur.toList.drop n, ?_⟩⟩⟩
    rw [hh]
    congr 2
    have e : (List.range n).map (strF fun _ => zeros) = List.replicate n zstrX := by
      apply List.ext_getElem
      · simp
      · intro i h1 h2; simp [strF, zstrX]
    rw [e, ← htake, Nat.mul_one, List.take_append_drop]
theorem NwAt.toRf {w0 wr : World} {n k : Nat} {vL vO : Value} (h : NwAt w0 n k vL vO n n wr) (hn : n ≤ 32768) (hn16 : 16 ≤ n) :
    ∃ q : RB4, (⟨w0.heap.size + 1, 0, none⟩ : Addr) = ⟨q.x, 0, none⟩ ∧ RfAt wr q ⟨n, fun _ => zeros, fun _ => zeros, fun _ => false, 0, 0, false⟩ ∧ (∀ g, XB q g → w0.heap.size ≤ g) ∧ Kept (fun _ => False) w0 wr := by
  obtain ⟨gl, cl, rfl, hbl, hrl⟩ := rowAt_own h.l (by omega)
  obtain ⟨go, co, rfl, hbo, hro⟩ := rowAt_own h.o (by omega)
  have hfar : gl ≠ go := fun e => h.far gl rfl (by rw [e]; rfl)
  refine ⟨⟨w0.heap.size + 1, gl, go, w0.heap.size, cl, co⟩, rfl, ⟨h.at_, hrl, hro, ⟨⟨[], ?_⟩⟩, ?_, ?_, ?_, hfar, ?_, ?_, hn, fun _ _ => rfl, fun _ _ => rfl, by show (0 : Nat) ≤ 9223372036854775807; decide⟩, ?_, keptBelow h.kept⟩
  · show wr.heap[w0.heap.size]? = _
    rw [h.pend]
    congr 2
    rw [List.append_nil]
    congr 1
    apply List.ext_getElem
    · simp
    · intro i h1 h2; simp [boolF]
  · show w0.heap.size + 1 ≠ gl; omega
  · show w0.heap.size + 1 ≠ go; omega
  · show w0.heap.size + 1 ≠ w0.heap.size; omega
  · show gl ≠ w0.heap.size; omega
  · show go ≠ w0.heap.size; omega
  · rintro g (e | e | e | e)
    · have e : g = w0.heap.size + 1 := e; omega
    · have e : g = gl := e; omega
    · have e : g = go := e; omega
    · have e : g = w0.heap.size := e; omega

def XNew (w : World) (k : Int) (e : Ending) (w' : World) : Prop :=
    (16 ≤ k ∧ k ≤ 32768 ∧ ∃ q, e = .returned (.tuple #[.pointer (some ⟨q.x, 0, none⟩), .int .i64 0]) ∧ RfAt w' q ⟨k.toNat, fun _ => zeros, fun _ => zeros, fun _ => false, 0, 0, false⟩ ∧ (∀ g, XB q g → w.heap.size ≤ g) ∧ Kept (fun _ => False) w w') ∨
    ((k < 16 ∨ 32768 < k) ∧ e = .returned (.tuple #[.pointer none, .int .i64 1]) ∧ w = w')
set_option maxRecDepth 100000 in
set_option maxHeartbeats 2000000 in
theorem xnew_any (w : World) (k : Int) : Calls Try.prog 6 #[.int .i64 k] w (XNew w k) := by
  by_cases hlo : k < 16
  · go_enter Try.func6, Try.ntmps6
    go_wp2
    go_ret2
    exact .inr ⟨.inl hlo, rfl, rfl⟩
  · by_cases hhi : 32768 < k
    · go_enter Try.func6, Try.ntmps6
      go_wp2
      go_ret2
      exact .inr ⟨.inr hhi, rfl, rfl⟩
    · obtain ⟨n, rfl⟩ := Int.eq_ofNat_of_zero_le (show 0 ≤ k by omega)
      have hn : n ≤ 32768 := by omega
      have hn16 : 16 ≤ n := by omega
      clear hlo hhi
      have hmk := make_pend w n hn
      go_enter Try.func6, Try.ntmps6
      go_wp2_with fail
      clear hmk
      go_loopw [5] (fun iv wr => NwRel w n iv wr) (fun iv _ => n - (Go.RowKit.intOf iv).toNat)
      case atStart =>
        refine ⟨0, _, _, rfl, Nat.zero_le _, ?_, ?_, World.ownsRow_nil _ _ _ 1, World.ownsRow_nil _ _ _ 1, fun g e => by simp [Value.ownBlock] at e, (((Below.refl _ _).alloc (Nat.le_refl _) _).alloc (by simp) _)⟩
        · have := heap_alloc_new (w.alloc (.cells (List.replicate n (Value.bool false)).toArray 4)) (.cells #[.slice none 0 0, .slice none 0 0, .slice (some ⟨w.heap.size, 0, none⟩) n n, .int .i64 0, .int .i64 0, .bool false] 60)
          simpa using this
        · rw [Below.heap_alloc _ _ _ (by simp)]
          exact heap_alloc_new w _
      case round =>
        obtain ⟨i, vL, vO, rfl, hi, hat⟩ := hrel.ex
        clear hrel
        have HAT := Lib.hid hat
        have hsz := hat.size
        clear hat
        by_cases hlt : i < n
        · have hc0 := HAT.out.cells.1
          have hc0z : (wr.alloc (.cells (secL zeros).toArray 5)).cell? ⟨w.heap.size + 1, 0, none⟩ = some vL := by rw [World.cell?_alloc_some _ _ _ (by rw [hc0]; rfl)]; exact hc0
          have hc0y : ((wr.alloc (.cells (secL zeros).toArray 5)).alloc (.cells #[.string ⟨zeros.toArray⟩] 9)).cell? ⟨w.heap.size + 1, 0, none⟩ = some vL := by rw [World.cell?_alloc_some _ _ _ (by rw [hc0z]; rfl)]; exact hc0z
          obtain ⟨i0, hi0, hz0, hz1, hz2⟩ := info_parts string_info
          have HIN := Lib.hid (And.intro hi0 (And.intro hz0 (And.intro hz1 hz2)))
          clear hi0 hz0 hz1 hz2
          have HLT := Lib.hid hlt
          clear hlt
          go_wp2_with fail
          go_cut [] (fun wx => ∃ vL', NwAt w n 0 vL' vO (i + 1) i wx)
          case first =>
            go_region_law (first
              | (refine step_append_lies _ (by rfl) _ _ _ (by rfl) (w.heap.size + 2) 9 i0 _ 1 16 Try.underlying22 HIN.out.1 HIN.out.2.1 HIN.out.2.2.1 HIN.out.2.2.2 rfl (by omega) vL i (List.replicate i zstrX) (by rfl) (row_two HAT.out.l _ _) ⟨wr.heap.size + 1, 0, none⟩ 1 1 [zstrX] (by rfl) (by rfl) (news_z wr _) (by simp [Value.oneCell', zstrX]) (by omega) (by unfold maxLen; omega) (by omega) (by simp; omega) (wr.heap.size + 2) (by simp) ?_; intro gg cap6 w6 hown6 hgrow hat6 hlt6; have HPU := Lib.hid (HAT.out.pushL hgrow hown6 hat6); obtain ⟨hc0', _, hfz⟩ := HAT.out.cells6 hgrow (fun g e => (World.ownsRow.lt HAT.out.l g e).1); have hfz0 := hfz 0; clear hfz hown6 hgrow hat6 hlt6)
              | (go_simp; go_at_call 20; refine (xzeros_any _).mono ?_; rintro e w' ⟨rfl, rfl⟩))
            all_goals go_wp2_with fail
            all_goals go_meet
            all_goals exact ⟨_, HPU.out⟩
          case rest =>
          obtain ⟨vL2, hat2⟩ := hcut
          have HAT2 := Lib.hid hat2
          have hsz2 := hat2.size
          have hc1 := hat2.cells.2
          have hc1z : (wc.alloc (.cells (secL zeros).toArray 5)).cell? ⟨w.heap.size + 1, 1, none⟩ = some vO := by rw [World.cell?_alloc_some _ _ _ (by rw [hc1]; rfl)]; exact hc1
          have hc1y : ((wc.alloc (.cells (secL zeros).toArray 5)).alloc (.cells #[.string ⟨zeros.toArray⟩] 9)).cell? ⟨w.heap.size + 1, 1, none⟩ = some vO := by rw [World.cell?_alloc_some _ _ _ (by rw [hc1z]; rfl)]; exact hc1z
          clear hat2 hc0 hc0z hc0y HAT hsz
          go_wp2_with fail
          go_region_law (first
            | (refine step_append_lies _ (by rfl) _ _ _ (by rfl) (w.heap.size + 2) 9 i0 _ 1 16 Try.underlying22 HIN.out.1 HIN.out.2.1 HIN.out.2.2.1 HIN.out.2.2.2 rfl (by omega) vO i (List.replicate i zstrX) (by rfl) (row_two HAT2.out.o _ _) ⟨wc.heap.size + 1, 0, none⟩ 1 1 [zstrX] (by rfl) (by rfl) (news_z wc _) (by simp [Value.oneCell', zstrX]) (by omega) (by unfold maxLen; omega) (by omega) (by simp; omega) (wc.heap.size + 2) (by simp) ?_; intro gg cap6 w6 hown6 hgrow hat6 hlt6; have HPU := Lib.hid (HAT2.out.pushO hgrow hown6 hat6); obtain ⟨_, hc0', hfz⟩ := HAT2.out.cells6 hgrow (fun g e => (World.ownsRow.lt HAT2.out.o g e).1); have hfz0 := hfz 1; clear hfz hown6 hgrow hat6 hlt6)
            | (go_simp; go_at_call 20; refine (xzeros_any _).mono ?_; rintro e w' ⟨rfl, rfl⟩))
          all_goals go_wp2_with fail
          all_goals
            go_roundw
            case rel =>
              have hlt := HLT.out
              first
                | exact ⟨i + 1, _, _, by go_num, by omega, HPU.out⟩
                | ((repeat apply Exists.intro); exact ⟨⟨i + 1, _, _, by go_num, by omega, HPU.out⟩, rfl⟩)
            case measure => have hlt := HLT.out; simp [Go.RowKit.intOf]; omega
        · obtain rfl : i = n := by omega
          have HP := Lib.hid (HAT.out.toRf hn hn16)
          clear hlt hi HAT
          go_wp2_with fail
          go_ret2
          obtain ⟨q, e1, h1, h2, h3⟩ := HP.out
          refine .inl ⟨by omega, by omega, q, ?_, ?_, h2, h3⟩
          · rw [e1]; rfl
          · rw [Int.toNat_natCast]; exact h1
end Go.Proofs.Ytmfngbgdmlnlcaa
