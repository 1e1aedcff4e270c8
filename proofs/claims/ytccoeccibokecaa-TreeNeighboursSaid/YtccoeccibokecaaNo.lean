/- New. -/
import Derived.Test.YtccoeccibokecaaNn
namespace Go.Proofs.Ytccoeccibokecaa
open Go.ChangeShapes Go.WideShapes Go.ChangeAt Go.RowKit Go.Maps
set_option linter.unusedVariables false
set_option linter.unusedSimpArgs false
theorem make_nodes (w : World) : Sem.run Try.prog (Instr.makeMap 75 none) w = .ok (.map (some w.heap.size)) (w.alloc (.map #[] 0)) := by
  simp [Instr.makeMap, run_underlying Try.underlying75]
theorem make_sess (w : World) : Sem.run Try.prog (Instr.makeMap 76 none) w = .ok (.map (some w.heap.size)) (w.alloc (.map #[] 0)) := by
  simp [Instr.makeMap, run_underlying Try.underlying76]
def noM : TM := ⟨fun _ => none, fun _ => none, 0⟩
def worldB : ByteArray := ⟨#[119, 111, 114, 108, 100]⟩
def newM : TM := layM noM slashS ⟨#[]⟩ [⟨31, worldB⟩] ⟨0, 0, 0, 0, 0, 0, 0⟩
theorem bare_tree (w : World) {B : Nat} (hB : B ≤ w.heap.size) :
    TD (fun k => B ≤ k) (((w.alloc (.map #[] 0)).alloc (.map #[] 0)).alloc (.cells #[.map (some w.heap.size), .map (some (w.heap.size + 1)), .int .i64 0] 78)) ⟨w.heap.size + 1 + 1, w.heap.size, w.heap.size + 1⟩ noM 0 (.map []) (.map []) := by
  have h1 := World.ownsMap_made w Try.prog 9 tok
  have h2 := World.ownsMap_made (w.alloc (.map #[] 0)) Try.prog 3 tok
  have hs : (w.alloc (.map #[] 0)).heap.size = w.heap.size + 1 := by simp
  rw [hs] at h2
  refine ⟨?_, (h1.alloc _).alloc _, fun k => ?_, h2.alloc _, fun i => ?_, by show w.heap.size ≠ w.heap.size + 1; omega, fun k hk => absurd rfl hk, ?_, ?_⟩
  · have := heap_alloc_new ((w.alloc (.map #[] 0)).alloc (.map #[] 0)) (.cells #[.map (some w.heap.size), .map (some (w.heap.size + 1)), .int .i64 0] 78)
    rw [show ((w.alloc (.map #[] 0)).alloc (.map #[] 0)).heap.size = w.heap.size + 1 + 1 by simp] at this
    exact this
  · rw [lookV_empty]; exact True.intro
  · rw [lookV_empty]; rfl
  · rintro k (e | e | e) <;> (simp only at e; subst e; show B ≤ _; omega)
  · intro k hk
    simp at hk
    show B ≤ k
    omega
theorem acl1_in (w : World) : AclIn (w.alloc (.cells #[.int .i64 31, .string worldB] 81)) (.slice (some ⟨w.heap.size, 0, none⟩) 1 1) [⟨31, worldB⟩] := by
  refine ⟨.inr ⟨⟨w.heap.size, 0, none⟩, 1, rfl, fun j u hj => ?_⟩, by decide⟩
  rw [show (⟨w.heap.size, 0, none⟩ : Addr).add j = ⟨w.heap.size, j, none⟩ by cases j <;> simp [Addr.add]]
  rw [cell_of_row _ w.heap.size j _ _ (0, 0) (heap_alloc_new w _), ← Array.getElem?_toList]
  exact hj
def NewPost (B : Nat) (w : World) (e : Ending) (w' : World) : Prop := ∃ q : TB, e = .returned (.pointer (some ⟨q.t, 0, none⟩)) ∧ TAt (fun k => B ≤ k) w' q newM 1 ∧ Kept (fun _ => False) w w' ∧ (∀ k, TBs q k → w.heap.size ≤ k)
set_option maxRecDepth 100000 in
set_option maxHeartbeats 1000000 in
theorem tnew_any (w : World) {B : Nat} (hB : B ≤ w.heap.size) : Calls Try.prog 11 #[] w (NewPost B w) := by
  have hm1 := fun W => make_nodes W
  have hm2 := fun W => make_sess W
  have HD := Lib.hid (bare_tree w hB)
  have hk : Kept (fun _ => False) w (((w.alloc (.map #[] 0)).alloc (.map #[] 0)).alloc (.cells #[.map (some w.heap.size), .map (some (w.heap.size + 1)), .int .i64 0] 78)) := (((Kept.refl _ w).alloc _).alloc _).alloc _
  have HK := Lib.hid hk
  have HS : Hid ((((w.alloc (.map #[] 0)).alloc (.map #[] 0)).alloc (.cells #[.map (some w.heap.size), .map (some (w.heap.size + 1)), .int .i64 0] 78)).heap.size = w.heap.size + 1 + 1 + 1) := Lib.hid (by simp)
  have HG := Lib.hid hB
  clear hk hB
  go_enter Try.func11, Try.ntmps11
  go_wp2_with fail
  have ha := acl1_in (((w.alloc (.map #[] 0)).alloc (.map #[] 0)).alloc (.cells #[.map (some w.heap.size), .map (some (w.heap.size + 1)), .int .i64 0] 78))
  rw [HS.out] at ha
  have hk1 := (Kept.refl (fun _ => False) (((w.alloc (.map #[] 0)).alloc (.map #[] 0)).alloc (.cells #[.map (some w.heap.size), .map (some (w.heap.size + 1)), .int .i64 0] 78))).alloc (.cells #[.int .i64 31, .string worldB] 81)
  refine (lay_any (q := ⟨w.heap.size + 1 + 1, w.heap.size, w.heap.size + 1⟩) (M := noM) (c := 0) ⟨_, _, HD.out.kept0 hk1⟩ slashS ⟨#[]⟩ ha ⟨0, 0, 0, 0, 0, 0, 0⟩ 0 0 (by decide) (by decide)).mono ?_
  rintro e w1 ⟨rfl, hT, hk⟩
  have HT := Lib.hid hT
  have HK1 : Hid (Kept (fun _ => False) w w1) := Lib.hid (by
    have h2 := HK.out.trans hk1
    exact h2.trans' hk (fun k hk e => by rcases e with e | e | e <;> (simp only at e; omega)))
  clear hT hk hk1 ha
  go_wp2_with fail
  go_ret
  refine ⟨⟨w.heap.size + 1 + 1, w.heap.size, w.heap.size + 1⟩, rfl, HT.out, HK1.out, ?_⟩
  rintro k (e | e | e) <;> (simp only at e; omega)
end Go.Proofs.Ytccoeccibokecaa
