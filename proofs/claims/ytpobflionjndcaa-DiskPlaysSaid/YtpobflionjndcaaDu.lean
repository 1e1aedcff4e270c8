/- The document's disk: Crash. -/
import Derived.Test.YtpobflionjndcaaDy
namespace Go.Proofs.Ytpobflionjndcaa
open Go.ChangeShapes Go.WideShapes Go.ChangeAt Go.RowKit
open Go.Maps Go.Sort Go.Shelf Go.Proofs
set_option linter.unusedVariables false
set_option linter.unusedSimpArgs false

def stepX (d : RSt) (f : Int) (i : Nat) : RSt := { d with L := upd d.L i (behindL f (d.Old i) (d.L i)), Old := upd d.Old i (behindL f (d.Old i) (d.L i)), Pend := upd d.Pend i false }
def runX (how : List Int) : RSt → List Nat → Nat → RSt
  | d, [], _ => d
  | d, i :: r, k => runX how (stepX d (fateOf how k) i) r (k + 1)
def crashX (d : RSt) (how : List Int) : RSt := { runX how d (pendR d d.n) 0 with At := 0, Gone := false }
theorem upd_self {α : Type} (f : Nat → α) (i : Nat) : upd f i (f i) = f := by
  funext k; unfold upd; split
  · next h => rw [h]
  · rfl
theorem cut_eq {la lo : List UInt8} {c : Nat} (hc : c ≤ 64) (h1 : la.length = 64) (h2 : lo.length = 64) :
    (⟨la.toArray⟩ : ByteArray).extract 0 c ++ (⟨lo.toArray⟩ : ByteArray).extract c 64 = ⟨(la.take c ++ lo.drop c).toArray⟩ := by
  apply ByteArray.ext
  apply Array.toList_inj.1
  rw [ByteArray.data_append]
  simp only [Array.toList_append, ByteArray.data_extract, Array.toList_extract]
  simp [List.extract_eq_take_drop, List.extract]
  rw [List.take_of_length_le (by simp [h2])]
theorem cutS (V : World) {l : List UInt8} {c : Nat} (hc : c ≤ 64) (h : l.length = 64) : Sem.run Try.prog (Instr.slice 9 (.string ⟨l.toArray⟩) none (some (.int .i64 (c : Int))) none) V = .ok (.string ((⟨l.toArray⟩ : ByteArray).extract 0 c)) V := by
  have := run_slice_string_h (P := Try.prog) V 9 (⟨l.toArray⟩ : ByteArray) Try.underlying9 .i64 (c : Int) (by omega) (by rw [← size_toList]; show (c : Int) ≤ (l.length : Int); omega)
  simpa using this
theorem dropS (V : World) {l : List UInt8} {c : Nat} (hc : c ≤ 64) (h : l.length = 64) : Sem.run Try.prog (Instr.slice 9 (.string ⟨l.toArray⟩) (some (.int .i64 (c : Int))) none none) V = .ok (.string ((⟨l.toArray⟩ : ByteArray).extract c 64)) V := by
  have := run_slice_string_l (P := Try.prog) V 9 (⟨l.toArray⟩ : ByteArray) Try.underlying9 .i64 (c : Int) (by omega) (by rw [← size_toList]; show (c : Int) ≤ (l.length : Int); omega)
  rw [show (⟨l.toArray⟩ : ByteArray).size = 64 by rw [← size_toList]; exact h] at this
  simpa using this
theorem runX_n (how : List Int) : ∀ (l : List Nat) (d : RSt) (k : Nat), (runX how d l k).n = d.n ∧ (runX how d l k).N = d.N
  | [], _, _ => ⟨rfl, rfl⟩
  | i :: r, d, k => by rw [runX]; exact runX_n how r _ _
theorem runX_spec (how : List Int) : ∀ (l : List Nat) (d : RSt) (k : Nat), l.Nodup →
    (∀ j, (runX how d l k).L j = crashF (fun i => some (d.Old i)) how d.L l k j) ∧ (∀ j, (runX how d l k).Old j = if j ∈ l then crashF (fun i => some (d.Old i)) how d.L l k j else d.Old j) ∧ (∀ j, (runX how d l k).Pend j = if j ∈ l then false else d.Pend j)
  | [], d, k, _ => ⟨fun _ => rfl, fun _ => by simp [runX], fun _ => by simp [runX]⟩
  | i :: r, d, k, hn => by
    rw [List.nodup_cons] at hn
    obtain ⟨h1, h2, h3⟩ := runX_spec how r (stepX d (fateOf how k) i) (k + 1) hn.2
    have hc : ∀ j, crashF (fun x => some ((stepX d (fateOf how k) i).Old x)) how (stepX d (fateOf how k) i).L r (k + 1) j = crashF (fun x => some (d.Old x)) how d.L (i :: r) k j := by
      intro j
      rw [crashF]
      refine crashF_congr (j + 1 + r.foldr max 0) _ _ how r _ _ (k + 1) (fun x hx => ⟨?_, ?_⟩) (fun x _ => rfl) j (by omega)
      · have : ∀ (l : List Nat) (x : Nat), x ∈ l → x ≤ l.foldr max 0 := by
          intro l
          induction l with
          | nil => intro x hx; simp at hx
          | cons a t ih =>
            intro x hx
            rcases List.mem_cons.1 hx with rfl | hx
            · simp only [List.foldr_cons]; omega
            · have := ih x hx; simp only [List.foldr_cons]; omega
        have := this r x hx; omega
      · show (some (upd d.Old i _ x)).getD [] = (some (d.Old x)).getD []
        rw [upd_other _ _ _ (fun e => hn.1 (by rw [← e]; exact hx))]
    rw [runX]
    refine ⟨fun j => by rw [h1, hc], fun j => ?_, fun j => ?_⟩
    · rw [h2, hc]
      by_cases e : j = i
      · subst e
        rw [if_neg hn.1, if_pos (List.mem_cons_self ..), ← hc, crashF_out _ _ _ _ _ _ hn.1]
        show upd d.Old j _ j = upd d.L j _ j
        rw [upd_same, upd_same]
      · by_cases hj : j ∈ r
        · rw [if_pos hj, if_pos (List.mem_cons_of_mem _ hj)]
        · rw [if_neg hj, if_neg (by simp [e, hj])]
          show upd d.Old i _ j = _
          rw [upd_other _ _ _ e]
    · rw [h3]
      by_cases e : j = i
      · subst e
        rw [if_neg hn.1, if_pos (List.mem_cons_self ..)]
        show upd d.Pend j _ j = _
        rw [upd_same]
      · by_cases hj : j ∈ r
        · rw [if_pos hj, if_pos (List.mem_cons_of_mem _ hj)]
        · rw [if_neg hj, if_neg (by simp [e, hj])]
          show upd d.Pend i _ j = _
          rw [upd_other _ _ _ e]
theorem pendR_mem (d : RSt) (k i : Nat) : i ∈ pendR d k ↔ i < k ∧ d.Pend i = true := by simp [pendR]
theorem pendR_nodup (d : RSt) (k : Nat) : (pendR d k).Nodup := List.Pairwise.filter _ List.nodup_range
theorem sim_crashX {d : DSt} {r : RSt} (h : Sim d r) (how : List Int) : Sim (crashD d how) (crashX r how) := by
  have h' := sim_crash h how
  obtain ⟨h1, h2, h3⟩ := runX_spec how (pendR r r.n) r 0 (pendR_nodup r r.n)
  obtain ⟨n1, n2⟩ := runX_n how (pendR r r.n) r 0
  refine ⟨n1.trans h.n, fun i hi => (h1 i).trans (h'.L i hi), fun i hi => ?_, fun i hi => ?_, n2.trans h.N, rfl, fun _ => .inl ⟨rfl, rfl⟩⟩
  · have ho := h'.Old i hi
    refine Eq.trans ?_ ho
    show (runX how r (pendR r r.n) 0).Old i = if r.Pend i then _ else r.Old i
    rw [h2 i]
    have hi' : i < d.n := hi
    by_cases hp : r.Pend i = true
    · rw [if_pos ((pendR_mem r r.n i).2 ⟨by rw [h.n]; exact hi', hp⟩), if_pos hp]
    · rw [if_neg (fun hm => hp ((pendR_mem r r.n i).1 hm).2), if_neg hp]
  · show (runX how r (pendR r r.n) 0).Pend i = false
    rw [h3 i]
    have hi' : i < d.n := hi
    by_cases hp : r.Pend i = true
    · rw [if_pos ((pendR_mem r r.n i).2 ⟨by rw [h.n]; exact hi', hp⟩)]
    · rw [if_neg (fun hm => hp ((pendR_mem r r.n i).1 hm).2)]; simpa using hp

end Go.Proofs.Ytpobflionjndcaa
