/- The document's own tree: drop. -/
import Derived.Test.YtenbdoceaabecaaGreatP21
namespace Go.Proofs.YtenbdoceaabecaaGreat
open Go.ChangeShapes Go.WideShapes Go.ChangeAt Go.RowKit Go.Maps
set_option linter.unusedVariables false
set_option linter.unusedSimpArgs false
theorem ss_info : (Tryz.prog.info? 113).map (fun i => (i.zero, i.size, i.bytes)) = some (some (.agg #[.int .i64 0, .int .i64 0, .string ByteArray.empty]), 3, 32) := by kernel_rfl
theorem ss_row : RowTy Tryz.prog 93 113 3 32 := RowTy.of Tryz.underlying93 ss_info rfl (by decide)
theorem ssL_one (s : RS) : ∀ u ∈ ssL s, u.oneCell' = true := by
  intro u hu
  simp only [ssL, List.mem_cons, List.not_mem_nil, or_false] at hu
  rcases hu with rfl | rfl | rfl <;> rfl
theorem ssC_app (l m : List RS) : ssC (l ++ m) = ssC l ++ ssC m := List.flatMap_append
theorem ssC_one1 (p : RS) : ssC [p] = ssL p := by simp [ssC]
/-- a session's cells -/
theorem RD.sess {w : World} {b : Nat} {R : RT} {L : List (RN × Value)} {nv sv : Value} (h : RD w b R L nv sv) : ∃ a cap, sv = .slice a R.S.length cap ∧ R.S.length ≤ cap ∧ cap ≤ maxLen ∧ ∀ i, i < R.S.length → ∃ g p, a = some ⟨g, 0, none⟩ ∧ g < w.heap.size ∧ R.S[i]? = some p ∧ (∀ j u, (ssL p)[j]? = some u → w.cell? ⟨g, i * 3 + j, none⟩ = some u) := by
  obtain ⟨a, cap, hv, hc⟩ := own_cell h.s
  refine ⟨a, cap, hv, ?_, ?_, fun i hi => ?_⟩
  · rcases h.s.2 with ⟨h1, h2⟩ | ⟨g, cap', cur, h1, _, _, hle, _⟩
    · rw [h2]; exact Nat.zero_le _
    · rw [hv] at h1
      injection h1 with _ _ h1
      subst h1; exact hle
  · rcases h.s.2 with ⟨h1, h2⟩ | ⟨g, cap', cur, h1, _, _, hle, hm, _⟩
    · rw [hv] at h1
      injection h1 with _ _ h1
      rw [h1]; exact Nat.zero_le _
    · rw [hv] at h1
      injection h1 with _ _ h1
      subst h1; exact hm
  · obtain ⟨g, ha, _, hg, _, _⟩ := hc (i * 3 + 0) _ (flat_at ssL_len R.S i hi 0 _ rfl)
    refine ⟨g, R.S[i], ha, hg, List.getElem?_eq_getElem hi, fun j u hu => ?_⟩
    obtain ⟨g', ha', _, _, h', _⟩ := hc (i * 3 + j) _ (flat_at ssL_len R.S i hi j u hu)
    rw [ha] at ha'
    injection ha' with ha'
    injection ha' with e1
    subst e1; exact h'
structure SessAt (w : World) (g k : Nat) (p : RS) : Prop where
  x0 : w.cell? ⟨g, k * 3, none⟩ = some (.int .i64 p.id)
  x1 : w.cell? ⟨g, k * 3 + 1, none⟩ = some (.int .i64 p.timeout)
  x2 : w.cell? ⟨g, k * 3 + 2, none⟩ = some (.string p.secret)
theorem sessAt {w w' : World} {g k : Nat} {p : RS} (hc : ∀ j u, (ssL p)[j]? = some u → w.cell? ⟨g, k * 3 + j, none⟩ = some u) (hg : g < w.heap.size) (hk : Kept (fun _ => False) w w') : SessAt w' g k p := by
  have e : ∀ j u, (ssL p)[j]? = some u → w'.cell? ⟨g, k * 3 + j, none⟩ = some u := fun j u hu => (World.cell?_of_block (w := w) (hk.block g hg (fun f => f))).trans (hc j u hu)
  exact ⟨e 0 _ rfl, e 1 _ rfl, e 2 _ rfl⟩
/-- the tree's own cell is written -/
theorem RD.setSess {w : World} {b : Nat} {R : RT} {L : List (RN × Value)} {nv sv sv' : Value} {S' : List RS} {B : Nat} (h : RD w b R L nv sv) (hl : w.ownsRow B 113 3 sv' S'.length (ssC S')) :
    RD (w.setCell ⟨b, 1, none⟩ sv') b { R with S := S' } L nv sv' ∧ (B ≤ w.heap.size → (∀ k, sv'.ownBlock = some k → B ≤ k) → ∀ k, RBs (w.setCell ⟨b, 1, none⟩ sv') b k → RBs w b k ∨ B ≤ k) := by
  have hk := kept_set w b 1 sv'
  have hne : ∀ k cur' e, w.heap[k]? = some (.cells cur' e (0, 0)) → e ≠ 95 → ¬ k = b := fun k cur' e hc hne' e' => by
    subst e'
    rw [h.at_] at hc
    injection hc with hc
    injection hc with _ hc
    exact hne' hc.symm
  have hat : (w.setCell ⟨b, 1, none⟩ sv').heap[b]? = some (.cells #[nv, sv', .int .i64 R.z] 95 (0, 0)) := heap_set sv' (c := [nv, sv, .int .i64 R.z]) h.at_
  have hD : RD (w.setCell ⟨b, 1, none⟩ sv') b { R with S := S' } L nv sv' := by
    refine ⟨hat, ?_, h.eq, fun p hp => ?_, ?_⟩
    · refine ownKept h.n hk (fun k e => ?_)
      obtain ⟨_, _, cur', hc'⟩ := own_lo h.n e
      exact hne k _ _ hc' (by decide)
    · refine ⟨ownKept (h.acl p hp).own hk (fun k e => ?_), (h.acl p hp).room⟩
      obtain ⟨_, _, cur', hc'⟩ := own_lo (h.acl p hp).own e
      exact hne k _ _ hc' (by decide)
    · refine ownKept (row0 hl) hk (fun k e => ?_)
      obtain ⟨_, _, cur', hc'⟩ := own_lo hl e
      exact hne k _ _ hc' (by decide)
  refine ⟨hD, fun hB hb k hk' => ?_⟩
  rcases (hD.bs k).1 hk' with e | e | e
  · exact .inl ((h.bs k).2 (.inl e))
  · exact .inl ((h.bs k).2 (.inr (.inl e)))
  · exact .inr (hb k e)
def dropR (R : RT) (id : Int) : RT := { R with S := R.S.filter fun s => decide (s.id ≠ id) }
structure DropRel (w : World) (S : List RS) (id : Int) (lv iv : Value) (wr : World) : Prop where
  ex : ∃ k : Nat, k ≤ S.length ∧ iv = .int .i64 k ∧ wr.ownsRow w.heap.size 113 3 lv ((S.take k).filter fun s => decide (s.id ≠ id)).length (ssC ((S.take k).filter fun s => decide (s.id ≠ id))) ∧ Kept (fun _ => False) w wr
set_option maxRecDepth 100000 in
set_option maxHeartbeats 1000000 in
theorem rdrop_any {w : World} {b : Nat} {R : RT} (h : RAt w b R) (id : Int) (hlen : R.S.length ≤ 1000000000) :
    Calls Tryz.prog 61 #[.pointer (some ⟨b, 0, none⟩), .int .i64 id] w (RPost w b (dropR R id)) := by
  obtain ⟨L, nv, sv, hD⟩ := h
  obtain ⟨a, cap, rfl, hcap, hcm, hnode⟩ := hD.sess
  have HD := Lib.hid hD
  have HN := Lib.hid hnode
  have HR := Lib.hid ss_row
  unfold maxLen at hcm
  obtain ⟨S, hS⟩ : ∃ S, R.S = S := ⟨_, rfl⟩
  rw [hS] at HN hcap hlen
  have HS := Lib.hid hS
  have hlS : (Value.slice a R.S.length cap) = .slice a S.length cap := by rw [hS]
  rw [hlS] at HD
  clear hD hnode hS hlS
  go_enter Tryz.func61, Tryz.ntmps61
  go_wp2_with fail
  go_loopw [4, 5] (fun lv iv wr => DropRel w S id lv iv wr) (fun _ iv _ => S.length - (intOf iv).toNat)
  case atStart => exact ⟨0, Nat.zero_le _, rfl, World.ownsRow_nil _ _ _ _, Kept.refl _ _⟩
  case round =>
    obtain ⟨k, hk, rfl, hown, hkw⟩ := hrel.ex
    have HOWN := Lib.hid hown
    have HKW := Lib.hid hkw
    have HSZ : Hid (w.heap.size ≤ wr.heap.size) := Lib.hid hkw.size
    obtain ⟨c0, c1, c2, cf⟩ := (HD.out.kept0 hkw).cells
    have hcl : ((S.take k).filter fun s => decide (s.id ≠ id)).length ≤ S.length := Nat.le_trans (List.length_filter_le _ _) (by rw [List.length_take]; omega)
    obtain ⟨acc, hacc⟩ : ∃ acc, ((S.take k).filter fun s => decide (s.id ≠ id)) = acc := ⟨_, rfl⟩
    rw [hacc] at HOWN hcl
    have HACC := Lib.hid hacc
    clear hown hkw hrel hacc
    by_cases hlt : k < S.length
    · obtain ⟨g, q, rfl, hg, hq, hc⟩ := HN.out k hlt
      obtain ⟨x0, x1, x2⟩ := sessAt hc hg HKW.out
      have HQ := Lib.hid hq
      clear hc hq
      obtain ⟨qi, hqi⟩ : ∃ i, q.id = i := ⟨_, rfl⟩
      rw [hqi] at x0
      have HQI := Lib.hid hqi
      clear hqi
      by_cases he : qi = id
      · have h1 : (qi == id) = true := by simpa using he
        have h2 : (!qi == id) = false := by rw [h1]; rfl
        have HK : Hid (((S.take (k + 1)).filter fun s => decide (s.id ≠ id)) = acc) := Lib.hid (by rw [take_at HQ.out, List.filter_append, HACC.out]; simp [HQI.out, he])
        clear he
        go_wp2_with fail
        go_roundw
        case rel => exact ⟨k + 1, by omega, by go_num, by rw [HK.out]; exact HOWN.out, HKW.out⟩
        case measure => simp [intOf]; omega
      · have h1 : (qi == id) = false := by simpa using he
        have h2 : (!qi == id) = true := by rw [h1]; rfl
        have HK : Hid (((S.take (k + 1)).filter fun s => decide (s.id ≠ id)) = acc ++ [q]) := Lib.hid (by rw [take_at HQ.out, List.filter_append, HACC.out]; simp [HQI.out, he])
        have HX : Hid ([.int .i64 qi, .int .i64 q.timeout, .string q.secret] = ssL q) := Lib.hid (by rw [← HQI.out]; rfl)
        clear he
        go_wp2_with (at_builtin; refine wpList_row1 HR.out (by rfl) _ _ (by rfl) (by rfl) HOWN.out [.int .i64 qi, .int .i64 q.timeout, .string q.secret] (by rfl) (by rfl) (by rw [HX.out]; exact ssL_one q) (by omega) (by unfold maxLen; omega) HSZ.out ?_; intro v1 w1 hown1 hg1; have HK1 := Lib.hid (kept_own1 HKW.out HOWN.out (Nat.le_refl _) hg1); have HOWN1 := Lib.hid hown1; clear hown1 hg1)
        go_roundw
        case rel =>
          refine ⟨k + 1, by omega, by go_num, ?_, HK1.out⟩
          rw [HK.out, List.length_append, ssC_app, ssC_one1, ← HX.out]; exact HOWN1.out
        case measure => simp [intOf]; omega
    · have HA : Hid (acc = R.S.filter fun s => decide (s.id ≠ id)) := Lib.hid (by rw [← HACC.out, List.take_of_length_le (by omega), HS.out])
      obtain ⟨aa, ac, rfl⟩ := own_shape HOWN.out
      go_wp2_with fail
      go_end0
      have hs := (HD.out.kept0 HKW.out).setSess HOWN.out
      refine ⟨rfl, ?_, lay_stepR HD.out HKW.out (Nat.le_refl _) (hs.2 HKW.out.size (fun k e => (own_lo HOWN.out e).1))⟩
      have h1 := hs.1
      rw [HA.out] at h1
      exact ⟨_, _, _, by rw [HA.out]; exact h1⟩
end Go.Proofs.YtenbdoceaabecaaGreat
