/- The document's own tree: open. -/
import Derived.Test.YtenbdoceaabecaaGreatP25
namespace Go.Proofs.YtenbdoceaabecaaGreat
open Go.ChangeShapes Go.WideShapes Go.ChangeAt Go.RowKit Go.Maps
set_option linter.unusedVariables false
set_option linter.unusedSimpArgs false
def ltQ (id : Int) (s : RS) : Bool := decide (s.id < id)
def openR (R : RT) (s : RS) : RT := { R with S := (dropR R s.id).S.takeWhile (ltQ s.id) ++ [s] ++ (dropR R s.id).S.dropWhile (ltQ s.id) }
theorem while_at {α : Type} {p : α → Bool} : ∀ {l : List α} {k : Nat}, k ≤ l.length → (∀ j x, j < k → l[j]? = some x → p x = true) → (∀ x, l[k]? = some x → p x = false) → l.takeWhile p = l.take k ∧ l.dropWhile p = l.drop k
  | [], k, h, _, _ => by obtain rfl : k = 0 := by simpa using h
                         exact ⟨rfl, rfl⟩
  | x :: l, 0, _, _, h2 => by
    have := h2 x rfl
    simp [this]
  | x :: l, k + 1, h, h1, h2 => by
    have hx := h1 0 x (by omega) rfl
    have ih := while_at (l := l) (k := k) (by simpa using h) (fun j y hj hy => h1 (j + 1) y (by omega) (by simpa using hy)) (fun y hy => h2 y (by simpa using hy))
    simp [hx, ih.1, ih.2]
theorem row_cells {w : World} {b : Nat} {R : RT} {L : List (RN × Value)} {nv : Value} {g n cap : Nat} (h : RD w b R L nv (.slice (some ⟨g, 0, none⟩) n cap)) : ∀ (w' : World), Kept (fun _ => False) w w' → ∀ j u, (ssC R.S)[j]? = some u → w'.cell? ⟨g, j, none⟩ = some u := by
  intro w' hk j u hj
  obtain ⟨a, cap', hv, hc⟩ := own_cell h.s
  injection hv with hv _ _
  obtain ⟨g', ha, _, hg, h', _⟩ := hc j u hj
  rw [← hv] at ha
  injection ha with ha
  injection ha with ha
  subst ha
  exact (World.cell?_of_block (w := w) (hk.block g hg (fun f => f))).trans h'
theorem pre_cells {S : List RS} {k j : Nat} {u : Value} (h : (ssC (S.take k))[j]? = some u) : (ssC S)[j]? = some u := by
  have e : ssC S = ssC (S.take k) ++ ssC (S.drop k) := by rw [← ssC_app, List.take_append_drop]
  rw [e, List.getElem?_append_left (List.getElem?_eq_some_iff.1 h).1]; exact h
theorem post_cells {S : List RS} {k j : Nat} {u : Value} (hk : k ≤ S.length) (h : (ssC (S.drop k))[j]? = some u) : (ssC S)[k * 3 + j]? = some u := by
  have e : ssC S = ssC (S.take k) ++ ssC (S.drop k) := by rw [← ssC_app, List.take_append_drop]
  have hl : (ssC (S.take k)).length = k * 3 := by rw [ssC, flat_len ssL_len, List.length_take]; omega
  rw [e, List.getElem?_append_right (by omega), hl, show k * 3 + j - k * 3 = j by omega]; exact h
theorem sbox {w w' : World} {bb : Nat} {s : RS} (h : w.heap[bb]? = some (.cells #[.int .i64 s.id, .int .i64 s.timeout, .string s.secret] 113 (0, 0))) (hk : Kept (fun _ => False) w w') : w'.cell? ⟨bb, 0, none⟩ = some (.int .i64 s.id) ∧ w'.cell? ⟨bb, 1, none⟩ = some (.int .i64 s.timeout) ∧ w'.cell? ⟨bb, 2, none⟩ = some (.string s.secret) := by
  have e : ∀ i, w'.cell? ⟨bb, i, none⟩ = ([.int .i64 s.id, .int .i64 s.timeout, .string s.secret] : List Value)[i]? := fun i => by
    rw [cell_of_row w' bb i _ _ (0, 0) ((hk.block _ (lt_of_block h) (fun f => f)).trans h), ← Array.getElem?_toList]
  exact ⟨e 0, e 1, e 2⟩
theorem RD.sess0 {w : World} {b : Nat} {R : RT} {L : List (RN × Value)} {nv : Value} {a : Option Addr} {n cap : Nat} (h : RD w b R L nv (.slice a n cap)) : (a = none ∧ R.S.length = 0 ∧ cap = 0) ∨ ∃ g, a = some ⟨g, 0, none⟩ := by
  rcases h.s.2 with ⟨h1, h2⟩ | ⟨g, cap', cur, h1, _⟩
  · injection h1 with h1 _ h3
    exact .inl ⟨h1, h2, h3⟩
  · injection h1 with h1
    exact .inr ⟨g, h1⟩
theorem open_eq {R : RT} {s : RS} {S : List RS} {k : Nat} (hS : (dropR R s.id).S = S) (hk : k ≤ S.length) (h1 : ∀ j x, j < k → S[j]? = some x → ltQ s.id x = true) (h2 : ∀ x, S[k]? = some x → ltQ s.id x = false) : openR R s = { (dropR R s.id) with S := S.take k ++ [s] ++ S.drop k } := by
  unfold openR
  obtain ⟨e1, e2⟩ := while_at hk h1 h2
  rw [hS, e1, e2]
  rfl
theorem open_row {w : World} {B k : Nat} {S : List RS} {s : RS} {v : Value} (hk : k ≤ S.length) (h : w.ownsRow B 113 3 v (k + 1 + (S.length - k)) (ssC (S.take k) ++ ssL s ++ ssC (S.drop k))) : w.ownsRow B 113 3 v (S.take k ++ [s] ++ S.drop k).length (ssC (S.take k ++ [s] ++ S.drop k)) := by
  rw [ssC_app, ssC_app, ssC_one1, show (S.take k ++ [s] ++ S.drop k).length = k + 1 + (S.length - k) by simp; omega]; exact h
set_option maxRecDepth 100000 in
set_option maxHeartbeats 2000000 in
theorem ropen_any {w : World} {b : Nat} {R : RT} (h : RAt w b R) (s : RS) (hlen : R.S.length ≤ 100000000) (hid : -9223372036854775808 ≤ s.id ∧ s.id ≤ 9223372036854775807) :
    Calls Tryz.prog 59 #[.pointer (some ⟨b, 0, none⟩), .agg #[.int .i64 s.id, .int .i64 s.timeout, .string s.secret]] w (RPost w b (openR R s)) := by
  have hk0 : Kept (fun _ => False) w (w.alloc (.cells #[.int .i64 s.id, .int .i64 s.timeout, .string s.secret] 113)) := (Kept.refl _ w).alloc _
  have hb : b < w.heap.size := h.lt (.inl rfl)
  have HST := Lib.hid (RStep.of0 hk0 hb)
  have HDR := Lib.hid (rdrop_any (h.kept0 hk0) s.id (by omega))
  have HBX : Hid ((w.alloc (.cells #[.int .i64 s.id, .int .i64 s.timeout, .string s.secret] 113)).heap[w.heap.size]? = some (.cells #[.int .i64 s.id, .int .i64 s.timeout, .string s.secret] 113 (0, 0))) := Lib.hid (heap_alloc_new w _)
  have HNB : Hid (¬ RBs (w.alloc (.cells #[.int .i64 s.id, .int .i64 s.timeout, .string s.secret] 113)) b w.heap.size) := Lib.hid (fun hh => by
    have := (rbs_kept hk0 hb (fun f => f) w.heap.size).1 hh
    have := h.lt this
    omega)
  have HR := Lib.hid ss_row
  have hlen1 : (dropR R s.id).S.length ≤ 100000000 := Nat.le_trans (List.length_filter_le _ _) hlen
  obtain ⟨S, hS⟩ : ∃ S, (dropR R s.id).S = S := ⟨_, rfl⟩
  rw [hS] at hlen1
  have HS := Lib.hid hS
  clear hk0 h hlen hS
  go_enter Tryz.func59, Tryz.ntmps59
  go_wp2_with fail
  refine HDR.out.mono ?_
  rintro e w1 ⟨rfl, hT, hst⟩
  have HST1 := Lib.hid (HST.out.trans hst)
  have HBX1 := Lib.hid ((hst.kept.block _ (lt_of_block HBX.out) HNB.out).trans HBX.out)
  obtain ⟨L, nv, sv, hD⟩ := hT
  obtain ⟨a, cap, rfl, hcap, hcm, hnode⟩ := hD.sess
  rw [HS.out] at hcap hnode
  have hlS : (Value.slice a (dropR R s.id).S.length cap) = .slice a S.length cap := by rw [HS.out]
  rw [hlS] at hD
  have HD := Lib.hid hD
  have HN := Lib.hid hnode
  unfold maxLen at hcm
  have hcl : ∀ i, w1.cell? ⟨w.heap.size, i, none⟩ = ([.int .i64 s.id, .int .i64 s.timeout, .string s.secret] : List Value)[i]? := fun i => by
    rw [cell_of_row w1 w.heap.size i _ _ (0, 0) HBX1.out, ← Array.getElem?_toList]
  have b0 := hcl 0
  have b1 := hcl 1
  have b2 := hcl 2
  simp at b0 b1 b2
  obtain ⟨c0, c1, c2, cf⟩ := hD.cells
  clear hD hnode hlS hcl hst HDR HST HBX HNB
  go_wp2_with fail
  go_loopw [4] (fun iv wr => ∃ k n : Nat, k ≤ S.length ∧ iv = .int .i64 k ∧ wr = w1.drewN n ∧ ∀ j x, j < k → S[j]? = some x → ltQ s.id x = true) (fun iv _ => S.length - (intOf iv).toNat)
  case atStart => exact ⟨0, 0, Nat.zero_le _, rfl, rfl, fun j x hj => absurd hj (by omega)⟩
  case round =>
    obtain ⟨k, n, hk, rfl, rfl, hno⟩ := hrel
    have HNO := Lib.hid hno
    clear hno
    by_cases hlt : k < S.length
    · obtain ⟨g, q, rfl, hg, hq, hc⟩ := HN.out k hlt
      obtain ⟨x0, x1, x2⟩ := sessAt hc hg (Kept.refl _ w1)
      have HQ := Lib.hid hq
      have i1 : (0 : Int) ≤ (k : Int) := by omega
      have i2 : (k : Int) < (S.length : Int) := by omega
      clear hc hq
      by_cases he : q.id < s.id
      · have HK : Hid (ltQ s.id q = true) := Lib.hid (by unfold ltQ; simpa using he)
        go_wp2_with fail
        go_quiet (fail)
        go_wp2_with fail
        go_roundw
        case rel =>
          refine ⟨k + 1, n + nq, by omega, by go_num, rfl, fun j x hj hx => ?_⟩
          by_cases e : j = k
          · subst e; rw [HQ.out] at hx; injection hx with hx; subst hx; exact HK.out
          · exact HNO.out j x (by omega) hx
        case measure => simp [intOf]; omega
      · have HK : Hid (ltQ s.id q = false) := Lib.hid (by unfold ltQ; simpa using he)
        go_wp2_with fail
        go_quiet (fail)
        have HCC : Hid (∀ (w' : World), Kept (fun _ => False) w1 w' → ∀ j u, (ssC S)[j]? = some u → w'.cell? ⟨g, j, none⟩ = some u) := Lib.hid (fun w' hk' j u hj => row_cells HD.out w' hk' j u (by rw [HS.out]; exact hj))
        have HST9 : Hid (∀ x, S[k]? = some x → ltQ s.id x = false) := Lib.hid (fun x hx => by rw [HQ.out] at hx; injection hx with hx; subst hx; exact HK.out)
        have HK0 := Lib.hid ((Kept.refl (fun _ => False) w1).drewN (n + nq))
        have HTK : Hid ((ssC (S.take k)).length = k * 3) := Lib.hid (by rw [ssC, flat_len ssL_len, List.length_take]; omega)
        have HDK : Hid ((ssC (S.drop k)).length = (S.length - k) * 3) := Lib.hid (by rw [ssC, flat_len ssL_len, List.length_drop]; try omega)
        have HWN : Hid (w1.heap.size ≤ (w1.drewN (n + nq)).heap.size) := Lib.hid HK0.out.size
        have HSE : Hid (openR R s = { (dropR R s.id) with S := S.take k ++ [s] ++ S.drop k }) := Lib.hid (open_eq HS.out hk HNO.out HST9.out)
        go_wp2_with (first
          | (at_builtin; refine wpList_rows HR.out (by rfl) _ _ (by rfl) (by rfl) (World.ownsRow_nil _ w1.heap.size 113 3) (some ⟨g, 0, none⟩) k cap (ssC (S.take k)) (by rfl) HTK.out (.inr ⟨g, 0, rfl, fun j u hj => by rw [Nat.zero_add]; exact HCC.out _ HK0.out j u (pre_cells hj)⟩) (flat_one ssL_one _) (by unfold maxLen; omega) (by omega) HWN.out ?_; intro v1 w2 hown1 hg1; have HK1 := Lib.hid (kept_own HK0.out (World.ownsRow_nil _ w1.heap.size 113 3) (Nat.le_refl _) hg1); have HOWN1 := Lib.hid (show w2.ownsRow w1.heap.size 113 3 v1 k (ssC (S.take k)) by simpa using hown1); clear hown1 hg1 b0 b1 b2 c0 c1 c2 cf; obtain ⟨b0, b1, b2⟩ := sbox HBX1.out HK1.out; obtain ⟨c0, c1, c2, cf⟩ := (HD.out.kept0 HK1.out).cells; have HS1 := Lib.hid HK1.out.size)
          | (at_builtin; refine wpList_row1 HR.out (by rfl) _ _ (by rfl) (by rfl) HOWN1.out (ssL s) (by rfl) (by rfl) (ssL_one s) (by omega) (by unfold maxLen; omega) HS1.out ?_; intro v2 w3 hown2 hg2; have HK2 := Lib.hid (kept_own1 HK1.out HOWN1.out (Nat.le_refl _) hg2); have HOWN2 := Lib.hid hown2; clear hown2 hg2 b0 b1 b2 c0 c1 c2 cf; obtain ⟨c0, c1, c2, cf⟩ := (HD.out.kept0 HK2.out).cells; have HS2 := Lib.hid HK2.out.size)
          | (at_builtin; refine wpList_rows HR.out (by rfl) _ _ (by rfl) (by rfl) HOWN2.out (some ⟨g, k * 3, none⟩) (S.length - k) (cap - k) (ssC (S.drop k)) (by rfl) HDK.out (.inr ⟨g, k * 3, rfl, fun j u hj => HCC.out _ HK2.out _ u (post_cells hk hj)⟩) (flat_one ssL_one _) (by unfold maxLen; omega) (by omega) HS2.out ?_; intro v3 w4 hown3 hg3; have HK3 := Lib.hid (kept_own HK2.out HOWN2.out (Nat.le_refl _) hg3); obtain ⟨a9, cap9, rfl⟩ := own_shape hown3; have HOWN3 := Lib.hid (open_row hk hown3); clear hown3 hg3 c0 c1 c2 cf; obtain ⟨c0, c1, c2, cf⟩ := (HD.out.kept0 HK3.out).cells))
        go_end0
        have hs := (HD.out.kept0 HK3.out).setSess HOWN3.out
        rw [HSE.out]
        exact ⟨rfl, ⟨_, _, _, hs.1⟩, HST1.out.trans (lay_stepR HD.out HK3.out (Nat.le_refl _) (hs.2 HK3.out.size (fun k e => (own_lo HOWN3.out e).1)))⟩
    · obtain rfl : k = S.length := by omega
      have HST9 : Hid (∀ x, S[S.length]? = some x → ltQ s.id x = false) := Lib.hid (fun x hx => by simp at hx)
      clear hlt hk
      rcases HD.out.sess0 with ⟨rfl, h0, rfl⟩ | ⟨g, rfl⟩
      · rw [HS.out] at h0
        obtain rfl : S = [] := List.eq_nil_of_length_eq_zero h0
        clear h0 hlen1 hcap
        simp only [List.length_nil] at HD HST9 HNO c1 ⊢
        go_wp2_with fail
        go_quiet (fail)
        have HK0 := Lib.hid ((Kept.refl (fun _ => False) w1).drewN (n + nq))
        have HTK : Hid ((ssC (([] : List RS))).length = 0 * 3) := Lib.hid (by rfl)
        have HDK : Hid ((ssC (([] : List RS))).length = 0 * 3) := Lib.hid (rfl)
        have HWN : Hid (w1.heap.size ≤ (w1.drewN (n + nq)).heap.size) := Lib.hid HK0.out.size
        have HSE : Hid (openR R s = { (dropR R s.id) with S := ([] : List RS).take 0 ++ [s] ++ ([] : List RS).drop 0 }) := Lib.hid (open_eq HS.out (Nat.le_refl _) HNO.out HST9.out)
        go_wp2_with (first
          | (at_builtin; refine wpList_rows HR.out (by rfl) _ _ (by rfl) (by rfl) (World.ownsRow_nil _ w1.heap.size 113 3) none 0 0 (ssC (([] : List RS))) (by rfl) HTK.out (.inl rfl) (flat_one ssL_one _) (by unfold maxLen; omega) (by omega) HWN.out ?_; intro v1 w2 hown1 hg1; have HK1 := Lib.hid (kept_own HK0.out (World.ownsRow_nil _ w1.heap.size 113 3) (Nat.le_refl _) hg1); have HOWN1 := Lib.hid (show w2.ownsRow w1.heap.size 113 3 v1 0 (ssC (([] : List RS))) by simpa using hown1); clear hown1 hg1 b0 b1 b2 c0 c1 c2 cf; obtain ⟨b0, b1, b2⟩ := sbox HBX1.out HK1.out; obtain ⟨c0, c1, c2, cf⟩ := (HD.out.kept0 HK1.out).cells; have HS1 := Lib.hid HK1.out.size)
          | (at_builtin; refine wpList_row1 HR.out (by rfl) _ _ (by rfl) (by rfl) HOWN1.out (ssL s) (by rfl) (by rfl) (ssL_one s) (by omega) (by unfold maxLen; omega) HS1.out ?_; intro v2 w3 hown2 hg2; have HK2 := Lib.hid (kept_own1 HK1.out HOWN1.out (Nat.le_refl _) hg2); have HOWN2 := Lib.hid hown2; clear hown2 hg2 b0 b1 b2 c0 c1 c2 cf; obtain ⟨c0, c1, c2, cf⟩ := (HD.out.kept0 HK2.out).cells; have HS2 := Lib.hid HK2.out.size)
          | (at_builtin; refine wpList_rows HR.out (by rfl) _ _ (by rfl) (by rfl) HOWN2.out _ 0 _ (ssC (([] : List RS))) (by rfl) HDK.out (.inl rfl) (flat_one ssL_one _) (by unfold maxLen; omega) (by omega) HS2.out ?_; intro v3 w4 hown3 hg3; have HK3 := Lib.hid (kept_own HK2.out HOWN2.out (Nat.le_refl _) hg3); obtain ⟨a9, cap9, rfl⟩ := own_shape hown3; have HOWN3 := Lib.hid (open_row (S := []) (s := s) (k := 0) (Nat.le_refl _) (by simpa using hown3)); clear hown3 hg3 c0 c1 c2 cf; obtain ⟨c0, c1, c2, cf⟩ := (HD.out.kept0 HK3.out).cells))
        go_end0
        have hs := (HD.out.kept0 HK3.out).setSess HOWN3.out
        rw [HSE.out]
        exact ⟨rfl, ⟨_, _, _, hs.1⟩, HST1.out.trans (lay_stepR HD.out HK3.out (Nat.le_refl _) (hs.2 HK3.out.size (fun k e => (own_lo HOWN3.out e).1)))⟩
      · have HCC : Hid (∀ (w' : World), Kept (fun _ => False) w1 w' → ∀ j u, (ssC S)[j]? = some u → w'.cell? ⟨g, j, none⟩ = some u) := Lib.hid (fun w' hk' j u hj => row_cells HD.out w' hk' j u (by rw [HS.out]; exact hj))
        by_cases hcc : cap = S.length
        · subst hcc
          go_wp2_with fail
          go_quiet (fail)
          have HK0 := Lib.hid ((Kept.refl (fun _ => False) w1).drewN (n + nq))
          have HTK : Hid ((ssC (S.take S.length)).length = S.length * 3) := Lib.hid (by rw [ssC, flat_len ssL_len, List.length_take]; omega)
          have HDK : Hid ((ssC (S.drop S.length)).length = 0 * 3) := Lib.hid (by simp [ssC])
          have HWN : Hid (w1.heap.size ≤ (w1.drewN (n + nq)).heap.size) := Lib.hid HK0.out.size
          have HSE : Hid (openR R s = { (dropR R s.id) with S := S.take S.length ++ [s] ++ S.drop S.length }) := Lib.hid (open_eq HS.out (Nat.le_refl _) HNO.out HST9.out)
          go_wp2_with (first
            | (at_builtin; refine wpList_rows HR.out (by rfl) _ _ (by rfl) (by rfl) (World.ownsRow_nil _ w1.heap.size 113 3) (some ⟨g, 0, none⟩) S.length S.length (ssC (S.take S.length)) (by rfl) HTK.out (.inr ⟨g, 0, rfl, fun j u hj => by rw [Nat.zero_add]; exact HCC.out _ HK0.out j u (pre_cells hj)⟩) (flat_one ssL_one _) (by unfold maxLen; omega) (by omega) HWN.out ?_; intro v1 w2 hown1 hg1; have HK1 := Lib.hid (kept_own HK0.out (World.ownsRow_nil _ w1.heap.size 113 3) (Nat.le_refl _) hg1); have HOWN1 := Lib.hid (show w2.ownsRow w1.heap.size 113 3 v1 S.length (ssC (S.take S.length)) by simpa using hown1); clear hown1 hg1 b0 b1 b2 c0 c1 c2 cf; obtain ⟨b0, b1, b2⟩ := sbox HBX1.out HK1.out; obtain ⟨c0, c1, c2, cf⟩ := (HD.out.kept0 HK1.out).cells; have HS1 := Lib.hid HK1.out.size)
            | (at_builtin; refine wpList_row1 HR.out (by rfl) _ _ (by rfl) (by rfl) HOWN1.out (ssL s) (by rfl) (by rfl) (ssL_one s) (by omega) (by unfold maxLen; omega) HS1.out ?_; intro v2 w3 hown2 hg2; have HK2 := Lib.hid (kept_own1 HK1.out HOWN1.out (Nat.le_refl _) hg2); have HOWN2 := Lib.hid hown2; clear hown2 hg2 b0 b1 b2 c0 c1 c2 cf; obtain ⟨c0, c1, c2, cf⟩ := (HD.out.kept0 HK2.out).cells; have HS2 := Lib.hid HK2.out.size)
            | (at_builtin; refine wpList_rows HR.out (by rfl) _ _ (by rfl) (by rfl) HOWN2.out _ 0 _ (ssC (S.drop S.length)) (by rfl) HDK.out (.inl rfl) (flat_one ssL_one _) (by unfold maxLen; omega) (by omega) HS2.out ?_; intro v3 w4 hown3 hg3; have HK3 := Lib.hid (kept_own HK2.out HOWN2.out (Nat.le_refl _) hg3); obtain ⟨a9, cap9, rfl⟩ := own_shape hown3; have HOWN3 := Lib.hid (open_row (k := S.length) (Nat.le_refl _) (by simpa using hown3)); clear hown3 hg3 c0 c1 c2 cf; obtain ⟨c0, c1, c2, cf⟩ := (HD.out.kept0 HK3.out).cells))
          go_end0
          have hs := (HD.out.kept0 HK3.out).setSess HOWN3.out
          rw [HSE.out]
          exact ⟨rfl, ⟨_, _, _, hs.1⟩, HST1.out.trans (lay_stepR HD.out HK3.out (Nat.le_refl _) (hs.2 HK3.out.size (fun k e => (own_lo HOWN3.out e).1)))⟩
        · have hcc2 : S.length < cap := by omega
          clear hcc
          go_wp2_with fail
          go_quiet (fail)
          have HK0 := Lib.hid ((Kept.refl (fun _ => False) w1).drewN (n + nq))
          have HTK : Hid ((ssC (S.take S.length)).length = S.length * 3) := Lib.hid (by rw [ssC, flat_len ssL_len, List.length_take]; omega)
          have HDK : Hid ((ssC (S.drop S.length)).length = 0 * 3) := Lib.hid (by simp [ssC])
          have HWN : Hid (w1.heap.size ≤ (w1.drewN (n + nq)).heap.size) := Lib.hid HK0.out.size
          have HSE : Hid (openR R s = { (dropR R s.id) with S := S.take S.length ++ [s] ++ S.drop S.length }) := Lib.hid (open_eq HS.out (Nat.le_refl _) HNO.out HST9.out)
          go_wp2_with (first
            | (at_builtin; refine wpList_rows HR.out (by rfl) _ _ (by rfl) (by rfl) (World.ownsRow_nil _ w1.heap.size 113 3) (some ⟨g, 0, none⟩) S.length cap (ssC (S.take S.length)) (by rfl) HTK.out (.inr ⟨g, 0, rfl, fun j u hj => by rw [Nat.zero_add]; exact HCC.out _ HK0.out j u (pre_cells hj)⟩) (flat_one ssL_one _) (by unfold maxLen; omega) (by omega) HWN.out ?_; intro v1 w2 hown1 hg1; have HK1 := Lib.hid (kept_own HK0.out (World.ownsRow_nil _ w1.heap.size 113 3) (Nat.le_refl _) hg1); have HOWN1 := Lib.hid (show w2.ownsRow w1.heap.size 113 3 v1 S.length (ssC (S.take S.length)) by simpa using hown1); clear hown1 hg1 b0 b1 b2 c0 c1 c2 cf; obtain ⟨b0, b1, b2⟩ := sbox HBX1.out HK1.out; obtain ⟨c0, c1, c2, cf⟩ := (HD.out.kept0 HK1.out).cells; have HS1 := Lib.hid HK1.out.size)
            | (at_builtin; refine wpList_row1 HR.out (by rfl) _ _ (by rfl) (by rfl) HOWN1.out (ssL s) (by rfl) (by rfl) (ssL_one s) (by omega) (by unfold maxLen; omega) HS1.out ?_; intro v2 w3 hown2 hg2; have HK2 := Lib.hid (kept_own1 HK1.out HOWN1.out (Nat.le_refl _) hg2); have HOWN2 := Lib.hid hown2; clear hown2 hg2 b0 b1 b2 c0 c1 c2 cf; obtain ⟨c0, c1, c2, cf⟩ := (HD.out.kept0 HK2.out).cells; have HS2 := Lib.hid HK2.out.size)
            | (at_builtin; refine wpList_rows HR.out (by rfl) _ _ (by rfl) (by rfl) HOWN2.out _ 0 _ (ssC (S.drop S.length)) (by rfl) HDK.out (.inl rfl) (flat_one ssL_one _) (by unfold maxLen; omega) (by omega) HS2.out ?_; intro v3 w4 hown3 hg3; have HK3 := Lib.hid (kept_own HK2.out HOWN2.out (Nat.le_refl _) hg3); obtain ⟨a9, cap9, rfl⟩ := own_shape hown3; have HOWN3 := Lib.hid (open_row (k := S.length) (Nat.le_refl _) (by simpa using hown3)); clear hown3 hg3 c0 c1 c2 cf; obtain ⟨c0, c1, c2, cf⟩ := (HD.out.kept0 HK3.out).cells))
          go_end0
          have hs := (HD.out.kept0 HK3.out).setSess HOWN3.out
          rw [HSE.out]
          exact ⟨rfl, ⟨_, _, _, hs.1⟩, HST1.out.trans (lay_stepR HD.out HK3.out (Nat.le_refl _) (hs.2 HK3.out.size (fun k e => (own_lo HOWN3.out e).1)))⟩
end Go.Proofs.YtenbdoceaabecaaGreat
