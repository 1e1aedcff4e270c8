/- The document's own answers of layer 2: bytes read as a message. -/
import Derived.Test.YtpmemcpfoapjmaaGreatV18
import Derived.Test.YtpmemcpfoapjmaaGreatV20
import Derived.Test.YtpmemcpfoapjmaaGreatV03
import Derived.Deep.RegionHeld3
import Derived.Deep.DeepCutAuto
import Derived.WalkSpells
import Derived.Outline
namespace Go.Proofs.YtpmemcpfoapjmaaGreat
open Go.ChangeShapes Go.WideShapes Go.ChangeAt Go.RowKit
set_option linter.unusedVariables false

set_option maxRecDepth 100000 in
set_option maxHeartbeats 8000000 in
theorem refget_message (s : ByteArray) (w : World) (hs : s.size ≤ 140737488355328) :
    Calls Tryz.prog 27 #[.string s] w (TakenPost messageE zMessage w (messageF.read s)) := by
  have HSM := Lib.hid (show (Tryz.prog.info? 31).map (·.size) = some 19 by kernel_rfl)
  have HSE := Lib.hid (show (Tryz.prog.info? 38).map (·.size) = some 11 by kernel_rfl)
  have HSR := Lib.hid (show (Tryz.prog.info? 28).map (·.size) = some 10 by kernel_rfl)
  have HSS := Lib.hid (show (Tryz.prog.info? 23).map (·.size) = some 1 by kernel_rfl)
  have HSI := Lib.hid (show (Tryz.prog.info? 22).map (·.size) = some 1 by kernel_rfl)
  have HST := Lib.hid (show (Tryz.prog.info? 9).map (·.size) = some 1 by kernel_rfl)
  have HSL := Lib.hid (show (Tryz.prog.info? 29).map (·.size) = some 1 by kernel_rfl)
  obtain ⟨i, hi, hz0, hz1, hz2⟩ := info_parts info_entry
  have HI := Lib.hid (And.intro hi (And.intro hz0 (And.intro hz1 hz2)))
  clear hi hz0 hz1 hz2
  obtain ⟨a0, u0, f0, y0⟩ : ∃ aa qq ee, numF.get s.data.toList 0 0 = (aa, qq, ee) := ⟨_, _, _, eta3 _⟩
  obtain ⟨a1, u1, f1, y1⟩ : ∃ aa qq ee, numF.get s.data.toList u0 f0 = (aa, qq, ee) := ⟨_, _, _, eta3 _⟩
  obtain ⟨a2, u2, f2, y2⟩ : ∃ aa qq ee, numF.get s.data.toList u1 f1 = (aa, qq, ee) := ⟨_, _, _, eta3 _⟩
  obtain ⟨a3, u3, f3, y3⟩ : ∃ aa qq ee, numF.get s.data.toList u2 f2 = (aa, qq, ee) := ⟨_, _, _, eta3 _⟩
  obtain ⟨a4, u4, f4, y4⟩ : ∃ aa qq ee, numF.get s.data.toList u3 f3 = (aa, qq, ee) := ⟨_, _, _, eta3 _⟩
  have hn5 : numsN 5 s.data.toList 0 0 = ([a0, a1, a2, a3, a4], u4, f4) := by simp only [numsN, getN, y0, y1, y2, y3, y4]
  have j0 : I64 a0 := num_fit y0
  have j1 : I64 a1 := num_fit y1
  have j2 : I64 a2 := num_fit y2
  have j3 : I64 a3 := num_fit y3
  have j4 : I64 a4 := num_fit y4
  have hcm := rCount_le s.data.toList 256 u4 f4
  rcases y5 : rCount s.data.toList 256 u4 f4 with ⟨nm, pm, em⟩
  rw [y5] at hcm
  obtain ⟨ms, qm, fm, y6⟩ : ∃ aa qq ee, getN numF.get nm s.data.toList pm em = (aa, qq, ee) := ⟨_, _, _, eta3 _⟩
  obtain ⟨dt, qd, ed, y7⟩ : ∃ aa qq ee, (textF 65536).get s.data.toList qm fm = (aa, qq, ee) := ⟨_, _, _, eta3 _⟩
  have j6 : Str dt := text_fit (by decide) y7
  have hcl := rCount_le s.data.toList 256 qd ed
  rcases y8 : rCount s.data.toList 256 qd ed with ⟨n, p1, e1⟩
  rw [y8] at hcl
  obtain ⟨xs, q3, e3, y9⟩ : ∃ aa qq ee, getN entryF.get n s.data.toList p1 e1 = (aa, qq, ee) := ⟨_, _, _, eta3 _⟩
  obtain ⟨rq, q4, e4, y10⟩ : ∃ aa qq ee, reqF.get s.data.toList q3 e3 = (aa, qq, ee) := ⟨_, _, _, eta3 _⟩
  obtain ⟨tx, q5, e5, y11⟩ : ∃ aa qq ee, (listF (textF 4096)).get s.data.toList q4 e4 = (aa, qq, ee) := ⟨_, _, _, eta3 _⟩
  have hlm : (listF numF).get s.data.toList u4 f4 = (ms, qm, fm) := by simp only [listF, y5, y6]
  have hle : (listF entryF).get s.data.toList qd ed = (xs, q3, e3) := by simp only [listF, y8, y9]
  have hget : messageF.get s.data.toList 0 0 = (⟨a0, a1, a2, a3, a4, ms, dt, xs, rq, tx⟩, q5, e5) := by simp only [messageF, isoF, seqF, y0, y1, y2, y3, y4, hlm, y7, hle, y10, y11]
  have hread : messageF.read s = if rEndE s.data.toList.length q5 e5 = 0 then some ⟨a0, a1, a2, a3, a4, ms, dt, xs, rq, tx⟩ else none := by unfold Fmt.read; rw [hget]
  rw [str_len] at hread
  generalize messageF.read s = ro at hread ⊢
  have HREAD := Lib.hid hread; clear hread
  have KE := Lib.hid (fend_of s q5 e5)
  have HE0 := Lib.hid (show rEndE s.size q5 e5 = 0 → e5 = 0 from fun h => (rEndE_zero h).1)
  generalize hr : rEndE s.size q5 e5 = r at HREAD KE HE0
  clear hr
  have HZ1 := Lib.hid (show e5 = 0 → e4 = 0 from fun h0 => back0 (listF_ok (textF_ok (by decide))) y11 h0)
  have HZ2 := Lib.hid (show e4 = 0 → e3 = 0 from fun h0 => back0 reqF_ok y10 h0)
  have HZ3 := Lib.hid (show e3 = 0 → ed = 0 from fun h0 => back0 (listF_ok entryF_ok) hle h0)
  have HZ4 := Lib.hid (show ed = 0 → fm = 0 from fun h0 => back0 (textF_ok (by decide)) y7 h0)
  have hlenm : ms.length = nm := by have h := getN_len numF.get nm s.data.toList pm em; rw [y6] at h; exact h
  have him : ∀ x ∈ ms, I64 x := by have h := getN_i64 nm s.data.toList pm em; rw [y6] at h; exact h
  have HWR := Lib.hid (show em ≠ 0 → fm = em from fun h0 => by
    have h := getN_wrong numF_ok (k := 0) (n := nm) (Nat.zero_le _) (l := s.data.toList) (p := pm) (e := em) (by simpa [getN] using h0)
    rw [y6] at h
    simpa [getN] using h)
  have HLEN := Lib.hid hlenm; clear hlenm
  have hnm : nm ≤ 256 := by have h := hcm; simp only at h; omega
  have hn : n ≤ 256 := by have h := hcl; simp only at h; omega
  have K5 := Lib.hid (ftake_of (by decide) hn5)
  have KCM := Lib.hid (fun (W : World) (p : Nat) (hF : FAt W (w.heap.size + 1) s p f4) (hp : f4 = 0 → p = u4) => refcnt_any W (w.heap.size + 1) s p u4 f4 hF hp y5)
  have KTM := Lib.hid (ftake_of (n := nm) (by omega) (show numsN nm s.data.toList pm em = (ms, qm, fm) from y6))
  have KTX := Lib.hid (ftext_of (by decide) y7)
  have KCE := Lib.hid (fun (W : World) (p : Nat) (hF : FAt W (w.heap.size + 1) s p ed) (hp : ed = 0 → p = qd) => refcnt_any W (w.heap.size + 1) s p qd ed hF hp y8)
  have HH := Lib.hid y9
  have KRQ := Lib.hid (fun (W : World) (p : Nat) (hF : FAt W (w.heap.size + 1) s p e3) (hp : e3 = 0 → p = q3) => reftake_req W (w.heap.size + 1) s p q3 e3 hF hp y10)
  have KIDS := Lib.hid (fun (W : World) (p : Nat) (hF : FAt W (w.heap.size + 1) s p e4) (hp : e4 = 0 → p = q4) => reftake_texts W (w.heap.size + 1) s p q4 e4 hF hp y11)
  have HJ := Lib.hid (And.intro j0 (And.intro j1 (And.intro j2 (And.intro j3 (And.intro j4 j6)))))
  have HMI := Lib.hid him
  have hW : FAt ((w.alloc (.cells ([.int .i64 0, .int .i64 0, .int .i64 0, .int .i64 0, .int .i64 0, .slice none 0 0, .string ⟨#[]⟩, .slice none 0 0, .int .i64 0, .int .i64 0, .string ⟨#[]⟩, .string ⟨#[]⟩, .slice none 0 0, .int .i64 0, .int .i64 0, .bool false, .slice none 0 0, .slice none 0 0, .slice none 0 0] : List Value).toArray 31)).alloc (.cells #[.string s, .int .i64 0, .int .i64 0] 111)) (w.heap.size + 1) s 0 0 := by
    have h := fresh_reader (w.alloc (.cells ([.int .i64 0, .int .i64 0, .int .i64 0, .int .i64 0, .int .i64 0, .slice none 0 0, .string ⟨#[]⟩, .slice none 0 0, .int .i64 0, .int .i64 0, .string ⟨#[]⟩, .string ⟨#[]⟩, .slice none 0 0, .int .i64 0, .int .i64 0, .bool false, .slice none 0 0, .slice none 0 0, .slice none 0 0] : List Value).toArray 31)) s hs
    rwa [show (w.alloc (.cells ([.int .i64 0, .int .i64 0, .int .i64 0, .int .i64 0, .int .i64 0, .slice none 0 0, .string ⟨#[]⟩, .slice none 0 0, .int .i64 0, .int .i64 0, .string ⟨#[]⟩, .string ⟨#[]⟩, .slice none 0 0, .int .i64 0, .int .i64 0, .bool false, .slice none 0 0, .slice none 0 0, .slice none 0 0] : List Value).toArray 31)).heap.size = w.heap.size + 1 from by simp] at h
  have hb0 : ((w.alloc (.cells ([.int .i64 0, .int .i64 0, .int .i64 0, .int .i64 0, .int .i64 0, .slice none 0 0, .string ⟨#[]⟩, .slice none 0 0, .int .i64 0, .int .i64 0, .string ⟨#[]⟩, .string ⟨#[]⟩, .slice none 0 0, .int .i64 0, .int .i64 0, .bool false, .slice none 0 0, .slice none 0 0, .slice none 0 0] : List Value).toArray 31)).alloc (.cells #[.string s, .int .i64 0, .int .i64 0] 111)).heap[w.heap.size]? = some (.cells ([.int .i64 0, .int .i64 0, .int .i64 0, .int .i64 0, .int .i64 0, .slice none 0 0, .string ⟨#[]⟩, .slice none 0 0, .int .i64 0, .int .i64 0, .string ⟨#[]⟩, .string ⟨#[]⟩, .slice none 0 0, .int .i64 0, .int .i64 0, .bool false, .slice none 0 0, .slice none 0 0, .slice none 0 0] : List Value).toArray 31 (0, 0)) := by
    rw [((Old.refl (w.alloc (.cells ([.int .i64 0, .int .i64 0, .int .i64 0, .int .i64 0, .int .i64 0, .slice none 0 0, .string ⟨#[]⟩, .slice none 0 0, .int .i64 0, .int .i64 0, .string ⟨#[]⟩, .string ⟨#[]⟩, .slice none 0 0, .int .i64 0, .int .i64 0, .bool false, .slice none 0 0, .slice none 0 0, .slice none 0 0] : List Value).toArray 31))).make _).block _ (by simp) id]; exact heap_alloc_new w _
  have hO0 : Old w ((w.alloc (.cells ([.int .i64 0, .int .i64 0, .int .i64 0, .int .i64 0, .int .i64 0, .slice none 0 0, .string ⟨#[]⟩, .slice none 0 0, .int .i64 0, .int .i64 0, .string ⟨#[]⟩, .string ⟨#[]⟩, .slice none 0 0, .int .i64 0, .int .i64 0, .bool false, .slice none 0 0, .slice none 0 0, .slice none 0 0] : List Value).toArray 31)).alloc (.cells #[.string s, .int .i64 0, .int .i64 0] 111)) := ((Old.refl w).make _).make _
  have hs0 : w.heap.size + 2 ≤ ((w.alloc (.cells ([.int .i64 0, .int .i64 0, .int .i64 0, .int .i64 0, .int .i64 0, .slice none 0 0, .string ⟨#[]⟩, .slice none 0 0, .int .i64 0, .int .i64 0, .string ⟨#[]⟩, .string ⟨#[]⟩, .slice none 0 0, .int .i64 0, .int .i64 0, .bool false, .slice none 0 0, .slice none 0 0, .slice none 0 0] : List Value).toArray 31)).alloc (.cells #[.string s, .int .i64 0, .int .i64 0] 111)).heap.size := by simp
  have K50 := Lib.hid (K5.out _ _ _ hW (fun _ => rfl))
  have HRES0 := Lib.hid hb0
  have HO0 := Lib.hid hO0
  have HS0 := Lib.hid hs0
  clear hget y0 y1 y2 y3 y4 y5 y6 y7 y8 y9 y10 y11 hlm hle hcl hcm hW hb0 hO0 hs0 hn5 j0 j1 j2 j3 j4 j6 him K5
  go_enter Tryz.func27, Tryz.ntmps27
  go_wp2_with fail
  refine K50.out.mono ?_
  rintro en w0 ⟨tk, p0, rfl, hblk, hgt, hF1, hp1, hk0⟩
  have hz0 : w.heap.size + 2 ≤ w0.heap.size := Nat.le_trans HS0.out hk0.size
  have hO1 : Old w w0 := HO0.out.step hk0 (fun k h => by have h' : k = (w.heap.size + 1) := h; omega)
  have hR1 := (hk0.block _ (lt_of_block HRES0.out) (fun hs => by have hs' : w.heap.size = (w.heap.size + 1) := hs; omega)).trans HRES0.out
  have d0 : w0.cell? ⟨tk, 0, none⟩ = some (.int .i64 a0) := cell_of_heap (cs := intsOf [a0, a1, a2, a3, a4]) hblk rfl
  have d1 : w0.cell? ⟨tk, 1, none⟩ = some (.int .i64 a1) := cell_of_heap (cs := intsOf [a0, a1, a2, a3, a4]) hblk rfl
  have d2 : w0.cell? ⟨tk, 2, none⟩ = some (.int .i64 a2) := cell_of_heap (cs := intsOf [a0, a1, a2, a3, a4]) hblk rfl
  have d3 : w0.cell? ⟨tk, 3, none⟩ = some (.int .i64 a3) := cell_of_heap (cs := intsOf [a0, a1, a2, a3, a4]) hblk rfl
  have d4 : w0.cell? ⟨tk, 4, none⟩ = some (.int .i64 a4) := cell_of_heap (cs := intsOf [a0, a1, a2, a3, a4]) hblk rfl
  have htk : tk < w0.heap.size := lt_of_block hblk
  have HP1 := Lib.hid hp1
  have HF1 := Lib.hid hF1
  have HO1 := Lib.hid hO1
  have HR1 := Lib.hid hR1
  clear hblk hgt hF1 hp1 hk0 hO1 hR1 K50 HRES0 HO0 HS0
  go_upto_region 3 with fail
  go_cut [6] (fun v wx => v = .pointer (some ⟨w0.heap.size, 0, none⟩) ∧ wx = (w0.alloc (.cells ([.int .i64 a0, .int .i64 a1, .int .i64 a2, .int .i64 a3, .int .i64 a4, .slice none 0 0, .string ⟨#[]⟩, .slice none 0 0, .int .i64 0, .int .i64 0, .string ⟨#[]⟩, .string ⟨#[]⟩, .slice none 0 0, .int .i64 0, .int .i64 0, .bool false, .slice none 0 0, .slice none 0 0, .slice none 0 0] : List Value).toArray 31)).drew)
  case first =>
    have hOb : Old w0 (w0.alloc (.cells ([.int .i64 0, .int .i64 0, .int .i64 0, .int .i64 0, .int .i64 0, .slice none 0 0, .string ⟨#[]⟩, .slice none 0 0, .int .i64 0, .int .i64 0, .string ⟨#[]⟩, .string ⟨#[]⟩, .slice none 0 0, .int .i64 0, .int .i64 0, .bool false, .slice none 0 0, .slice none 0 0, .slice none 0 0] : List Value).toArray 31)).drew := ((Old.refl w0).make _).drew
    have hOc : Old w0 (w0.alloc (.cells ([.int .i64 a0, .int .i64 a1, .int .i64 a2, .int .i64 a3, .int .i64 a4, .slice none 0 0, .string ⟨#[]⟩, .slice none 0 0, .int .i64 0, .int .i64 0, .string ⟨#[]⟩, .string ⟨#[]⟩, .slice none 0 0, .int .i64 0, .int .i64 0, .bool false, .slice none 0 0, .slice none 0 0, .slice none 0 0] : List Value).toArray 31)).drew := ((Old.refl w0).make _).drew
    have d0b := Old.cell hOb d0
    have d1b := Old.cell hOb d1
    have d2b := Old.cell hOb d2
    have d3b := Old.cell hOb d3
    have d4b := Old.cell hOb d4
    have d0c := Old.cell hOc d0
    have d1c := Old.cell hOc d1
    have d2c := Old.cell hOc d2
    have d3c := Old.cell hOc d3
    have d4c := Old.cell hOc d4
    refine wp_region_held_drew (S := (fun w' : World => w'.cell? ⟨tk, 0, none⟩ = some (.int .i64 a0) ∧ w'.cell? ⟨tk, 1, none⟩ = some (.int .i64 a1) ∧ w'.cell? ⟨tk, 2, none⟩ = some (.int .i64 a2) ∧ w'.cell? ⟨tk, 3, none⟩ = some (.int .i64 a3) ∧ w'.cell? ⟨tk, 4, none⟩ = some (.int .i64 a4))) (by kernel_rfl) ?_ (fun hHeld => ?_)
    · exact ⟨d0, d1, d2, d3, d4⟩
    refine wpAnyH_take (i := 0) (oi := ⟨some 15, .move (.tmp 5), 22, "ref.go:274", #[], none⟩) (v := .slice (some ⟨tk, 0, none⟩) 5 5) rfl (by kernel_rfl) (by kernel_rfl) (by kernel_rfl) (fun _ _ _ h => h) (Or.inl ⟨by rfl, ?_⟩) hHeld ?_
    · intro ws hSw; (try dsimp only at hSw); go_simp; (try with_reducible rfl)
    try simp only [Act.put, List.setIfInBounds_toArray, List.set_cons_zero, List.set_cons_succ]
    refine wpAnyH_take (i := 1) (oi := ⟨some 16, .indexAddr 22 (.tmp 15) (.const (.int .i64 0)), 0, "ref.go:274", #[⟨0, .data⟩], none⟩) (v := .pointer (some ⟨tk, 0, none⟩)) rfl (by kernel_rfl) (by kernel_rfl) (by kernel_rfl) (fun _ _ _ h => h) (Or.inl ⟨by rfl, ?_⟩) hHeld ?_
    · intro ws hSw; (try dsimp only at hSw); go_simp; (try with_reducible rfl)
    try simp only [Act.put, List.setIfInBounds_toArray, List.set_cons_zero, List.set_cons_succ]
    refine wpAnyH_take (i := 2) (oi := ⟨some 17, .load 3 (.tmp 16), 3, "ref.go:274", #[⟨1, .data⟩], none⟩) (v := .int .i64 a0) rfl (by kernel_rfl) (by kernel_rfl) (by kernel_rfl) (fun _ _ _ h => h) (Or.inl ⟨by rfl, ?_⟩) hHeld ?_
    · intro ws hSw; (try dsimp only at hSw); go_simp; (try with_reducible rfl)
    try simp only [Act.put, List.setIfInBounds_toArray, List.set_cons_zero, List.set_cons_succ]
    refine wpAnyH_take (i := 3) (oi := ⟨some 18, .move (.tmp 5), 22, "ref.go:274", #[], none⟩) (v := .slice (some ⟨tk, 0, none⟩) 5 5) rfl (by kernel_rfl) (by kernel_rfl) (by kernel_rfl) (fun _ _ _ h => h) (Or.inl ⟨by rfl, ?_⟩) hHeld ?_
    · intro ws hSw; (try dsimp only at hSw); go_simp; (try with_reducible rfl)
    try simp only [Act.put, List.setIfInBounds_toArray, List.set_cons_zero, List.set_cons_succ]
    refine wpAnyH_take (i := 4) (oi := ⟨some 19, .indexAddr 22 (.tmp 18) (.const (.int .i64 1)), 0, "ref.go:274", #[⟨3, .data⟩], none⟩) (v := .pointer (some ⟨tk, 1, none⟩)) rfl (by kernel_rfl) (by kernel_rfl) (by kernel_rfl) (fun _ _ _ h => h) (Or.inl ⟨by rfl, ?_⟩) hHeld ?_
    · intro ws hSw; (try dsimp only at hSw); go_simp; (try with_reducible rfl)
    try simp only [Act.put, List.setIfInBounds_toArray, List.set_cons_zero, List.set_cons_succ]
    refine wpAnyH_take (i := 5) (oi := ⟨some 20, .load 3 (.tmp 19), 3, "ref.go:274", #[⟨4, .data⟩], none⟩) (v := .int .i64 a1) rfl (by kernel_rfl) (by kernel_rfl) (by kernel_rfl) (fun _ _ _ h => h) (Or.inl ⟨by rfl, ?_⟩) hHeld ?_
    · intro ws hSw; (try dsimp only at hSw); go_simp; (try with_reducible rfl)
    try simp only [Act.put, List.setIfInBounds_toArray, List.set_cons_zero, List.set_cons_succ]
    refine wpAnyH_take (i := 6) (oi := ⟨some 21, .move (.tmp 5), 22, "ref.go:274", #[], none⟩) (v := .slice (some ⟨tk, 0, none⟩) 5 5) rfl (by kernel_rfl) (by kernel_rfl) (by kernel_rfl) (fun _ _ _ h => h) (Or.inl ⟨by rfl, ?_⟩) hHeld ?_
    · intro ws hSw; (try dsimp only at hSw); go_simp; (try with_reducible rfl)
    try simp only [Act.put, List.setIfInBounds_toArray, List.set_cons_zero, List.set_cons_succ]
    refine wpAnyH_take (i := 7) (oi := ⟨some 22, .indexAddr 22 (.tmp 21) (.const (.int .i64 2)), 0, "ref.go:274", #[⟨6, .data⟩], none⟩) (v := .pointer (some ⟨tk, 2, none⟩)) rfl (by kernel_rfl) (by kernel_rfl) (by kernel_rfl) (fun _ _ _ h => h) (Or.inl ⟨by rfl, ?_⟩) hHeld ?_
    · intro ws hSw; (try dsimp only at hSw); go_simp; (try with_reducible rfl)
    try simp only [Act.put, List.setIfInBounds_toArray, List.set_cons_zero, List.set_cons_succ]
    refine wpAnyH_take (i := 8) (oi := ⟨some 23, .load 3 (.tmp 22), 3, "ref.go:274", #[⟨7, .data⟩], none⟩) (v := .int .i64 a2) rfl (by kernel_rfl) (by kernel_rfl) (by kernel_rfl) (fun _ _ _ h => h) (Or.inl ⟨by rfl, ?_⟩) hHeld ?_
    · intro ws hSw; (try dsimp only at hSw); go_simp; (try with_reducible rfl)
    try simp only [Act.put, List.setIfInBounds_toArray, List.set_cons_zero, List.set_cons_succ]
    refine wpAnyH_take (i := 9) (oi := ⟨some 24, .move (.tmp 5), 22, "ref.go:274", #[], none⟩) (v := .slice (some ⟨tk, 0, none⟩) 5 5) rfl (by kernel_rfl) (by kernel_rfl) (by kernel_rfl) (fun _ _ _ h => h) (Or.inl ⟨by rfl, ?_⟩) hHeld ?_
    · intro ws hSw; (try dsimp only at hSw); go_simp; (try with_reducible rfl)
    try simp only [Act.put, List.setIfInBounds_toArray, List.set_cons_zero, List.set_cons_succ]
    refine wpAnyH_take (i := 10) (oi := ⟨some 25, .indexAddr 22 (.tmp 24) (.const (.int .i64 3)), 0, "ref.go:274", #[⟨9, .data⟩], none⟩) (v := .pointer (some ⟨tk, 3, none⟩)) rfl (by kernel_rfl) (by kernel_rfl) (by kernel_rfl) (fun _ _ _ h => h) (Or.inl ⟨by rfl, ?_⟩) hHeld ?_
    · intro ws hSw; (try dsimp only at hSw); go_simp; (try with_reducible rfl)
    try simp only [Act.put, List.setIfInBounds_toArray, List.set_cons_zero, List.set_cons_succ]
    refine wpAnyH_take (i := 11) (oi := ⟨some 26, .load 3 (.tmp 25), 3, "ref.go:274", #[⟨10, .data⟩], none⟩) (v := .int .i64 a3) rfl (by kernel_rfl) (by kernel_rfl) (by kernel_rfl) (fun _ _ _ h => h) (Or.inl ⟨by rfl, ?_⟩) hHeld ?_
    · intro ws hSw; (try dsimp only at hSw); go_simp; (try with_reducible rfl)
    try simp only [Act.put, List.setIfInBounds_toArray, List.set_cons_zero, List.set_cons_succ]
    refine wpAnyH_take (i := 12) (oi := ⟨some 27, .move (.tmp 5), 22, "ref.go:274", #[], none⟩) (v := .slice (some ⟨tk, 0, none⟩) 5 5) rfl (by kernel_rfl) (by kernel_rfl) (by kernel_rfl) (fun _ _ _ h => h) (Or.inl ⟨by rfl, ?_⟩) hHeld ?_
    · intro ws hSw; (try dsimp only at hSw); go_simp; (try with_reducible rfl)
    try simp only [Act.put, List.setIfInBounds_toArray, List.set_cons_zero, List.set_cons_succ]
    refine wpAnyH_take (i := 13) (oi := ⟨some 28, .indexAddr 22 (.tmp 27) (.const (.int .i64 4)), 0, "ref.go:274", #[⟨12, .data⟩], none⟩) (v := .pointer (some ⟨tk, 4, none⟩)) rfl (by kernel_rfl) (by kernel_rfl) (by kernel_rfl) (fun _ _ _ h => h) (Or.inl ⟨by rfl, ?_⟩) hHeld ?_
    · intro ws hSw; (try dsimp only at hSw); go_simp; (try with_reducible rfl)
    try simp only [Act.put, List.setIfInBounds_toArray, List.set_cons_zero, List.set_cons_succ]
    refine wpAnyH_take (i := 14) (oi := ⟨some 29, .load 3 (.tmp 28), 3, "ref.go:274", #[⟨13, .data⟩], none⟩) (v := .int .i64 a4) rfl (by kernel_rfl) (by kernel_rfl) (by kernel_rfl) (fun _ _ _ h => h) (Or.inl ⟨by rfl, ?_⟩) hHeld ?_
    · intro ws hSw; (try dsimp only at hSw); go_simp; (try with_reducible rfl)
    try simp only [Act.put, List.setIfInBounds_toArray, List.set_cons_zero, List.set_cons_succ]
    refine wpAnyH_take (i := 15) (oi := ⟨some 30, .build 31 #[(0, .tmp 17), (1, .tmp 20), (2, .tmp 23), (3, .tmp 26), (4, .tmp 29)], 31, "ref.go:274", #[⟨2, .data⟩, ⟨5, .data⟩, ⟨8, .data⟩, ⟨11, .data⟩, ⟨14, .data⟩], none⟩) (v := .agg ([.int .i64 a0, .int .i64 a1, .int .i64 a2, .int .i64 a3, .int .i64 a4, .slice none 0 0, .string ⟨#[]⟩, .slice none 0 0, .int .i64 0, .int .i64 0, .string ⟨#[]⟩, .string ⟨#[]⟩, .slice none 0 0, .int .i64 0, .int .i64 0, .bool false, .slice none 0 0, .slice none 0 0, .slice none 0 0] : List Value).toArray) rfl (by kernel_rfl) (by kernel_rfl) (by kernel_rfl) (fun _ _ _ h => h) (Or.inl ⟨by rfl, ?_⟩) hHeld ?_
    · intro ws hSw; (try dsimp only at hSw); go_simp; (try with_reducible rfl)
    try simp only [Act.put, List.setIfInBounds_toArray, List.set_cons_zero, List.set_cons_succ]
    refine wpAnyH_ready (rs := [16]) (by kernel_rfl) (by simp) ?_
    refine AllReadyH.cons (o := ⟨some 6, .alloc 31, 0, "ref.go:274", #[], none⟩) rfl (fun K hK => ?_) AllReadyH.nil
    go_simp
    refine hK.out _ _ ?_ (fun hHeld2 => ?_)
    · exact ⟨d0b, d1b, d2b, d3b, d4b⟩
    clear hK K
    try simp only [Act.put, List.setIfInBounds_toArray, List.set_cons_zero, List.set_cons_succ]
    refine wpAnyH_ready (rs := [17]) (by kernel_rfl) (by simp) ?_
    refine AllReadyH.cons (o := ⟨none, .store 31 (.tmp 6) (.tmp 30), 0, "ref.go:274", #[⟨16, .data⟩, ⟨15, .data⟩, ⟨0, .phase⟩, ⟨1, .phase⟩, ⟨2, .phase⟩, ⟨3, .phase⟩, ⟨4, .phase⟩, ⟨5, .phase⟩, ⟨6, .phase⟩, ⟨7, .phase⟩, ⟨8, .phase⟩, ⟨9, .phase⟩, ⟨10, .phase⟩, ⟨11, .phase⟩, ⟨12, .phase⟩, ⟨13, .phase⟩, ⟨14, .phase⟩, ⟨15, .phase⟩, ⟨16, .phase⟩], none⟩) rfl (fun K hK => ?_) AllReadyH.nil
    rw [if_pos (by rfl)]
    refine wp_store_newd 31 (.tmp 6) (.tmp 30) rfl _ [.int .i64 a0, .int .i64 a1, .int .i64 a2, .int .i64 a3, .int .i64 a4, .slice none 0 0, .string ⟨#[]⟩, .slice none 0 0, .int .i64 0, .int .i64 0, .string ⟨#[]⟩, .string ⟨#[]⟩, .slice none 0 0, .int .i64 0, .int .i64 0, .bool false, .slice none 0 0, .slice none 0 0, .slice none 0 0] rfl rfl HSM.out rfl (by simp [Value.oneCell']) ?_
    refine hK.out _ _ ?_ (fun hHeld3 => ?_)
    · exact ⟨d0c, d1c, d2c, d3c, d4c⟩
    clear hK K
    try simp only [Act.put]
    refine wpAnyH_done (by kernel_rfl) ?_ _
    go_wp2_with fail
    go_meet
    exact ⟨rfl, rfl⟩
  case rest =>
  obtain ⟨rfl, rfl⟩ := hcut
  have hA : Old w0 (w0.alloc (.cells ([.int .i64 a0, .int .i64 a1, .int .i64 a2, .int .i64 a3, .int .i64 a4, .slice none 0 0, .string ⟨#[]⟩, .slice none 0 0, .int .i64 0, .int .i64 0, .string ⟨#[]⟩, .string ⟨#[]⟩, .slice none 0 0, .int .i64 0, .int .i64 0, .bool false, .slice none 0 0, .slice none 0 0, .slice none 0 0] : List Value).toArray 31)).drew := ((Old.refl w0).make _).drew
  have M0 : MB w s w0.heap.size 31 [.int .i64 0, .int .i64 0, .int .i64 0, .int .i64 0, .int .i64 0, .slice none 0 0, .string ⟨#[]⟩, .slice none 0 0, .int .i64 0, .int .i64 0, .string ⟨#[]⟩, .string ⟨#[]⟩, .slice none 0 0, .int .i64 0, .int .i64 0, .bool false, .slice none 0 0, .slice none 0 0, .slice none 0 0] (w0.alloc (.cells ([.int .i64 a0, .int .i64 a1, .int .i64 a2, .int .i64 a3, .int .i64 a4, .slice none 0 0, .string ⟨#[]⟩, .slice none 0 0, .int .i64 0, .int .i64 0, .string ⟨#[]⟩, .string ⟨#[]⟩, .slice none 0 0, .int .i64 0, .int .i64 0, .bool false, .slice none 0 0, .slice none 0 0, .slice none 0 0] : List Value).toArray 31)).drew [.int .i64 a0, .int .i64 a1, .int .i64 a2, .int .i64 a3, .int .i64 a4, .slice none 0 0, .string ⟨#[]⟩, .slice none 0 0, .int .i64 0, .int .i64 0, .string ⟨#[]⟩, .string ⟨#[]⟩, .slice none 0 0, .int .i64 0, .int .i64 0, .bool false, .slice none 0 0, .slice none 0 0, .slice none 0 0] p0 f4 :=
    ⟨HF1.out.keep hA id, HO1.out.none hA, (hA.block _ (lt_of_block HR1.out) id).trans HR1.out, heap_alloc_new w0 _, hz0⟩
  clear d0 d1 d2 d3 d4 hA HF1 HO1 HR1
  obtain ⟨g, hg⟩ : ∃ g, w0.heap.size = g := ⟨_, rfl⟩
  rw [hg] at M0 hz0 htk
  simp only [hg]
  clear htk hg
  generalize (w0.alloc (.cells ([.int .i64 a0, .int .i64 a1, .int .i64 a2, .int .i64 a3, .int .i64 a4, .slice none 0 0, .string ⟨#[]⟩, .slice none 0 0, .int .i64 0, .int .i64 0, .string ⟨#[]⟩, .string ⟨#[]⟩, .slice none 0 0, .int .i64 0, .int .i64 0, .bool false, .slice none 0 0, .slice none 0 0, .slice none 0 0] : List Value).toArray 31)).drew = W0 at M0 ⊢
  have HM0 := Lib.hid M0
  clear M0
  go_wp2_with fail
  refine (KCM.out _ _ HM0.out.rd HP1.out).mono ?_
  rintro en w1 ⟨p2, rfl, hF2, hp2, hk2⟩
  have M1 := HM0.out.call hF2 hk2
  have HM1 := Lib.hid M1
  have HP2 := Lib.hid hp2
  have c2 := M1.rd.c2
  clear M1 hF2 hp2 hk2 HM0 HP1 KCM
  go_upto_if 37 with fail
  go_cut [] (fun wx => ∃ mA mN mC p3, MB w s g 31 [.int .i64 0, .int .i64 0, .int .i64 0, .int .i64 0, .int .i64 0, .slice none 0 0, .string ⟨#[]⟩, .slice none 0 0, .int .i64 0, .int .i64 0, .string ⟨#[]⟩, .string ⟨#[]⟩, .slice none 0 0, .int .i64 0, .int .i64 0, .bool false, .slice none 0 0, .slice none 0 0, .slice none 0 0] wx [.int .i64 a0, .int .i64 a1, .int .i64 a2, .int .i64 a3, .int .i64 a4, .slice mA mN mC, .string ⟨#[]⟩, .slice none 0 0, .int .i64 0, .int .i64 0, .string ⟨#[]⟩, .string ⟨#[]⟩, .slice none 0 0, .int .i64 0, .int .i64 0, .bool false, .slice none 0 0, .slice none 0 0, .slice none 0 0] p3 fm ∧ (fm = 0 → p3 = qm) ∧ LM intE w g wx 1 (.slice mA mN mC) ms fm)
  case first =>
    by_cases h0 : em = 0
    · subst h0
      go_wp2_with fail
      refine (KTM.out _ _ _ HM1.out.rd HP2.out).mono ?_
      rintro en w2 ⟨tm, p3, rfl, hblk, hgt, hF3, hp3, hk3⟩
      have M2 := HM1.out.call hF3 hk3
      have HM2 := Lib.hid M2
      have hL : LM intE w g w2 1 (.slice (some ⟨tm, 0, none⟩) ms.length ms.length) ms fm := LM.mk' intE_ok HM1.out ⟨_, _, _, rfl⟩ (fun _ => (nums_at ms tm w2 hblk HMI.out (by have := HLEN.out; unfold maxLen; omega)).mono intE_ok (fun k _ hk => by have hk' : k = tm := hk; rw [hk']; exact hgt))
      have HL := Lib.hid hL
      have HP3 := Lib.hid hp3
      clear M2 hL hblk hgt hF3 hp3 hk3
      go_wp2_with (refine wpList_store_to rfl 22 (.tmp 41) (.tmp 40) rfl g 5 (.slice (some ⟨tm, 0, none⟩) ms.length ms.length) rfl rfl rfl [.int .i64 a0, .int .i64 a1, .int .i64 a2, .int .i64 a3, .int .i64 a4, .slice none 0 0, .string ⟨#[]⟩, .slice none 0 0, .int .i64 0, .int .i64 0, .string ⟨#[]⟩, .string ⟨#[]⟩, .slice none 0 0, .int .i64 0, .int .i64 0, .bool false, .slice none 0 0, .slice none 0 0, .slice none 0 0] 31 HM2.out.box (by simp) HSI.out _ rfl _ rfl ?_)
      go_meet
      exact ⟨_, _, _, p3, HM2.out.set _, HP3.out, HL.out.set intE_ok _⟩
    · have hne : (((em : Nat) : Int) == 0) = false := by simp; omega
      have hfm := HWR.out h0
      go_wp2_with fail
      go_meet
      refine ⟨none, 0, 0, p2, ?_, fun h => absurd h (by omega), ⟨_, _, _, rfl⟩, fun h => absurd h (by omega)⟩
      rw [hfm]
      exact HM1.out
  case rest =>
  obtain ⟨mA, mN, mC, p3, M2, hp3, hLM⟩ := hcut
  have HM2 := Lib.hid M2
  have HP3 := Lib.hid hp3
  have HLM := Lib.hid hLM
  clear M2 hp3 hLM HM1 HP2 KTM c2 HWR HMI
  go_wp2_with fail
  refine (KTX.out _ _ _ HM2.out.rd HP3.out).mono ?_
  rintro en w3 ⟨p4, rfl, hF4, hp4, hk4⟩
  have HM3 := Lib.hid (HM2.out.call hF4 hk4)
  have HLM3 := Lib.hid (HLM.out.call intE_ok hk4)
  have HP4 := Lib.hid hp4
  clear hF4 hp4 hk4 HM2 HP3 HLM KTX
  go_wp2_with (refine wpList_store_to rfl 9 (.tmp 44) (.tmp 43) rfl g 6 (.string dt) rfl rfl rfl [.int .i64 a0, .int .i64 a1, .int .i64 a2, .int .i64 a3, .int .i64 a4, .slice mA mN mC, .string ⟨#[]⟩, .slice none 0 0, .int .i64 0, .int .i64 0, .string ⟨#[]⟩, .string ⟨#[]⟩, .slice none 0 0, .int .i64 0, .int .i64 0, .bool false, .slice none 0 0, .slice none 0 0, .slice none 0 0] 31 HM3.out.box (by simp) HST.out _ rfl _ rfl ?_)
  have HM4 := Lib.hid (show MB w s g 31 [.int .i64 0, .int .i64 0, .int .i64 0, .int .i64 0, .int .i64 0, .slice none 0 0, .string ⟨#[]⟩, .slice none 0 0, .int .i64 0, .int .i64 0, .string ⟨#[]⟩, .string ⟨#[]⟩, .slice none 0 0, .int .i64 0, .int .i64 0, .bool false, .slice none 0 0, .slice none 0 0, .slice none 0 0] (w3.setRow g ([.int .i64 a0, .int .i64 a1, .int .i64 a2, .int .i64 a3, .int .i64 a4, .slice mA mN mC, .string dt, .slice none 0 0, .int .i64 0, .int .i64 0, .string ⟨#[]⟩, .string ⟨#[]⟩, .slice none 0 0, .int .i64 0, .int .i64 0, .bool false, .slice none 0 0, .slice none 0 0, .slice none 0 0] : List Value).toArray) [.int .i64 a0, .int .i64 a1, .int .i64 a2, .int .i64 a3, .int .i64 a4, .slice mA mN mC, .string dt, .slice none 0 0, .int .i64 0, .int .i64 0, .string ⟨#[]⟩, .string ⟨#[]⟩, .slice none 0 0, .int .i64 0, .int .i64 0, .bool false, .slice none 0 0, .slice none 0 0, .slice none 0 0] p4 ed from HM3.out.set [.int .i64 a0, .int .i64 a1, .int .i64 a2, .int .i64 a3, .int .i64 a4, .slice mA mN mC, .string dt, .slice none 0 0, .int .i64 0, .int .i64 0, .string ⟨#[]⟩, .string ⟨#[]⟩, .slice none 0 0, .int .i64 0, .int .i64 0, .bool false, .slice none 0 0, .slice none 0 0, .slice none 0 0])
  have HLM4 := Lib.hid (show LM intE w g (w3.setRow g ([.int .i64 a0, .int .i64 a1, .int .i64 a2, .int .i64 a3, .int .i64 a4, .slice mA mN mC, .string dt, .slice none 0 0, .int .i64 0, .int .i64 0, .string ⟨#[]⟩, .string ⟨#[]⟩, .slice none 0 0, .int .i64 0, .int .i64 0, .bool false, .slice none 0 0, .slice none 0 0, .slice none 0 0] : List Value).toArray) 1 (.slice mA mN mC) ms fm from HLM3.out.set intE_ok _)
  change Calls _ _ _ (w3.setRow g ([.int .i64 a0, .int .i64 a1, .int .i64 a2, .int .i64 a3, .int .i64 a4, .slice mA mN mC, .string dt, .slice none 0 0, .int .i64 0, .int .i64 0, .string ⟨#[]⟩, .string ⟨#[]⟩, .slice none 0 0, .int .i64 0, .int .i64 0, .bool false, .slice none 0 0, .slice none 0 0, .slice none 0 0] : List Value).toArray) _
  generalize w3.setRow g ([.int .i64 a0, .int .i64 a1, .int .i64 a2, .int .i64 a3, .int .i64 a4, .slice mA mN mC, .string dt, .slice none 0 0, .int .i64 0, .int .i64 0, .string ⟨#[]⟩, .string ⟨#[]⟩, .slice none 0 0, .int .i64 0, .int .i64 0, .bool false, .slice none 0 0, .slice none 0 0, .slice none 0 0] : List Value).toArray = w4 at HM4 HLM4 ⊢
  clear HM3 HLM3
  refine (KCE.out _ _ HM4.out.rd HP4.out).mono ?_
  rintro en wl ⟨pl, rfl, hFl, hpl, hkl⟩
  have Ml := HM4.out.call hFl hkl
  have HML := Lib.hid Ml
  have HLML := Lib.hid (HLM4.out.call intE_ok hkl)
  obtain ⟨cs, hcs⟩ : ∃ cs : List Value, [.int .i64 a0, .int .i64 a1, .int .i64 a2, .int .i64 a3, .int .i64 a4, .slice mA mN mC, .string dt, .slice none 0 0, .int .i64 0, .int .i64 0, .string ⟨#[]⟩, .string ⟨#[]⟩, .slice none 0 0, .int .i64 0, .int .i64 0, .bool false, .slice none 0 0, .slice none 0 0, .slice none 0 0] = cs := ⟨_, rfl⟩
  have HCS := Lib.hid hcs
  have HCL := Lib.hid (show cs.length = 19 by rw [← hcs]; rfl)
  have hnil : cs[7]? = some (.slice none 0 0) := by rw [← hcs]; rfl
  rw [hcs] at Ml
  have HB := Lib.hid (show (w.heap.size + 1) < wl.heap.size by have := lt_of_block Ml.box; have := Ml.gt; omega)
  have HG := Lib.hid (lt_of_block Ml.box)
  have HBG := Lib.hid (show (w.heap.size + 1) ≠ g by have := Ml.gt; omega)
  have HSTART := Lib.hid (SubRel.start (E := entryE) (f := entryF) (Te := 38) (sz := 11) (n := n) Ml.rd hpl Ml.box hnil)
  clear Ml hFl hpl hkl hnil hcs HM4 HLM4 HP4 KCE
  go_wp2_with fail
  -- LOOPMARK
  go_loopw [8] (fun iv wr => SubRel entryE entryF (w.heap.size + 1) s 31 g cs 7 wl 38 11 n p1 e1 iv wr) (fun iv _ => n - (intOf iv).toNat)
  case atStart => exact HSTART.out
  case round =>
    obtain ⟨k, pk, acc, rfl, hkn, hacc, hFk, hpk, hbox, hK⟩ := hrel.ex
    clear hrel HSTART
    have hkz : wl.heap.size ≤ wr.heap.size := hK.size
    by_cases hgo : k < n ∧ (getN entryF.get k s.data.toList p1 e1).2.2 = 0
    · obtain ⟨hlt, hz⟩ := hgo
      have hkl : (k : Int) < (n : Int) := by omega
      rcases hgn : getN entryF.get k s.data.toList p1 e1 with ⟨ys, qk, ek⟩
      have hlen := getN_len (entryF).get k s.data.toList p1 e1
      have hsn := getN_snoc (entryF).get k s.data.toList p1 e1
      rw [hgn] at hacc hFk hpk hz hlen hsn
      simp only at hacc hFk hpk hz hlen hsn
      subst hz
      obtain ⟨y, qb, eb, gy⟩ : ∃ aa qq ee, entryF.get s.data.toList qk 0 = (aa, qq, ee) := ⟨_, _, _, eta3 _⟩
      rw [gy] at hsn
      simp only at hsn
      have KY := Lib.hid (fun (W : World) (p : Nat) (hF : FAt W (w.heap.size + 1) s p 0) (hp : 0 = 0 → p = qk) => reftake_entry W (w.heap.size + 1) s p qk 0 hF hp gy)
      have HSN := Lib.hid hsn
      have c2 := hFk.c2
      have HPK := Lib.hid hpk
      clear hgn gy hsn hpk
      go_wp2_with fail
      refine (KY.out _ _ hFk HPK.out).mono ?_
      rintro en w1 ⟨cy, pb, rfl, hfl, _, hEy, hFb, hpb, hkb⟩
      have HPB := Lib.hid hpb
      have hacc1 : AccR (WkE eb entryE) wl w1 38 11 acc ys := sub_call entryE_ok HB.out HBG.out hacc hkb
      have hE1 := sub_elem (c := cy) (y := y) entryE_ok hacc hkz hEy
      have hwb : w1.heap[g]? = some (.cells (cs.set 7 acc).toArray 31 (0, 0)) := (hkb.block _ (lt_of_block hbox) (fun hs => by have hs' : g = (w.heap.size + 1) := hs; have := HBG.out; omega)).trans hbox
      have hK1 : Kept (BG (w.heap.size + 1) g) wl w1 := Kept.trans' hK hkb (fun j _ hj => Or.inl hj)
      have hA : Kept (fun _ => False) w1 (w1.alloc (.cells cy.toArray 38)) := (Kept.refl _ w1).alloc _
      have hacc2 := hacc1.keep (WkE_ok entryE_ok) hA (disj_none _)
      have hE2 := (WkE_ok entryE_ok).keep hE1 hA (disj_none _)
      have hbox2 := (hA.block _ (lt_of_block hwb) id).trans hwb
      have hF2 := hFb.keep hA id
      have hK2 : Kept (BG (w.heap.size + 1) g) wl (w1.alloc (.cells cy.toArray 38)) := Kept.trans' hK1 hA (fun j _ hj => hj.elim)
      have hnew := heap_alloc_new w1 (.cells cy.toArray 38)
      have hwl : wl.heap.size ≤ (w1.alloc (.cells cy.toArray 38)).heap.size := hK2.size
      have hg7 : (cs.set 7 acc)[7]? = some acc := by rw [List.getElem?_set_self (by rw [HCL.out]; decide)]
      have HFL := Lib.hid hfl
      clear hacc hE1 hacc1 hEy hbox hwb hA hK1 hkb hpb hK hFk hFb hfl c2 HPK KY
      generalize hw2 : w1.alloc (.cells cy.toArray 38) = w2 at hacc2 hE2 hbox2 hF2 hK2 hnew hwl
      have c7 : w2.cell? ⟨g, 7, none⟩ = some acc := cell_of_heap hbox2 hg7
      have HRY := Lib.hid (range_row hnew)
      have HBOX := Lib.hid hbox2
      have HW2 := Lib.hid hw2
      have HBZ := Lib.hid (lt_of_block hbox2)
      have hsl := hacc2.isSl
      clear hw2 hnew hbox2 hg7
      go_upto_region 13 with (refine wpList_store_new w1 rfl 38 _ _ rfl _ cy rfl rfl (by rw [HFL.out.1]; exact HSE.out) HFL.out.1.symm HFL.out.2 ?_)
      rw [HW2.out]
      obtain ⟨an0, an1, an2, rfl⟩ := hsl
      go_wp2_with (first
        | (refine wpList_load_mid rfl 38 (.tmp 9) rfl w1.heap.size 0 rfl cy _ HRY.out Tryz.underlying38 rfl (by rw [HFL.out.1]; exact HSE.out) ?_)
        | (refine wpList_one rfl 23 38 (.tmp 63) rfl (.agg cy.toArray) cy rfl rfl i _ Tryz.underlying23 HI.out.1 HI.out.2.1 (by rw [HI.out.2.2.1, HFL.out.1]) (by rw [HFL.out.1]; decide) (by rw [HFL.out.1]; decide) ?_)
        | (at_builtin; go_loud (refine wpList_push (WkE_ok entryE_ok) wl w2 rfl (.tmp 62) (.tmp 64) 23 rfl 38 i _ 11 136 Tryz.underlying23 HI.out.1 HI.out.2.1 HI.out.2.2.1 HI.out.2.2.2 rfl (by decide) (.slice an0 an1 an2) _ hacc2 cy _ hE2 HFL.out rfl rfl (by omega) (by decide) hwl ?_); intro v' w' hacc' hk'; have hslv := hacc'.isSl; obtain ⟨bn0, bn1, bn2, rfl⟩ := hslv; have HBOX' := Lib.hid ((hk'.block _ HBZ.out (fun hs => by have hs' : wl.heap.size ≤ g := hs; have := HG.out; omega)).trans HBOX.out))
        | (refine wpList_store_to rfl 23 (.tmp 66) (.tmp 65) rfl g 7 (.slice bn0 bn1 bn2) rfl rfl rfl (cs.set 7 (.slice an0 an1 an2)) 31 HBOX'.out (by rw [List.length_set, HCL.out]; decide) HSS.out _ rfl _ rfl ?_))
      go_roundw
      case rel => exact SubRel.step entryE_ok HB.out HG.out HBG.out hlt HSN.out hacc' (hF2.keep hk' (fun hs => by have hs' : wl.heap.size ≤ (w.heap.size + 1) := hs; have := HB.out; omega)) HPB.out HBOX'.out (Kept.trans' hK2 hk' (fun j hj hs => by have hs' : wl.heap.size ≤ j := hs; omega))
      case measure => simp [intOf]; omega
    · obtain ⟨hend, hee⟩ := SubRel.out (cs := cs) (T := 31) (g := g) (idx := 7) entryE_ok entryF_ok hgo hkn HH.out hacc hFk hpk hbox hK
      have hex : ¬ k < n ∨ (k < n ∧ e3 ≠ 0) := by rw [hee] at hgo; omega
      have HEX := Lib.hid hex
      have HEND := Lib.hid hend
      have c2 := hend.rd.c2
      clear hgo hee hex hacc hFk hpk hbox hK hend hkz
      go_upto_region 10 with fail
      go_cut [56] (fun v wx => v = .bool false ∧ wx = wr)
      case first =>
        rcases HEX.out with hlt | ⟨hlt, hne⟩
        · have hkl : ¬ (k : Int) < (n : Int) := by omega
          go_wp2_with fail
          go_meet
          exact ⟨rfl, rfl⟩
        · have hkl : (k : Int) < (n : Int) := by omega
          have hneb : (((e3 : Nat) : Int) == 0) = false := by simpa using hne
          go_wp2_with fail
          go_meet
          exact ⟨rfl, rfl⟩
      case rest =>
      obtain ⟨rfl, rfl⟩ := hcut
      clear c2 HEX
      obtain ⟨eA, eN, eC, rfl⟩ := HEND.out.shape
      have hC3 : cs.set 7 (.slice eA eN eC) = [.int .i64 a0, .int .i64 a1, .int .i64 a2, .int .i64 a3, .int .i64 a4, .slice mA mN mC, .string dt, .slice eA eN eC, .int .i64 0, .int .i64 0, .string ⟨#[]⟩, .string ⟨#[]⟩, .slice none 0 0, .int .i64 0, .int .i64 0, .bool false, .slice none 0 0, .slice none 0 0, .slice none 0 0] := by rw [← HCS.out]; rfl
      have hbx := HEND.out.box
      rw [hC3] at hbx
      have M5 : MB w s g 31 [.int .i64 0, .int .i64 0, .int .i64 0, .int .i64 0, .int .i64 0, .slice none 0 0, .string ⟨#[]⟩, .slice none 0 0, .int .i64 0, .int .i64 0, .string ⟨#[]⟩, .string ⟨#[]⟩, .slice none 0 0, .int .i64 0, .int .i64 0, .bool false, .slice none 0 0, .slice none 0 0, .slice none 0 0] wc [.int .i64 a0, .int .i64 a1, .int .i64 a2, .int .i64 a3, .int .i64 a4, .slice mA mN mC, .string dt, .slice eA eN eC, .int .i64 0, .int .i64 0, .string ⟨#[]⟩, .string ⟨#[]⟩, .slice none 0 0, .int .i64 0, .int .i64 0, .bool false, .slice none 0 0, .slice none 0 0, .slice none 0 0] pk e3 := ⟨HEND.out.rd, HML.out.old.step HEND.out.kept (fun k hk => by have := HML.out.gt; rcases hk with hk | hk <;> omega), (HEND.out.kept.block _ (lt_of_block HML.out.res) (fun hs => by have := HML.out.gt; rcases hs with hs | hs <;> omega)).trans HML.out.res, hbx, HML.out.gt⟩
      have HM5 := Lib.hid M5
      have HP5 := Lib.hid HEND.out.pos
      have HLM5 := Lib.hid (HLML.out.both intE_ok HEND.out.kept)
      have HLE5 := Lib.hid (show LM entryE w g wc 11 (.slice eA eN eC) xs e3 from ⟨⟨_, _, _, rfl⟩, fun h0 => (HEND.out.list h0).mono entryE_ok (fun k _ hk => HML.out.new hk)⟩)
      clear M5 hbx hC3 HEND HML HLML HCS HCL HH HB HG HBG
      go_wp2_with fail
      refine (KRQ.out _ _ HM5.out.rd HP5.out).mono ?_
      rintro en w6 ⟨cr, p6, rfl, hfl, _, hER, hF6, hp6, hk6⟩
      obtain ⟨r0, r1, r2, r3, r4, r5, r6, r7, r8, r9, rfl⟩ := split_req hfl.1
      have HM6 := Lib.hid (HM5.out.call hF6 hk6)
      have HLM6 := Lib.hid (HLM5.out.call intE_ok hk6)
      have HLE6 := Lib.hid (HLE5.out.call entryE_ok hk6)
      have HRQ6 := Lib.hid (show WkE e4 reqE w6 (OkM w g) [r0, r1, r2, r3, r4, r5, r6, r7, r8, r9] rq from (WkE_ok reqE_ok).mono hER (fun k _ hk => HM5.out.new hk))
      have HP6 := Lib.hid hp6
      have HONE := Lib.hid hfl.2
      have HTEN := Lib.hid (setCells_ten (v0 := r0) (v1 := r1) (v2 := r2) (v3 := r3) (v4 := r4) (v5 := r5) (v6 := r6) (v7 := r7) (v8 := r8) (v9 := r9) HM6.out.box)
      have HTH := Lib.hid (show w6.there g 8 10 from fun j hj => by
        have hc := cell_of_row w6 g (8 + j) _ _ (0, 0) HM6.out.box
        exact ⟨by rw [hc]; simp; omega, by simp [World.frozen?, HM6.out.box]⟩)
      clear hfl hER hF6 hp6 hk6 HM5 HLM5 HLE5 HP5 KRQ
      go_wp2_with (refine wpList_store_over rfl 28 (.tmp 69) (.tmp 68) rfl g 8 [r0, r1, r2, r3, r4, r5, r6, r7, r8, r9] 10 rfl rfl HTH.out rfl HSR.out HONE.out _ HTEN.out ?_)
      have HM7 := Lib.hid (show MB w s g 31 [.int .i64 0, .int .i64 0, .int .i64 0, .int .i64 0, .int .i64 0, .slice none 0 0, .string ⟨#[]⟩, .slice none 0 0, .int .i64 0, .int .i64 0, .string ⟨#[]⟩, .string ⟨#[]⟩, .slice none 0 0, .int .i64 0, .int .i64 0, .bool false, .slice none 0 0, .slice none 0 0, .slice none 0 0] (w6.setRow g ([.int .i64 a0, .int .i64 a1, .int .i64 a2, .int .i64 a3, .int .i64 a4, .slice mA mN mC, .string dt, .slice eA eN eC, r0, r1, r2, r3, r4, r5, r6, r7, r8, r9, .slice none 0 0] : List Value).toArray) [.int .i64 a0, .int .i64 a1, .int .i64 a2, .int .i64 a3, .int .i64 a4, .slice mA mN mC, .string dt, .slice eA eN eC, r0, r1, r2, r3, r4, r5, r6, r7, r8, r9, .slice none 0 0] p6 e4 from HM6.out.set [.int .i64 a0, .int .i64 a1, .int .i64 a2, .int .i64 a3, .int .i64 a4, .slice mA mN mC, .string dt, .slice eA eN eC, r0, r1, r2, r3, r4, r5, r6, r7, r8, r9, .slice none 0 0])
      have HLM7 := Lib.hid (show LM intE w g (w6.setRow g ([.int .i64 a0, .int .i64 a1, .int .i64 a2, .int .i64 a3, .int .i64 a4, .slice mA mN mC, .string dt, .slice eA eN eC, r0, r1, r2, r3, r4, r5, r6, r7, r8, r9, .slice none 0 0] : List Value).toArray) 1 (.slice mA mN mC) ms fm from HLM6.out.set intE_ok _)
      have HLE7 := Lib.hid (show LM entryE w g (w6.setRow g ([.int .i64 a0, .int .i64 a1, .int .i64 a2, .int .i64 a3, .int .i64 a4, .slice mA mN mC, .string dt, .slice eA eN eC, r0, r1, r2, r3, r4, r5, r6, r7, r8, r9, .slice none 0 0] : List Value).toArray) 11 (.slice eA eN eC) xs e3 from HLE6.out.set entryE_ok _)
      have HRQ7 := Lib.hid (show WkE e4 reqE (w6.setRow g ([.int .i64 a0, .int .i64 a1, .int .i64 a2, .int .i64 a3, .int .i64 a4, .slice mA mN mC, .string dt, .slice eA eN eC, r0, r1, r2, r3, r4, r5, r6, r7, r8, r9, .slice none 0 0] : List Value).toArray) (OkM w g) [r0, r1, r2, r3, r4, r5, r6, r7, r8, r9] rq from (WkE_ok reqE_ok).keep HRQ6.out (setRow_kept _ _ _) (okm_box w g))
      generalize w6.setRow g ([.int .i64 a0, .int .i64 a1, .int .i64 a2, .int .i64 a3, .int .i64 a4, .slice mA mN mC, .string dt, .slice eA eN eC, r0, r1, r2, r3, r4, r5, r6, r7, r8, r9, .slice none 0 0] : List Value).toArray = w7 at HM7 HLM7 HLE7 HRQ7 ⊢
      clear HM6 HLM6 HLE6 HRQ6 HTEN HTH
      refine (KIDS.out _ _ HM7.out.rd HP6.out).mono ?_
      rintro en w8 ⟨iv, p8, rfl, hsl, hLI, hF8, hp8, hk8⟩
      obtain ⟨iA, iN, iC, rfl⟩ := hsl
      have HM8 := Lib.hid (HM7.out.call hF8 hk8)
      have HLM8 := Lib.hid (HLM7.out.call intE_ok hk8)
      have HLE8 := Lib.hid (HLE7.out.call entryE_ok hk8)
      have HRQ8 := Lib.hid ((WkE_ok reqE_ok).keep HRQ7.out hk8 (okm_rs w g))
      have HLI8 := Lib.hid (show LM textE w g w8 1 (.slice iA iN iC) tx e5 from LM.mk' textE_ok HM7.out ⟨_, _, _, rfl⟩ hLI)
      have HP8 := Lib.hid hp8
      clear hLI hF8 hp8 hk8 HM7 HLM7 HLE7 HRQ7 HP6 KIDS
      go_wp2_with (refine wpList_store_to rfl 29 (.tmp 72) (.tmp 71) rfl g 18 (.slice iA iN iC) rfl rfl rfl [.int .i64 a0, .int .i64 a1, .int .i64 a2, .int .i64 a3, .int .i64 a4, .slice mA mN mC, .string dt, .slice eA eN eC, r0, r1, r2, r3, r4, r5, r6, r7, r8, r9, .slice none 0 0] 31 HM8.out.box (by simp) HSL.out _ rfl _ rfl ?_)
      have HM9 := Lib.hid (show MB w s g 31 [.int .i64 0, .int .i64 0, .int .i64 0, .int .i64 0, .int .i64 0, .slice none 0 0, .string ⟨#[]⟩, .slice none 0 0, .int .i64 0, .int .i64 0, .string ⟨#[]⟩, .string ⟨#[]⟩, .slice none 0 0, .int .i64 0, .int .i64 0, .bool false, .slice none 0 0, .slice none 0 0, .slice none 0 0] (w8.setRow g ([.int .i64 a0, .int .i64 a1, .int .i64 a2, .int .i64 a3, .int .i64 a4, .slice mA mN mC, .string dt, .slice eA eN eC, r0, r1, r2, r3, r4, r5, r6, r7, r8, r9, .slice iA iN iC] : List Value).toArray) [.int .i64 a0, .int .i64 a1, .int .i64 a2, .int .i64 a3, .int .i64 a4, .slice mA mN mC, .string dt, .slice eA eN eC, r0, r1, r2, r3, r4, r5, r6, r7, r8, r9, .slice iA iN iC] p8 e5 from HM8.out.set [.int .i64 a0, .int .i64 a1, .int .i64 a2, .int .i64 a3, .int .i64 a4, .slice mA mN mC, .string dt, .slice eA eN eC, r0, r1, r2, r3, r4, r5, r6, r7, r8, r9, .slice iA iN iC])
      have HLM9 := Lib.hid (show LM intE w g (w8.setRow g ([.int .i64 a0, .int .i64 a1, .int .i64 a2, .int .i64 a3, .int .i64 a4, .slice mA mN mC, .string dt, .slice eA eN eC, r0, r1, r2, r3, r4, r5, r6, r7, r8, r9, .slice iA iN iC] : List Value).toArray) 1 (.slice mA mN mC) ms fm from HLM8.out.set intE_ok _)
      have HLE9 := Lib.hid (show LM entryE w g (w8.setRow g ([.int .i64 a0, .int .i64 a1, .int .i64 a2, .int .i64 a3, .int .i64 a4, .slice mA mN mC, .string dt, .slice eA eN eC, r0, r1, r2, r3, r4, r5, r6, r7, r8, r9, .slice iA iN iC] : List Value).toArray) 11 (.slice eA eN eC) xs e3 from HLE8.out.set entryE_ok _)
      have HLI9 := Lib.hid (show LM textE w g (w8.setRow g ([.int .i64 a0, .int .i64 a1, .int .i64 a2, .int .i64 a3, .int .i64 a4, .slice mA mN mC, .string dt, .slice eA eN eC, r0, r1, r2, r3, r4, r5, r6, r7, r8, r9, .slice iA iN iC] : List Value).toArray) 1 (.slice iA iN iC) tx e5 from HLI8.out.set textE_ok _)
      have HRQ9 := Lib.hid (show WkE e4 reqE (w8.setRow g ([.int .i64 a0, .int .i64 a1, .int .i64 a2, .int .i64 a3, .int .i64 a4, .slice mA mN mC, .string dt, .slice eA eN eC, r0, r1, r2, r3, r4, r5, r6, r7, r8, r9, .slice iA iN iC] : List Value).toArray) (OkM w g) [r0, r1, r2, r3, r4, r5, r6, r7, r8, r9] rq from (WkE_ok reqE_ok).keep HRQ8.out (setRow_kept _ _ _) (okm_box w g))
      change Calls _ _ _ (w8.setRow g ([.int .i64 a0, .int .i64 a1, .int .i64 a2, .int .i64 a3, .int .i64 a4, .slice mA mN mC, .string dt, .slice eA eN eC, r0, r1, r2, r3, r4, r5, r6, r7, r8, r9, .slice iA iN iC] : List Value).toArray) _
      generalize w8.setRow g ([.int .i64 a0, .int .i64 a1, .int .i64 a2, .int .i64 a3, .int .i64 a4, .slice mA mN mC, .string dt, .slice eA eN eC, r0, r1, r2, r3, r4, r5, r6, r7, r8, r9, .slice iA iN iC] : List Value).toArray = w9 at HM9 HLM9 HLE9 HRQ9 HLI9 ⊢
      clear HM8 HLM8 HLE8 HRQ8 HLI8
      refine (KE.out _ _ _ HM9.out.rd HP8.out).mono ?_
      rintro en wz ⟨pz, rfl, hFz, hpz, hkz⟩
      have HMZ := Lib.hid (HM9.out.call hFz hkz)
      have HLMZ := Lib.hid (HLM9.out.call intE_ok hkz)
      have HLEZ := Lib.hid (HLE9.out.call entryE_ok hkz)
      have HLIZ := Lib.hid (HLI9.out.call textE_ok hkz)
      have HRQZ := Lib.hid ((WkE_ok reqE_ok).keep HRQ9.out hkz (okm_rs w g))
      clear hFz hpz hkz HM9 HLM9 HLE9 HRQ9 HLI9 HP8 KE
      by_cases h0 : r = 0
      · have hrd : ro = some ⟨a0, a1, a2, a3, a4, ms, dt, xs, rq, tx⟩ := by rw [HREAD.out, if_pos h0]
        have HRD := Lib.hid hrd; clear hrd
        have HE5 := Lib.hid (HE0.out h0)
        have h0' : ((r : Nat) : Int) = 0 := by omega
        generalize ((r : Nat) : Int) = ri at h0'
        subst h0'
        clear h0 HREAD HE0
        have HRG := Lib.hid (range_row HMZ.out.box)
        have HONE2 := Lib.hid (show ∀ v ∈ ([.int .i64 a0, .int .i64 a1, .int .i64 a2, .int .i64 a3, .int .i64 a4, .slice mA mN mC, .string dt, .slice eA eN eC, r0, r1, r2, r3, r4, r5, r6, r7, r8, r9, .slice iA iN iC] : List Value), v.oneCell' = true from fun v hv => by
          have h := HONE.out
          simp only [List.mem_cons, List.not_mem_nil, or_false] at hv h
          rcases hv with rfl | rfl | rfl | rfl | rfl | rfl | rfl | rfl | hv | hv | hv | hv | hv | hv | hv | hv | hv | hv | rfl
          all_goals first | rfl | (subst hv; exact h _ (by simp)))
        go_wp2_with (first
          | (refine wpList_load_mid rfl 31 (.tmp 6) rfl g 0 rfl [.int .i64 a0, .int .i64 a1, .int .i64 a2, .int .i64 a3, .int .i64 a4, .slice mA mN mC, .string dt, .slice eA eN eC, r0, r1, r2, r3, r4, r5, r6, r7, r8, r9, .slice iA iN iC] _ HRG.out Tryz.underlying31 rfl HSM.out ?_)
          | (refine wpList_store_row _ rfl 31 (.tmp 2) (.tmp 77) rfl w.heap.size _ [.int .i64 a0, .int .i64 a1, .int .i64 a2, .int .i64 a3, .int .i64 a4, .slice mA mN mC, .string dt, .slice eA eN eC, r0, r1, r2, r3, r4, r5, r6, r7, r8, r9, .slice iA iN iC] rfl rfl HMZ.out.res HSM.out rfl HONE2.out ?_))
        have hrow := setRow_heap wz w.heap.size _ ([.int .i64 a0, .int .i64 a1, .int .i64 a2, .int .i64 a3, .int .i64 a4, .slice mA mN mC, .string dt, .slice eA eN eC, r0, r1, r2, r3, r4, r5, r6, r7, r8, r9, .slice iA iN iC] : List Value).toArray _ _ HMZ.out.res
        have hload := run_loadVar_row (P := Tryz.prog) _ w.heap.size 31 31 _ (0, 0) _ hrow Tryz.underlying31 rfl HSM.out
        refine ret_cell_tmp 2 31 3 w.heap.size _ _ Tryz.results27 rfl rfl hload rfl ⟨_, by rw [HRD.out]; rfl, old_setRow HMZ.out.old _, ?_⟩
        rw [HRD.out]
        have z4 := HZ1.out HE5.out
        have z3 := HZ2.out z4
        have zd := HZ3.out z3
        have zm := HZ4.out zd
        have hq := reqE_ok.mono (reqE_ok.keep (HRQZ.out z4) (setRow_kept wz w.heap.size ([.int .i64 a0, .int .i64 a1, .int .i64 a2, .int .i64 a3, .int .i64 a4, .slice mA mN mC, .string dt, .slice eA eN eC, r0, r1, r2, r3, r4, r5, r6, r7, r8, r9, .slice iA iN iC] : List Value).toArray) (okm_res w g)) (ok' := New w) (fun k _ hk => by have hk' : w.heap.size + 2 ≤ k := hk.1; unfold New; omega)
        exact ⟨_, _, [r0, r1, r2, r3, r4, r5, r6, r7, r8, r9], _, rfl, HLMZ.out.fin intE_ok _ zm, HLEZ.out.fin entryE_ok _ z3, hq, HLIZ.out.fin textE_ok _ HE5.out, HJ.out.1, HJ.out.2.1, HJ.out.2.2.1, HJ.out.2.2.2.1, HJ.out.2.2.2.2.1, HJ.out.2.2.2.2.2⟩
      · have hrd : ro = none := by rw [HREAD.out, if_neg h0]
        have HRD := Lib.hid hrd; clear hrd
        have h0' : ¬ ((r : Nat) : Int) = 0 := by omega
        generalize ((r : Nat) : Int) = ri at h0'
        clear h0 HREAD HE0
        go_wp2_with (refine wpList_store_row _ rfl 31 _ _ rfl w.heap.size _ [.int .i64 0, .int .i64 0, .int .i64 0, .int .i64 0, .int .i64 0, .slice none 0 0, .string ⟨#[]⟩, .slice none 0 0, .int .i64 0, .int .i64 0, .string ⟨#[]⟩, .string ⟨#[]⟩, .slice none 0 0, .int .i64 0, .int .i64 0, .bool false, .slice none 0 0, .slice none 0 0, .slice none 0 0] rfl rfl HMZ.out.res HSM.out rfl (by simp [Value.oneCell']) ?_)
        have hrow := setRow_heap wz w.heap.size _ ([.int .i64 0, .int .i64 0, .int .i64 0, .int .i64 0, .int .i64 0, .slice none 0 0, .string ⟨#[]⟩, .slice none 0 0, .int .i64 0, .int .i64 0, .string ⟨#[]⟩, .string ⟨#[]⟩, .slice none 0 0, .int .i64 0, .int .i64 0, .bool false, .slice none 0 0, .slice none 0 0, .slice none 0 0] : List Value).toArray _ _ HMZ.out.res
        have hload := run_loadVar_row (P := Tryz.prog) _ w.heap.size 31 31 _ (0, 0) _ hrow Tryz.underlying31 rfl HSM.out
        exact ret_cell_tmp 2 31 3 w.heap.size _ _ Tryz.results27 rfl rfl hload rfl ⟨_, by rw [HRD.out]; rfl, old_setRow HMZ.out.old _, by rw [HRD.out]; exact zMessage_at _ _⟩
end Go.Proofs.YtpmemcpfoapjmaaGreat
