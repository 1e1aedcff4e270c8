/- The right mark of the greater count, as the log seeks it. -/
import Derived.Test.YtmfngbgdmlnlcaaJkd
import Derived.Test.YtmfngbgdmlnlcaaJx
namespace Go.Proofs.Ytmfngbgdmlnlcaa
open Go.ChangeShapes Go.WideShapes Go.ChangeAt Go.RowKit
set_option linter.unusedVariables false
set_option linter.unusedSimpArgs false
def MZ.six (z : MZ) : List Value := [.int .i64 z.c, .int .i64 z.ar, .int .i64 z.le, .int .i64 z.nu, .int .i64 z.a, .int .i64 z.b]
def lastK (S : Nat → List UInt8) (space : Int) : Nat → MZ
  | 0 => zeroM
  | k + 1 => lastOne (lastK S space k) (S k) k space
theorem lastK_two (S : Nat → List UInt8) (space : Int) : lastK S space 2 = lastZ (S 0) (S 1) space := rfl
theorem last_at2 (W : World) (o : Obj) (k : Nat) (h : k = W.heap.size) : (W.alloc o).heap[k]? = some o := by subst h; exact heap_alloc_last W o
structure LmRel (w : World) (S : Nat → List UInt8) (space : Int) (nv : Value) (wr : World) : Prop where
  ex : ∃ k : Nat, k ≤ 2 ∧ nv = .int .i64 k ∧ wr.heap[w.heap.size]? = some (.cells #[.int .i64 0, .int .i64 0, .int .i64 0, .int .i64 0, .int .i64 0, .int .i64 0] 73 (0, 0)) ∧ wr.heap[w.heap.size + 1]? = some (.cells (lastK S space k).six.toArray 73 (0, 0)) ∧ Kept (fun _ => False) w wr
section
variable {Z : Nat → Prop} {w w' : World} {lb db sb mb nn : Nat} {g : LSt} {d : DSt}
theorem Wl.len (h : Wl Z w lb db g d) : ∀ i, i < d.n → (d.S i).length = 64 := by
  obtain ⟨sb, mb, nn, rv, hD, _⟩ := h.ex
  exact hD.sec.len
set_option maxRecDepth 100000 in
set_option maxHeartbeats 4000000 in
theorem lastmark_any (h : Wl Z w lb db g d) (hd : d.dead = false) : Calls Try.prog 59 #[.pointer (some ⟨lb, 0, none⟩)] w fun e w' =>
    e = .returned (.tuple #[.agg (lastZ (d.S 0) (d.S 1) (spaceN d)).six.toArray, .int .i64 0]) ∧ Kept (fun _ => False) w w' := by
  have HH := Lib.hid h
  have HD := Lib.hid hd
  clear h hd
  go_enter Try.func59, Try.ntmps59
  go_wp2_with fail
  go_loopw [10] (fun nv wr => LmRel w d.S (spaceN d) nv wr) (fun nv _ => 2 - (Go.RowKit.intOf nv).toNat)
  case atStart =>
    refine ⟨0, by omega, rfl, ?_, ?_, (((Kept.refl _ w).alloc _).alloc _)⟩
    · rw [Below.heap_alloc _ _ _ (by simp)]; exact heap_alloc_new w _
    · exact last_at2 _ _ _ (by simp)
  case round =>
    obtain ⟨k, hk, rfl, hb, hb2, hkp⟩ := hrel.ex
    clear hrel
    by_cases hlt : k < 2
    · have hw := HH.out.kept0 hkp
      have c0 : wr.cell? ⟨lb, 0, none⟩ = some (.pointer (some ⟨db, 0, none⟩)) := by obtain ⟨sb, mb, nn, rv, hD, hL, _, _⟩ := hw.ex; exact hL.cell 0
      have hkn : k < d.n := by have := hw.hi; omega
      have hrd := readD_in hkn HD.out
      have hlen := hw.len k hkn
      obtain ⟨s, hs⟩ : ∃ s : ByteArray, (⟨(d.S k).toArray⟩ : ByteArray) = s := ⟨_, rfl⟩
      have hsl : s.data.toList = d.S k := by rw [← hs]
      have hs64 : s.size = 64 := by rw [← list_size, hsl]; exact hlen
      have HRD := Lib.hid (wl_read hw (k : Int) (s := s) (v := 0) (by rw [hrd]; exact hs) (by rw [hrd]))
      have HMI := Lib.hid (fun V => markin_any s V hs64)
      have HSL := Lib.hid hsl
      obtain ⟨z, hz⟩ : ∃ z, markIn s.data.toList = z := ⟨_, rfl⟩
      have hzin : z.In := by rw [← hz]; exact markIn_in _
      rw [hz] at HMI
      have HZI := Lib.hid hzin
      obtain ⟨y, hy⟩ : ∃ y, lastK d.S (spaceN d) k = y := ⟨_, rfl⟩
      rw [hy] at hb2
      obtain ⟨rb, hrb⟩ : ∃ rb, rightZ z s.data.toList (k : Int) (spaceN d) = rb := ⟨_, rfl⟩
      have HNX : Hid (lastK d.S (spaceN d) (k + 1) = if rb = true ∧ y.c < z.c then z else y) := Lib.hid (by
        show lastOne (lastK d.S (spaceN d) k) (d.S k) k (spaceN d) = _
        rw [hy]
        unfold lastOne
        rw [← rightZ_eq, ← hsl, hz, hrb])
      have HRT : Hid (∀ V, Calls Try.prog 72 #[.agg #[.int .i64 z.c, .int .i64 z.ar, .int .i64 z.le, .int .i64 z.nu, .int .i64 z.a, .int .i64 z.b], .string s, .int .i64 (k : Int), .int .i64 (spaceN d)] V fun e w' => e = .returned (.bool rb) ∧ Kept (fun _ => False) V w') := Lib.hid (fun V => by
        have := right_any z HZI.out s (k : Int) (spaceN d) V
        rw [hrb] at this; exact this)
      have hl2 : wr.heap[w.heap.size + 1]? = some (.cells #[.int .i64 y.c, .int .i64 y.ar, .int .i64 y.le, .int .i64 y.nu, .int .i64 y.a, .int .i64 y.b] 73 (0, 0)) := hb2
      have HB := Lib.hid hb
      have HL := Lib.hid hl2
      have HK := Lib.hid hkp
      clear hw hrd hlen hs hsl hz hzin hy hrb hb hb2 hl2 hkp hkn
      go_wp2_with fail
      refine HRD.out.mono ?_
      rintro e w1 ⟨rfl, rfl⟩
      go_wp2_with fail
      refine (HMI.out _).mono ?_
      rintro e w2 ⟨rfl, hk2⟩
      have HK2 := Lib.hid (HK.out.trans hk2)
      have HB2 : Hid (w2.heap[w.heap.size]? = _) := Lib.hid ((hk2.block _ (lt_of_block HB.out) id).trans HB.out)
      have HL2 : Hid (w2.heap[w.heap.size + 1]? = _) := Lib.hid ((hk2.block _ (lt_of_block HL.out) id).trans HL.out)
      clear hk2 HB HL HK c0 HRD
      go_wp2_with fail
      have hW2 := HH.out.kept0 HK2.out
      have hb4 : (w2.alloc (.cells #[.int .i64 z.c, .int .i64 z.ar, .int .i64 z.le, .int .i64 z.nu, .int .i64 z.a, .int .i64 z.b] 73)).heap[w2.heap.size]? = some (.cells #[.int .i64 z.c, .int .i64 z.ar, .int .i64 z.le, .int .i64 z.nu, .int .i64 z.a, .int .i64 z.b] 73 (0, 0)) := heap_alloc_new w2 _
      have hkk : Kept (fun _ => False) w2 (w2.alloc (.cells #[.int .i64 z.c, .int .i64 z.ar, .int .i64 z.le, .int .i64 z.nu, .int .i64 z.a, .int .i64 z.b] 73)) := (Kept.refl _ w2).alloc _
      have hl4 := (hkk.block _ (lt_of_block HL2.out) id).trans HL2.out
      have hB4 := (hkk.block _ (lt_of_block HB2.out) id).trans HB2.out
      have hk4 := HK2.out.trans hkk
      have hw4 := hW2.kept0 hkk
      have hne : w.heap.size + 1 < w2.heap.size := lt_of_block HL2.out
      obtain ⟨mbx, hmbx⟩ : ∃ mbx, w2.heap.size = mbx := ⟨_, rfl⟩
      rw [hmbx] at hb4 hne
      rw [hmbx]
      clear hW2 hkk HB2 HL2 HK2 hmbx
      generalize (w2.alloc (.cells #[.int .i64 z.c, .int .i64 z.ar, .int .i64 z.le, .int .i64 z.nu, .int .i64 z.a, .int .i64 z.b] 73)) = w4 at hb4 hl4 hk4 hB4 hw4 ⊢
      have HSPC := Lib.hid (fun n => space_any (hw4.drewN n))
      replace hw4 := hw4.kept0 ((Kept.refl _ w4).drew)
      replace hb4 : w4.drew.heap[mbx]? = _ := hb4
      replace hl4 : w4.drew.heap[w.heap.size + 1]? = _ := hl4
      replace hB4 : w4.drew.heap[w.heap.size]? = _ := hB4
      replace hk4 : Kept (fun _ => False) w w4.drew := hk4.drew
      obtain ⟨c0, c1, c2, c3, c4, c5, ff⟩ := six_of hb4
      clear ff
      obtain ⟨l0, _, _, _, _, _, ff⟩ := six_of hl4
      clear ff
      cases rb
      · have HN : Hid (lastK d.S (spaceN d) (k + 1) = y) := Lib.hid (by rw [HNX.out, if_neg (by simp)])
        refine wp_region_held_drew (S := (fun w' : World => w'.cell? ⟨mbx, 0, none⟩ = some (.int .i64 z.c) ∧ w'.cell? ⟨mbx, 1, none⟩ = some (.int .i64 z.ar) ∧ w'.cell? ⟨mbx, 2, none⟩ = some (.int .i64 z.le) ∧ w'.cell? ⟨mbx, 3, none⟩ = some (.int .i64 z.nu) ∧ w'.cell? ⟨mbx, 4, none⟩ = some (.int .i64 z.a) ∧ w'.cell? ⟨mbx, 5, none⟩ = some (.int .i64 z.b) ∧ w'.cell? ⟨w.heap.size + 1, 0, none⟩ = some (.int .i64 y.c))) (by kernel_rfl) ⟨c0, c1, c2, c3, c4, c5, l0⟩ (fun hHeld => ?_)
        refine wpAnyH_take (i := 0) (oi := _) (v := .agg #[.int .i64 z.c, .int .i64 z.ar, .int .i64 z.le, .int .i64 z.nu, .int .i64 z.a, .int .i64 z.b]) rfl (by kernel_rfl) (by kernel_rfl) (by kernel_rfl) (fun _ _ _ h => h) (Or.inl ⟨by rfl, ?_⟩) hHeld ?_
        · intro ws hSw; (try dsimp only at hSw); go_simp; (try with_reducible rfl)
        try simp only [Act.put, List.setIfInBounds_toArray, List.set_cons_zero, List.set_cons_succ]
        refine wpAnyH_take (i := 1) (oi := _) (v := .string s) rfl (by kernel_rfl) (by kernel_rfl) (by kernel_rfl) (fun _ _ _ h => h) (Or.inl ⟨by rfl, ?_⟩) hHeld ?_
        · intro ws hSw; (try dsimp only at hSw); go_simp; (try with_reducible rfl)
        try simp only [Act.put, List.setIfInBounds_toArray, List.set_cons_zero, List.set_cons_succ]
        refine wpAnyH_take (i := 2) (oi := _) (v := .int .i64 k) rfl (by kernel_rfl) (by kernel_rfl) (by kernel_rfl) (fun _ _ _ h => h) (Or.inl ⟨by rfl, ?_⟩) hHeld ?_
        · intro ws hSw; (try dsimp only at hSw); go_simp; (try with_reducible rfl)
        try simp only [Act.put, List.setIfInBounds_toArray, List.set_cons_zero, List.set_cons_succ]
        refine wpAnyH_take (i := 3) (oi := _) (v := .pointer (some ⟨lb, 0, none⟩)) rfl (by kernel_rfl) (by kernel_rfl) (by kernel_rfl) (fun _ _ _ h => h) (Or.inl ⟨by rfl, ?_⟩) hHeld ?_
        · intro ws hSw; (try dsimp only at hSw); go_simp; (try with_reducible rfl)
        try simp only [Act.put, List.setIfInBounds_toArray, List.set_cons_zero, List.set_cons_succ]
        refine wpAnyH_ready (rs := [4]) (by kernel_rfl) (by simp) ?_
        refine AllReadyH.cons (o := _) rfl (fun K hK => ?_) AllReadyH.nil
        go_simp
        refine (space_any hw4).mono ?_
        rintro e w5 ⟨rfl, rfl⟩
        go_wp2_with fail
        refine hK.out _ _ ?_ (fun hHeld2 => ?_)
        · exact ⟨c0, c1, c2, c3, c4, c5, l0⟩
        clear hK K
        try simp only [Act.put, List.setIfInBounds_toArray, List.set_cons_zero, List.set_cons_succ]
        refine wpAnyH_ready (rs := [5]) (by kernel_rfl) (by simp) ?_
        refine AllReadyH.cons (o := _) rfl (fun K hK => ?_) AllReadyH.nil
        go_simp
        refine (HRT.out _).mono ?_
        rintro e w5 ⟨rfl, hk5⟩
        replace hb4 := (hk5.block _ (lt_of_block hb4) id).trans hb4
        replace hl4 := (hk5.block _ (lt_of_block hl4) id).trans hl4
        replace hB4 := (hk5.block _ (lt_of_block hB4) id).trans hB4
        replace hk4 := hk4.trans hk5
        replace hw4 := hw4.kept0 hk5
        clear hk5 c0 c1 c2 c3 c4 c5 l0
        obtain ⟨c0, c1, c2, c3, c4, c5, ff⟩ := six_of hb4
        clear ff
        obtain ⟨l0, l1, l2, l3, l4, l5, ff⟩ := six_of hl4
        clear ff
        go_wp2_with fail
        refine hK.out _ _ ?_ (fun hHeld3 => ?_)
        · exact ⟨c0, c1, c2, c3, c4, c5, l0⟩
        clear hK K
        try simp only [Act.put, List.setIfInBounds_toArray, List.set_cons_zero, List.set_cons_succ]
        refine wpAnyH_take (i := 6) (oi := _) (v := .bool false) rfl (by kernel_rfl) (by kernel_rfl) (by kernel_rfl) (fun _ _ _ h => h) (Or.inl ⟨by rfl, ?_⟩) hHeld3 ?_
        · intro ws hSw; (try dsimp only at hSw); go_simp; (try with_reducible rfl)
        try simp only [Act.put, List.setIfInBounds_toArray, List.set_cons_zero, List.set_cons_succ]
        refine wpAnyH_take (i := 7) (oi := _) (v := undef) rfl (by kernel_rfl) (by kernel_rfl) (by kernel_rfl) (fun _ _ _ h => h) (Or.inr ⟨by rfl, rfl⟩) hHeld3 ?_
        try simp only [Act.put, List.setIfInBounds_toArray, List.set_cons_zero, List.set_cons_succ]
        refine wpAnyH_take (i := 8) (oi := _) (v := undef) rfl (by kernel_rfl) (by kernel_rfl) (by kernel_rfl) (fun _ _ _ h => h) (Or.inr ⟨by rfl, rfl⟩) hHeld3 ?_
        try simp only [Act.put, List.setIfInBounds_toArray, List.set_cons_zero, List.set_cons_succ]
        refine wpAnyH_take (i := 9) (oi := _) (v := undef) rfl (by kernel_rfl) (by kernel_rfl) (by kernel_rfl) (fun _ _ _ h => h) (Or.inr ⟨by rfl, rfl⟩) hHeld3 ?_
        try simp only [Act.put, List.setIfInBounds_toArray, List.set_cons_zero, List.set_cons_succ]
        refine wpAnyH_take (i := 10) (oi := _) (v := undef) rfl (by kernel_rfl) (by kernel_rfl) (by kernel_rfl) (fun _ _ _ h => h) (Or.inr ⟨by rfl, rfl⟩) hHeld3 ?_
        try simp only [Act.put, List.setIfInBounds_toArray, List.set_cons_zero, List.set_cons_succ]
        refine wpAnyH_take (i := 11) (oi := _) (v := undef) rfl (by kernel_rfl) (by kernel_rfl) (by kernel_rfl) (fun _ _ _ h => h) (Or.inr ⟨by rfl, rfl⟩) hHeld3 ?_
        try simp only [Act.put, List.setIfInBounds_toArray, List.set_cons_zero, List.set_cons_succ]
        refine wpAnyH_take (i := 12) (oi := _) (v := .bool false) rfl (by kernel_rfl) (by kernel_rfl) (by kernel_rfl) (fun _ _ _ h => h) (Or.inl ⟨by rfl, ?_⟩) hHeld3 ?_
        · intro ws hSw; (try dsimp only at hSw); go_simp; (try with_reducible rfl)
        try simp only [Act.put, List.setIfInBounds_toArray, List.set_cons_zero, List.set_cons_succ]
        refine wpAnyH_done (by kernel_rfl) ?_ _
        all_goals (
          have HB4 := Lib.hid hB4
          have HL4 := Lib.hid hl4
          have HK4 := Lib.hid hk4
          clear hB4 hl4 hk4 hb4 hw4
          go_wp2_with fail
          go_roundw
          case rel => exact ⟨k + 1, by omega, by go_num, HB4.out, by rw [HN.out]; exact HL4.out, HK4.out⟩
          case measure => simp [Go.RowKit.intOf]; omega)
      · by_cases hgt : y.c < z.c
        · have HN : Hid (lastK d.S (spaceN d) (k + 1) = z) := Lib.hid (by rw [HNX.out, if_pos ⟨rfl, hgt⟩])
          go_region_held3 (fun w' => w'.cell? ⟨mbx, 0, none⟩ = some (.int .i64 z.c) ∧ w'.cell? ⟨mbx, 1, none⟩ = some (.int .i64 z.ar) ∧ w'.cell? ⟨mbx, 2, none⟩ = some (.int .i64 z.le) ∧ w'.cell? ⟨mbx, 3, none⟩ = some (.int .i64 z.nu) ∧ w'.cell? ⟨mbx, 4, none⟩ = some (.int .i64 z.a) ∧ w'.cell? ⟨mbx, 5, none⟩ = some (.int .i64 z.b) ∧ w'.cell? ⟨w.heap.size + 1, 0, none⟩ = some (.int .i64 y.c))
            (first | assumption | (refine ⟨?_, ?_, ?_, ?_, ?_, ?_, ?_⟩ <;> assumption) | go_keep)
            (first
              | (go_at_call 39; refine (space_any hw4).mono ?_; rintro e w5 ⟨rfl, rfl⟩)
              | (go_at_call 72; refine (HRT.out _).mono ?_; rintro e w5 ⟨rfl, hk5⟩; replace hb4 := (hk5.block _ (lt_of_block hb4) id).trans hb4; replace hl4 := (hk5.block _ (lt_of_block hl4) id).trans hl4; replace hB4 := (hk5.block _ (lt_of_block hB4) id).trans hB4; replace hk4 := hk4.trans hk5; replace hw4 := hw4.kept0 hk5; clear hk5 c0 c1 c2 c3 c4 c5 l0; obtain ⟨c0, c1, c2, c3, c4, c5, ff⟩ := six_of hb4; clear ff; obtain ⟨l0, l1, l2, l3, l4, l5, ff⟩ := six_of hl4; have f0 := ff 0; have f1 := ff 1; have f2 := ff 2; have f3 := ff 3; have f4 := ff 4; have f5 := ff 5; clear ff))
          all_goals (
            have HB4 := Lib.hid hB4
            have HL4 := Lib.hid hl4
            have HK4 := Lib.hid hk4
            clear hB4 hl4 hk4 hb4 hw4
            go_wp2_with fail
            have h0 : w5.heap[w.heap.size + 1]? = some (.cells y.six.toArray 73 (0, 0)) := HL4.out
            have h6 := heap_set (i := 5) (.int .i64 z.b) (heap_set (i := 4) (.int .i64 z.a) (heap_set (i := 3) (.int .i64 z.nu) (heap_set (i := 2) (.int .i64 z.le) (heap_set (i := 1) (.int .i64 z.ar) (heap_set (i := 0) (.int .i64 z.c) h0)))))
            have hk6 := (((((HK4.out.setCell (a := ⟨w.heap.size + 1, 0, none⟩) (.inr (Nat.le_succ _)) (.int .i64 z.c)).setCell (a := ⟨w.heap.size + 1, 1, none⟩) (.inr (Nat.le_succ _)) (.int .i64 z.ar)).setCell (a := ⟨w.heap.size + 1, 2, none⟩) (.inr (Nat.le_succ _)) (.int .i64 z.le)).setCell (a := ⟨w.heap.size + 1, 3, none⟩) (.inr (Nat.le_succ _)) (.int .i64 z.nu)).setCell (a := ⟨w.heap.size + 1, 4, none⟩) (.inr (Nat.le_succ _)) (.int .i64 z.a)).setCell (a := ⟨w.heap.size + 1, 5, none⟩) (.inr (Nat.le_succ _)) (.int .i64 z.b)
            have hkb := ((((((Kept.refl (fun k => k = w.heap.size + 1) w5).setCell (a := ⟨w.heap.size + 1, 0, none⟩) (.inl rfl) (.int .i64 z.c)).setCell (a := ⟨w.heap.size + 1, 1, none⟩) (.inl rfl) (.int .i64 z.ar)).setCell (a := ⟨w.heap.size + 1, 2, none⟩) (.inl rfl) (.int .i64 z.le)).setCell (a := ⟨w.heap.size + 1, 3, none⟩) (.inl rfl) (.int .i64 z.nu)).setCell (a := ⟨w.heap.size + 1, 4, none⟩) (.inl rfl) (.int .i64 z.a)).setCell (a := ⟨w.heap.size + 1, 5, none⟩) (.inl rfl) (.int .i64 z.b)
            have h7 := (hkb.block w.heap.size (lt_of_block HB4.out) (by show ¬ (w.heap.size = w.heap.size + 1); omega)).trans HB4.out
            have H6 := Lib.hid h6
            have H7 := Lib.hid h7
            have HK6 := Lib.hid hk6
            clear h0 h6 hk6 hkb h7 c0 c1 c2 c3 c4 c5 l0 l1 l2 l3 l4 l5 f0 f1 f2 f3 f4 f5
            generalize (((((w5.setCell ⟨w.heap.size + 1, 0, none⟩ (.int .i64 z.c)).setCell ⟨w.heap.size + 1, 1, none⟩ (.int .i64 z.ar)).setCell ⟨w.heap.size + 1, 2, none⟩ (.int .i64 z.le)).setCell ⟨w.heap.size + 1, 3, none⟩ (.int .i64 z.nu)).setCell ⟨w.heap.size + 1, 4, none⟩ (.int .i64 z.a)).setCell ⟨w.heap.size + 1, 5, none⟩ (.int .i64 z.b) = w6 at H6 H7 HK6 ⊢
            go_roundw
            case rel => exact ⟨k + 1, by omega, by go_num, H7.out, by rw [HN.out]; exact H6.out, HK6.out⟩
            case measure => simp [Go.RowKit.intOf]; omega)
        · have HN : Hid (lastK d.S (spaceN d) (k + 1) = y) := Lib.hid (by rw [HNX.out, if_neg (fun h => hgt h.2)])
          go_region_held3 (fun w' => w'.cell? ⟨mbx, 0, none⟩ = some (.int .i64 z.c) ∧ w'.cell? ⟨mbx, 1, none⟩ = some (.int .i64 z.ar) ∧ w'.cell? ⟨mbx, 2, none⟩ = some (.int .i64 z.le) ∧ w'.cell? ⟨mbx, 3, none⟩ = some (.int .i64 z.nu) ∧ w'.cell? ⟨mbx, 4, none⟩ = some (.int .i64 z.a) ∧ w'.cell? ⟨mbx, 5, none⟩ = some (.int .i64 z.b) ∧ w'.cell? ⟨w.heap.size + 1, 0, none⟩ = some (.int .i64 y.c))
            (first | assumption | (refine ⟨?_, ?_, ?_, ?_, ?_, ?_, ?_⟩ <;> assumption) | go_keep)
            (first
              | (go_at_call 39; refine (space_any hw4).mono ?_; rintro e w5 ⟨rfl, rfl⟩)
              | (go_at_call 72; refine (HRT.out _).mono ?_; rintro e w5 ⟨rfl, hk5⟩; replace hb4 := (hk5.block _ (lt_of_block hb4) id).trans hb4; replace hl4 := (hk5.block _ (lt_of_block hl4) id).trans hl4; replace hB4 := (hk5.block _ (lt_of_block hB4) id).trans hB4; replace hk4 := hk4.trans hk5; replace hw4 := hw4.kept0 hk5; clear hk5 c0 c1 c2 c3 c4 c5 l0; obtain ⟨c0, c1, c2, c3, c4, c5, ff⟩ := six_of hb4; clear ff; obtain ⟨l0, l1, l2, l3, l4, l5, ff⟩ := six_of hl4; have f0 := ff 0; have f1 := ff 1; have f2 := ff 2; have f3 := ff 3; have f4 := ff 4; have f5 := ff 5; clear ff))
          all_goals (
            have HB4 := Lib.hid hB4
            have HL4 := Lib.hid hl4
            have HK4 := Lib.hid hk4
            clear hB4 hl4 hk4 hb4 hw4
            go_wp2_with fail
            go_roundw
            case rel => exact ⟨k + 1, by omega, by go_num, HB4.out, by rw [HN.out]; exact HL4.out, HK4.out⟩
            case measure => simp [Go.RowKit.intOf]; omega)
    · obtain rfl : k = 2 := by omega
      replace hb2 : wr.heap[w.heap.size + 1]? = some (.cells (lastZ (d.S 0) (d.S 1) (spaceN d)).six.toArray 73 (0, 0)) := hb2
      obtain ⟨z, hz⟩ : ∃ z, lastZ (d.S 0) (d.S 1) (spaceN d) = z := ⟨_, rfl⟩
      rw [hz] at hb2
      have HZZ := Lib.hid hz
      have hl2 : wr.heap[w.heap.size + 1]? = some (.cells #[.int .i64 z.c, .int .i64 z.ar, .int .i64 z.le, .int .i64 z.nu, .int .i64 z.a, .int .i64 z.b] 73 (0, 0)) := hb2
      obtain ⟨l0, l1, l2, l3, l4, l5, ff⟩ := six_of hl2
      clear ff
      obtain ⟨c0, c1, c2, c3, c4, c5, ff⟩ := six_of hb
      have f0 := ff 0
      have f1 := ff 1
      have f2 := ff 2
      have f3 := ff 3
      have f4 := ff 4
      have f5 := ff 5
      have HB := Lib.hid hb
      have HK := Lib.hid hkp
      clear ff hb2 hl2 hz hb hkp
      go_wp2_with fail
      have h0 : wr.heap[w.heap.size]? = some (.cells [.int .i64 0, .int .i64 0, .int .i64 0, .int .i64 0, .int .i64 0, .int .i64 0].toArray 73 (0, 0)) := HB.out
      have h6 := heap_set (i := 5) (.int .i64 z.b) (heap_set (i := 4) (.int .i64 z.a) (heap_set (i := 3) (.int .i64 z.nu) (heap_set (i := 2) (.int .i64 z.le) (heap_set (i := 1) (.int .i64 z.ar) (heap_set (i := 0) (.int .i64 z.c) h0)))))
      have hk6 := (((((HK.out.setCell (a := ⟨w.heap.size, 0, none⟩) (.inr (Nat.le_refl _)) (.int .i64 z.c)).setCell (a := ⟨w.heap.size, 1, none⟩) (.inr (Nat.le_refl _)) (.int .i64 z.ar)).setCell (a := ⟨w.heap.size, 2, none⟩) (.inr (Nat.le_refl _)) (.int .i64 z.le)).setCell (a := ⟨w.heap.size, 3, none⟩) (.inr (Nat.le_refl _)) (.int .i64 z.nu)).setCell (a := ⟨w.heap.size, 4, none⟩) (.inr (Nat.le_refl _)) (.int .i64 z.a)).setCell (a := ⟨w.heap.size, 5, none⟩) (.inr (Nat.le_refl _)) (.int .i64 z.b)
      have H6 := Lib.hid h6
      have HK6 := Lib.hid hk6
      clear h0 h6 hk6 c0 c1 c2 c3 c4 c5 l0 l1 l2 l3 l4 l5 f0 f1 f2 f3 f4 f5
      generalize (((((wr.setCell ⟨w.heap.size, 0, none⟩ (.int .i64 z.c)).setCell ⟨w.heap.size, 1, none⟩ (.int .i64 z.ar)).setCell ⟨w.heap.size, 2, none⟩ (.int .i64 z.le)).setCell ⟨w.heap.size, 3, none⟩ (.int .i64 z.nu)).setCell ⟨w.heap.size, 4, none⟩ (.int .i64 z.a)).setCell ⟨w.heap.size, 5, none⟩ (.int .i64 z.b) = w6 at H6 HK6 ⊢
      have h9 : w6.heap[w.heap.size]? = some (.cells #[.int .i64 z.c, .int .i64 z.ar, .int .i64 z.le, .int .i64 z.nu, .int .i64 z.a, .int .i64 z.b] 73 (0, 0)) := H6.out
      obtain ⟨g0, g1, g2, g3, g4, g5, ff⟩ := six_of h9
      exact bodyPost_ret (v := .tuple #[.agg z.six.toArray, .int .i64 0]) (by simp [results, Try.results59, go_sem, g0, g1, g2, g3, g4, g5, MZ.six]) rfl ⟨by rw [HZZ.out], HK6.out⟩
end
end Go.Proofs.Ytmfngbgdmlnlcaa
