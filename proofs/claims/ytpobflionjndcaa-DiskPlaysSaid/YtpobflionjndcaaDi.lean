/- step of layer 3: Pending, whose answers are the caller's own. -/
import Derived.Test.YtpobflionjndcaaDh
namespace Go.Proofs.Ytpobflionjndcaa
open Go.ChangeShapes Go.WideShapes Go.ChangeAt Go.RowKit
open Go.Maps Go.Sort Go.Shelf Go.Proofs
set_option linter.unusedVariables false
set_option linter.unusedSimpArgs false

section
variable {w0 : World} {B : Nat} {X0 X : Nat → Prop} {ob : Nat} {cs : List Value} {b : Nat} {q : RB4} {d : DSt} {r : RSt} {w w' : World}
/-- what is done to a block that is left alone -/
theorem Ps.own {g : Nat} (h : Ps w0 B X0 X ob cs b q d r w) (hk : Kept (fun k => k = g) w w') (hg : X g) (hB : B ≤ g) (h0 : ¬ X0 g) (hob : g ≠ ob) : Ps w0 B X0 X ob cs b q d r w' :=
  ⟨h.pq.kept hk (fun k _ e => by have e : k = g := e; subst e; exact hg), h.sub, h.obx, by rw [hk.block ob (h.pq.far ob h.obx).1 (fun e => hob (by have e : ob = g := e; exact e.symm))]; exact h.box,
   h.kept.trans' hk (fun k _ e => by have e : k = g := e; subst e; exact ⟨hB, h0⟩)⟩
theorem row_kept0 {base : Nat} {e : TypeId} {size n : Nat} {v : Value} {xs : List Value} (h : w.ownsRow base e size v n xs) (hk : Kept (fun _ => False) w w') : w'.ownsRow base e size v n xs := row_kept h hk (fun _ _ f => f)
theorem row_keptg {base g : Nat} {e : TypeId} {size n : Nat} {v : Value} {xs : List Value} (h : w.ownsRow base e size v n xs) (hk : Kept (fun k => k = g) w w') (hg : g < base) : w'.ownsRow base e size v n xs := row_kept h hk (fun k hb e => by have e : k = g := e; omega)

theorem same_yes {okA okB : Nat → Prop} {va vb : Value} {l : List Int} (hA : HowAt w okA va l) (hB : HowAt w okB vb l) (hl : l.length ≤ 9223372036854775807) :
    Calls Try.prog 28 #[va, vb] w fun e w' => e = .returned (.bool true) ∧ ∃ n, w' = w.drewN n :=
  (same_any hA hB hl).mono fun e w' ⟨he, hw⟩ => ⟨by rw [he]; simp, hw⟩
structure P6 (w w1 : World) (B : Nat) (X X' : Nat → Prop) (ob : Nat) (cs : List Value) (b : Nat) (q : RB4) (d : DSt) (r : RSt) (L : List Nat) (g cap base2 : Nat) (v2 iv : Value) (wr : World) : Prop where
  ex : ∃ (i : Nat) (cur : Array Value), iv = .int .i64 i ∧ i ≤ L.length ∧ wr.heap[g]? = some (.cells cur 3 (0, 0)) ∧ cur.size = cap ∧ Ps w B X X' ob cs b q d r wr ∧ wr.ownsRow base2 3 1 v2 L.length (intsV L)

set_option maxRecDepth 100000 in
set_option maxHeartbeats 4000000 in
theorem step_pend (h : Pq B X b q d r w) (hs : Sim d r) (o : OpS) (hk : o.k = 6) (hv : Value) :
    Calls Try.prog 10 #[.pointer (some ⟨b, 0, none⟩), .pointer (some ⟨q.x, 0, none⟩), .agg #[.int .i64 o.k, .int .i64 o.n, .int .i64 o.f, .bool o.short, .bool o.other, hv]] w (SPost B X b q (stepD d o) w) := by
  obtain ⟨k, n, f, short, other, how⟩ := o
  obtain rfl : k = 6 := hk
  have HST : Hid (stepD d ⟨6, n, f, short, other, how⟩ = d) := Lib.hid rfl
  have HSIM := Lib.hid hs
  have hBw := h.le
  have HB : Hid (Ps w B X (fun k => X k ∨ k = w.heap.size) w.heap.size [.int .i64 6, .int .i64 n, .int .i64 f, .bool short, .bool other, hv] b q d r (w.alloc (.cells #[.int .i64 6, .int .i64 n, .int .i64 f, .bool short, .bool other, hv] 33))) := Lib.hid (h.box [.int .i64 6, .int .i64 n, .int .i64 f, .bool short, .bool other, hv])
  have HFAR := Lib.hid (fun g (hx : X g) => (h.far g hx).1)
  obtain ⟨L, hL⟩ : ∃ L, pendL d.n d.O = L := ⟨_, rfl⟩
  have HL := Lib.hid hL
  have HLX : Hid (pendR r r.n = L) := Lib.hid (by rw [sim_pend hs]; exact hL)
  obtain ⟨hlen, hbd⟩ := pend_bound hL h.hi
  have HBD := Lib.hid hbd
  have HZL : Hid ((intsZ L).length ≤ 9223372036854775807) := Lib.hid (by simp [intsZ]; omega)
  clear hs h hL hbd
  obtain ⟨i0, hsi, hsz0, hss, hsb⟩ := info_parts int_info
  have HIN := Lib.hid (And.intro hsi (And.intro hsz0 (And.intro hss hsb)))
  clear hsi hsz0 hss hsb
  go_enter Try.func10, Try.ntmps10
  go_wp2_with fail
  refine (pq_pending HB.out.pq HL.out).mono ?_
  rintro e w2 ⟨v1, rfl, hr1, hn1, hk1⟩
  have hsz2 : w.heap.size + 1 ≤ w2.heap.size := by have := hk1.size; simpa using this
  have HP2 := Lib.hid (HB.out.kept0 hk1)
  have hr1' : w2.ownsRow (w.heap.size + 1) 3 1 v1 L.length (intsV L) := by simpa using hr1
  have HR1 := Lib.hid hr1'
  have HN1 := Lib.hid hn1
  clear hr1 hr1' hn1
  go_wp2_with fail
  refine (pq_pending HP2.out.pq HL.out).mono ?_
  rintro e w3 ⟨v2, rfl, hr2, hn2, hk2⟩
  have HP3 := Lib.hid (HP2.out.kept0 hk2)
  have HR13 := Lib.hid (row_kept0 HR1.out hk2)
  have HR2 := Lib.hid hr2
  have HN2 := Lib.hid hn2
  have hsz3 := hk2.size
  clear hr2 hn2
  go_wp2_with fail
  refine (pq_xpending HP3.out.pq HLX.out).mono ?_
  rintro e w4 ⟨v3, rfl, hr3, hn3, hk3⟩
  have HP4 := Lib.hid (HP3.out.kept0 hk3)
  have HR14 := Lib.hid (row_kept0 HR13.out hk3)
  have HR24 := Lib.hid (row_kept0 HR2.out hk3)
  have HR3 := Lib.hid hr3
  have hsz4 := hk3.size
  have HK := Lib.hid ((hk1.trans hk2).trans hk3)
  clear hr3 hn3 hk1 hk2 hk3
  go_wp2_with fail
  refine (same_yes (how_own HR14.out HBD.out) (how_own HR3.out HBD.out) HZL.out).mono ?_
  rintro e w5 ⟨rfl, n5, rfl⟩
  have HP5 := Lib.hid (HP4.out.drewN n5)
  have HR15 := Lib.hid (row_kept0 HR14.out ((Kept.refl _ w4).drewN n5))
  have HR25 := Lib.hid (row_kept0 HR24.out ((Kept.refl _ w4).drewN n5))
  rcases HR15.out.2 with ⟨rfl, hl0⟩ | ⟨g, cap, cur, rfl, hbg, hgh, hncap, hcm, hcs, htake⟩
  · obtain rfl : L = [] := List.eq_nil_of_length_eq_zero hl0
    obtain rfl : v2 = .slice none 0 0 := HN2.out.2 rfl
    clear hl0 HR1 HR13 HR14 HR15 HR2 HR24 HR25 HR3 HN1 HN2 HK
    go_wp2_with fail
    go_loop [17] (fun iv => iv = .int .i64 0) (fun _ => 0)
    case atStart => rfl
    case round =>
      obtain rfl := hrel
      have hcel := heap_alloc_new (w4.drewN n5) (.cells #[.int .i64 (-1)] 3)
      have HCEL : Hid (∀ j u, [Value.int .i64 (-1)][j]? = some u → ((w4.drewN n5).alloc (.cells #[.int .i64 (-1)] 3)).cell? ((⟨(w4.drewN n5).heap.size, 0, none⟩ : Addr).add j) = some u) := Lib.hid (by
        intro j u hu
        have hj : j = 0 := by have := (List.getElem?_eq_some_iff.1 hu).1; simpa using this
        subst hj
        simp only [List.getElem?_cons_zero, Option.some.injEq] at hu
        subst hu
        rw [Addr.add_mid, cell_of_row _ _ _ _ _ (0, 0) hcel]; rfl)
      have HPSA := Lib.hid (HP5.out.kept0 ((Kept.refl _ (w4.drewN n5)).alloc (.cells #[.int .i64 (-1)] 3)))
      clear hcel
      go_wp2_with (at_builtin; refine wpList_append_own _ rfl _ _ 23 rfl 0 3 i0 (.int .i64 0) 1 8 Try.underlying23 HIN.out.1 HIN.out.2.1 HIN.out.2.2.1 HIN.out.2.2.2 rfl (by decide) (.slice none 0 0) 0 [] rfl (World.ownsRow_nil _ _ _ 1) ⟨w4.heap.size, 0, none⟩ 1 1 [.int .i64 (-1)] rfl rfl HCEL.out (by intro u hu; simp only [List.mem_singleton] at hu; subst hu; rfl) (by unfold maxLen; omega) (by omega) (Nat.zero_le _) (fun v6 w6 hown6 hg6 hnil6 => ?_)
                   have hk6 := (Kept.of_grownBy hg6).mono (T := fun _ => False) (fun k _ e => by simp [Value.ownBlock] at e)
                   have HPS6 := Lib.hid (HPSA.out.kept0 hk6)
                   rcases hown6.2 with ⟨_, h0⟩ | ⟨g6, cap6, cur6, rfl, _⟩
                   · omega
                   clear hown6 hg6 hnil6 hk6)
      refine (pq_xpending HPS6.out.pq HLX.out).mono ?_
      rintro e w7 ⟨v7, rfl, hr7, hn7, hk7⟩
      obtain rfl : v7 = .slice none 0 0 := hn7.2 rfl
      have HPS7 := Lib.hid (HPS6.out.kept0 hk7)
      clear hr7 hn7 hk7
      go_wp2_with fail
      refine (same_yes (HowAt.nil _ (fun _ => True) _ _) (HowAt.nil _ (fun _ => True) _ _) (by simp)).mono ?_
      rintro e w8 ⟨rfl, n8, rfl⟩
      have HPS8 := Lib.hid (HPS7.out.drewN n8)
      go_wp2_with fail
      go_ret
      rw [HST.out]
      exact Ps.post HPS8.out HSIM.out (by simp)
  · have hg2 : g < w2.heap.size := (World.ownsRow.lt HR1.out g rfl).2
    have hcap2 : cap ≤ 9223372036854775807 := by unfold maxLen at hcm; omega
    have HPG : Hid (Ps w B X (fun k => (X k ∨ k = w.heap.size) ∨ k = g) w.heap.size [.int .i64 6, .int .i64 n, .int .i64 f, .bool short, .bool other, hv] b q d r (w4.drewN n5)) := Lib.hid (HB.out.more (HK.out.drewN n5) (by simpa using hbg) (lt_of_block hgh))
    have hgX : ¬ X g := fun hx => by have := HFAR.out g hx; omega
    go_wp2_with fail
    go_loopw [17] (fun iv wr => P6 w w B X (fun k => (X k ∨ k = w.heap.size) ∨ k = g) w.heap.size [.int .i64 6, .int .i64 n, .int .i64 f, .bool short, .bool other, hv] b q d r L g cap w2.heap.size v2 iv wr) (fun iv _ => L.length - (Go.RowKit.intOf iv).toNat)
    case atStart => exact ⟨0, cur, rfl, Nat.zero_le _, hgh, by simpa using hcs, HPG.out, HR25.out⟩
    case round =>
      obtain ⟨i, cu, rfl, hi, hh, hcu, hps, hr⟩ := hrel.ex
      clear hrel
      have HH := Lib.hid hh
      have HPS := Lib.hid hps
      have HR := Lib.hid hr
      have HCU := Lib.hid hcu
      have hfz : ∀ j, wr.frozen? ⟨g, j, none⟩ = false := fun j => by simp [World.frozen?, hh]
      have HFZ := Lib.hid hfz
      clear hfz hps hr
      by_cases hlt : i < L.length
      · obtain ⟨c, hc⟩ : ∃ c, wr.cell? ⟨g, i, none⟩ = some c := ⟨cu[i]'(by omega), by rw [cell_of_row wr g i _ _ (0, 0) hh, Array.getElem?_eq_getElem]⟩
        have hf := HFZ.out i
        clear hh hcu
        have hks := kept_set wr g i (.int .i64 (-1))
        have hset : (wr.setCell ⟨g, i, none⟩ (.int .i64 (-1))).heap[g]? = some (.cells (cu.toList.set i (.int .i64 (-1))).toArray 3 (0, 0)) := heap_set _ (by have := HH.out; simpa using this)
        have HSET := Lib.hid hset
        have HPS2 := Lib.hid (HPS.out.own hks (.inr rfl) (by omega) hgX (by omega))
        have HR2' := Lib.hid (row_keptg HR.out hks hg2)
        clear hks hset
        go_wp2_with fail
        go_roundw
        case rel => exact ⟨i + 1, _, by go_num, by omega, HSET.out, by have := HCU.out; simpa using this, HPS2.out, HR2'.out⟩
        case measure => simp [Go.RowKit.intOf]; omega
      · have hown : wr.ownsRow (w.heap.size + 1) 3 1 (.slice (some ⟨g, 0, none⟩) L.length cap) L.length (cu.toList.take (L.length * 1)) := by
          refine ⟨?_, .inr ⟨g, cap, cu, rfl, hbg, hh, hncap, hcm, by rw [hcu, Nat.mul_one], rfl⟩⟩
          have e : cu.toList.length = cap := by simpa using hcu
          rw [List.length_take, e]; omega
        have HOWN : Hid ((wr.alloc (.cells #[.int .i64 (-1)] 3)).ownsRow (w.heap.size + 1) 3 1 (.slice (some ⟨g, 0, none⟩) L.length cap) L.length (cu.toList.take (L.length * 1))) := Lib.hid (row_kept0 hown ((Kept.refl _ wr).alloc _))
        have hwsz : w.heap.size + 1 ≤ wr.heap.size := by have := lt_of_block hh; omega
        have hcel := heap_alloc_new wr (.cells #[.int .i64 (-1)] 3)
        have HCEL : Hid (∀ j u, [Value.int .i64 (-1)][j]? = some u → (wr.alloc (.cells #[.int .i64 (-1)] 3)).cell? ((⟨wr.heap.size, 0, none⟩ : Addr).add j) = some u) := Lib.hid (by
          intro j u hu
          have hj : j = 0 := by have := (List.getElem?_eq_some_iff.1 hu).1; simpa using this
          subst hj
          simp only [List.getElem?_cons_zero, Option.some.injEq] at hu
          subst hu
          rw [Addr.add_mid, cell_of_row _ _ _ _ _ (0, 0) hcel]; rfl)
        have HPSA := Lib.hid (HPS.out.kept0 ((Kept.refl _ wr).alloc (.cells #[.int .i64 (-1)] 3)))
        have HRA := Lib.hid (row_kept0 HR.out ((Kept.refl _ wr).alloc (.cells #[.int .i64 (-1)] 3)))
        clear hh hcu hown hcel HH HCU HFZ
        go_wp2_with (at_builtin; refine wpList_append_own _ rfl _ _ 23 rfl (w.heap.size + 1) 3 i0 (.int .i64 0) 1 8 Try.underlying23 HIN.out.1 HIN.out.2.1 HIN.out.2.2.1 HIN.out.2.2.2 rfl (by decide) (.slice (some ⟨g, 0, none⟩) L.length cap) L.length (cu.toList.take (L.length * 1)) rfl HOWN.out ⟨wr.heap.size, 0, none⟩ 1 1 [.int .i64 (-1)] rfl rfl HCEL.out (by intro u hu; simp only [List.mem_singleton] at hu; subst hu; rfl) (by unfold maxLen; omega) (by omega) (by simp; omega) (fun v6 w6 hown6 hg6 hnil6 => ?_)
                     have hk6 : Kept (fun k => k = g) (wr.alloc (.cells #[.int .i64 (-1)] 3)) w6 := (Kept.of_grownBy hg6).mono (fun k _ e => by simpa [Value.ownBlock] using e)
                     have HPS6 := Lib.hid (HPSA.out.own hk6 (.inr rfl) (by omega) hgX (by omega))
                     have HR6 := Lib.hid (row_keptg HRA.out hk6 hg2)
                     rcases hown6.2 with ⟨_, h0⟩ | ⟨g6, cap6, cur6, rfl, _⟩
                     · omega
                     clear hown6 hg6 hnil6 hk6)
        refine (pq_xpending HPS6.out.pq HLX.out).mono ?_
        rintro e w7 ⟨v7, rfl, hr7, hn7, hk7⟩
        have HPS7 := Lib.hid (HPS6.out.kept0 hk7)
        have HR7 := Lib.hid (row_kept0 HR6.out hk7)
        have HR77 := Lib.hid hr7
        clear hr7 hn7 hk7
        go_wp2_with fail
        refine (same_yes (how_own HR7.out HBD.out) (how_own HR77.out HBD.out) HZL.out).mono ?_
        rintro e w8 ⟨rfl, n8, rfl⟩
        have HPS8 := Lib.hid (HPS7.out.drewN n8)
        rcases HR7.out.2 with ⟨rfl, hl0⟩ | ⟨g7, cap7, cur7, rfl, _⟩
        · go_wp2_with fail
          go_ret
          rw [HST.out]
          exact Ps.post HPS8.out HSIM.out (by simp)
        · go_wp2_with fail
          go_ret
          rw [HST.out]
          exact Ps.post HPS8.out HSIM.out (by simp)
end
end Go.Proofs.Ytpobflionjndcaa
