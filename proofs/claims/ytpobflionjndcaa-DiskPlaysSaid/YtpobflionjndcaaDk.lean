/- The document's disk: Crash, the walk. -/
import Derived.Test.YtpobflionjndcaaDu
namespace Go.Proofs.Ytpobflionjndcaa
open Go.ChangeShapes Go.WideShapes Go.ChangeAt Go.RowKit
open Go.Maps Go.Sort Go.Shelf Go.Proofs
set_option linter.unusedVariables false
set_option linter.unusedSimpArgs false

structure XcRel (w : World) (q : RB4) (d : RSt) (how : List Int) (hv v : Value) (l : List Nat) (kv : Value) (wr : World) : Prop where
  ex : ∃ (k : Nat) (d' : RSt), kv = .int .i64 k ∧ k ≤ l.length ∧ RfAt wr q d' ∧ d'.n = d.n ∧ HowAt wr (fun k => ¬ XB q k) hv how ∧ wr.ownsRow w.heap.size 3 1 v l.length (intsV l) ∧ runX how d' (l.drop k) k = runX how d l 0 ∧ Kept (XB q) w wr

section
variable {w : World} {q : RB4} {d : RSt}
set_option maxHeartbeats 2000000 in
set_option maxRecDepth 100000 in
theorem xcrash_any (h : RfAt w q d) {hv : Value} {how : List Int} (hh : HowAt w (fun k => ¬ XB q k) hv how) (hhl : how.length ≤ 9223372036854775807) :
    Calls Try.prog 13 #[.pointer (some ⟨q.x, 0, none⟩), hv] w (RPost w q (.tuple #[]) (crashX d how)) := by
  have HD := Lib.hid h
  have HH := Lib.hid hh
  have hhi := h.hi
  have HIN := Lib.hid h.inn
  have hpl := pendR_le d d.n
  obtain ⟨l, hl⟩ : ∃ l, pendR d d.n = l := ⟨_, rfl⟩
  have HL := Lib.hid hl
  have HLM := Lib.hid (fun (i : Nat) (hi : i ∈ l) => (pendR_mem d d.n i).1 (by rw [hl]; exact hi))
  have HP := Lib.hid (xpending_any h)
  rw [hl] at hpl
  clear h hl
  obtain ⟨ha, hcap, rfl, _⟩ := hh.ex
  clear hh
  go_enter Try.func13, Try.ntmps13
  go_wp2_with fail
  refine HP.out.mono ?_
  rintro e w1 ⟨v, rfl, hrow, hnil, hk1⟩
  rw [HL.out] at hrow hnil
  have HROW := Lib.hid hrow
  have HK1 := Lib.hid hk1
  clear hk1 hnil
  rcases hrow.2 with ⟨rfl, hl0⟩ | ⟨g, cap, cur, rfl, hbg, hgh, hncap, hcm, hcs, htake⟩
  · obtain rfl : l = [] := List.eq_nil_of_length_eq_zero hl0
    clear hrow hl0
    have HD2 := Lib.hid (HD.out.kept HK1.out (fun _ _ f => f))
    go_wp2_with fail
    go_loop [5] (fun kv => kv = .int .i64 0) (fun _ => 0)
    case atStart => rfl
    case round =>
        obtain rfl := hrel
        have hr := HD2.out
        have c5' := hr.six.c5
        have c4' := hr.six.c4
        have f4 := hr.six.f 4
        have f5 := hr.six.f 5
        clear hr
        go_wp2_with fail
        go_end0
        have h8 := (HD2.out.setGone false).setAt 0 (by omega)
        have e8 : crashX d how = { d with At := 0, Gone := false } := by unfold crashX; rw [HL.out]; rfl
        exact ⟨rfl, by rw [e8]; exact h8, (HK1.out.mono (fun _ _ f => f.elim)).trans ((kept_x w1 q 5 _).trans (kept_x _ q 4 _))⟩
  · clear hrow htake hgh hcs
    go_wp2_with fail
    go_loopw [5] (fun kv wr => XcRel w q d how (.slice ha how.length hcap) (.slice (some ⟨g, 0, none⟩) l.length cap) l kv wr) (fun kv _ => l.length - (Go.RowKit.intOf kv).toNat)
    case atStart => exact ⟨0, d, rfl, Nat.zero_le _, HD.out.kept HK1.out (fun _ _ f => f), rfl, HH.out.kept HK1.out (fun _ _ f => f), HROW.out, rfl, HK1.out.mono (fun _ _ f => f.elim)⟩
    case round =>
      obtain ⟨k, d', rfl, hk, hr, hn', hh2, hrow2, hrun, hkw⟩ := hrel.ex
      clear hrel
      have HR := Lib.hid hr
      have HN := Lib.hid hn'
      have HH2 := Lib.hid hh2
      have HROW2 := Lib.hid hrow2
      have HRUN := Lib.hid hrun
      have HKW := Lib.hid hkw
      clear hr hrun hkw
      by_cases hlt : k < l.length
      · obtain ⟨i, hie⟩ : ∃ i, l[k] = i := ⟨_, rfl⟩
        have hi : i < d'.n := by rw [hn']; exact (HLM.out i (by rw [← hie]; exact List.getElem_mem _)).1
        have ct : wr.cell? ⟨g, k, none⟩ = some (.int .i64 (i : Int)) := by
          have := hrow2.cellAt k (by simpa using hlt)
          rw [this, intsV, List.getElem?_map, List.getElem?_eq_getElem hlt, hie]; rfl
        have HDROP : Hid (l.drop k = i :: l.drop (k + 1)) := Lib.hid (by rw [List.drop_eq_getElem_cons hlt, hie])
        have hhi2 : d'.n ≤ 32768 := HR.out.hi
        obtain ⟨c0, c1, c2, c3, c4, c5, f⟩ := HR.out.six
        clear c3 c4 c5 hrow2 hie hn'
        have a1 := HR.out.a1
        have a2 := HR.out.a2
        have a3 := HR.out.a3
        have a4 := HR.out.a4
        have a5 := HR.out.a5
        have a6 := HR.out.a6
        obtain ⟨la, hla⟩ : ∃ la, d'.L i = la := ⟨_, rfl⟩
        obtain ⟨lo, hlo⟩ : ∃ lo, d'.Old i = lo := ⟨_, rfl⟩
        have hll : la.length = 64 := by rw [← hla]; exact HR.out.sl i hi
        have hol : lo.length = 64 := by rw [← hlo]; exact HR.out.so i hi
        have hcl : wr.cell? ⟨q.l, i, none⟩ = some (.string ⟨la.toArray⟩) := by rw [← hla]; exact HR.out.hl.cell hi
        have hco : wr.cell? ⟨q.o, i, none⟩ = some (.string ⟨lo.toArray⟩) := by rw [← hlo]; exact HR.out.ho.cell hi
        have hcp : wr.cell? ⟨q.p, i, none⟩ = some (.bool (d'.Pend i)) := HR.out.hp.cell hi
        have hfl := HR.out.hl.frozen i
        have hfo := HR.out.ho.frozen i
        have hfp := HR.out.hp.frozen i
        have hzl : (⟨la.toArray⟩ : ByteArray).size = 64 := by rw [← size_toList]; exact hll
        have hzo : (⟨lo.toArray⟩ : ByteArray).size = 64 := by rw [← size_toList]; exact hol
        have HLA := Lib.hid hla
        have HLO := Lib.hid hlo
        have HLL := Lib.hid hll
        have HOL := Lib.hid hol
        clear hla hlo hll hol
        have HDON := Lib.hid (fun (lb : List UInt8) (hb : lb.length = 64) (V : World) (hV : RfAt V q { d' with L := upd d'.L i lb, Old := upd d'.Old i lb, Pend := upd d'.Pend i false }) (hKV : Kept (XB q) wr V) (FT : Int) (hF : fateOf how k = FT) (hE : behindL FT lo la = lb) =>
          (⟨k + 1, _, by go_num, by omega, hV, HN.out, HH2.out.kept hKV (fun _ hx hy => hx hy), row_kept HROW2.out hKV (fun j hj hx => by have := HIN.out j hx; omega), by
            rw [← HRUN.out, HDROP.out, runX, hF]; unfold stepX; rw [HLA.out, HLO.out, hE], HKW.out.trans hKV⟩ : XcRel w q d how (.slice ha how.length hcap) (.slice (some ⟨g, 0, none⟩) l.length cap) l (.int .i64 ((k : Int) + 1)) V))
        by_cases hlh : k < how.length
        · obtain ⟨gh, off, rfl, hokg, hcell⟩ := hh2.ex_at hlh
          obtain ⟨FT, hFT⟩ : ∃ FT, fateOf how k = FT := ⟨_, rfl⟩
          have hgf : how[k] = FT := by rw [← hFT]; simp [fateOf, List.getD, hlh]
          have hft : -9223372036854775808 ≤ FT ∧ FT ≤ 9223372036854775807 := by rw [← hgf]; exact HH.out.wf _ (List.getElem_mem _)
          rw [hgf] at hcell
          have HFT := Lib.hid hFT
          clear hh2 hokg hFT hgf
          have HB : Hid (behindL FT lo la = if fateN FT % 3 = 1 then la else if fateN FT % 3 = 2 then tornL (fateN FT) lo la else lo) := Lib.hid rfl
          obtain ⟨m, hm⟩ : ∃ m, fateN FT = m := ⟨_, rfl⟩
          rw [hm] at HB
          have hm2 : m ≤ 9223372036854775807 := by rw [← hm]; unfold fateN; split <;> omega
          have hmf : (FT < 0 → -(FT + 1) = (m : Int)) ∧ (¬ FT < 0 → FT = (m : Int)) := by
            rw [← hm]; unfold fateN
            constructor
            · intro h; rw [if_pos h]; omega
            · intro h; rw [if_neg h]; omega
          clear hm
          by_cases hneg : FT < 0
          · have hq := hmf.1 hneg
            clear hmf
            rcases (show m % 3 = 1 ∨ m % 3 = 2 ∨ m % 3 = 0 by omega) with hr | hr | hr
            · have HE : Hid (behindL FT lo la = la) := Lib.hid (by rw [HB.out, if_pos hr])
              have g1 : ((m : Int) % 3 == 0) = false := by simp; omega
              have g2 : ((m : Int) % 3 == 2) = false := by simp; omega
              clear hr HB
              go_wp2_with fail
              go_still_tail 13, (by kernel_rfl)
              go_wp2_with fail
              go_roundw
              case rel => exact HDON.out la HLL.out _ (by rw [show upd d'.L i la = d'.L by rw [← HLA.out]; exact upd_self _ _]; exact ((HR.out.drewN 1).setOld (i := i) hi HLL.out).setPend (i := i) hi false) (((Kept.refl (XB q) wr).drewN 1).trans ((kept_o _ q i _).trans (kept_p _ q i _))) FT HFT.out HE.out
              case measure => simp [Go.RowKit.intOf]; omega
            · obtain ⟨c, hc⟩ : ∃ c, m / 3 % 65 = c := ⟨_, rfl⟩
              have hc64 : c ≤ 64 := by omega
              have HC : (m : Int) / 3 % 65 = (c : Int) := by omega
              have g1 : ((m : Int) % 3 == 0) = false := by simp; omega
              have g2 : ((m : Int) % 3 == 2) = true := by simp; omega
              have hcut := cut_eq hc64 HLL.out HOL.out
              have hs1 := fun V => cutS V hc64 HLL.out
              have hs2 := fun V => dropS V hc64 HOL.out
              have HBL : Hid ((la.take c ++ lo.drop c).length = 64) := Lib.hid (by simp [HLL.out, HOL.out]; omega)
              have HE : Hid (behindL FT lo la = la.take c ++ lo.drop c) := Lib.hid (by rw [HB.out, if_neg (by omega), if_pos hr]; unfold tornL; rw [hc])
              clear hr HB hc
              go_wp2_with fail
              go_still_tail 25, (by kernel_rfl)
              go_wp2_with fail
              have hV : RfAt (wr.setCell ⟨q.l, i, none⟩ (.string ⟨(la.take c ++ lo.drop c).toArray⟩)).drew q { d' with L := upd d'.L i (la.take c ++ lo.drop c) } := (HR.out.setL hi HBL.out).drewN 1
              have hKV : Kept (XB q) wr (wr.setCell ⟨q.l, i, none⟩ (.string ⟨(la.take c ++ lo.drop c).toArray⟩)).drew := (kept_l wr q i _).drew
              generalize (wr.setCell ⟨q.l, i, none⟩ (.string ⟨(la.take c ++ lo.drop c).toArray⟩)).drew = V at hV hKV ⊢
              clear c0 c1 c2 f hcl hco hcp hfl hfo hfp ct
              have c0 : V.cell? ⟨q.x, 0, none⟩ = some (.slice (some ⟨q.l, 0, none⟩) d'.n q.cl) := hV.six.c0
              have c1 : V.cell? ⟨q.x, 1, none⟩ = some (.slice (some ⟨q.o, 0, none⟩) d'.n q.co) := hV.six.c1
              have c2 : V.cell? ⟨q.x, 2, none⟩ = some (.slice (some ⟨q.p, 0, none⟩) d'.n d'.n) := hV.six.c2
              have hcl : V.cell? ⟨q.l, i, none⟩ = some (.string ⟨(la.take c ++ lo.drop c).toArray⟩) := by have := hV.hl.cell (i := i) hi; simpa only [strF, upd_same] using this
              have hco : V.cell? ⟨q.o, i, none⟩ = some (.string ⟨lo.toArray⟩) := by have := hV.ho.cell (i := i) hi; rw [← HLO.out]; exact this
              have hcp : V.cell? ⟨q.p, i, none⟩ = some (.bool (d'.Pend i)) := hV.hp.cell (i := i) hi
              have hfo := hV.ho.frozen i
              have hfp := hV.hp.frozen i
              have HV := Lib.hid hV
              have HKV := Lib.hid hKV
              clear hV hKV
              go_still_tail 13, (by kernel_rfl)
              go_wp2_with fail
              go_roundw
              case rel => exact HDON.out (la.take c ++ lo.drop c) HBL.out _ (((HV.out.drewN 1).setOld (i := i) hi HBL.out).setPend (i := i) hi false) (HKV.out.trans ((((Kept.refl (XB q) V).drewN 1).trans (kept_o _ q i _)).trans (kept_p _ q i _))) FT HFT.out HE.out
              case measure => simp [Go.RowKit.intOf]; omega
            · have HE : Hid (behindL FT lo la = lo) := Lib.hid (by rw [HB.out, if_neg (by omega), if_neg (by omega)])
              have g1 : ((m : Int) % 3 == 0) = true := by simp; omega
              have HBL : Hid (lo.length = 64) := HOL
              clear hr HB
              go_wp2_with fail
              go_still_tail 13, (by kernel_rfl)
              go_wp2_with fail
              have hV : RfAt (wr.setCell ⟨q.l, i, none⟩ (.string ⟨(lo).toArray⟩)).drew q { d' with L := upd d'.L i (lo) } := (HR.out.setL hi HBL.out).drewN 1
              have hKV : Kept (XB q) wr (wr.setCell ⟨q.l, i, none⟩ (.string ⟨(lo).toArray⟩)).drew := (kept_l wr q i _).drew
              generalize (wr.setCell ⟨q.l, i, none⟩ (.string ⟨(lo).toArray⟩)).drew = V at hV hKV ⊢
              clear c0 c1 c2 f hcl hco hcp hfl hfo hfp ct
              have c0 : V.cell? ⟨q.x, 0, none⟩ = some (.slice (some ⟨q.l, 0, none⟩) d'.n q.cl) := hV.six.c0
              have c1 : V.cell? ⟨q.x, 1, none⟩ = some (.slice (some ⟨q.o, 0, none⟩) d'.n q.co) := hV.six.c1
              have c2 : V.cell? ⟨q.x, 2, none⟩ = some (.slice (some ⟨q.p, 0, none⟩) d'.n d'.n) := hV.six.c2
              have hcl : V.cell? ⟨q.l, i, none⟩ = some (.string ⟨(lo).toArray⟩) := by have := hV.hl.cell (i := i) hi; simpa only [strF, upd_same] using this
              have hco : V.cell? ⟨q.o, i, none⟩ = some (.string ⟨lo.toArray⟩) := by have := hV.ho.cell (i := i) hi; rw [← HLO.out]; exact this
              have hcp : V.cell? ⟨q.p, i, none⟩ = some (.bool (d'.Pend i)) := hV.hp.cell (i := i) hi
              have hfo := hV.ho.frozen i
              have hfp := hV.hp.frozen i
              have HV := Lib.hid hV
              have HKV := Lib.hid hKV
              clear hV hKV
              go_still_tail 13, (by kernel_rfl)
              go_wp2_with fail
              go_roundw
              case rel => exact HDON.out (lo) HBL.out _ (((HV.out.drewN 1).setOld (i := i) hi HBL.out).setPend (i := i) hi false) (HKV.out.trans ((((Kept.refl (XB q) V).drewN 1).trans (kept_o _ q i _)).trans (kept_p _ q i _))) FT HFT.out HE.out
              case measure => simp [Go.RowKit.intOf]; omega
          · obtain rfl : FT = (m : Int) := hmf.2 hneg
            clear hmf
            rcases (show m % 3 = 1 ∨ m % 3 = 2 ∨ m % 3 = 0 by omega) with hr | hr | hr
            · have HE : Hid (behindL (m : Int) lo la = la) := Lib.hid (by rw [HB.out, if_pos hr])
              have g1 : ((m : Int) % 3 == 0) = false := by simp; omega
              have g2 : ((m : Int) % 3 == 2) = false := by simp; omega
              clear hr HB
              go_wp2_with fail
              go_still_tail 13, (by kernel_rfl)
              go_wp2_with fail
              go_roundw
              case rel => exact HDON.out la HLL.out _ (by rw [show upd d'.L i la = d'.L by rw [← HLA.out]; exact upd_self _ _]; exact ((HR.out.drewN 1).setOld (i := i) hi HLL.out).setPend (i := i) hi false) (((Kept.refl (XB q) wr).drewN 1).trans ((kept_o _ q i _).trans (kept_p _ q i _))) (m : Int) HFT.out HE.out
              case measure => simp [Go.RowKit.intOf]; omega
            · obtain ⟨c, hc⟩ : ∃ c, m / 3 % 65 = c := ⟨_, rfl⟩
              have hc64 : c ≤ 64 := by omega
              have HC : (m : Int) / 3 % 65 = (c : Int) := by omega
              have g1 : ((m : Int) % 3 == 0) = false := by simp; omega
              have g2 : ((m : Int) % 3 == 2) = true := by simp; omega
              have hcut := cut_eq hc64 HLL.out HOL.out
              have hs1 := fun V => cutS V hc64 HLL.out
              have hs2 := fun V => dropS V hc64 HOL.out
              have HBL : Hid ((la.take c ++ lo.drop c).length = 64) := Lib.hid (by simp [HLL.out, HOL.out]; omega)
              have HE : Hid (behindL (m : Int) lo la = la.take c ++ lo.drop c) := Lib.hid (by rw [HB.out, if_neg (by omega), if_pos hr]; unfold tornL; rw [hc])
              clear hr HB hc
              go_wp2_with fail
              go_still_tail 25, (by kernel_rfl)
              go_wp2_with fail
              have hV : RfAt (wr.setCell ⟨q.l, i, none⟩ (.string ⟨(la.take c ++ lo.drop c).toArray⟩)).drew q { d' with L := upd d'.L i (la.take c ++ lo.drop c) } := (HR.out.setL hi HBL.out).drewN 1
              have hKV : Kept (XB q) wr (wr.setCell ⟨q.l, i, none⟩ (.string ⟨(la.take c ++ lo.drop c).toArray⟩)).drew := (kept_l wr q i _).drew
              generalize (wr.setCell ⟨q.l, i, none⟩ (.string ⟨(la.take c ++ lo.drop c).toArray⟩)).drew = V at hV hKV ⊢
              clear c0 c1 c2 f hcl hco hcp hfl hfo hfp ct
              have c0 : V.cell? ⟨q.x, 0, none⟩ = some (.slice (some ⟨q.l, 0, none⟩) d'.n q.cl) := hV.six.c0
              have c1 : V.cell? ⟨q.x, 1, none⟩ = some (.slice (some ⟨q.o, 0, none⟩) d'.n q.co) := hV.six.c1
              have c2 : V.cell? ⟨q.x, 2, none⟩ = some (.slice (some ⟨q.p, 0, none⟩) d'.n d'.n) := hV.six.c2
              have hcl : V.cell? ⟨q.l, i, none⟩ = some (.string ⟨(la.take c ++ lo.drop c).toArray⟩) := by have := hV.hl.cell (i := i) hi; simpa only [strF, upd_same] using this
              have hco : V.cell? ⟨q.o, i, none⟩ = some (.string ⟨lo.toArray⟩) := by have := hV.ho.cell (i := i) hi; rw [← HLO.out]; exact this
              have hcp : V.cell? ⟨q.p, i, none⟩ = some (.bool (d'.Pend i)) := hV.hp.cell (i := i) hi
              have hfo := hV.ho.frozen i
              have hfp := hV.hp.frozen i
              have HV := Lib.hid hV
              have HKV := Lib.hid hKV
              clear hV hKV
              go_still_tail 13, (by kernel_rfl)
              go_wp2_with fail
              go_roundw
              case rel => exact HDON.out (la.take c ++ lo.drop c) HBL.out _ (((HV.out.drewN 1).setOld (i := i) hi HBL.out).setPend (i := i) hi false) (HKV.out.trans ((((Kept.refl (XB q) V).drewN 1).trans (kept_o _ q i _)).trans (kept_p _ q i _))) (m : Int) HFT.out HE.out
              case measure => simp [Go.RowKit.intOf]; omega
            · have HE : Hid (behindL (m : Int) lo la = lo) := Lib.hid (by rw [HB.out, if_neg (by omega), if_neg (by omega)])
              have g1 : ((m : Int) % 3 == 0) = true := by simp; omega
              have HBL : Hid (lo.length = 64) := HOL
              clear hr HB
              go_wp2_with fail
              go_still_tail 13, (by kernel_rfl)
              go_wp2_with fail
              have hV : RfAt (wr.setCell ⟨q.l, i, none⟩ (.string ⟨(lo).toArray⟩)).drew q { d' with L := upd d'.L i (lo) } := (HR.out.setL hi HBL.out).drewN 1
              have hKV : Kept (XB q) wr (wr.setCell ⟨q.l, i, none⟩ (.string ⟨(lo).toArray⟩)).drew := (kept_l wr q i _).drew
              generalize (wr.setCell ⟨q.l, i, none⟩ (.string ⟨(lo).toArray⟩)).drew = V at hV hKV ⊢
              clear c0 c1 c2 f hcl hco hcp hfl hfo hfp ct
              have c0 : V.cell? ⟨q.x, 0, none⟩ = some (.slice (some ⟨q.l, 0, none⟩) d'.n q.cl) := hV.six.c0
              have c1 : V.cell? ⟨q.x, 1, none⟩ = some (.slice (some ⟨q.o, 0, none⟩) d'.n q.co) := hV.six.c1
              have c2 : V.cell? ⟨q.x, 2, none⟩ = some (.slice (some ⟨q.p, 0, none⟩) d'.n d'.n) := hV.six.c2
              have hcl : V.cell? ⟨q.l, i, none⟩ = some (.string ⟨(lo).toArray⟩) := by have := hV.hl.cell (i := i) hi; simpa only [strF, upd_same] using this
              have hco : V.cell? ⟨q.o, i, none⟩ = some (.string ⟨lo.toArray⟩) := by have := hV.ho.cell (i := i) hi; rw [← HLO.out]; exact this
              have hcp : V.cell? ⟨q.p, i, none⟩ = some (.bool (d'.Pend i)) := hV.hp.cell (i := i) hi
              have hfo := hV.ho.frozen i
              have hfp := hV.hp.frozen i
              have HV := Lib.hid hV
              have HKV := Lib.hid hKV
              clear hV hKV
              go_still_tail 13, (by kernel_rfl)
              go_wp2_with fail
              go_roundw
              case rel => exact HDON.out (lo) HBL.out _ (((HV.out.drewN 1).setOld (i := i) hi HBL.out).setPend (i := i) hi false) (HKV.out.trans ((((Kept.refl (XB q) V).drewN 1).trans (kept_o _ q i _)).trans (kept_p _ q i _))) (m : Int) HFT.out HE.out
              case measure => simp [Go.RowKit.intOf]; omega
        · have HFT : Hid (fateOf how k = 0) := Lib.hid (by simp [fateOf, List.getD, List.getElem?_eq_none (show how.length ≤ k by omega)])
          have HE : Hid (behindL 0 lo la = lo) := Lib.hid rfl
          have HBL : Hid (lo.length = 64) := HOL
          clear hh2
          go_wp2_with fail
          go_still_tail 13, (by kernel_rfl)
          go_wp2_with fail
          have hV : RfAt (wr.setCell ⟨q.l, i, none⟩ (.string ⟨(lo).toArray⟩)).drew q { d' with L := upd d'.L i (lo) } := (HR.out.setL hi HBL.out).drewN 1
          have hKV : Kept (XB q) wr (wr.setCell ⟨q.l, i, none⟩ (.string ⟨(lo).toArray⟩)).drew := (kept_l wr q i _).drew
          generalize (wr.setCell ⟨q.l, i, none⟩ (.string ⟨(lo).toArray⟩)).drew = V at hV hKV ⊢
          clear c0 c1 c2 f hcl hco hcp hfl hfo hfp ct
          have c0 : V.cell? ⟨q.x, 0, none⟩ = some (.slice (some ⟨q.l, 0, none⟩) d'.n q.cl) := hV.six.c0
          have c1 : V.cell? ⟨q.x, 1, none⟩ = some (.slice (some ⟨q.o, 0, none⟩) d'.n q.co) := hV.six.c1
          have c2 : V.cell? ⟨q.x, 2, none⟩ = some (.slice (some ⟨q.p, 0, none⟩) d'.n d'.n) := hV.six.c2
          have hcl : V.cell? ⟨q.l, i, none⟩ = some (.string ⟨(lo).toArray⟩) := by have := hV.hl.cell (i := i) hi; simpa only [strF, upd_same] using this
          have hco : V.cell? ⟨q.o, i, none⟩ = some (.string ⟨lo.toArray⟩) := by have := hV.ho.cell (i := i) hi; rw [← HLO.out]; exact this
          have hcp : V.cell? ⟨q.p, i, none⟩ = some (.bool (d'.Pend i)) := hV.hp.cell (i := i) hi
          have hfo := hV.ho.frozen i
          have hfp := hV.hp.frozen i
          have HV := Lib.hid hV
          have HKV := Lib.hid hKV
          clear hV hKV
          go_still_tail 13, (by kernel_rfl)
          go_wp2_with fail
          go_roundw
          case rel => exact HDON.out (lo) HBL.out _ (((HV.out.drewN 1).setOld (i := i) hi HBL.out).setPend (i := i) hi false) (HKV.out.trans ((((Kept.refl (XB q) V).drewN 1).trans (kept_o _ q i _)).trans (kept_p _ q i _))) 0 HFT.out HE.out
          case measure => simp [Go.RowKit.intOf]; omega
      · have hge : l.length ≤ k := by omega
        have HEND : Hid (d' = runX how d l 0) := Lib.hid (by rw [← HRUN.out, List.drop_of_length_le hge]; rfl)
        have c5' := HR.out.six.c5
        have c4' := HR.out.six.c4
        have f4 := HR.out.six.f 4
        have f5 := HR.out.six.f 5
        clear hrow2 hh2 hn'
        go_wp2_with fail
        go_end0
        have h8 := (HR.out.setGone false).setAt 0 (by omega)
        have e8 : crashX d how = { d' with At := 0, Gone := false } := by unfold crashX; rw [HL.out, HEND.out]
        exact ⟨rfl, by rw [e8]; exact h8, HKW.out.trans ((kept_x wr q 5 _).trans (kept_x _ q 4 _))⟩
end
end Go.Proofs.Ytpobflionjndcaa
