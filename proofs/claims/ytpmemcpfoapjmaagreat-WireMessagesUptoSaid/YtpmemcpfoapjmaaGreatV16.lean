/- The document's own answers of layer 2: a request, taken up. -/
import Derived.Test.YtpmemcpfoapjmaaGreatV10
import Derived.Test.YtpmemcpfoapjmaaGreatV15
import Derived.Deep.RegionLaw
import Derived.Deep.DeepCutAuto
import Derived.WalkSpells
import Derived.Outline
namespace Go.Proofs.YtpmemcpfoapjmaaGreat
open Go.ChangeShapes Go.WideShapes Go.ChangeAt Go.RowKit
set_option linter.unusedVariables false

set_option maxRecDepth 100000 in
set_option maxHeartbeats 16000000 in
theorem reftake_req (w : World) (b : Nat) (s : ByteArray) (p pos e : Nat) (hF : FAt w b s p e) (hp : e = 0 → p = pos) {x : Req} {q e' : Nat} (h : reqF.get s.data.toList pos e = (x, q, e')) :
    Calls Tryz.prog 69 #[.pointer (some ⟨b, 0, none⟩)] w (FGPost reqE 10 [] w b s x q e') := by
  have HSE := Lib.hid (show (Tryz.prog.info? 28).map (·.size) = some 10 by kernel_rfl)
  have HSS := Lib.hid (show (Tryz.prog.info? 25).map (·.size) = some 1 by kernel_rfl)
  obtain ⟨i, hi, hz0, hz1, hz2⟩ := info_parts info_oper1
  have HI := Lib.hid (And.intro hi (And.intro hz0 (And.intro hz1 hz2)))
  clear hi hz0 hz1 hz2
  obtain ⟨j, hi, hz0, hz1, hz2⟩ := info_parts info_armed
  have HJ := Lib.hid (And.intro hi (And.intro hz0 (And.intro hz1 hz2)))
  clear hi hz0 hz1 hz2
  obtain ⟨x1, q1, e0, g1⟩ : ∃ aa qq ee, oper1F.get s.data.toList pos e = (aa, qq, ee) := ⟨_, _, _, eta3 _⟩
  have hcl := rCount_le s.data.toList 256 q1 e0
  rcases g2 : rCount s.data.toList 256 q1 e0 with ⟨n, p1, e1⟩
  rw [g2] at hcl
  obtain ⟨xs, q3, e3, g3⟩ : ∃ aa qq ee, getN oper1F.get n s.data.toList p1 e1 = (aa, qq, ee) := ⟨_, _, _, eta3 _⟩
  have hcl2 := rCount_le s.data.toList 256 q3 e3
  rcases g4 : rCount s.data.toList 256 q3 e3 with ⟨m, p4, e4⟩
  rw [g4] at hcl2
  obtain ⟨ams, q6, e6, g6⟩ : ∃ aa qq ee, getN armedF.get m s.data.toList p4 e4 = (aa, qq, ee) := ⟨_, _, _, eta3 _⟩
  have hget : reqF.get s.data.toList pos e = (⟨x1, xs, ams⟩, q6, e6) := by simp only [reqF, isoF, seqF, listF, g1, g2, g3, g4, g6]
  rw [hget] at h
  simp only [Prod.mk.injEq] at h
  obtain ⟨rfl, rfl, rfl⟩ := h
  have hlist : (listF oper1F).get s.data.toList q1 e0 = (xs, q3, e3) := by simp only [listF, g2, g3]
  have hlist2 : (listF armedF).get s.data.toList q3 e3 = (ams, q6, e6) := by simp only [listF, g4, g6]
  have HZ2 := Lib.hid (show e6 = 0 → e3 = 0 from fun h0 => back0 (listF_ok armedF_ok) hlist2 h0)
  have HZ := Lib.hid (show e3 = 0 → e0 = 0 from fun h0 => back0 (listF_ok oper1F_ok) hlist h0)
  have KC := Lib.hid (fun (W : World) (p : Nat) (hF : FAt W b s p e0) (hp : e0 = 0 → p = q1) => refcnt_any W b s p q1 e0 hF hp g2)
  have KC2 := Lib.hid (fun (W : World) (p : Nat) (hF : FAt W b s p e3) (hp : e3 = 0 → p = q3) => refcnt_any W b s p q3 e3 hF hp g4)
  have HH := Lib.hid g3
  have HH2 := Lib.hid g6
  have hn : n ≤ 256 := by have h := hcl; simp only at h; omega
  have hm : m ≤ 256 := by have h := hcl2; simp only at h; omega
  have hbw := lt_of_block hF.at_
  have hK0 : Kept (RS b) w (w.alloc (.cells ([.int .i64 0, .int .i64 0, .string ⟨#[]⟩, .string ⟨#[]⟩, .slice none 0 0, .int .i64 0, .int .i64 0, .bool false, .slice none 0 0, .slice none 0 0] : List Value).toArray 28)) := (Kept.refl _ w).alloc _
  have hF0 : FAt (w.alloc (.cells ([.int .i64 0, .int .i64 0, .string ⟨#[]⟩, .string ⟨#[]⟩, .slice none 0 0, .int .i64 0, .int .i64 0, .bool false, .slice none 0 0, .slice none 0 0] : List Value).toArray 28)) b s p e := hF.keep ((Kept.refl (fun _ => False) w).alloc _) id
  have hres0 := heap_alloc_new w (.cells ([.int .i64 0, .int .i64 0, .string ⟨#[]⟩, .string ⟨#[]⟩, .slice none 0 0, .int .i64 0, .int .i64 0, .bool false, .slice none 0 0, .slice none 0 0] : List Value).toArray 28)
  have K1 := Lib.hid (reftake_op (w.alloc (.cells ([.int .i64 0, .int .i64 0, .string ⟨#[]⟩, .string ⟨#[]⟩, .slice none 0 0, .int .i64 0, .int .i64 0, .bool false, .slice none 0 0, .slice none 0 0] : List Value).toArray 28)) b s p pos e hF0 hp g1)
  have HK0 := Lib.hid hK0
  have HRES0 := Lib.hid hres0
  clear hget g1 g2 g3 g4 g6 hlist hlist2 hcl hcl2 hF hF0 hp hK0 hres0
  go_enter Tryz.func69, Tryz.ntmps69
  go_wp2_with fail
  refine K1.out.mono ?_
  rintro en w0 ⟨cs, p0, rfl, hfl, hnl, hE0, hF0, hp0, hk0⟩
  have hA : Kept (fun _ => False) w0 (w0.alloc (.cells cs.toArray 28)) := (Kept.refl _ w0).alloc _
  have hK1 : Kept (RS b) w (w0.alloc (.cells cs.toArray 28)) := Kept.trans' (HK0.out.trans hk0) hA (fun j _ hj => hj.elim)
  have hgz : w.heap.size + 1 ≤ w0.heap.size := by have := hk0.size; simp at this; omega
  have hres1 : (w0.alloc (.cells cs.toArray 28)).heap[w.heap.size]? = some (.cells ([.int .i64 0, .int .i64 0, .string ⟨#[]⟩, .string ⟨#[]⟩, .slice none 0 0, .int .i64 0, .int .i64 0, .bool false, .slice none 0 0, .slice none 0 0] : List Value).toArray 28 (0, 0)) :=
    (hA.block _ (by omega) id).trans ((hk0.block _ (by simp) (fun hs => by have hs' : w.heap.size = b := hs; omega)).trans HRES0.out)
  have hbox1 := heap_alloc_new w0 (.cells cs.toArray 28)
  have hF1 := hF0.keep hA id
  have hE1 : WkE e0 oper1E (w0.alloc (.cells cs.toArray 28)) (fun j => w.heap.size + 1 ≤ j ∧ j ≠ w0.heap.size) cs x1 :=
    (WkE_ok oper1E_ok).keep ((WkE_ok oper1E_ok).mono hE0 (fun j hj hj' => ⟨by have h2 : (w.alloc (.cells ([.int .i64 0, .int .i64 0, .string ⟨#[]⟩, .string ⟨#[]⟩, .slice none 0 0, .int .i64 0, .int .i64 0, .bool false, .slice none 0 0, .slice none 0 0] : List Value).toArray 28)).heap.size ≤ j := hj'; simpa using h2, by omega⟩)) hA (disj_none _)
  have HP0 := Lib.hid hp0
  have HFL0 := Lib.hid hfl
  have HCL := Lib.hid hfl.1
  have hw1z : w0.heap.size < (w0.alloc (.cells cs.toArray 28)).heap.size := by simp
  have HNIL := Lib.hid (hnl 8 (by simp))
  have HNIL9 := Lib.hid (hnl 9 (by simp))
  clear hk0 hF0 hp0 hE0 hfl hnl hA K1 HK0 HRES0
  obtain ⟨g, hg⟩ : ∃ g, w0.heap.size = g := ⟨_, rfl⟩
  rw [hg] at hgz hbox1 hE1 hw1z
  have HG0 := Lib.hid hg; clear hg
  have HFL := HFL0
  go_wp2_with (refine wpList_store_new w0 rfl 28 _ _ rfl _ cs rfl rfl (by rw [HFL.out.1]; exact HSE.out) HFL.out.1.symm HFL.out.2 ?_)
  generalize hw1 : w0.alloc (.cells cs.toArray 28) = w1 at hK1 hres1 hbox1 hF1 hE1 hw1z
  rw [HG0.out]
  clear hw1 HG0
  have HBOX1 := Lib.hid hbox1
  have HRES1 := Lib.hid hres1
  have HE1 := Lib.hid hE1
  have HK1 := Lib.hid hK1
  clear hbox1 hres1 hE1 hK1 HFL
  refine (KC.out _ _ hF1 HP0.out).mono ?_
  rintro en wl ⟨pl, rfl, hFl, hpl, hkl⟩
  have hzl : w1.heap.size ≤ wl.heap.size := hkl.size
  have hbl : b < wl.heap.size := by omega
  have hgl : g < wl.heap.size := by omega
  have hbg : b ≠ g := by omega
  have HB := Lib.hid hbl; clear hbl
  have HG := Lib.hid hgl; clear hgl
  have HBG := Lib.hid hbg
  have hboxl : wl.heap[g]? = some (.cells cs.toArray 28 (0, 0)) := (hkl.block _ hw1z (fun hs => by have hs' : g = b := hs; omega)).trans HBOX1.out
  have HRESL := Lib.hid ((hkl.block _ (by omega) (fun hs => by have hs' : w.heap.size = b := hs; omega)).trans HRES1.out)
  have HEL := Lib.hid ((WkE_ok oper1E_ok).keep HE1.out hkl (fun j hj hj' => by have h2 : j = b := hj'; have h1 := hj.1; omega))
  have HKL := Lib.hid (HK1.out.trans hkl)
  have HSTART := Lib.hid (SubRel.start (E := oper1E) (f := oper1F) (Te := 28) (sz := 10) (n := n) hFl hpl hboxl HNIL.out)
  clear hFl hpl hboxl HNIL hkl hF1 HP0 HE1 HK1 HRES1 HBOX1 KC hbg
  go_wp2_with fail
  go_loopw [5] (fun iv wr => SubRel oper1E oper1F b s 28 g cs 8 wl 28 10 n p1 e1 iv wr) (fun iv _ => n - (intOf iv).toNat)
  case atStart => exact HSTART.out
  case round =>
    obtain ⟨k, pk, acc, rfl, hkn, hacc, hFk, hpk, hbox, hK⟩ := hrel.ex
    clear hrel HSTART
    have hkz : wl.heap.size ≤ wr.heap.size := hK.size
    by_cases hgo : k < n ∧ (getN oper1F.get k s.data.toList p1 e1).2.2 = 0
    · obtain ⟨hlt, hz⟩ := hgo
      have hkl : (k : Int) < (n : Int) := by omega
      rcases hgn : getN oper1F.get k s.data.toList p1 e1 with ⟨ys, qk, ek⟩
      have hlen := getN_len (oper1F).get k s.data.toList p1 e1
      have hsn := getN_snoc (oper1F).get k s.data.toList p1 e1
      rw [hgn] at hacc hFk hpk hz hlen hsn
      simp only at hacc hFk hpk hz hlen hsn
      subst hz
      obtain ⟨y, qb, eb, gy⟩ : ∃ aa qq ee, oper1F.get s.data.toList qk 0 = (aa, qq, ee) := ⟨_, _, _, eta3 _⟩
      rw [gy] at hsn
      simp only at hsn
      have KY := Lib.hid (fun (W : World) (p : Nat) (hF : FAt W b s p 0) (hp : 0 = 0 → p = qk) => reftake_op W b s p qk 0 hF hp gy)
      have HSN := Lib.hid hsn
      have c2 := hFk.c2
      have HPK := Lib.hid hpk
      clear hgn gy hsn hpk
      go_wp2_with fail
      refine (KY.out _ _ hFk HPK.out).mono ?_
      rintro en w1 ⟨cy, pb, rfl, hfl, _, hEy, hFb, hpb, hkb⟩
      have HPB := Lib.hid hpb
      have hacc1 : AccR (WkE eb oper1E) wl w1 28 10 acc ys := sub_call oper1E_ok HB.out HBG.out hacc hkb
      have hE1 := sub_elem (c := cy) (y := y) oper1E_ok hacc hkz hEy
      have hwb : w1.heap[g]? = some (.cells (cs.set 8 acc).toArray 28 (0, 0)) := (hkb.block _ (lt_of_block hbox) (fun hs => by have hs' : g = b := hs; have := HBG.out; omega)).trans hbox
      have hK1 : Kept (BG b g) wl w1 := Kept.trans' hK hkb (fun j _ hj => Or.inl hj)
      have hA : Kept (fun _ => False) w1 (w1.alloc (.cells cy.toArray 28)) := (Kept.refl _ w1).alloc _
      have hacc2 := hacc1.keep (WkE_ok oper1E_ok) hA (disj_none _)
      have hE2 := (WkE_ok oper1E_ok).keep hE1 hA (disj_none _)
      have hbox2 := (hA.block _ (lt_of_block hwb) id).trans hwb
      have hF2 := hFb.keep hA id
      have hK2 : Kept (BG b g) wl (w1.alloc (.cells cy.toArray 28)) := Kept.trans' hK1 hA (fun j _ hj => hj.elim)
      have hnew := heap_alloc_new w1 (.cells cy.toArray 28)
      have hwl : wl.heap.size ≤ (w1.alloc (.cells cy.toArray 28)).heap.size := hK2.size
      have hg7 : (cs.set 8 acc)[8]? = some acc := by rw [List.getElem?_set_self (by rw [HCL.out]; decide)]
      have HFL := Lib.hid hfl
      clear hacc hE1 hacc1 hEy hbox hwb hA hK1 hkb hpb hK hFk hFb hfl c2 HPK KY
      generalize hw2 : w1.alloc (.cells cy.toArray 28) = w2 at hacc2 hE2 hbox2 hF2 hK2 hnew hwl
      have c7 : w2.cell? ⟨g, 8, none⟩ = some acc := cell_of_heap hbox2 hg7
      have HRY := Lib.hid (range_row hnew)
      have HBOX := Lib.hid hbox2
      have HW2 := Lib.hid hw2
      have HBZ := Lib.hid (lt_of_block hbox2)
      have hsl := hacc2.isSl
      clear hw2 hnew hbox2 hg7
      go_upto_region 7 with (refine wpList_store_new w1 rfl 28 _ _ rfl _ cy rfl rfl (by rw [HFL.out.1]; exact HSE.out) HFL.out.1.symm HFL.out.2 ?_)
      rw [HW2.out]
      obtain ⟨an0, an1, an2, rfl⟩ := hsl
      go_wp2_with (first
        | (refine wpList_load_mid rfl 28 (.tmp 6) rfl w1.heap.size 0 rfl cy _ HRY.out Tryz.underlying28 rfl (by rw [HFL.out.1]; exact HSE.out) ?_)
        | (refine wpList_one rfl 25 28 (.tmp 31) rfl (.agg cy.toArray) cy rfl rfl i _ Tryz.underlying25 HI.out.1 HI.out.2.1 (by rw [HI.out.2.2.1, HFL.out.1]) (by rw [HFL.out.1]; decide) (by rw [HFL.out.1]; decide) ?_)
        | (at_builtin; go_loud (refine wpList_push (WkE_ok oper1E_ok) wl w2 rfl (.tmp 30) (.tmp 32) 25 rfl 28 i _ 10 144 Tryz.underlying25 HI.out.1 HI.out.2.1 HI.out.2.2.1 HI.out.2.2.2 rfl (by decide) (.slice an0 an1 an2) _ hacc2 cy _ hE2 HFL.out rfl rfl (by omega) (by decide) hwl ?_); intro v' w' hacc' hk'; have hslv := hacc'.isSl; obtain ⟨bn0, bn1, bn2, rfl⟩ := hslv; have HBOX' := Lib.hid ((hk'.block _ HBZ.out (fun hs => by have hs' : wl.heap.size ≤ g := hs; have := HG.out; omega)).trans HBOX.out))
        | (refine wpList_store_to rfl 25 (.tmp 34) (.tmp 33) rfl g 8 (.slice bn0 bn1 bn2) rfl rfl rfl (cs.set 8 (.slice an0 an1 an2)) 28 HBOX'.out (by rw [List.length_set, HCL.out]; decide) HSS.out _ rfl _ rfl ?_))
      go_roundw
      case rel => exact SubRel.step oper1E_ok HB.out HG.out HBG.out hlt HSN.out hacc' (hF2.keep hk' (fun hs => by have hs' : wl.heap.size ≤ b := hs; have := HB.out; omega)) HPB.out HBOX'.out (Kept.trans' hK2 hk' (fun j hj hs => by have hs' : wl.heap.size ≤ j := hs; omega))
      case measure => simp [intOf]; omega
    · obtain ⟨hend, hee⟩ := SubRel.out (cs := cs) (T := 28) (g := g) (idx := 8) oper1E_ok oper1F_ok hgo hkn HH.out hacc hFk hpk hbox hK
      have hex : ¬ k < n ∨ (k < n ∧ e3 ≠ 0) := by rw [hee] at hgo; omega
      have HEX := Lib.hid hex
      have HEND := Lib.hid hend
      have c2 := hend.rd.c2
      clear hgo hee hex hacc hFk hpk hbox hK hend hkz
      go_upto_region 4 with fail
      go_cut [24] (fun v wx => v = .bool false ∧ wx = wr)
      case first =>
        rcases HEX.out with hlt | ⟨hlt, hne⟩
        · have hkl : ¬ (k : Int) < (n : Int) := by omega
          go_wp2_with fail
          go_meet
          exact ⟨rfl, rfl⟩
        · have hkl : (k : Int) < (n : Int) := by omega
          have hneb : (((e3 : Nat) : Int) == 0) = false := by simpa using hne
          go_wp2_with fail
          go_meet
          exact ⟨rfl, rfl⟩
      case rest =>
      obtain ⟨rfl, rfl⟩ := hcut
      clear c2 HEX
      -- behind the first list
      obtain ⟨sa, sn, sc, rfl⟩ := HEND.out.shape
      have hfs : Flat 10 (cs.set 8 (.slice sa sn sc)) := flat_set HFL0.out 8 rfl
      have hF2 := HEND.out.rd
      have hE2 : WkE e0 oper1E wc (fun j => w.heap.size + 1 ≤ j ∧ j ≠ g) cs x1 := (WkE_ok oper1E_ok).keep HEL.out HEND.out.kept (fun j hj hs => by rcases hs with hs | hs; (have := hj.1; omega); exact hj.2 hs)
      have hRES2 : wc.heap[w.heap.size]? = some (.cells ([.int .i64 0, .int .i64 0, .string ⟨#[]⟩, .string ⟨#[]⟩, .slice none 0 0, .int .i64 0, .int .i64 0, .bool false, .slice none 0 0, .slice none 0 0] : List Value).toArray 28 (0, 0)) := (HEND.out.kept.block _ (by have := HB.out; omega) (fun hs => by rcases hs with hs | hs <;> omega)).trans HRESL.out
      have hKf : Kept (RS b) w wc := Kept.trans' HKL.out HEND.out.kept (fun j hj hs => by rcases hs with hs | hs; exact hs; omega)
      have hL2 : e3 = 0 → ListR oper1E wc (fun j => w.heap.size + 1 ≤ j ∧ j ≠ g) 10 (.slice sa sn sc) xs := fun h0 => (HEND.out.list h0).mono oper1E_ok (fun j _ hj => by have hj' : wl.heap.size ≤ j := hj; have := HG.out; exact ⟨by omega, by omega⟩)
      have hbox2 := HEND.out.box
      have hzc : wl.heap.size ≤ wc.heap.size := HEND.out.kept.size
      have hn9 : (cs.set 8 (.slice sa sn sc))[9]? = some (.slice none 0 0) := by rw [List.getElem?_set_ne (by decide)]; exact HNIL9.out
      have HPE := Lib.hid HEND.out.pos
      obtain ⟨cs8, hcs8⟩ : ∃ c, cs.set 8 (.slice sa sn sc) = c := ⟨_, rfl⟩
      rw [hcs8] at hfs hbox2 hn9
      have HCS8 := Lib.hid hcs8; clear hcs8
      have HFL8 := Lib.hid hfs
      have HCL8 := Lib.hid hfs.1
      have HE2 := Lib.hid hE2
      have HRES2 := Lib.hid hRES2
      have HKF := Lib.hid hKf
      have HL2 := Lib.hid hL2
      have HBOX2 := Lib.hid hbox2
      have hbc : b < wc.heap.size := by have := HB.out; omega
      have hgc : g < wc.heap.size := by have := HG.out; omega
      clear hfs hE2 hRES2 hKf hL2 hbox2 HEND HEL HRESL HKL HB HG
      go_wp2_with fail
      refine (KC2.out _ _ hF2 HPE.out).mono ?_
      rintro en wm ⟨pm, rfl, hFm, hpm, hkm⟩
      have hzm : wc.heap.size ≤ wm.heap.size := hkm.size
      have hbm : b < wm.heap.size := by omega
      have hgm : g < wm.heap.size := by omega
      have HB := Lib.hid hbm; clear hbm
      have HG := Lib.hid hgm; clear hgm
      have hboxm : wm.heap[g]? = some (.cells cs8.toArray 28 (0, 0)) := (hkm.block _ hgc (fun hs => by have hs' : g = b := hs; have := HBG.out; omega)).trans HBOX2.out
      have HRESL := Lib.hid ((hkm.block _ (by omega) (fun hs => by have hs' : w.heap.size = b := hs; omega)).trans HRES2.out)
      have HEL := Lib.hid ((WkE_ok oper1E_ok).keep HE2.out hkm (fun j hj hj' => by have h2 : j = b := hj'; have h1 := hj.1; omega))
      have HKL := Lib.hid (HKF.out.trans hkm)
      have HLL := Lib.hid (fun h0 => (HL2.out h0).keep oper1E_ok hkm (fun j hj hj' => by have h2 : j = b := hj'; have h1 := hj.1; omega))
      have HSTART := Lib.hid (SubRel.start (E := armedE) (f := armedF) (Te := 73) (sz := 5) (n := m) hFm hpm hboxm hn9)
      have HSA := Lib.hid (show (Tryz.prog.info? 26).map (·.size) = some 1 by kernel_rfl)
      clear hFm hpm hboxm hn9 hkm hF2 HPE HE2 HKF HRES2 HBOX2 KC2 HL2 HNIL9 hkn
      clear HH hbc hgc
      go_wp2_with fail
      go_loopw [7] (fun iv wr => SubRel armedE armedF b s 28 g cs8 9 wm 73 5 m p4 e4 iv wr) (fun iv _ => m - (intOf iv).toNat)
      case atStart => exact HSTART.out
      case round =>
        obtain ⟨k2, pk2, acc, rfl, hkn, hacc, hFk, hpk, hbox, hK⟩ := hrel.ex
        clear hrel HSTART
        have hkz : wm.heap.size ≤ wr.heap.size := hK.size
        by_cases hgo : k2 < m ∧ (getN armedF.get k2 s.data.toList p4 e4).2.2 = 0
        · obtain ⟨hlt, hz⟩ := hgo
          have hkl : (k2 : Int) < (m : Int) := by omega
          rcases hgn : getN armedF.get k2 s.data.toList p4 e4 with ⟨ys, qk, ek⟩
          have hlen := getN_len (armedF).get k2 s.data.toList p4 e4
          have hsn := getN_snoc (armedF).get k2 s.data.toList p4 e4
          rw [hgn] at hacc hFk hpk hz hlen hsn
          simp only at hacc hFk hpk hz hlen hsn
          subst hz
          obtain ⟨a0, r0, f0, t0⟩ : ∃ aa qq ee, numF.get s.data.toList qk 0 = (aa, qq, ee) := ⟨_, _, _, eta3 _⟩
          obtain ⟨a1, r1, f1, t1⟩ : ∃ aa qq ee, (textF 4096).get s.data.toList r0 f0 = (aa, qq, ee) := ⟨_, _, _, eta3 _⟩
          obtain ⟨a2, r2, f2, t2⟩ : ∃ aa qq ee, numF.get s.data.toList r1 f1 = (aa, qq, ee) := ⟨_, _, _, eta3 _⟩
          obtain ⟨a3, r3, f3, t3⟩ : ∃ aa qq ee, numF.get s.data.toList r2 f2 = (aa, qq, ee) := ⟨_, _, _, eta3 _⟩
          obtain ⟨a4, r4, eb, t4⟩ : ∃ aa qq ee, numF.get s.data.toList r3 f3 = (aa, qq, ee) := ⟨_, _, _, eta3 _⟩
          have hone : armedF.get s.data.toList qk 0 = (⟨a0, a1, a2, a3, a4⟩, r4, eb) := by simp only [armedF, isoF, seqF, t0, t1, t2, t3, t4]
          rw [hone] at hsn
          simp only at hsn
          have j0 : I64 a0 := num_fit t0
          have j1 : Str a1 := text_fit (by decide) t1
          have j2 : I64 a2 := num_fit t2
          have j3 : I64 a3 := num_fit t3
          have j4 : I64 a4 := num_fit t4
          have hn3 : numsN 3 s.data.toList r1 f1 = ([a2, a3, a4], r4, eb) := by simp only [numsN, getN, t2, t3, t4]
          have A0 := Lib.hid (fnum_of t0)
          have A1 := Lib.hid (ftext_of (by decide) t1)
          have A2 := Lib.hid (ftake_of (by decide) hn3)
          have HJE := Lib.hid (And.intro j0 (And.intro j1 (And.intro j2 (And.intro j3 j4))))
          have HSN := Lib.hid hsn
          have HPK := Lib.hid hpk
          have c2 := hFk.c2
          clear hgn t0 t1 t2 t3 t4 hone hsn hpk hn3 j0 j1 j2 j3 j4
          go_wp2_with fail
          refine (A0.out _ _ _ hFk HPK.out).mono ?_
          rintro en w1 ⟨b0, rfl, hF1, hp1, hk1⟩
          have HP1 := Lib.hid hp1; clear hp1
          go_wp2_with fail
          refine (A1.out _ _ _ hF1 HP1.out).mono ?_
          rintro en w2 ⟨b1, rfl, hF2, hp2, hk2⟩
          have HP2 := Lib.hid hp2; clear hp2
          go_wp2_with fail
          refine (A2.out _ _ _ hF2 HP2.out).mono ?_
          rintro en w3 ⟨tk, b2, rfl, hblk, hgt, hF3, hp3, hk3⟩
          have HP3 := Lib.hid hp3; clear hp3
          have hkk := (hk1.trans hk2).trans hk3
          have hacc1 : AccR (WkE eb armedE) wm w3 73 5 acc ys := sub_call armedE_ok HB.out HBG.out hacc hkk
          have hown := hacc.own
          have hbox3 : w3.heap[g]? = some (.cells (cs8.set 9 acc).toArray 28 (0, 0)) := (hkk.block _ (lt_of_block hbox) (fun hs => by have hs' : g = b := hs; have := HBG.out; omega)).trans hbox
          have hK3 : Kept (BG b g) wm w3 := Kept.trans' hK hkk (fun j _ hj => Or.inl hj)
          have hz12 : wr.heap.size ≤ w2.heap.size := (hk1.trans hk2).size
          have hne1 : acc.ownBlock ≠ some tk := fun h => by have := (hown tk h).2; omega
          have hne2 : tk ≠ g := by have := HG.out; omega
          have hne3 : acc.ownBlock ≠ some g := fun h => by have := (hown g h).1; have := HG.out; omega
          have hgz3 : g < w3.heap.size := lt_of_block hbox3
          have htz3 : tk < w3.heap.size := lt_of_block hblk
          have hg9 : (cs8.set 9 acc)[9]? = some acc := by rw [List.getElem?_set_self (by rw [HCL8.out]; decide)]
          obtain ⟨an0, an1, an2, rfl⟩ := hacc1.isSl
          have hwl : wm.heap.size ≤ w3.heap.size := hK3.size
          have c9 : w3.cell? ⟨g, 9, none⟩ = some (.slice an0 an1 an2) := cell_of_heap hbox3 hg9
          have HBLK := Lib.hid hblk
          have HBOX3 := Lib.hid hbox3
          have HG9 := Lib.hid hg9
          have HSS9 := Lib.hid (show ∀ w', AsAt tk w3 w' → w'.cell? ⟨tk, 0, none⟩ = some (.int .i64 a2) ∧ w'.cell? ⟨tk, 1, none⟩ = some (.int .i64 a3) ∧ w'.cell? ⟨tk, 2, none⟩ = some (.int .i64 a4) ∧ AsAt tk w3 w' from fun w' h => ⟨h.cell HBLK.out 0 _ rfl, h.cell HBLK.out 1 _ rfl, h.cell HBLK.out 2 _ rfl, h⟩)
          have HACC := Lib.hid hacc1
          have HNE1 := Lib.hid hne1
          have HNE2 := Lib.hid hne2
          have HNE3 := Lib.hid hne3
          have HK3 := Lib.hid hK3
          have HF3 := Lib.hid hF3
          have HFA : Hid (Flat 5 [Value.int .i64 a0, .string a1, .int .i64 a2, .int .i64 a3, .int .i64 a4]) := Lib.hid ⟨rfl, by simp [Value.oneCell']⟩
          clear hacc hFk hbox hK hk1 hk2 hk3 hkk hF1 hF2 hblk hgt hbox3 hg9 hacc1 hown hne1 hne2 hne3 hK3 hF3 c2 A0 A1 A2 HP1 HP2 HPK hz12
          go_upto_region 15 with fail
          have d0 : w3.cell? ⟨tk, 0, none⟩ = some (.int .i64 a2) := cell_of_heap HBLK.out rfl
          have d1 : w3.cell? ⟨tk, 1, none⟩ = some (.int .i64 a3) := cell_of_heap HBLK.out rfl
          have d2 : w3.cell? ⟨tk, 2, none⟩ = some (.int .i64 a4) := cell_of_heap HBLK.out rfl
          have n9 := World.new_ne w3 ⟨g, 9, none⟩ c9
          have n0 := World.new_ne w3 ⟨tk, 0, none⟩ d0
          have n1 := World.new_ne w3 ⟨tk, 1, none⟩ d1
          have n2 := World.new_ne w3 ⟨tk, 2, none⟩ d2
          have hW := run_push_at (P := Tryz.prog) (W := w3.drew.alloc (.cells [Value.int .i64 a0, .string a1, .int .i64 a2, .int .i64 a3, .int .i64 a4].toArray 73)) (WkE_ok armedE_ok) (HACC.out.keep (WkE_ok armedE_ok) ((Old.refl w3).drew.make _) (fun j _ hj => hj)) (heap_alloc_new w3.drew _) (y := ⟨a0, a1, a2, a3, a4⟩) (fun _ => ⟨rfl, HJE.out⟩) HFA.out 26 26 j _ Tryz.underlying26 HJ.out.1 HJ.out.2.1 HJ.out.2.2.1 HJ.out.2.2.2 rfl (by decide) (c := 1) (by omega) (by decide) (by simp; omega)
          obtain ⟨v', w', hr, hacc', hk'⟩ := hW
          obtain ⟨bn0, bn1, bn2, rfl⟩ := hacc'.isSl
          have hk3 : Kept (fun k => some k = (Value.slice an0 an1 an2).ownBlock) w3 w' := Kept.trans' (o_keptS ((Old.refl w3).drew.make _)) hk' (fun _ _ h => h)
          have hb' : w'.heap[g]? = some (.cells (cs8.set 9 (.slice an0 an1 an2)).toArray 28 (0, 0)) := (hk3.block _ hgz3 (fun h => HNE3.out h.symm)).trans HBOX3.out
          have c9' : w'.cell? ⟨g, 9, none⟩ = some (.slice an0 an1 an2) := cell_of_heap hb' HG9.out
          have f9' : w'.frozen? ⟨g, 9, none⟩ = false := by simp [World.frozen?, hb']
          have HSET := Lib.hid (show w'.setCell ⟨g, 9, none⟩ (.slice bn0 bn1 bn2) = w'.setRow g (cs8.set 9 (.slice bn0 bn1 bn2)).toArray by rw [setCell_row hb', List.set_set])
          have HBX' := Lib.hid hb'
          have HNB := Lib.hid (show ¬ (some b = (Value.slice an0 an1 an2).ownBlock) from fun h => by have := (HACC.out.own b h.symm).1; have := HB.out; omega)
          have HOWN := Lib.hid (show ∀ j, (Value.slice an0 an1 an2).ownBlock = some j → wm.heap.size ≤ j from fun j h => (HACC.out.own j h).1)
          have HR := Lib.hid hr; clear hr
          have HAC := Lib.hid hacc'; clear hacc'
          have HK3' := Lib.hid hk3; clear hk3 hb' hk'
          go_region_law ((refine step_append_run (by rfl) _ _ _ (by rfl) _ _ (by rfl) (by rfl) (.slice bn0 bn1 bn2) w' HR.out ?_))
          all_goals go_wp2_with fail
          all_goals go_roundw
          all_goals first
            | (case rel =>
                rw [HSET.out]
                exact SubRel.step armedE_ok HB.out HG.out HBG.out hlt HSN.out HAC.out (HF3.out.keep HK3'.out HNB.out) HP3.out HBX'.out (Kept.trans' HK3.out HK3'.out (fun j hj hs => by have := HOWN.out j hs.symm; omega)))
            | (case measure => simp [intOf]; omega)
        · obtain ⟨hend, hee⟩ := SubRel.out (cs := cs8) (T := 28) (g := g) (idx := 9) armedE_ok armedF_ok hgo hkn HH2.out hacc hFk hpk hbox hK
          have hex : ¬ k2 < m ∨ (k2 < m ∧ e6 ≠ 0) := by rw [hee] at hgo; omega
          have HEX := Lib.hid hex
          have HEND := Lib.hid hend
          have c2 := hend.rd.c2
          clear hgo hee hex hacc hFk hpk hbox hK hend hkz
          go_upto_region 10 with fail
          go_cut [46] (fun v wx => v = .bool false ∧ wx = wr)
          case first =>
            rcases HEX.out with hlt | ⟨hlt, hne⟩
            · have hkl : ¬ (k2 : Int) < (m : Int) := by omega
              go_wp2_with fail
              go_meet
              exact ⟨rfl, rfl⟩
            · have hkl : (k2 : Int) < (m : Int) := by omega
              have hneb : (((e6 : Nat) : Int) == 0) = false := by simpa using hne
              go_wp2_with fail
              go_meet
              exact ⟨rfl, rfl⟩
          case rest =>
          obtain ⟨rfl, rfl⟩ := hcut
          clear c2 HEX
          have HBX := Lib.hid HEND.out.box
          have HRG := Lib.hid (range_row HBX.out)
          have HRES := Lib.hid ((HEND.out.kept.block _ (by have := HB.out; omega) (fun hs => by rcases hs with hs | hs <;> omega)).trans HRESL.out)
          obtain ⟨ta, tn, tc, rfl⟩ := HEND.out.shape
          have hfs : Flat 10 (cs8.set 9 (.slice ta tn tc)) := flat_set HFL8.out 9 rfl
          have HFS := Lib.hid hfs; clear hfs
          have HSE2 := Lib.hid (info_len HSE.out HFS.out.1)
          go_wp2_with (first
            | (refine wpList_load_mid rfl 28 (.tmp 3) rfl g 0 rfl (cs8.set 9 (.slice ta tn tc)) _ HRG.out Tryz.underlying28 rfl HSE2.out ?_)
            | (refine wpList_store_row _ rfl 28 (.tmp 2) (.tmp 72) rfl w.heap.size _ (cs8.set 9 (.slice ta tn tc)) rfl rfl HRES.out HSE2.out HFS.out.1.symm HFS.out.2 ?_))
          have hrow := setRow_heap _ w.heap.size _ (cs8.set 9 (.slice ta tn tc)).toArray _ _ HRES.out
          have hload := run_loadVar_row (P := Tryz.prog) _ w.heap.size 28 28 _ (0, 0) _ hrow Tryz.underlying28 rfl (by rw [List.size_toArray]; exact HSE2.out)
          have hKf : Kept (RS b) w wc := Kept.trans' HKL.out HEND.out.kept (fun j hj hs => by rcases hs with hs | hs; exact hs; omega)
          refine ret_cell 2 28 w.heap.size _ Tryz.results69 rfl hload rfl ⟨_, pk2, rfl, HFS.out, by simp, fun h0 => ?_, HEND.out.rd.keep (setRow_kept _ _ _) (fun hs => by omega), HEND.out.pos, Kept.trans' hKf (setRow_kept _ _ _) (fun k hk hs => by omega)⟩
          have hs1 := setRow_kept wc w.heap.size (cs8.set 9 (.slice ta tn tc)).toArray
          have hp1 := HEL.out (HZ.out (HZ2.out h0))
          have hp2 := oper1E_ok.keep hp1 HEND.out.kept (fun j hj hs => by rcases hs with hs | hs; (have := hj.1; omega); exact hj.2 hs)
          have hp3 := oper1E_ok.mono (oper1E_ok.keep hp2 hs1 (fun j hj hs => by have := hj.1; have hs' : j = w.heap.size := hs; omega)) (ok' := New w) (fun j _ hj => by have := hj.1; unfold New; omega)
          have hl1 := (HLL.out (HZ2.out h0)).keep oper1E_ok HEND.out.kept (fun j hj hs => by rcases hs with hs | hs; (have := hj.1; omega); exact hj.2 hs)
          have hl2 := (hl1.keep oper1E_ok hs1 (fun j hj hs => by have := hj.1; have hs' : j = w.heap.size := hs; omega)).mono oper1E_ok (ok' := New w) (fun j _ hj => by have := hj.1; unfold New; omega)
          have hl3 := ((HEND.out.list h0).keep armedE_ok hs1 (fun j hj hs => by have h1 : wm.heap.size ≤ j := hj; have hs' : j = w.heap.size := hs; omega)).mono armedE_ok (ok' := New w) (fun j _ hj => by have h1 : wm.heap.size ≤ j := hj; unfold New; omega)
          have hq := oper1Q_set hp3 (u := .slice sa sn sc) (t := .slice ta tn tc) ⟨_, _, _, rfl⟩ ⟨_, _, _, rfl⟩
          rw [HCS8.out] at hq
          exact ⟨_, _, hq, hl2, hl3⟩
end Go.Proofs.YtpmemcpfoapjmaaGreat
