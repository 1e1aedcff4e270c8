/- The document's own answers of layer 2: a reply, taken up. -/
import Derived.Test.YtpmemcpfoapjmaaGreatQ10
import Derived.Test.YtpmemcpfoapjmaaGreatQ20
import Derived.Test.YtpmemcpfoapjmaaGreatQ21
import Derived.Test.YtpmemcpfoapjmaaGreatQ07
import Derived.Deep.DeepCutAuto
import Derived.WalkSpells
import Derived.Outline
namespace Go.Proofs.YtpmemcpfoapjmaaGreat
open Go.ChangeShapes Go.WideShapes Go.ChangeAt Go.RowKit
set_option linter.unusedVariables false

set_option maxRecDepth 100000 in
set_option maxHeartbeats 3200000 in
theorem refget_reply (s : ByteArray) (w : World) (hs : s.size ≤ 140737488355328) :
    Calls Tryz.prog 34 #[.string s] w (TakenPost replyE zReply w (replyF.read s)) := by
  have HSE := Lib.hid (show (Tryz.prog.info? 78).map (·.size) = some 17 by kernel_rfl)
  have HSS := Lib.hid (show (Tryz.prog.info? 76).map (·.size) = some 1 by kernel_rfl)
  obtain ⟨i, hi, hz0, hz1, hz2⟩ := info_parts info_ans
  have HI := Lib.hid (And.intro hi (And.intro hz0 (And.intro hz1 hz2)))
  clear hi hz0 hz1 hz2
  obtain ⟨x1, q1, e0, g1⟩ : ∃ aa qq ee, ansF.get s.data.toList 0 0 = (aa, qq, ee) := ⟨_, _, _, eta3 _⟩
  have hcl := rCount_le s.data.toList 256 q1 e0
  rcases g2 : rCount s.data.toList 256 q1 e0 with ⟨n, p1, e1⟩
  rw [g2] at hcl
  obtain ⟨xs, q3, e3, g3⟩ : ∃ aa qq ee, getN ansF.get n s.data.toList p1 e1 = (aa, qq, ee) := ⟨_, _, _, eta3 _⟩
  have hget : replyF.get s.data.toList 0 0 = (⟨x1, xs⟩, q3, e3) := by simp only [replyF, isoF, seqF, listF, g1, g2, g3]
  have hread : replyF.read s = if rEndE s.data.toList.length q3 e3 = 0 then some ⟨x1, xs⟩ else none := by unfold Fmt.read; rw [hget]
  rw [str_len] at hread
  generalize replyF.read s = ro at hread ⊢
  have HREAD := Lib.hid hread; clear hread
  have KE := Lib.hid (fend_of s q3 e3)
  have HE0 := Lib.hid (show rEndE s.size q3 e3 = 0 → e3 = 0 from fun h => (rEndE_zero h).1)
  generalize hr : rEndE s.size q3 e3 = r at HREAD KE HE0
  clear hr
  have hlist : (listF ansF).get s.data.toList q1 e0 = (xs, q3, e3) := by simp only [listF, g2, g3]
  have HZ := Lib.hid (show e3 = 0 → e0 = 0 from fun h0 => back0 (listF_ok ansF_ok) hlist h0)
  have KC := Lib.hid (fun (W : World) (p : Nat) (hF : FAt W (w.heap.size + 1) s p e0) (hp : e0 = 0 → p = q1) => refcnt_any W (w.heap.size + 1) s p q1 e0 hF hp g2)
  have HH := Lib.hid g3
  have hn : n ≤ 256 := by have h := hcl; simp only at h; omega
  have hW : FAt ((w.alloc (.cells ([.int .i64 0, .int .i64 0, .int .i64 0, .string ⟨#[]⟩, .string ⟨#[]⟩, .int .i64 0, .int .i64 0, .int .i64 0, .int .i64 0, .int .i64 0, .int .i64 0, .int .i64 0, .int .i64 0, .int .i64 0, .slice none 0 0, .slice none 0 0, .slice none 0 0] : List Value).toArray 78)).alloc (.cells #[.string s, .int .i64 0, .int .i64 0] 111)) (w.heap.size + 1) s 0 0 := by
    have h := fresh_reader (w.alloc (.cells ([.int .i64 0, .int .i64 0, .int .i64 0, .string ⟨#[]⟩, .string ⟨#[]⟩, .int .i64 0, .int .i64 0, .int .i64 0, .int .i64 0, .int .i64 0, .int .i64 0, .int .i64 0, .int .i64 0, .int .i64 0, .slice none 0 0, .slice none 0 0, .slice none 0 0] : List Value).toArray 78)) s hs
    rwa [show (w.alloc (.cells ([.int .i64 0, .int .i64 0, .int .i64 0, .string ⟨#[]⟩, .string ⟨#[]⟩, .int .i64 0, .int .i64 0, .int .i64 0, .int .i64 0, .int .i64 0, .int .i64 0, .int .i64 0, .int .i64 0, .int .i64 0, .slice none 0 0, .slice none 0 0, .slice none 0 0] : List Value).toArray 78)).heap.size = w.heap.size + 1 from by simp] at h
  have hb0 : ((w.alloc (.cells ([.int .i64 0, .int .i64 0, .int .i64 0, .string ⟨#[]⟩, .string ⟨#[]⟩, .int .i64 0, .int .i64 0, .int .i64 0, .int .i64 0, .int .i64 0, .int .i64 0, .int .i64 0, .int .i64 0, .int .i64 0, .slice none 0 0, .slice none 0 0, .slice none 0 0] : List Value).toArray 78)).alloc (.cells #[.string s, .int .i64 0, .int .i64 0] 111)).heap[w.heap.size]? = some (.cells ([.int .i64 0, .int .i64 0, .int .i64 0, .string ⟨#[]⟩, .string ⟨#[]⟩, .int .i64 0, .int .i64 0, .int .i64 0, .int .i64 0, .int .i64 0, .int .i64 0, .int .i64 0, .int .i64 0, .int .i64 0, .slice none 0 0, .slice none 0 0, .slice none 0 0] : List Value).toArray 78 (0, 0)) := by
    rw [((Old.refl (w.alloc (.cells ([.int .i64 0, .int .i64 0, .int .i64 0, .string ⟨#[]⟩, .string ⟨#[]⟩, .int .i64 0, .int .i64 0, .int .i64 0, .int .i64 0, .int .i64 0, .int .i64 0, .int .i64 0, .int .i64 0, .int .i64 0, .slice none 0 0, .slice none 0 0, .slice none 0 0] : List Value).toArray 78))).make _).block _ (by simp) id]; exact heap_alloc_new w _
  have hO0 : Old w ((w.alloc (.cells ([.int .i64 0, .int .i64 0, .int .i64 0, .string ⟨#[]⟩, .string ⟨#[]⟩, .int .i64 0, .int .i64 0, .int .i64 0, .int .i64 0, .int .i64 0, .int .i64 0, .int .i64 0, .int .i64 0, .int .i64 0, .slice none 0 0, .slice none 0 0, .slice none 0 0] : List Value).toArray 78)).alloc (.cells #[.string s, .int .i64 0, .int .i64 0] 111)) := ((Old.refl w).make _).make _
  have hs0 : w.heap.size + 2 ≤ ((w.alloc (.cells ([.int .i64 0, .int .i64 0, .int .i64 0, .string ⟨#[]⟩, .string ⟨#[]⟩, .int .i64 0, .int .i64 0, .int .i64 0, .int .i64 0, .int .i64 0, .int .i64 0, .int .i64 0, .int .i64 0, .int .i64 0, .slice none 0 0, .slice none 0 0, .slice none 0 0] : List Value).toArray 78)).alloc (.cells #[.string s, .int .i64 0, .int .i64 0] 111)).heap.size := by simp
  have K1 := Lib.hid (reftake_ans _ _ s 0 0 0 hW (fun _ => rfl) g1)
  have HRES0 := Lib.hid hb0
  have HO0 := Lib.hid hO0
  have HS0 := Lib.hid hs0
  clear hget g1 g2 g3 hlist hcl hW hb0 hO0 hs0
  go_enter Tryz.func34, Tryz.ntmps34
  go_wp2_with fail
  refine K1.out.mono ?_
  rintro en w0 ⟨cs, p0, rfl, hfl, hnl, hE0, hF0, hp0, hk0⟩
  have hA : Kept (fun _ => False) w0 (w0.alloc (.cells cs.toArray 78)) := (Kept.refl _ w0).alloc _
  have hgz : w.heap.size + 2 ≤ w0.heap.size := Nat.le_trans HS0.out hk0.size
  have hres1 : (w0.alloc (.cells cs.toArray 78)).heap[w.heap.size]? = some (.cells ([.int .i64 0, .int .i64 0, .int .i64 0, .string ⟨#[]⟩, .string ⟨#[]⟩, .int .i64 0, .int .i64 0, .int .i64 0, .int .i64 0, .int .i64 0, .int .i64 0, .int .i64 0, .int .i64 0, .int .i64 0, .slice none 0 0, .slice none 0 0, .slice none 0 0] : List Value).toArray 78 (0, 0)) :=
    (hA.block _ (by omega) id).trans ((hk0.block _ (lt_of_block HRES0.out) (fun hs => by have hs' : w.heap.size = w.heap.size + 1 := hs; omega)).trans HRES0.out)
  have hO1 : Old w (w0.alloc (.cells cs.toArray 78)) := (HO0.out.step hk0 (fun k h => by have h' : k = w.heap.size + 1 := h; omega)).none hA
  have hbox1 := heap_alloc_new w0 (.cells cs.toArray 78)
  have hF1 := hF0.keep hA id
  have hE1 : WkE e0 ansE (w0.alloc (.cells cs.toArray 78)) (fun j => w.heap.size + 2 ≤ j ∧ j ≠ w0.heap.size) cs x1 :=
    (WkE_ok ansE_ok).keep ((WkE_ok ansE_ok).mono hE0 (fun j hj hj' => ⟨Nat.le_trans HS0.out hj', by omega⟩)) hA (disj_none _)
  have HP0 := Lib.hid hp0
  have HFL0 := Lib.hid hfl
  have HCL := Lib.hid hfl.1
  have hw1z : w0.heap.size < (w0.alloc (.cells cs.toArray 78)).heap.size := by simp
  have HNIL := Lib.hid (hnl 16 (by simp))
  clear hk0 hF0 hp0 hE0 hfl hnl hA K1 HO0 HS0 HRES0
  obtain ⟨g, hg⟩ : ∃ g, w0.heap.size = g := ⟨_, rfl⟩
  rw [hg] at hgz hbox1 hE1 hw1z
  have HG0 := Lib.hid hg; clear hg
  have HFL := HFL0
  go_wp2_with (refine wpList_store_new w0 rfl 78 _ _ rfl _ cs rfl rfl (by rw [HFL.out.1]; exact HSE.out) HFL.out.1.symm HFL.out.2 ?_)
  generalize hw1 : w0.alloc (.cells cs.toArray 78) = w1 at hO1 hres1 hbox1 hF1 hE1 hw1z
  rw [HG0.out]
  clear hw1 HG0
  have HBOX1 := Lib.hid hbox1
  have HRES1 := Lib.hid hres1
  have HE1 := Lib.hid hE1
  have HO1 := Lib.hid hO1
  clear hbox1 hres1 hE1 hO1 HFL
  refine (KC.out _ _ hF1 HP0.out).mono ?_
  rintro en wl ⟨pl, rfl, hFl, hpl, hkl⟩
  have hzl : w1.heap.size ≤ wl.heap.size := hkl.size
  have hbl : (w.heap.size + 1) < wl.heap.size := by omega
  have hgl : g < wl.heap.size := by omega
  have hbg : (w.heap.size + 1) ≠ g := by omega
  have HB := Lib.hid hbl; clear hbl
  have HG := Lib.hid hgl; clear hgl
  have HBG := Lib.hid hbg
  have hboxl : wl.heap[g]? = some (.cells cs.toArray 78 (0, 0)) := (hkl.block _ hw1z (fun hs => by have hs' : g = (w.heap.size + 1) := hs; omega)).trans HBOX1.out
  have HRESL := Lib.hid ((hkl.block _ (by omega) (fun hs => by have hs' : w.heap.size = (w.heap.size + 1) := hs; omega)).trans HRES1.out)
  have HEL := Lib.hid ((WkE_ok ansE_ok).keep HE1.out hkl (fun j hj hj' => by have h2 : j = (w.heap.size + 1) := hj'; have h1 := hj.1; omega))
  have HOL := Lib.hid (HO1.out.step hkl (fun k h => by have h' : k = (w.heap.size + 1) := h; omega))
  have HSTART := Lib.hid (SubRel.start (E := ansE) (f := ansF) (Te := 78) (sz := 17) (n := n) hFl hpl hboxl HNIL.out)
  clear hFl hpl hboxl HNIL hkl hF1 HP0 HE1 HO1 HRES1 HBOX1 KC hbg
  go_wp2_with fail
  go_loopw [7] (fun iv wr => SubRel ansE ansF (w.heap.size + 1) s 78 g cs 16 wl 78 17 n p1 e1 iv wr) (fun iv _ => n - (intOf iv).toNat)
  case atStart => exact HSTART.out
  case round =>
    obtain ⟨k, pk, acc, rfl, hkn, hacc, hFk, hpk, hbox, hK⟩ := hrel.ex
    clear hrel HSTART
    have hkz : wl.heap.size ≤ wr.heap.size := hK.size
    by_cases hgo : k < n ∧ (getN ansF.get k s.data.toList p1 e1).2.2 = 0
    · obtain ⟨hlt, hz⟩ := hgo
      have hkl : (k : Int) < (n : Int) := by omega
      rcases hgn : getN ansF.get k s.data.toList p1 e1 with ⟨ys, qk, ek⟩
      have hlen := getN_len (ansF).get k s.data.toList p1 e1
      have hsn := getN_snoc (ansF).get k s.data.toList p1 e1
      rw [hgn] at hacc hFk hpk hz hlen hsn
      simp only at hacc hFk hpk hz hlen hsn
      subst hz
      obtain ⟨y, qb, eb, gy⟩ : ∃ aa qq ee, ansF.get s.data.toList qk 0 = (aa, qq, ee) := ⟨_, _, _, eta3 _⟩
      rw [gy] at hsn
      simp only at hsn
      have KY := Lib.hid (fun (W : World) (p : Nat) (hF : FAt W (w.heap.size + 1) s p 0) (hp : 0 = 0 → p = qk) => reftake_ans W (w.heap.size + 1) s p qk 0 hF hp gy)
      have HSN := Lib.hid hsn
      have c2 := hFk.c2
      have HPK := Lib.hid hpk
      clear hgn gy hsn hpk
      go_wp2_with fail
      refine (KY.out _ _ hFk HPK.out).mono ?_
      rintro en w1 ⟨cy, pb, rfl, hfl, _, hEy, hFb, hpb, hkb⟩
      have HPB := Lib.hid hpb
      have hacc1 : AccR (WkE eb ansE) wl w1 78 17 acc ys := sub_call ansE_ok HB.out HBG.out hacc hkb
      have hE1 := sub_elem (c := cy) (y := y) ansE_ok hacc hkz hEy
      have hwb : w1.heap[g]? = some (.cells (cs.set 16 acc).toArray 78 (0, 0)) := (hkb.block _ (lt_of_block hbox) (fun hs => by have hs' : g = (w.heap.size + 1) := hs; have := HBG.out; omega)).trans hbox
      have hK1 : Kept (BG (w.heap.size + 1) g) wl w1 := Kept.trans' hK hkb (fun j _ hj => Or.inl hj)
      have hA : Kept (fun _ => False) w1 (w1.alloc (.cells cy.toArray 78)) := (Kept.refl _ w1).alloc _
      have hacc2 := hacc1.keep (WkE_ok ansE_ok) hA (disj_none _)
      have hE2 := (WkE_ok ansE_ok).keep hE1 hA (disj_none _)
      have hbox2 := (hA.block _ (lt_of_block hwb) id).trans hwb
      have hF2 := hFb.keep hA id
      have hK2 : Kept (BG (w.heap.size + 1) g) wl (w1.alloc (.cells cy.toArray 78)) := Kept.trans' hK1 hA (fun j _ hj => hj.elim)
      have hnew := heap_alloc_new w1 (.cells cy.toArray 78)
      have hwl : wl.heap.size ≤ (w1.alloc (.cells cy.toArray 78)).heap.size := hK2.size
      have hg7 : (cs.set 16 acc)[16]? = some acc := by rw [List.getElem?_set_self (by rw [HCL.out]; decide)]
      have HFL := Lib.hid hfl
      clear hacc hE1 hacc1 hEy hbox hwb hA hK1 hkb hpb hK hFk hFb hfl c2 HPK KY
      generalize hw2 : w1.alloc (.cells cy.toArray 78) = w2 at hacc2 hE2 hbox2 hF2 hK2 hnew hwl
      have c7 : w2.cell? ⟨g, 16, none⟩ = some acc := cell_of_heap hbox2 hg7
      have HRY := Lib.hid (range_row hnew)
      have HBOX := Lib.hid hbox2
      have HW2 := Lib.hid hw2
      have HBZ := Lib.hid (lt_of_block hbox2)
      have hsl := hacc2.isSl
      clear hw2 hnew hbox2 hg7
      go_upto_region 8 with (refine wpList_store_new w1 rfl 78 _ _ rfl _ cy rfl rfl (by rw [HFL.out.1]; exact HSE.out) HFL.out.1.symm HFL.out.2 ?_)
      rw [HW2.out]
      obtain ⟨an0, an1, an2, rfl⟩ := hsl
      go_wp2_with (first
        | (refine wpList_load_mid rfl 78 (.tmp 8) rfl w1.heap.size 0 rfl cy _ HRY.out Tryz.underlying78 rfl (by rw [HFL.out.1]; exact HSE.out) ?_)
        | (refine wpList_one rfl 76 78 (.tmp 32) rfl (.agg cy.toArray) cy rfl rfl i _ Tryz.underlying76 HI.out.1 HI.out.2.1 (by rw [HI.out.2.2.1, HFL.out.1]) (by rw [HFL.out.1]; decide) (by rw [HFL.out.1]; decide) ?_)
        | (at_builtin; go_loud (refine wpList_push (WkE_ok ansE_ok) wl w2 rfl (.tmp 31) (.tmp 33) 76 rfl 78 i _ 17 200 Tryz.underlying76 HI.out.1 HI.out.2.1 HI.out.2.2.1 HI.out.2.2.2 rfl (by decide) (.slice an0 an1 an2) _ hacc2 cy _ hE2 HFL.out rfl rfl (by omega) (by decide) hwl ?_); intro v' w' hacc' hk'; have hslv := hacc'.isSl; obtain ⟨bn0, bn1, bn2, rfl⟩ := hslv; have HBOX' := Lib.hid ((hk'.block _ HBZ.out (fun hs => by have hs' : wl.heap.size ≤ g := hs; have := HG.out; omega)).trans HBOX.out))
        | (refine wpList_store_to rfl 76 (.tmp 35) (.tmp 34) rfl g 16 (.slice bn0 bn1 bn2) rfl rfl rfl (cs.set 16 (.slice an0 an1 an2)) 78 HBOX'.out (by rw [List.length_set, HCL.out]; decide) HSS.out _ rfl _ rfl ?_))
      go_roundw
      case rel => exact SubRel.step ansE_ok HB.out HG.out HBG.out hlt HSN.out hacc' (hF2.keep hk' (fun hs => by have hs' : wl.heap.size ≤ (w.heap.size + 1) := hs; have := HB.out; omega)) HPB.out HBOX'.out (Kept.trans' hK2 hk' (fun j hj hs => by have hs' : wl.heap.size ≤ j := hs; omega))
      case measure => simp [intOf]; omega
    · obtain ⟨hend, hee⟩ := SubRel.out (cs := cs) (T := 78) (g := g) (idx := 16) ansE_ok ansF_ok hgo hkn HH.out hacc hFk hpk hbox hK
      have hex : ¬ k < n ∨ (k < n ∧ e3 ≠ 0) := by rw [hee] at hgo; omega
      have HEX := Lib.hid hex
      have HEND := Lib.hid hend
      have c2 := hend.rd.c2
      clear hgo hee hex hacc hFk hpk hbox hK hend hkz
      go_upto_region 5 with fail
      go_cut [25] (fun v wx => v = .bool false ∧ wx = wr)
      case first =>
        rcases HEX.out with hlt | ⟨hlt, hne⟩
        · have hkl : ¬ (k : Int) < (n : Int) := by omega
          go_wp2_with fail
          go_meet
          exact ⟨rfl, rfl⟩
        · have hkl : (k : Int) < (n : Int) := by omega
          have hneb : (((e3 : Nat) : Int) == 0) = false := by simpa using hne
          go_wp2_with fail
          go_meet
          exact ⟨rfl, rfl⟩
      case rest =>
      obtain ⟨rfl, rfl⟩ := hcut
      clear c2 HEX
      obtain ⟨sa, sn, sc, rfl⟩ := HEND.out.shape
      have hfs : Flat 17 (cs.set 16 (.slice sa sn sc)) := flat_set HFL0.out 16 rfl
      have HFS := Lib.hid hfs; clear hfs
      have HSE2 := Lib.hid (info_len HSE.out HFS.out.1)
      go_wp2_with fail
      refine (KE.out _ _ _ HEND.out.rd HEND.out.pos).mono ?_
      rintro en wz ⟨pz, rfl, hFz, hpz, hkz⟩
      have HBX := Lib.hid ((hkz.block _ (lt_of_block HEND.out.box) (fun h => by have h' : g = (w.heap.size + 1) := h; have := HBG.out; omega)).trans HEND.out.box)
      have hrc := (HEND.out.kept.block _ (by have := HB.out; omega) (fun hs => by rcases hs with hs | hs <;> omega)).trans HRESL.out
      have HRES := Lib.hid ((hkz.block _ (lt_of_block hrc) (fun h => by have h' : w.heap.size = (w.heap.size + 1) := h; omega)).trans hrc)
      have hOz : Old w wz := (HOL.out.step HEND.out.kept (fun k hk => by rcases hk with hk | hk <;> omega)).step hkz (fun k hk => by have hk' : k = (w.heap.size + 1) := hk; omega)
      have HOZ := Lib.hid hOz
      have HEZ := Lib.hid ((WkE_ok ansE_ok).keep ((WkE_ok ansE_ok).keep HEL.out HEND.out.kept (fun j hj hs => by rcases hs with hs | hs; (have := hj.1; omega); exact hj.2 hs)) hkz (fun j hj hs => by have := hj.1; have hs' : j = (w.heap.size + 1) := hs; omega))
      have HLZ := Lib.hid (fun h0 => (HEND.out.list h0).keep ansE_ok hkz (fun j hj hs => by have h1 : wl.heap.size ≤ j := hj; have hs' : j = (w.heap.size + 1) := hs; have := HB.out; omega))
      have HZL := Lib.hid (show w.heap.size + 2 ≤ wl.heap.size by omega)
      clear hkz hpz hFz hrc hOz HEND HRESL HEL HOL KE
      by_cases h0 : r = 0
      · have hrd : ro = some ⟨x1, xs⟩ := by rw [HREAD.out, if_pos h0]
        have HRD := Lib.hid hrd; clear hrd
        have HEE := Lib.hid (HE0.out h0)
        have h0' : ((r : Nat) : Int) = 0 := by omega
        generalize ((r : Nat) : Int) = ri at h0'
        subst h0'
        clear h0 HREAD HE0
        have HRG := Lib.hid (range_row HBX.out)
        go_wp2_with (first
          | (refine wpList_load_mid rfl 78 (.tmp 5) rfl g 0 rfl (cs.set 16 (.slice sa sn sc)) _ HRG.out Tryz.underlying78 rfl HSE2.out ?_)
          | (refine wpList_store_row _ rfl 78 (.tmp 2) (.tmp 40) rfl w.heap.size _ (cs.set 16 (.slice sa sn sc)) rfl rfl HRES.out HSE2.out HFS.out.1.symm HFS.out.2 ?_))
        have hrow := setRow_heap wz w.heap.size _ (cs.set 16 (.slice sa sn sc)).toArray _ _ HRES.out
        have hload := run_loadVar_row (P := Tryz.prog) _ w.heap.size 78 78 _ (0, 0) _ hrow Tryz.underlying78 rfl (by rw [List.size_toArray]; exact HSE2.out)
        refine ret_cell_tmp 2 78 3 w.heap.size _ _ Tryz.results34 rfl rfl hload rfl ⟨_, by rw [HRD.out]; rfl, old_setRow HOZ.out _, ?_⟩
        rw [HRD.out]
        have hs1 := setRow_kept wz w.heap.size (cs.set 16 (.slice sa sn sc)).toArray
        have hp3 := ansE_ok.mono (ansE_ok.keep (HEZ.out (HZ.out HEE.out)) hs1 (fun j hj hs => by have := hj.1; have hs' : j = w.heap.size := hs; omega)) (ok' := New w) (fun j _ hj => by have := hj.1; unfold New; omega)
        have hl3 := ((HLZ.out HEE.out).keep ansE_ok hs1 (fun j hj hs => by have h1 : wl.heap.size ≤ j := hj; have hs' : j = w.heap.size := hs; have := HZL.out; omega)).mono ansE_ok (ok' := New w) (fun j _ hj => by have h1 : wl.heap.size ≤ j := hj; have := HZL.out; unfold New; omega)
        exact ⟨_, ansQ_set hp3 ⟨_, _, _, rfl⟩, hl3⟩
      · have hrd : ro = none := by rw [HREAD.out, if_neg h0]
        have HRD := Lib.hid hrd; clear hrd
        have h0' : ¬ ((r : Nat) : Int) = 0 := by omega
        generalize ((r : Nat) : Int) = ri at h0'
        clear h0 HREAD HE0
        go_wp2_with (refine wpList_store_row _ rfl 78 _ _ rfl w.heap.size _ [.int .i64 0, .int .i64 0, .int .i64 0, .string ⟨#[]⟩, .string ⟨#[]⟩, .int .i64 0, .int .i64 0, .int .i64 0, .int .i64 0, .int .i64 0, .int .i64 0, .int .i64 0, .int .i64 0, .int .i64 0, .slice none 0 0, .slice none 0 0, .slice none 0 0] rfl rfl HRES.out HSE.out rfl (by simp [Value.oneCell']) ?_)
        have hrow := setRow_heap wz w.heap.size _ ([.int .i64 0, .int .i64 0, .int .i64 0, .string ⟨#[]⟩, .string ⟨#[]⟩, .int .i64 0, .int .i64 0, .int .i64 0, .int .i64 0, .int .i64 0, .int .i64 0, .int .i64 0, .int .i64 0, .int .i64 0, .slice none 0 0, .slice none 0 0, .slice none 0 0] : List Value).toArray _ _ HRES.out
        have hload := run_loadVar_row (P := Tryz.prog) _ w.heap.size 78 78 _ (0, 0) _ hrow Tryz.underlying78 rfl (by rw [List.size_toArray]; exact HSE.out)
        exact ret_cell_tmp 2 78 3 w.heap.size _ _ Tryz.results34 rfl rfl hload rfl ⟨_, by rw [HRD.out]; rfl, old_setRow HOZ.out _, by rw [HRD.out]; exact zReply_at _ _⟩
end Go.Proofs.YtpmemcpfoapjmaaGreat
