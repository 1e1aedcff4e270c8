/- WireReplies holds, of an argument of bulk at most 1048576: any reply is laid as the document lays it, and read again as the document reads it (W1, W2). Condition: the argument is of bulk at most 1048576. -/
import Derived.Test.YtngcfnffbggniaaRsub
import Derived.Test.YtngcfnffbggniaaRtans
import Derived.Test.YtngcfnffbggniaaGans
import Derived.Test.YtngcfnffbggniaaGtwo
import Derived.Test.YtngcfnffbggniaaIreply
import Derived.Deep.DeepCutAuto
import Derived.WalkSpells
import Derived.Outline
import Derived.Test.YtngcfnffbggniaaRreply
import Derived.Test.YtngcfnffbggniaaGot
import Derived.Test.YtngcfnffbggniaaOver
import Derived.Deep.RegionHeld3
import Derived.Test.YtngcfnffbggniaaWawake
import Derived.Test.YtngcfnffbggniaaRows
import Derived.Test.YtngcfnffbggniaaOpen
import Derived.WalkKit
import Derived.ProofKit
import Derived.OpenShut
import Derived.JoinedCond
import Derived.ChangeOld
import Derived.Below
namespace Go.Proofs.Ytngcfnffbggniaa
open Go.ChangeShapes Go.WideShapes Go.ChangeAt Go.RowKit
set_option linter.unusedVariables false

set_option maxRecDepth 100000 in
set_option maxHeartbeats 3200000 in
theorem refget_reply (s : ByteArray) (w : World) (hs : s.size ≤ 140737488355328) :
    Calls Try.prog 49 #[.string s] w (TakenPost replyE zReply w (replyF.read s)) := by
  have HSE := Lib.hid (show (Try.prog.info? 46).map (·.size) = some 17 by kernel_rfl)
  have HSS := Lib.hid (show (Try.prog.info? 44).map (·.size) = some 1 by kernel_rfl)
  obtain ⟨i, hi, hz0, hz1, hz2⟩ := info_parts info_ans
  have HI := Lib.hid (And.intro hi (And.intro hz0 (And.intro hz1 hz2)))
  clear hi hz0 hz1 hz2
  obtain ⟨x1, q1, e0, g1⟩ : ∃ aa qq ee, ansF.get s.data.toList 0 0 = (aa, qq, ee) := ⟨_, _, _, eta3 _⟩
  have hcl := rCount_le s.data.toList 256 q1 e0
  rcases g2 : rCount s.data.toList 256 q1 e0 with ⟨n, p1, e1⟩
  rw [g2] at hcl
  obtain ⟨xs, q3, e3, g3⟩ : ∃ aa qq ee, getN ansF.get n s.data.toList p1 e1 = (aa, qq, ee) := ⟨_, _, _, eta3 _⟩
  have hget : replyF.get s.data.toList 0 0 = (⟨x1, xs⟩, q3, e3) := by simp only [replyF, isoF, seqF, listF, g1, g2, g3]
  have hread : replyF.read s = if rEndE s.data.toList.length q3 e3 = 0 then some ⟨x1, xs⟩ else none := by unfold Fmt.read; rw [hget]
  rw [str_len] at hread
  generalize replyF.read s = ro at hread ⊢
  have HREAD := Lib.hid hread; clear hread
  have KE := Lib.hid (fend_of s q3 e3)
  have HE0 := Lib.hid (show rEndE s.size q3 e3 = 0 → e3 = 0 from fun h => (rEndE_zero h).1)
  generalize hr : rEndE s.size q3 e3 = r at HREAD KE HE0
  clear hr
  have hlist : (listF ansF).get s.data.toList q1 e0 = (xs, q3, e3) := by simp only [listF, g2, g3]
  have HZ := Lib.hid (show e3 = 0 → e0 = 0 from fun h0 => back0 (listF_ok ansF_ok) hlist h0)
  have KC := Lib.hid (fun (W : World) (p : Nat) (hF : FAt W (w.heap.size + 1) s p e0) (hp : e0 = 0 → p = q1) => refcnt_any W (w.heap.size + 1) s p q1 e0 hF hp g2)
  have HH := Lib.hid g3
  have hn : n ≤ 256 := by have h := hcl; simp only at h; omega
  have hW : FAt ((w.alloc (.cells ([.int .i64 0, .int .i64 0, .int .i64 0, .string ⟨#[]⟩, .string ⟨#[]⟩, .int .i64 0, .int .i64 0, .int .i64 0, .int .i64 0, .int .i64 0, .int .i64 0, .int .i64 0, .int .i64 0, .int .i64 0, .slice none 0 0, .slice none 0 0, .slice none 0 0] : List Value).toArray 46)).alloc (.cells #[.string s, .int .i64 0, .int .i64 0] 116)) (w.heap.size + 1) s 0 0 := by
    have h := fresh_reader (w.alloc (.cells ([.int .i64 0, .int .i64 0, .int .i64 0, .string ⟨#[]⟩, .string ⟨#[]⟩, .int .i64 0, .int .i64 0, .int .i64 0, .int .i64 0, .int .i64 0, .int .i64 0, .int .i64 0, .int .i64 0, .int .i64 0, .slice none 0 0, .slice none 0 0, .slice none 0 0] : List Value).toArray 46)) s hs
    rwa [show (w.alloc (.cells ([.int .i64 0, .int .i64 0, .int .i64 0, .string ⟨#[]⟩, .string ⟨#[]⟩, .int .i64 0, .int .i64 0, .int .i64 0, .int .i64 0, .int .i64 0, .int .i64 0, .int .i64 0, .int .i64 0, .int .i64 0, .slice none 0 0, .slice none 0 0, .slice none 0 0] : List Value).toArray 46)).heap.size = w.heap.size + 1 from by simp] at h
  have hb0 : ((w.alloc (.cells ([.int .i64 0, .int .i64 0, .int .i64 0, .string ⟨#[]⟩, .string ⟨#[]⟩, .int .i64 0, .int .i64 0, .int .i64 0, .int .i64 0, .int .i64 0, .int .i64 0, .int .i64 0, .int .i64 0, .int .i64 0, .slice none 0 0, .slice none 0 0, .slice none 0 0] : List Value).toArray 46)).alloc (.cells #[.string s, .int .i64 0, .int .i64 0] 116)).heap[w.heap.size]? = some (.cells ([.int .i64 0, .int .i64 0, .int .i64 0, .string ⟨#[]⟩, .string ⟨#[]⟩, .int .i64 0, .int .i64 0, .int .i64 0, .int .i64 0, .int .i64 0, .int .i64 0, .int .i64 0, .int .i64 0, .int .i64 0, .slice none 0 0, .slice none 0 0, .slice none 0 0] : List Value).toArray 46 (0, 0)) := by
    rw [((Old.refl (w.alloc (.cells ([.int .i64 0, .int .i64 0, .int .i64 0, .string ⟨#[]⟩, .string ⟨#[]⟩, .int .i64 0, .int .i64 0, .int .i64 0, .int .i64 0, .int .i64 0, .int .i64 0, .int .i64 0, .int .i64 0, .int .i64 0, .slice none 0 0, .slice none 0 0, .slice none 0 0] : List Value).toArray 46))).make _).block _ (by simp) id]; exact heap_alloc_new w _
  have hO0 : Old w ((w.alloc (.cells ([.int .i64 0, .int .i64 0, .int .i64 0, .string ⟨#[]⟩, .string ⟨#[]⟩, .int .i64 0, .int .i64 0, .int .i64 0, .int .i64 0, .int .i64 0, .int .i64 0, .int .i64 0, .int .i64 0, .int .i64 0, .slice none 0 0, .slice none 0 0, .slice none 0 0] : List Value).toArray 46)).alloc (.cells #[.string s, .int .i64 0, .int .i64 0] 116)) := ((Old.refl w).make _).make _
  have hs0 : w.heap.size + 2 ≤ ((w.alloc (.cells ([.int .i64 0, .int .i64 0, .int .i64 0, .string ⟨#[]⟩, .string ⟨#[]⟩, .int .i64 0, .int .i64 0, .int .i64 0, .int .i64 0, .int .i64 0, .int .i64 0, .int .i64 0, .int .i64 0, .int .i64 0, .slice none 0 0, .slice none 0 0, .slice none 0 0] : List Value).toArray 46)).alloc (.cells #[.string s, .int .i64 0, .int .i64 0] 116)).heap.size := by simp
  have K1 := Lib.hid (reftake_ans _ _ s 0 0 0 hW (fun _ => rfl) g1)
  have HRES0 := Lib.hid hb0
  have HO0 := Lib.hid hO0
  have HS0 := Lib.hid hs0
  clear hget g1 g2 g3 hlist hcl hW hb0 hO0 hs0
  go_enter Try.func49, Try.ntmps49
  go_wp2_with fail
  refine K1.out.mono ?_
  rintro en w0 ⟨cs, p0, rfl, hfl, hnl, hE0, hF0, hp0, hk0⟩
  have hA : Kept (fun _ => False) w0 (w0.alloc (.cells cs.toArray 46)) := (Kept.refl _ w0).alloc _
  have hgz : w.heap.size + 2 ≤ w0.heap.size := Nat.le_trans HS0.out hk0.size
  have hres1 : (w0.alloc (.cells cs.toArray 46)).heap[w.heap.size]? = some (.cells ([.int .i64 0, .int .i64 0, .int .i64 0, .string ⟨#[]⟩, .string ⟨#[]⟩, .int .i64 0, .int .i64 0, .int .i64 0, .int .i64 0, .int .i64 0, .int .i64 0, .int .i64 0, .int .i64 0, .int .i64 0, .slice none 0 0, .slice none 0 0, .slice none 0 0] : List Value).toArray 46 (0, 0)) :=
    (hA.block _ (by omega) id).trans ((hk0.block _ (lt_of_block HRES0.out) (fun hs => by have hs' : w.heap.size = w.heap.size + 1 := hs; omega)).trans HRES0.out)
  have hO1 : Old w (w0.alloc (.cells cs.toArray 46)) := (HO0.out.step hk0 (fun k h => by have h' : k = w.heap.size + 1 := h; omega)).none hA
  have hbox1 := heap_alloc_new w0 (.cells cs.toArray 46)
  have hF1 := hF0.keep hA id
  have hE1 : WkE e0 ansE (w0.alloc (.cells cs.toArray 46)) (fun j => w.heap.size + 2 ≤ j ∧ j ≠ w0.heap.size) cs x1 :=
    (WkE_ok ansE_ok).keep ((WkE_ok ansE_ok).mono hE0 (fun j hj hj' => ⟨Nat.le_trans HS0.out hj', by omega⟩)) hA (disj_none _)
  have HP0 := Lib.hid hp0
  have HFL0 := Lib.hid hfl
  have HCL := Lib.hid hfl.1
  have hw1z : w0.heap.size < (w0.alloc (.cells cs.toArray 46)).heap.size := by simp
  have HNIL := Lib.hid (hnl 16 (by simp))
  clear hk0 hF0 hp0 hE0 hfl hnl hA K1 HO0 HS0 HRES0
  obtain ⟨g, hg⟩ : ∃ g, w0.heap.size = g := ⟨_, rfl⟩
  rw [hg] at hgz hbox1 hE1 hw1z
  have HG0 := Lib.hid hg; clear hg
  have HFL := HFL0
  go_wp2_with (refine wpList_store_new w0 rfl 46 _ _ rfl _ cs rfl rfl (by rw [HFL.out.1]; exact HSE.out) HFL.out.1.symm HFL.out.2 ?_)
  generalize hw1 : w0.alloc (.cells cs.toArray 46) = w1 at hO1 hres1 hbox1 hF1 hE1 hw1z
  rw [HG0.out]
  clear hw1 HG0
  have HBOX1 := Lib.hid hbox1
  have HRES1 := Lib.hid hres1
  have HE1 := Lib.hid hE1
  have HO1 := Lib.hid hO1
  clear hbox1 hres1 hE1 hO1 HFL
  refine (KC.out _ _ hF1 HP0.out).mono ?_
  rintro en wl ⟨pl, rfl, hFl, hpl, hkl⟩
  have hzl : w1.heap.size ≤ wl.heap.size := hkl.size
  have hbl : (w.heap.size + 1) < wl.heap.size := by omega
  have hgl : g < wl.heap.size := by omega
  have hbg : (w.heap.size + 1) ≠ g := by omega
  have HB := Lib.hid hbl; clear hbl
  have HG := Lib.hid hgl; clear hgl
  have HBG := Lib.hid hbg
  have hboxl : wl.heap[g]? = some (.cells cs.toArray 46 (0, 0)) := (hkl.block _ hw1z (fun hs => by have hs' : g = (w.heap.size + 1) := hs; omega)).trans HBOX1.out
  have HRESL := Lib.hid ((hkl.block _ (by omega) (fun hs => by have hs' : w.heap.size = (w.heap.size + 1) := hs; omega)).trans HRES1.out)
  have HEL := Lib.hid ((WkE_ok ansE_ok).keep HE1.out hkl (fun j hj hj' => by have h2 : j = (w.heap.size + 1) := hj'; have h1 := hj.1; omega))
  have HOL := Lib.hid (HO1.out.step hkl (fun k h => by have h' : k = (w.heap.size + 1) := h; omega))
  have HSTART := Lib.hid (SubRel.start (E := ansE) (f := ansF) (Te := 46) (sz := 17) (n := n) hFl hpl hboxl HNIL.out)
  clear hFl hpl hboxl HNIL hkl hF1 HP0 HE1 HO1 HRES1 HBOX1 KC hbg
  go_wp2_with fail
  go_loopw [7] (fun iv wr => SubRel ansE ansF (w.heap.size + 1) s 46 g cs 16 wl 46 17 n p1 e1 iv wr) (fun iv _ => n - (intOf iv).toNat)
  case atStart => exact HSTART.out
  case round =>
    obtain ⟨k, pk, acc, rfl, hkn, hacc, hFk, hpk, hbox, hK⟩ := hrel.ex
    clear hrel HSTART
    have hkz : wl.heap.size ≤ wr.heap.size := hK.size
    by_cases hgo : k < n ∧ (getN ansF.get k s.data.toList p1 e1).2.2 = 0
    · obtain ⟨hlt, hz⟩ := hgo
      have hkl : (k : Int) < (n : Int) := by omega
      rcases hgn : getN ansF.get k s.data.toList p1 e1 with ⟨ys, qk, ek⟩
      have hlen := getN_len (ansF).get k s.data.toList p1 e1
      have hsn := getN_snoc (ansF).get k s.data.toList p1 e1
      rw [hgn] at hacc hFk hpk hz hlen hsn
      simp only at hacc hFk hpk hz hlen hsn
      subst hz
      obtain ⟨y, qb, eb, gy⟩ : ∃ aa qq ee, ansF.get s.data.toList qk 0 = (aa, qq, ee) := ⟨_, _, _, eta3 _⟩
      rw [gy] at hsn
      simp only at hsn
      have KY := Lib.hid (fun (W : World) (p : Nat) (hF : FAt W (w.heap.size + 1) s p 0) (hp : 0 = 0 → p = qk) => reftake_ans W (w.heap.size + 1) s p qk 0 hF hp gy)
      have HSN := Lib.hid hsn
      have c2 := hFk.c2
      have HPK := Lib.hid hpk
      clear hgn gy hsn hpk
      go_wp2_with fail
      refine (KY.out _ _ hFk HPK.out).mono ?_
      rintro en w1 ⟨cy, pb, rfl, hfl, _, hEy, hFb, hpb, hkb⟩
      have HPB := Lib.hid hpb
      have hacc1 : AccR (WkE eb ansE) wl w1 46 17 acc ys := sub_call ansE_ok HB.out HBG.out hacc hkb
      have hE1 := sub_elem (c := cy) (y := y) ansE_ok hacc hkz hEy
      have hwb : w1.heap[g]? = some (.cells (cs.set 16 acc).toArray 46 (0, 0)) := (hkb.block _ (lt_of_block hbox) (fun hs => by have hs' : g = (w.heap.size + 1) := hs; have := HBG.out; omega)).trans hbox
      have hK1 : Kept (BG (w.heap.size + 1) g) wl w1 := Kept.trans' hK hkb (fun j _ hj => Or.inl hj)
      have hA : Kept (fun _ => False) w1 (w1.alloc (.cells cy.toArray 46)) := (Kept.refl _ w1).alloc _
      have hacc2 := hacc1.keep (WkE_ok ansE_ok) hA (disj_none _)
      have hE2 := (WkE_ok ansE_ok).keep hE1 hA (disj_none _)
      have hbox2 := (hA.block _ (lt_of_block hwb) id).trans hwb
      have hF2 := hFb.keep hA id
      have hK2 : Kept (BG (w.heap.size + 1) g) wl (w1.alloc (.cells cy.toArray 46)) := Kept.trans' hK1 hA (fun j _ hj => hj.elim)
      have hnew := heap_alloc_new w1 (.cells cy.toArray 46)
      have hwl : wl.heap.size ≤ (w1.alloc (.cells cy.toArray 46)).heap.size := hK2.size
      have hg7 : (cs.set 16 acc)[16]? = some acc := by rw [List.getElem?_set_self (by rw [HCL.out]; decide)]
      have HFL := Lib.hid hfl
      clear hacc hE1 hacc1 hEy hbox hwb hA hK1 hkb hpb hK hFk hFb hfl c2 HPK KY
      generalize hw2 : w1.alloc (.cells cy.toArray 46) = w2 at hacc2 hE2 hbox2 hF2 hK2 hnew hwl
      have c7 : w2.cell? ⟨g, 16, none⟩ = some acc := cell_of_heap hbox2 hg7
      have HRY := Lib.hid (range_row hnew)
      have HBOX := Lib.hid hbox2
      have HW2 := Lib.hid hw2
      have HBZ := Lib.hid (lt_of_block hbox2)
      have hsl := hacc2.isSl
      clear hw2 hnew hbox2 hg7
      go_upto_region 8 with (refine wpList_store_new w1 rfl 46 _ _ rfl _ cy rfl rfl (by rw [HFL.out.1]; exact HSE.out) HFL.out.1.symm HFL.out.2 ?_)
      rw [HW2.out]
      obtain ⟨an0, an1, an2, rfl⟩ := hsl
      go_wp2_with (first
        | (refine wpList_load_mid rfl 46 (.tmp 8) rfl w1.heap.size 0 rfl cy _ HRY.out Try.underlying46 rfl (by rw [HFL.out.1]; exact HSE.out) ?_)
        | (refine wpList_one rfl 44 46 (.tmp 32) rfl (.agg cy.toArray) cy rfl rfl i _ Try.underlying44 HI.out.1 HI.out.2.1 (by rw [HI.out.2.2.1, HFL.out.1]) (by rw [HFL.out.1]; decide) (by rw [HFL.out.1]; decide) ?_)
        | (at_builtin; go_loud (refine wpList_push (WkE_ok ansE_ok) wl w2 rfl (.tmp 31) (.tmp 33) 44 rfl 46 i _ 17 200 Try.underlying44 HI.out.1 HI.out.2.1 HI.out.2.2.1 HI.out.2.2.2 rfl (by decide) (.slice an0 an1 an2) _ hacc2 cy _ hE2 HFL.out rfl rfl (by omega) (by decide) hwl ?_); intro v' w' hacc' hk'; have hslv := hacc'.isSl; obtain ⟨bn0, bn1, bn2, rfl⟩ := hslv; have HBOX' := Lib.hid ((hk'.block _ HBZ.out (fun hs => by have hs' : wl.heap.size ≤ g := hs; have := HG.out; omega)).trans HBOX.out))
        | (refine wpList_store_to rfl 44 (.tmp 35) (.tmp 34) rfl g 16 (.slice bn0 bn1 bn2) rfl rfl rfl (cs.set 16 (.slice an0 an1 an2)) 46 HBOX'.out (by rw [List.length_set, HCL.out]; decide) HSS.out _ rfl _ rfl ?_))
      go_roundw
      case rel => exact SubRel.step ansE_ok HB.out HG.out HBG.out hlt HSN.out hacc' (hF2.keep hk' (fun hs => by have hs' : wl.heap.size ≤ (w.heap.size + 1) := hs; have := HB.out; omega)) HPB.out HBOX'.out (Kept.trans' hK2 hk' (fun j hj hs => by have hs' : wl.heap.size ≤ j := hs; omega))
      case measure => simp [intOf]; omega
    · obtain ⟨hend, hee⟩ := SubRel.out (cs := cs) (T := 46) (g := g) (idx := 16) ansE_ok ansF_ok hgo hkn HH.out hacc hFk hpk hbox hK
      have hex : ¬ k < n ∨ (k < n ∧ e3 ≠ 0) := by rw [hee] at hgo; omega
      have HEX := Lib.hid hex
      have HEND := Lib.hid hend
      have c2 := hend.rd.c2
      clear hgo hee hex hacc hFk hpk hbox hK hend hkz
      go_upto_region 5 with fail
      go_cut [25] (fun v wx => v = .bool false ∧ wx = wr)
      case first =>
        rcases HEX.out with hlt | ⟨hlt, hne⟩
        · have hkl : ¬ (k : Int) < (n : Int) := by omega
          go_wp2_with fail
          go_meet
          exact ⟨rfl, rfl⟩
        · have hkl : (k : Int) < (n : Int) := by omega
          have hneb : (((e3 : Nat) : Int) == 0) = false := by simpa using hne
          go_wp2_with fail
          go_meet
          exact ⟨rfl, rfl⟩
      case rest =>
      obtain ⟨rfl, rfl⟩ := hcut
      clear c2 HEX
      obtain ⟨sa, sn, sc, rfl⟩ := HEND.out.shape
      have hfs : Flat 17 (cs.set 16 (.slice sa sn sc)) := flat_set HFL0.out 16 rfl
      have HFS := Lib.hid hfs; clear hfs
      have HSE2 := Lib.hid (info_len HSE.out HFS.out.1)
      go_wp2_with fail
      refine (KE.out _ _ _ HEND.out.rd HEND.out.pos).mono ?_
      rintro en wz ⟨pz, rfl, hFz, hpz, hkz⟩
      have HBX := Lib.hid ((hkz.block _ (lt_of_block HEND.out.box) (fun h => by have h' : g = (w.heap.size + 1) := h; have := HBG.out; omega)).trans HEND.out.box)
      have hrc := (HEND.out.kept.block _ (by have := HB.out; omega) (fun hs => by rcases hs with hs | hs <;> omega)).trans HRESL.out
      have HRES := Lib.hid ((hkz.block _ (lt_of_block hrc) (fun h => by have h' : w.heap.size = (w.heap.size + 1) := h; omega)).trans hrc)
      have hOz : Old w wz := (HOL.out.step HEND.out.kept (fun k hk => by rcases hk with hk | hk <;> omega)).step hkz (fun k hk => by have hk' : k = (w.heap.size + 1) := hk; omega)
      have HOZ := Lib.hid hOz
      have HEZ := Lib.hid ((WkE_ok ansE_ok).keep ((WkE_ok ansE_ok).keep HEL.out HEND.out.kept (fun j hj hs => by rcases hs with hs | hs; (have := hj.1; omega); exact hj.2 hs)) hkz (fun j hj hs => by have := hj.1; have hs' : j = (w.heap.size + 1) := hs; omega))
      have HLZ := Lib.hid (fun h0 => (HEND.out.list h0).keep ansE_ok hkz (fun j hj hs => by have h1 : wl.heap.size ≤ j := hj; have hs' : j = (w.heap.size + 1) := hs; have := HB.out; omega))
      have HZL := Lib.hid (show w.heap.size + 2 ≤ wl.heap.size by omega)
      clear hkz hpz hFz hrc hOz HEND HRESL HEL HOL KE
      by_cases h0 : r = 0
      · have hrd : ro = some ⟨x1, xs⟩ := by rw [HREAD.out, if_pos h0]
        have HRD := Lib.hid hrd; clear hrd
        have HEE := Lib.hid (HE0.out h0)
        have h0' : ((r : Nat) : Int) = 0 := by omega
        generalize ((r : Nat) : Int) = ri at h0'
        subst h0'
        clear h0 HREAD HE0
        have HRG := Lib.hid (range_row HBX.out)
        go_wp2_with (first
          | (refine wpList_load_mid rfl 46 (.tmp 5) rfl g 0 rfl (cs.set 16 (.slice sa sn sc)) _ HRG.out Try.underlying46 rfl HSE2.out ?_)
          | (refine wpList_store_row _ rfl 46 (.tmp 2) (.tmp 40) rfl w.heap.size _ (cs.set 16 (.slice sa sn sc)) rfl rfl HRES.out HSE2.out HFS.out.1.symm HFS.out.2 ?_))
        have hrow := setRow_heap wz w.heap.size _ (cs.set 16 (.slice sa sn sc)).toArray _ _ HRES.out
        have hload := run_loadVar_row (P := Try.prog) _ w.heap.size 46 46 _ (0, 0) _ hrow Try.underlying46 rfl (by rw [List.size_toArray]; exact HSE2.out)
        refine ret_cell_tmp 2 46 3 w.heap.size _ _ Try.results49 rfl rfl hload rfl ⟨_, by rw [HRD.out]; rfl, old_setRow HOZ.out _, ?_⟩
        rw [HRD.out]
        have hs1 := setRow_kept wz w.heap.size (cs.set 16 (.slice sa sn sc)).toArray
        have hp3 := ansE_ok.mono (ansE_ok.keep (HEZ.out (HZ.out HEE.out)) hs1 (fun j hj hs => by have := hj.1; have hs' : j = w.heap.size := hs; omega)) (ok' := New w) (fun j _ hj => by have := hj.1; unfold New; omega)
        have hl3 := ((HLZ.out HEE.out).keep ansE_ok hs1 (fun j hj hs => by have h1 : wl.heap.size ≤ j := hj; have hs' : j = w.heap.size := hs; have := HZL.out; omega)).mono ansE_ok (ok' := New w) (fun j _ hj => by have h1 : wl.heap.size ≤ j := hj; have := HZL.out; unfold New; omega)
        exact ⟨_, ansQ_set hp3 ⟨_, _, _, rfl⟩, hl3⟩
      · have hrd : ro = none := by rw [HREAD.out, if_neg h0]
        have HRD := Lib.hid hrd; clear hrd
        have h0' : ¬ ((r : Nat) : Int) = 0 := by omega
        generalize ((r : Nat) : Int) = ri at h0'
        clear h0 HREAD HE0
        go_wp2_with (refine wpList_store_row _ rfl 46 _ _ rfl w.heap.size _ [.int .i64 0, .int .i64 0, .int .i64 0, .string ⟨#[]⟩, .string ⟨#[]⟩, .int .i64 0, .int .i64 0, .int .i64 0, .int .i64 0, .int .i64 0, .int .i64 0, .int .i64 0, .int .i64 0, .int .i64 0, .slice none 0 0, .slice none 0 0, .slice none 0 0] rfl rfl HRES.out HSE.out rfl (by simp [Value.oneCell']) ?_)
        have hrow := setRow_heap wz w.heap.size _ ([.int .i64 0, .int .i64 0, .int .i64 0, .string ⟨#[]⟩, .string ⟨#[]⟩, .int .i64 0, .int .i64 0, .int .i64 0, .int .i64 0, .int .i64 0, .int .i64 0, .int .i64 0, .int .i64 0, .int .i64 0, .slice none 0 0, .slice none 0 0, .slice none 0 0] : List Value).toArray _ _ HRES.out
        have hload := run_loadVar_row (P := Try.prog) _ w.heap.size 46 46 _ (0, 0) _ hrow Try.underlying46 rfl (by rw [List.size_toArray]; exact HSE.out)
        exact ret_cell_tmp 2 46 3 w.heap.size _ _ Try.results49 rfl rfl hload rfl ⟨_, by rw [HRD.out]; rfl, old_setRow HOZ.out _, by rw [HRD.out]; exact zReply_at _ _⟩
end Go.Proofs.Ytngcfnffbggniaa

namespace Go.Proofs.Ytngcfnffbggniaa
open Go.ChangeShapes Go.WideShapes Go.ChangeAt Go.RowKit
set_option linter.unusedVariables false

/-- an element of one cell written over -/
theorem wpList_store_cell {P : Program} {ops : Array Oper} {rest : List Oper} {op : Oper} {a : Act} {w : World} {Q : Exit → Act → World → Prop} (hgd : op.guard = none) (ty : TypeId) (x y : Operand) (ho : op.op = .store ty x y)
    (g i : Nat) (v : Value) (hx : a.eval x = .pointer (some ⟨g, i, none⟩)) (hy : a.eval y = v) (hv : v.oneCell' = true) (ht : w.there g i 1) (hi : (P.info? ty).map (·.size) = some 1)
    (w1 : World) (hw : w.setCells g i [v] = w1) (h : wpList P ops Q rest (a.put op.dst undef) w1) : wpList P ops Q (op :: rest) a w :=
  wpList_plain hgd fun _ hK => by
    subst hw
    have hc : v.cells = #[v] := by cases v <;> first | rfl | cases hv
    have hrun := run_storeCells_cells (P := P) g i [v] 0 w (fun j hj => by obtain rfl : j = 0 := by simpa using hj
                                                                           exact (ht 0 (by decide)).1) (fun j hj => by obtain rfl : j = 0 := by simpa using hj
                                                                                                                       exact (ht 0 (by decide)).2) (fun u hu => by simp at hu; subst hu; exact hv)
    have hst : (storeVar ty ⟨g, i, none⟩ v).run P w = .ok () (w.setCells g i [v]) := by
      cases hq : P.info? ty with
      | none => simp [hq] at hi
      | some i0 =>
        have hs : i0.size = 1 := by simpa [hq] using hi
        simp only [Nat.add_zero] at hrun
        simp [storeVar, sizeOf, typeInfo, hq, hc, hs, hrun]
    unfold Oper.wp execOp
    simp only [ho, hx, hy, Instr.storeAt, Instr.sureAddr, Sem.run_bind, Sem.run_pure, Result.andThen_ok, hst]
    exact hK _ _ h
theorem both_reply (s : ByteArray) (hs : s.size ≤ 140737488355328) : ∃ (y : Reply) (e : Int), (replyF.lay y).length ≤ 1000000000000000 ∧
    (∀ W : World, Calls Try.prog 50 #[.string s] W fun en w' => ∃ cs : List Value, en = .returned (.tuple #[.agg cs.toArray, .int .i64 e]) ∧ Old W w' ∧ replyE w' (New W) cs y) ∧
    (∀ W : World, Calls Try.prog 49 #[.string s] W fun en w' => ∃ cs : List Value, en = .returned (.tuple #[.agg cs.toArray, .int .i64 e]) ∧ Old W w' ∧ replyE w' (New W) cs y) := by
  refine ⟨(replyF.read s).getD zReply, errOf (replyF.read s), ?_, fun W => (GetReply_any s W (by unfold maxLen; omega)).mono fun en w' ⟨cs, he, hO, hE⟩ => ⟨cs, he, hO, hE⟩, fun W => (refget_reply s W hs).mono fun en w' ⟨cs, he, hO, hE⟩ => ⟨cs, he, hO, hE⟩⟩
  cases h : replyF.read s with
  | none => show (replyF.lay zReply).length ≤ _; decide
  | some x => rw [show (some x).getD zReply = x from rfl, lay_len replyF_ok h]; omega

/-- where its lists lie -/
theorem reply_th {w : World} {ok : Nat → Prop} {y : Reply} {cs : List Value} (h : replyE w ok cs y) {base : Nat} (hb : ∀ k, ok k → base ≤ k) {aA : Option Addr} {aAn aAc : Nat} {aK : Option Addr} {aKn aKc : Nat} {aS : Option Addr} {aSn aSc : Nat} (hcs : cs = [.int .i64 y.ans.xid, .int .i64 y.ans.zxid, .int .i64 y.ans.err, .string y.ans.path, .string y.ans.data, .int .i64 y.ans.stat.czxid, .int .i64 y.ans.stat.mzxid, .int .i64 y.ans.stat.pzxid, .int .i64 y.ans.stat.version, .int .i64 y.ans.stat.cversion, .int .i64 y.ans.stat.aversion, .int .i64 y.ans.stat.owner, .int .i64 y.ans.stat.length, .int .i64 y.ans.stat.kids, .slice aA aAn aAc, .slice aK aKn aKc, .slice aS aSn aSc]) :
    ThL w base w.heap.size 1 (.slice aK aKn aKc) ∧ ThL w base w.heap.size 2 (.slice aA aAn aAc) ∧ ThL w base w.heap.size 17 (.slice aS aSn aSc) := by
  obtain ⟨vs1, ⟨va, vk, hcl, hA, hK, _⟩, hS⟩ := h
  rw [hcs] at hcl
  simp only [List.cons.injEq, and_true] at hcl
  obtain ⟨_, _, _, _, _, _, _, _, _, _, _, _, _, _, rfl, rfl, rfl⟩ := hcl
  exact ⟨hK.th hb, hA.th hb, hS.th hb⟩

set_option maxRecDepth 100000 in
set_option maxHeartbeats 2000000 in
theorem law_reply (s : ByteArray) (w : World) (hs : s.size ≤ 140737488355328) : Calls Try.prog 20 #[.string s] w fun e w' => e = .returned (.bool true) ∧ Old w w' := by
  have HSZ := Lib.hid (show (Try.prog.info? 46).map (·.size) = some 17 by kernel_rfl)
  have HSK := Lib.hid (show (Try.prog.info? 9).map (·.size) = some 1 by kernel_rfl)
  have HSA := Lib.hid (show (Try.prog.info? 73).map (·.size) = some 2 by kernel_rfl)
  have HSS := Lib.hid (show (Try.prog.info? 46).map (·.size) = some 17 by kernel_rfl)
  obtain ⟨y, e, hlay, pa, px⟩ := both_reply s hs
  obtain ⟨l, hl⟩ : ∃ l, replyF.lay y = l := ⟨_, rfl⟩
  have PA := Lib.hid pa; clear pa
  have PX := Lib.hid px; clear px
  have PL := Lib.hid (show ∀ (cs : List Value) (ok : Nat → Prop) (W : World), replyE W ok cs y → Calls Try.prog 19 #[.agg cs.toArray] W (OldStr W l) from fun cs ok W hE => by rw [← hl]; exact refput_reply y cs ok W hE hlay)
  clear hl hlay
  go_enter Try.func20, Try.ntmps20
  go_wp2_with fail
  refine (PX.out _).mono ?_
  rintro en w1 ⟨cx, rfl, hO1, hEx⟩
  obtain ⟨xA, xAn, xAc, xK, xKn, xKc, xS, xSn, xSc, rfl⟩ := replyE_cells hEx
  have hA1 : Old w1 (w1.alloc (.cells ([.int .i64 y.ans.xid, .int .i64 y.ans.zxid, .int .i64 y.ans.err, .string y.ans.path, .string y.ans.data, .int .i64 y.ans.stat.czxid, .int .i64 y.ans.stat.mzxid, .int .i64 y.ans.stat.pzxid, .int .i64 y.ans.stat.version, .int .i64 y.ans.stat.cversion, .int .i64 y.ans.stat.aversion, .int .i64 y.ans.stat.owner, .int .i64 y.ans.stat.length, .int .i64 y.ans.stat.kids, .slice xA xAn xAc, .slice xK xKn xKc, .slice xS xSn xSc] : List Value).toArray 46)) := (Old.refl _).make _
  have HX := Lib.hid (replyE_ok.keep hEx hA1 (disj_none _))
  have HBX := Lib.hid (heap_alloc_new w1 (.cells ([.int .i64 y.ans.xid, .int .i64 y.ans.zxid, .int .i64 y.ans.err, .string y.ans.path, .string y.ans.data, .int .i64 y.ans.stat.czxid, .int .i64 y.ans.stat.mzxid, .int .i64 y.ans.stat.pzxid, .int .i64 y.ans.stat.version, .int .i64 y.ans.stat.cversion, .int .i64 y.ans.stat.aversion, .int .i64 y.ans.stat.owner, .int .i64 y.ans.stat.length, .int .i64 y.ans.stat.kids, .slice xA xAn xAc, .slice xK xKn xKc, .slice xS xSn xSc] : List Value).toArray 46))
  have HO1 := Lib.hid (hO1.none hA1)
  clear hEx hO1 hA1
  go_wp2_with (refine wpList_store_new w1 rfl 46 _ _ rfl _ [.int .i64 y.ans.xid, .int .i64 y.ans.zxid, .int .i64 y.ans.err, .string y.ans.path, .string y.ans.data, .int .i64 y.ans.stat.czxid, .int .i64 y.ans.stat.mzxid, .int .i64 y.ans.stat.pzxid, .int .i64 y.ans.stat.version, .int .i64 y.ans.stat.cversion, .int .i64 y.ans.stat.aversion, .int .i64 y.ans.stat.owner, .int .i64 y.ans.stat.length, .int .i64 y.ans.stat.kids, .slice xA xAn xAc, .slice xK xKn xKc, .slice xS xSn xSc] rfl rfl HSZ.out rfl (by simp [Value.oneCell']) ?_)
  generalize w1.alloc (.cells ([.int .i64 y.ans.xid, .int .i64 y.ans.zxid, .int .i64 y.ans.err, .string y.ans.path, .string y.ans.data, .int .i64 y.ans.stat.czxid, .int .i64 y.ans.stat.mzxid, .int .i64 y.ans.stat.pzxid, .int .i64 y.ans.stat.version, .int .i64 y.ans.stat.cversion, .int .i64 y.ans.stat.aversion, .int .i64 y.ans.stat.owner, .int .i64 y.ans.stat.length, .int .i64 y.ans.stat.kids, .slice xA xAn xAc, .slice xK xKn xKc, .slice xS xSn xSc] : List Value).toArray 46) = W1 at HX HBX HO1 ⊢
  go_loopw [5] (fun iv wr => ∃ t : Nat, iv = .int .i64 (t : Nat) ∧ t ≤ 2 ∧ Old W1 wr) (fun iv _ => 2 - (intOf iv).toNat)
  case atStart => exact ⟨0, rfl, by omega, Old.refl _⟩
  case round =>
    obtain ⟨t, rfl, ht, hOr⟩ := hrel
    by_cases hlt : t < 2
    · have htl : (t : Int) < 2 := by omega
      go_wp2_with fail
      refine (PA.out _).mono ?_
      rintro en w2 ⟨ca, rfl, hO2, hEa⟩
      obtain ⟨aA, aAn, aAc, aK, aKn, aKc, aS, aSn, aSc, rfl⟩ := replyE_cells hEa
      have hA2 : Old w2 (w2.alloc (.cells ([.int .i64 y.ans.xid, .int .i64 y.ans.zxid, .int .i64 y.ans.err, .string y.ans.path, .string y.ans.data, .int .i64 y.ans.stat.czxid, .int .i64 y.ans.stat.mzxid, .int .i64 y.ans.stat.pzxid, .int .i64 y.ans.stat.version, .int .i64 y.ans.stat.cversion, .int .i64 y.ans.stat.aversion, .int .i64 y.ans.stat.owner, .int .i64 y.ans.stat.length, .int .i64 y.ans.stat.kids, .slice aA aAn aAc, .slice aK aKn aKc, .slice aS aSn aSc] : List Value).toArray 46)) := (Old.refl _).make _
      have HEA := Lib.hid (replyE_ok.keep hEa hA2 (disj_none _))
      have HTH := Lib.hid (reply_th hEa (base := wr.heap.size) (fun k hk => hk) rfl)
      have HBA := Lib.hid (heap_alloc_new w2 (.cells ([.int .i64 y.ans.xid, .int .i64 y.ans.zxid, .int .i64 y.ans.err, .string y.ans.path, .string y.ans.data, .int .i64 y.ans.stat.czxid, .int .i64 y.ans.stat.mzxid, .int .i64 y.ans.stat.pzxid, .int .i64 y.ans.stat.version, .int .i64 y.ans.stat.cversion, .int .i64 y.ans.stat.aversion, .int .i64 y.ans.stat.owner, .int .i64 y.ans.stat.length, .int .i64 y.ans.stat.kids, .slice aA aAn aAc, .slice aK aKn aKc, .slice aS aSn aSc] : List Value).toArray 46))
      have hO3 : Old wr (w2.alloc (.cells ([.int .i64 y.ans.xid, .int .i64 y.ans.zxid, .int .i64 y.ans.err, .string y.ans.path, .string y.ans.data, .int .i64 y.ans.stat.czxid, .int .i64 y.ans.stat.mzxid, .int .i64 y.ans.stat.pzxid, .int .i64 y.ans.stat.version, .int .i64 y.ans.stat.cversion, .int .i64 y.ans.stat.aversion, .int .i64 y.ans.stat.owner, .int .i64 y.ans.stat.length, .int .i64 y.ans.stat.kids, .slice aA aAn aAc, .slice aK aKn aKc, .slice aS aSn aSc] : List Value).toArray 46)) := hO2.none hA2
      have HO3 := Lib.hid hO3
      have HA2 := Lib.hid hA2
      have HX3 := Lib.hid (replyE_ok.keep HX.out (hOr.none hO3) (disj_none _))
      have HBX3 := Lib.hid (((hOr.none hO3).block _ (lt_of_block HBX.out) id).trans HBX.out)
      have HZ2 := Lib.hid hO2.size
      have HOR := Lib.hid hOr
      have hsz : w2.heap.size + 1 ≤ (w2.alloc (.cells ([.int .i64 y.ans.xid, .int .i64 y.ans.zxid, .int .i64 y.ans.err, .string y.ans.path, .string y.ans.data, .int .i64 y.ans.stat.czxid, .int .i64 y.ans.stat.mzxid, .int .i64 y.ans.stat.pzxid, .int .i64 y.ans.stat.version, .int .i64 y.ans.stat.cversion, .int .i64 y.ans.stat.aversion, .int .i64 y.ans.stat.owner, .int .i64 y.ans.stat.length, .int .i64 y.ans.stat.kids, .slice aA aAn aAc, .slice aK aKn aKc, .slice aS aSn aSc] : List Value).toArray 46)).heap.size := by simp
      clear hEa hO2 hA2 hO3 hOr
      go_upto_region 6 with (refine wpList_store_new w2 rfl 46 _ _ rfl _ [.int .i64 y.ans.xid, .int .i64 y.ans.zxid, .int .i64 y.ans.err, .string y.ans.path, .string y.ans.data, .int .i64 y.ans.stat.czxid, .int .i64 y.ans.stat.mzxid, .int .i64 y.ans.stat.pzxid, .int .i64 y.ans.stat.version, .int .i64 y.ans.stat.cversion, .int .i64 y.ans.stat.aversion, .int .i64 y.ans.stat.owner, .int .i64 y.ans.stat.length, .int .i64 y.ans.stat.kids, .slice aA aAn aAc, .slice aK aKn aKc, .slice aS aSn aSc] rfl rfl HSZ.out rfl (by simp [Value.oneCell']) ?_)
      generalize w2.alloc (.cells ([.int .i64 y.ans.xid, .int .i64 y.ans.zxid, .int .i64 y.ans.err, .string y.ans.path, .string y.ans.data, .int .i64 y.ans.stat.czxid, .int .i64 y.ans.stat.mzxid, .int .i64 y.ans.stat.pzxid, .int .i64 y.ans.stat.version, .int .i64 y.ans.stat.cversion, .int .i64 y.ans.stat.aversion, .int .i64 y.ans.stat.owner, .int .i64 y.ans.stat.length, .int .i64 y.ans.stat.kids, .slice aA aAn aAc, .slice aK aKn aKc, .slice aS aSn aSc] : List Value).toArray 46) = W2 at HEA HBA HO3 HX3 HBX3 HA2 hsz ⊢
      have HSS := Lib.hid (show ∀ w', Old W2 w' → w'.cell? ⟨w2.heap.size, 0, none⟩ = some (.int .i64 y.ans.xid) ∧ w'.cell? ⟨w2.heap.size, 1, none⟩ = some (.int .i64 y.ans.zxid) ∧ w'.cell? ⟨w2.heap.size, 2, none⟩ = some (.int .i64 y.ans.err) ∧ w'.cell? ⟨w2.heap.size, 3, none⟩ = some (.string y.ans.path) ∧ w'.cell? ⟨w2.heap.size, 4, none⟩ = some (.string y.ans.data) ∧ w'.cell? ⟨w2.heap.size, 5, none⟩ = some (.int .i64 y.ans.stat.czxid) ∧ w'.cell? ⟨w2.heap.size, 6, none⟩ = some (.int .i64 y.ans.stat.mzxid) ∧ w'.cell? ⟨w2.heap.size, 7, none⟩ = some (.int .i64 y.ans.stat.pzxid) ∧ w'.cell? ⟨w2.heap.size, 8, none⟩ = some (.int .i64 y.ans.stat.version) ∧ w'.cell? ⟨w2.heap.size, 9, none⟩ = some (.int .i64 y.ans.stat.cversion) ∧ w'.cell? ⟨w2.heap.size, 10, none⟩ = some (.int .i64 y.ans.stat.aversion) ∧ w'.cell? ⟨w2.heap.size, 11, none⟩ = some (.int .i64 y.ans.stat.owner) ∧ w'.cell? ⟨w2.heap.size, 12, none⟩ = some (.int .i64 y.ans.stat.length) ∧ w'.cell? ⟨w2.heap.size, 13, none⟩ = some (.int .i64 y.ans.stat.kids) ∧ w'.cell? ⟨w2.heap.size, 14, none⟩ = some (.slice aA aAn aAc) ∧ w'.cell? ⟨w2.heap.size, 15, none⟩ = some (.slice aK aKn aKc) ∧ w'.cell? ⟨w2.heap.size, 16, none⟩ = some (.slice aS aSn aSc) ∧ w'.cell? ⟨w1.heap.size, 0, none⟩ = some (.int .i64 y.ans.xid) ∧ w'.cell? ⟨w1.heap.size, 1, none⟩ = some (.int .i64 y.ans.zxid) ∧ w'.cell? ⟨w1.heap.size, 2, none⟩ = some (.int .i64 y.ans.err) ∧ w'.cell? ⟨w1.heap.size, 3, none⟩ = some (.string y.ans.path) ∧ w'.cell? ⟨w1.heap.size, 4, none⟩ = some (.string y.ans.data) ∧ w'.cell? ⟨w1.heap.size, 5, none⟩ = some (.int .i64 y.ans.stat.czxid) ∧ w'.cell? ⟨w1.heap.size, 6, none⟩ = some (.int .i64 y.ans.stat.mzxid) ∧ w'.cell? ⟨w1.heap.size, 7, none⟩ = some (.int .i64 y.ans.stat.pzxid) ∧ w'.cell? ⟨w1.heap.size, 8, none⟩ = some (.int .i64 y.ans.stat.version) ∧ w'.cell? ⟨w1.heap.size, 9, none⟩ = some (.int .i64 y.ans.stat.cversion) ∧ w'.cell? ⟨w1.heap.size, 10, none⟩ = some (.int .i64 y.ans.stat.aversion) ∧ w'.cell? ⟨w1.heap.size, 11, none⟩ = some (.int .i64 y.ans.stat.owner) ∧ w'.cell? ⟨w1.heap.size, 12, none⟩ = some (.int .i64 y.ans.stat.length) ∧ w'.cell? ⟨w1.heap.size, 13, none⟩ = some (.int .i64 y.ans.stat.kids) ∧ w'.cell? ⟨w1.heap.size, 14, none⟩ = some (.slice xA xAn xAc) ∧ w'.cell? ⟨w1.heap.size, 15, none⟩ = some (.slice xK xKn xKc) ∧ w'.cell? ⟨w1.heap.size, 16, none⟩ = some (.slice xS xSn xSc) ∧ Old W2 w' from fun w' hO => by
        have ha := fun i v hv => cell_of_heap (i := i) (v := v) ((hO.block _ (lt_of_block HBA.out) id).trans HBA.out) hv
        have hx := fun i v hv => cell_of_heap (i := i) (v := v) ((hO.block _ (lt_of_block HBX3.out) id).trans HBX3.out) hv
        exact ⟨ha 0 _ rfl, ha 1 _ rfl, ha 2 _ rfl, ha 3 _ rfl, ha 4 _ rfl, ha 5 _ rfl, ha 6 _ rfl, ha 7 _ rfl, ha 8 _ rfl, ha 9 _ rfl, ha 10 _ rfl, ha 11 _ rfl, ha 12 _ rfl, ha 13 _ rfl, ha 14 _ rfl, ha 15 _ rfl, ha 16 _ rfl, hx 0 _ rfl, hx 1 _ rfl, hx 2 _ rfl, hx 3 _ rfl, hx 4 _ rfl, hx 5 _ rfl, hx 6 _ rfl, hx 7 _ rfl, hx 8 _ rfl, hx 9 _ rfl, hx 10 _ rfl, hx 11 _ rfl, hx 12 _ rfl, hx 13 _ rfl, hx 14 _ rfl, hx 15 _ rfl, hx 16 _ rfl, hO⟩)
      have KA := Lib.hid (fun W (h : Old W2 W) => PL.out [.int .i64 y.ans.xid, .int .i64 y.ans.zxid, .int .i64 y.ans.err, .string y.ans.path, .string y.ans.data, .int .i64 y.ans.stat.czxid, .int .i64 y.ans.stat.mzxid, .int .i64 y.ans.stat.pzxid, .int .i64 y.ans.stat.version, .int .i64 y.ans.stat.cversion, .int .i64 y.ans.stat.aversion, .int .i64 y.ans.stat.owner, .int .i64 y.ans.stat.length, .int .i64 y.ans.stat.kids, .slice aA aAn aAc, .slice aK aKn aKc, .slice aS aSn aSc] _ W (replyE_ok.keep HEA.out h (disj_none _)))
      have KX := Lib.hid (fun W (h : Old W2 W) => PL.out [.int .i64 y.ans.xid, .int .i64 y.ans.zxid, .int .i64 y.ans.err, .string y.ans.path, .string y.ans.data, .int .i64 y.ans.stat.czxid, .int .i64 y.ans.stat.mzxid, .int .i64 y.ans.stat.pzxid, .int .i64 y.ans.stat.version, .int .i64 y.ans.stat.cversion, .int .i64 y.ans.stat.aversion, .int .i64 y.ans.stat.owner, .int .i64 y.ans.stat.length, .int .i64 y.ans.stat.kids, .slice xA xAn xAc, .slice xK xKn xKc, .slice xS xSn xSc] _ W (replyE_ok.keep HX3.out h (disj_none _)))
      go_cut [34] (fun v wx => v = .bool false ∧ Old W2 wx)
      case first =>
        go_region_held3 (fun w' => w'.cell? ⟨w2.heap.size, 0, none⟩ = some (.int .i64 y.ans.xid) ∧ w'.cell? ⟨w2.heap.size, 1, none⟩ = some (.int .i64 y.ans.zxid) ∧ w'.cell? ⟨w2.heap.size, 2, none⟩ = some (.int .i64 y.ans.err) ∧ w'.cell? ⟨w2.heap.size, 3, none⟩ = some (.string y.ans.path) ∧ w'.cell? ⟨w2.heap.size, 4, none⟩ = some (.string y.ans.data) ∧ w'.cell? ⟨w2.heap.size, 5, none⟩ = some (.int .i64 y.ans.stat.czxid) ∧ w'.cell? ⟨w2.heap.size, 6, none⟩ = some (.int .i64 y.ans.stat.mzxid) ∧ w'.cell? ⟨w2.heap.size, 7, none⟩ = some (.int .i64 y.ans.stat.pzxid) ∧ w'.cell? ⟨w2.heap.size, 8, none⟩ = some (.int .i64 y.ans.stat.version) ∧ w'.cell? ⟨w2.heap.size, 9, none⟩ = some (.int .i64 y.ans.stat.cversion) ∧ w'.cell? ⟨w2.heap.size, 10, none⟩ = some (.int .i64 y.ans.stat.aversion) ∧ w'.cell? ⟨w2.heap.size, 11, none⟩ = some (.int .i64 y.ans.stat.owner) ∧ w'.cell? ⟨w2.heap.size, 12, none⟩ = some (.int .i64 y.ans.stat.length) ∧ w'.cell? ⟨w2.heap.size, 13, none⟩ = some (.int .i64 y.ans.stat.kids) ∧ w'.cell? ⟨w2.heap.size, 14, none⟩ = some (.slice aA aAn aAc) ∧ w'.cell? ⟨w2.heap.size, 15, none⟩ = some (.slice aK aKn aKc) ∧ w'.cell? ⟨w2.heap.size, 16, none⟩ = some (.slice aS aSn aSc) ∧ w'.cell? ⟨w1.heap.size, 0, none⟩ = some (.int .i64 y.ans.xid) ∧ w'.cell? ⟨w1.heap.size, 1, none⟩ = some (.int .i64 y.ans.zxid) ∧ w'.cell? ⟨w1.heap.size, 2, none⟩ = some (.int .i64 y.ans.err) ∧ w'.cell? ⟨w1.heap.size, 3, none⟩ = some (.string y.ans.path) ∧ w'.cell? ⟨w1.heap.size, 4, none⟩ = some (.string y.ans.data) ∧ w'.cell? ⟨w1.heap.size, 5, none⟩ = some (.int .i64 y.ans.stat.czxid) ∧ w'.cell? ⟨w1.heap.size, 6, none⟩ = some (.int .i64 y.ans.stat.mzxid) ∧ w'.cell? ⟨w1.heap.size, 7, none⟩ = some (.int .i64 y.ans.stat.pzxid) ∧ w'.cell? ⟨w1.heap.size, 8, none⟩ = some (.int .i64 y.ans.stat.version) ∧ w'.cell? ⟨w1.heap.size, 9, none⟩ = some (.int .i64 y.ans.stat.cversion) ∧ w'.cell? ⟨w1.heap.size, 10, none⟩ = some (.int .i64 y.ans.stat.aversion) ∧ w'.cell? ⟨w1.heap.size, 11, none⟩ = some (.int .i64 y.ans.stat.owner) ∧ w'.cell? ⟨w1.heap.size, 12, none⟩ = some (.int .i64 y.ans.stat.length) ∧ w'.cell? ⟨w1.heap.size, 13, none⟩ = some (.int .i64 y.ans.stat.kids) ∧ w'.cell? ⟨w1.heap.size, 14, none⟩ = some (.slice xA xAn xAc) ∧ w'.cell? ⟨w1.heap.size, 15, none⟩ = some (.slice xK xKn xKc) ∧ w'.cell? ⟨w1.heap.size, 16, none⟩ = some (.slice xS xSn xSc) ∧ Old W2 w')
          (((try dsimp only); first | exact HSS.out _ (Old.drew (Old.refl _)) | exact HSS.out _ (by assumption) | exact HSS.out _ (Old.drew (by assumption))))
          (first
            | (go_at_call 19; go_split_ands; (with_reducible refine (KA.out _ (by first | assumption | exact Old.drew (Old.refl _))).mono ?_); rintro en w9 ⟨rfl, hO9⟩; have hP9 : Old W2 w9 := Old.none (by first | assumption | exact Old.drew (Old.refl _)) hO9; clear hO9)
            | (go_at_call 19; go_split_ands; (with_reducible refine (KX.out _ (by first | assumption | exact Old.drew (Old.refl _))).mono ?_); rintro en w9 ⟨rfl, hO9⟩; have hP9 : Old W2 w9 := Old.none (by first | assumption | exact Old.drew (Old.refl _)) hO9; clear hO9))
        all_goals go_wp2_with fail
        all_goals go_meet
        all_goals exact ⟨rfl, by assumption⟩
      case rest =>
      obtain ⟨rfl, hOc⟩ := hcut
      have hth := HTH.out
      have HBC := Lib.hid ((hOc.block _ (lt_of_block HBA.out) id).trans HBA.out)
      have hOr2 : Old wr wc := HO3.out.none hOc
      have hzc : w2.heap.size + 1 ≤ wc.heap.size := Nat.le_trans hsz hOc.size
      obtain ⟨bz, hbz⟩ : ∃ b, wr.heap.size = b := ⟨_, rfl⟩
      have HFIN := Lib.hid (show ∀ wq, Kept (Mid bz w2.heap.size) wc wq → Old W1 wq from fun wq hq => HOR.out.none (hOr2.step hq (fun k hk => by rw [hbz]; exact hk.1)))
      rw [hbz] at hth
      have HTK := Lib.hid ((hth.1.keep HA2.out (fun _ _ _ f => f) (Nat.le_refl _)).keep hOc (fun _ _ _ f => f) (by omega))
      have HTA := Lib.hid ((hth.2.1.keep HA2.out (fun _ _ _ f => f) (Nat.le_refl _)).keep hOc (fun _ _ _ f => f) (by omega))
      have HTS := Lib.hid ((hth.2.2.keep HA2.out (fun _ _ _ f => f) (Nat.le_refl _)).keep hOc (fun _ _ _ f => f) (by omega))
      clear HSS KA KX HX3 HBX3 HEA HBA HTH hth HO3 hOc hOr2 HA2 hbz HOR HZ2
      go_wp2_with fail
      go_loopw [8] (fun iv wq => ∃ k : Nat, iv = .int .i64 (k : Nat) ∧ k ≤ aKn ∧ Kept (Mid bz w2.heap.size) wc wq ∧ ThL wq bz w2.heap.size 1 (.slice aK aKn aKc) ∧ ThL wq bz w2.heap.size 2 (.slice aA aAn aAc) ∧ ThL wq bz w2.heap.size 17 (.slice aS aSn aSc)) (fun iv _ => aKn - (intOf iv).toNat)
      case atStart => exact ⟨0, rfl, Nat.zero_le _, Kept.refl _ _, HTK.out, HTA.out, HTS.out⟩
      case round =>
        obtain ⟨k, rfl, hk, hKq, hqK, hqA, hqS⟩ := hrel
        have hbq := (hKq.block _ (lt_of_block HBC.out) (fun hs => by have := hs.2; omega)).trans HBC.out
        have cq := cell_of_heap (i := 15) (v := .slice aK aKn aKc) hbq rfl
        have hln := hqK.len
        unfold maxLen at hln
        clear hbq
        by_cases hlt0 : k < aKn
        · have hkl : (k : Int) < (aKn : Int) := by omega
          obtain ⟨g, off, rfl, hgb, hgt, hth⟩ := hqK.at_ hlt0
          have HT := Lib.hid hth; clear hth
          have HLT := Lib.hid hlt0
          have HQK := Lib.hid (fun o (vs : List Value) => hqK.set g o vs); clear hqK
          have HQA := Lib.hid (fun o (vs : List Value) => hqA.set g o vs); clear hqA
          have HQS := Lib.hid (fun o (vs : List Value) => hqS.set g o vs); clear hqS
          have HKQ := Lib.hid (fun o (vs : List Value) => Mid.set (o := o) (vs := vs) hKq hgb hgt); clear hKq
          obtain ⟨wn, hwn⟩ : ∃ u, World.setCells wr g (off + k) [.string ⟨#[111, 118, 101, 114]⟩] = u := ⟨_, rfl⟩
          have HWN := Lib.hid hwn; clear hwn
          replace HT : Hid (wr.there g (off + k) 1) := Lib.hid (by have := HT.out; rwa [Nat.mul_one] at this)
          go_wp2_with (refine wpList_store_cell rfl 9 (.tmp 45) _ rfl g (off + k) (.string ⟨#[111, 118, 101, 114]⟩) rfl rfl rfl HT.out HSK.out wn HWN.out ?_)
          go_roundw
          case rel => rw [← HWN.out]; exact ⟨k + 1, by go_num, HLT.out, HKQ.out _ _, HQK.out _ _, HQA.out _ _, HQS.out _ _⟩
          case measure => have h := HLT.out; simp [intOf]; omega
        · have hkl : ¬ (k : Int) < (aKn : Int) := by omega
          have HQA1 := Lib.hid hqA
          have HQS1 := Lib.hid hqS
          have HKQ1 := Lib.hid hKq
          clear hKq hqK hqA hqS
          go_wp2_with fail
          clear cq hkl hln hlt0 hk
          go_loopw [9] (fun iv wq => ∃ k : Nat, iv = .int .i64 (k : Nat) ∧ k ≤ aAn ∧ Kept (Mid bz w2.heap.size) wc wq ∧ ThL wq bz w2.heap.size 2 (.slice aA aAn aAc) ∧ ThL wq bz w2.heap.size 17 (.slice aS aSn aSc)) (fun iv _ => aAn - (intOf iv).toNat)
          case atStart => exact ⟨0, rfl, Nat.zero_le _, HKQ1.out, HQA1.out, HQS1.out⟩
          case round =>
            obtain ⟨k, rfl, hk, hKq, hqA, hqS⟩ := hrel
            have hbq := (hKq.block _ (lt_of_block HBC.out) (fun hs => by have := hs.2; omega)).trans HBC.out
            have cq := cell_of_heap (i := 14) (v := .slice aA aAn aAc) hbq rfl
            have hln := hqA.len
            unfold maxLen at hln
            clear hbq
            by_cases hlt1 : k < aAn
            · have hkl : (k : Int) < (aAn : Int) := by omega
              obtain ⟨g, off, rfl, hgb, hgt, hth⟩ := hqA.at_ hlt1
              have HT := Lib.hid hth; clear hth
              have HLT := Lib.hid hlt1
              have HQA := Lib.hid (fun o (vs : List Value) => hqA.set g o vs); clear hqA
              have HQS := Lib.hid (fun o (vs : List Value) => hqS.set g o vs); clear hqS
              have HKQ := Lib.hid (fun o (vs : List Value) => Mid.set (o := o) (vs := vs) hKq hgb hgt); clear hKq
              obtain ⟨wn, hwn⟩ : ∃ u, World.setCells wr g (off + k * 2) [.int .i64 (-1), .string ⟨#[]⟩] = u := ⟨_, rfl⟩
              have HWN := Lib.hid hwn; clear hwn
              have HONE := Lib.hid (show ∀ v ∈ ([.int .i64 (-1), .string ⟨#[]⟩] : List Value), v.oneCell' = true by simp [Value.oneCell'])
              go_wp2_with (refine wpList_store_over rfl 73 (.tmp 57) (.tmp 56) rfl g (off + k * 2) [.int .i64 (-1), .string ⟨#[]⟩] 2 rfl rfl HT.out rfl HSA.out HONE.out wn HWN.out ?_)
              go_roundw
              case rel => rw [← HWN.out]; exact ⟨k + 1, by go_num, HLT.out, HKQ.out _ _, HQA.out _ _, HQS.out _ _⟩
              case measure => have h := HLT.out; simp [intOf]; omega
            · have hkl : ¬ (k : Int) < (aAn : Int) := by omega
              have HQS2 := Lib.hid hqS
              have HKQ2 := Lib.hid hKq
              clear hKq hqA hqS
              go_wp2_with fail
              clear cq hkl hln hlt1 hk
              go_loopw [10] (fun iv wq => ∃ k : Nat, iv = .int .i64 (k : Nat) ∧ k ≤ aSn ∧ Kept (Mid bz w2.heap.size) wc wq ∧ ThL wq bz w2.heap.size 17 (.slice aS aSn aSc)) (fun iv _ => aSn - (intOf iv).toNat)
              case atStart => exact ⟨0, rfl, Nat.zero_le _, HKQ2.out, HQS2.out⟩
              case round =>
                obtain ⟨k, rfl, hk, hKq, hqS⟩ := hrel
                have hbq := (hKq.block _ (lt_of_block HBC.out) (fun hs => by have := hs.2; omega)).trans HBC.out
                have cq := cell_of_heap (i := 16) (v := .slice aS aSn aSc) hbq rfl
                have hln := hqS.len
                unfold maxLen at hln
                clear hbq
                by_cases hlt2 : k < aSn
                · have hkl : (k : Int) < (aSn : Int) := by omega
                  obtain ⟨g, off, rfl, hgb, hgt, hth⟩ := hqS.at_ hlt2
                  have HT := Lib.hid hth; clear hth
                  have HLT := Lib.hid hlt2
                  have HQS := Lib.hid (fun o (vs : List Value) => hqS.set g o vs); clear hqS
                  have HKQ := Lib.hid (fun o (vs : List Value) => Mid.set (o := o) (vs := vs) hKq hgb hgt); clear hKq
                  obtain ⟨wn, hwn⟩ : ∃ u, World.setCells wr g (off + k * 17) [.int .i64 (-1), .int .i64 0, .int .i64 0, .string ⟨#[]⟩, .string ⟨#[]⟩, .int .i64 0, .int .i64 0, .int .i64 0, .int .i64 0, .int .i64 0, .int .i64 0, .int .i64 0, .int .i64 0, .int .i64 0, .slice none 0 0, .slice none 0 0, .slice none 0 0] = u := ⟨_, rfl⟩
                  have HWN := Lib.hid hwn; clear hwn
                  have HONE := Lib.hid (show ∀ v ∈ ([.int .i64 (-1), .int .i64 0, .int .i64 0, .string ⟨#[]⟩, .string ⟨#[]⟩, .int .i64 0, .int .i64 0, .int .i64 0, .int .i64 0, .int .i64 0, .int .i64 0, .int .i64 0, .int .i64 0, .int .i64 0, .slice none 0 0, .slice none 0 0, .slice none 0 0] : List Value), v.oneCell' = true by simp [Value.oneCell'])
                  go_wp2_with (refine wpList_store_over rfl 46 (.tmp 69) (.tmp 68) rfl g (off + k * 17) [.int .i64 (-1), .int .i64 0, .int .i64 0, .string ⟨#[]⟩, .string ⟨#[]⟩, .int .i64 0, .int .i64 0, .int .i64 0, .int .i64 0, .int .i64 0, .int .i64 0, .int .i64 0, .int .i64 0, .int .i64 0, .slice none 0 0, .slice none 0 0, .slice none 0 0] 17 rfl rfl HT.out rfl HSS.out HONE.out wn HWN.out ?_)
                  go_roundw
                  case rel => rw [← HWN.out]; exact ⟨k + 1, by go_num, HLT.out, HKQ.out _ _, HQS.out _ _⟩
                  case measure => have h := HLT.out; simp [intOf]; omega
                · have hkl : ¬ (k : Int) < (aSn : Int) := by omega
                  have HKQ3 := Lib.hid hKq
                  clear hKq hqS
                  go_wp2_with fail
                  go_roundw
                  case rel => exact ⟨t + 1, by go_num, hlt, HFIN.out _ HKQ3.out⟩
                  case measure => simp [intOf]; omega
    · have htl : ¬ (t : Int) < 2 := by omega
      have HE := Lib.hid (HO1.out.none hOr)
      clear hOr
      go_wp2_with fail
      go_ret
      exact ⟨rfl, HE.out⟩
end Go.Proofs.Ytngcfnffbggniaa

namespace Go.Proofs.Ytngcfnffbggniaa.wireReplies
open Go.ChangeShapes Go.WideShapes Go.ChangeAt Go.RowKit
set_option linter.unusedVariables false

set_option maxRecDepth 100000 in
set_option maxHeartbeats 1600000 in
theorem walk0 (x : Reply) (cs : List Value) (ok : Nat → Prop) (w : World) (hE : replyE w ok cs x) (hi : In w ok) (hx : (replyF.lay x).length ≤ 20000000) :
    Calls Try.prog 5 #[.agg cs.toArray] w fun e w' => e = .returned (.bool true) ∧ Old w w' := by
  have HSZ := Lib.hid (show (Try.prog.info? 46).map (·.size) = some 17 by kernel_rfl)
  have HL := Lib.hid (replyE_flat hE).1
  obtain ⟨s, hs⟩ : ∃ s : ByteArray, (⟨(replyF.lay x).toArray⟩ : ByteArray) = s := ⟨_, rfl⟩
  have hsz : s.size = (replyF.lay x).length := by rw [← hs, ← str_len]
  have hs2 : s.size ≤ 20000000 := by omega
  have HS := Lib.hid hs; clear hs hsz
  have HX := Lib.hid hx; clear hx
  have HE := Lib.hid hE; clear hE
  have HI := Lib.hid hi; clear hi
  go_enter Try.func5, Try.ntmps5
  go_wp2_with fail
  refine (wawake_any _).mono ?_
  rintro en w2 ⟨rfl, hO2⟩
  have hb0 : w2.heap[w.heap.size]? = some (.cells cs.toArray 46 (0, 0)) := by
    rw [hO2.block _ (by simp) id]
    exact heap_alloc_new w _
  have hP2 : Old w w2 := ((Old.refl w).alloc _).none hO2
  have hE2 := replyE_ok.keep HE.out hP2 (disj_none _)
  have hi2 := HI.out.kept hP2
  have HE2 := Lib.hid hE2; clear hE2
  have HI2 := Lib.hid hi2; clear hi2
  have HB0 := Lib.hid hb0; clear hb0
  have HP2 := Lib.hid hP2; clear hP2 hO2
  have HR0 := Lib.hid (range_row HB0.out)
  go_wp2_with (refine wpList_load_mid rfl 46 (.tmp 1) rfl w.heap.size 0 rfl cs _ HR0.out Try.underlying46 rfl (by rw [HL.out]; exact HSZ.out) ?_)
  refine (PutReply_any x _ _ _ HE2.out HI2.out (by have := HX.out; omega)).mono ?_
  rintro en w3 ⟨rfl, hO3⟩
  rw [HS.out]
  have HP3 := Lib.hid (HP2.out.none hO3)
  have HE3 := Lib.hid (replyE_ok.keep HE2.out hO3 (disj_none _))
  have HR3 := Lib.hid (range_row ((hO3.block _ (lt_of_block HB0.out) id).trans HB0.out))
  clear hO3 HP2 HE2 HR0 HB0 HI2
  go_wp2_with (first
    | (refine wpList_load_guarded rfl 46 (.tmp 1) rfl w.heap.size 0 rfl cs _ HR3.out Try.underlying46 rfl (by rw [HL.out]; exact HSZ.out) ?_)
    | (go_at_call 19; refine (refput_reply x cs ok _ HE3.out (by have := HX.out; omega)).mono ?_; rintro en w4 ⟨rfl, hO4⟩; rw [HS.out]; have HP4 := Lib.hid (HP3.out.none hO4); clear hO4)
    | (go_at_call 20; refine (law_reply s _ (by omega)).mono ?_; rintro en w5 ⟨rfl, hO5⟩; have HP5 := Lib.hid (HP4.out.none hO5); clear hO5))
  go_ret
  exact ⟨rfl, HP5.out⟩
end Go.Proofs.Ytngcfnffbggniaa.wireReplies

namespace Go.Proofs.Ytngcfnffbggniaa.wireReplies
open Go.ChangeShapes Go.WideShapes Go.ChangeAt Go.RowKit
open Go.ChangeMaps (open_string shut_string)
set_option linter.unusedVariables false

theorem own : ownKnob Try.prog.godebug = none := by kernel_rfl
theorem laidOut : laidOutB Try.prog = true := by kernel_rfl

set_option maxRecDepth 100000 in
theorem contract (H : Type) (enc : TypeId × Value → H) (W : World) (base : Nat) (args : Array Value) (ds gs : List (DataW H)) (before : List MemPlace)
    (hval : ∀ (j : Nat) t v, Try.f5.params[j]? = some t → args[j]? = some v → Value.okWide Try.prog W .any base t v)
    (hW : DataW.Whole enc Try.prog Try.f5.params.toList Rows.wireRepliesSpec.vars false W args.toList ds gs before) (hk : Rows.uptoSmall H (ds ++ gs) = true) :
    Calls Try.prog 5 args W fun e W' => ∃ v, e = .returned v ∧ Rows.wireRepliesSpec.post enc Try.prog Try.f5 false true false false W args v W' := by
  have hW' := hW
  obtain ⟨p, q, hA0, hV, rfl, hfz, hnd⟩ := hW
  have hA : DataW.TrodAll enc Try.prog W 0 (fun _ => true) true Try.f5.params.toList args.toList ds p := hA0
  rw [Try.params5] at hA hval
  obtain ⟨v0, vs0, d0, ds0, p0, q0, hargs, rfl, rfl, h0, r0⟩ := trodAll_cons hA
  obtain ⟨rfl, rfl, rfl⟩ := trodAll_nil r0
  obtain rfl : args = #[v0] := by cases args; simp_all
  obtain ⟨rfl, rfl⟩ := trodVars_none hV
  have k0 := h0
  have lt0 : ∀ x ∈ p0, x.block < W.heap.size := by obtain ⟨m, hm⟩ := k0; exact DataW.trod_lt m _ _ _ hm
  obtain ⟨ce, rfl, hce⟩ := okWide_struct Try.underlying46 (hval 0 46 v0 rfl rfl)
  have hb : Rows.uptoBulkAll ([d0] ++ []) ≤ 1048576 := of_decide_eq_true hk
  simp only [List.append_nil, Rows.uptoBulkAll] at hb
  obtain ⟨m0, hm0⟩ := h0
  obtain ⟨x, hE, hx, _⟩ := opens_reply (fun _ => rfl) _ _ _ hm0 (by simp only; omega) (fun b o hm => hfz b o (by simpa using hm))
  clear hA0 hk
  simp only [List.append_nil] at hW'
  refine (walk0 x ce.toList (Old1 W) W hE (fun k hk => hk) (by simp only at hx; omega)).mono fun e W' ⟨he, hO⟩ => ?_
  subst he
  have bel := hO.below
  exact ⟨_, rfl, _, _, _, [], _, [], hW', trodAll_mk1 (shut_bool Try.underlying4 _), (trodAll_cons_mk (Below.trod laidOut (by kernel_rfl) (of_decide_eq_true (by kernel_rfl)) k0 bel lt0) trodAll_mk0), rfl, bel.frame _, fun h => by cases h⟩

set_option maxRecDepth 100000 in
theorem lifted (os : Os) (started : os.Started) (H : Type) (enc : TypeId × Value → H) (F : Stop.Interp) :
    ReturnsInHanded {} Try.checked os 5 .any ((Rows.OpenSpec.upto Rows.wireRepliesSpec).pre6 enc Try.prog Try.f5 Rows.wireRepliesUptoRow.domain false) (((Rows.OpenSpec.upto Rows.wireRepliesSpec).at F).post enc Try.prog Try.f5 false true false false) := by
  refine returnsInHanded_of_cond (C := Try.checked) (s := Rows.OpenSpec.upto Rows.wireRepliesSpec) (k := Rows.uptoSmall) rfl own started (by kernel_rfl) Try.func5
    (OpenSpec.witness (enc := enc) (C := Try.checked) (s := Rows.OpenSpec.upto Rows.wireRepliesSpec) (k := Rows.uptoSmall) rfl false ⟨#[], #[(.agg #[.int .i64 0, .int .i64 0, .int .i64 0, .string .empty, .string .empty, .int .i64 0, .int .i64 0, .int .i64 0, .int .i64 0, .int .i64 0, .int .i64 0, .int .i64 0, .int .i64 0, .int .i64 0, .slice none 0 0, .slice none 0 0, .slice none 0 0])], []⟩ 8 (by kernel_rfl) (by kernel_rfl) (by kernel_rfl)
      (x := ([.agg [.lit (.int .i64 0), .lit (.int .i64 0), .lit (.int .i64 0), .lit (.string []), .lit (.string []), .agg [.lit (.int .i64 0), .lit (.int .i64 0), .lit (.int .i64 0), .lit (.int .i64 0), .lit (.int .i64 0), .lit (.int .i64 0), .lit (.int .i64 0), .lit (.int .i64 0), .lit (.int .i64 0)], .nil, .nil, .nil]], [], [])) (by kernel_rfl) rfl (by kernel_rfl)) ?_
  intro W base args ds gs before hval hW _ hk _
  exact contract H enc W base args ds gs before hval hW hk

/-- the given statement -/
theorem proved : Rows.WireRepliesUptoSaid :=
  OpenClaim.holds_of_cond 5 Try.f5 rfl rfl rfl rfl rfl rfl rfl ⟨rfl, rfl, rfl, rfl, rfl⟩ rfl rfl rfl rfl rfl (by kernel_rfl) Try.func5 (by kernel_rfl)
    (of_decide_eq_true (by kernel_rfl)) (by unfold Func.isWrapper; first | (rw [if_pos (by decide +kernel)]; kernel_rfl) | (rw [if_neg (by decide +kernel)]; exact ⟨rfl, rfl⟩))
    (fun os started H enc _ F => lifted os started H enc F)
#print axioms proved
end Go.Proofs.Ytngcfnffbggniaa.wireReplies
