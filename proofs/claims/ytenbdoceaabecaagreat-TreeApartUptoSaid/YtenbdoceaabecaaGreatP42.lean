/- reads: what is told of a path; lists that come out are written over. -/
import Derived.Test.YtenbdoceaabecaaGreatP41
import Derived.Deep.RegionHeld3
namespace Go.Proofs.YtenbdoceaabecaaGreat
open Go.ChangeShapes Go.WideShapes Go.ChangeAt Go.RowKit Go.Maps
set_option linter.unusedVariables false
set_option linter.unusedSimpArgs false
section
variable {Z : Nat → Prop} {w w' : World} {q : TB} {M : TM} {R : RT} {b c k : Nat}
set_option maxRecDepth 100000 in
set_option maxHeartbeats 1000000 in
theorem kidsN_any (h : TAt Z w q M c) (p : ByteArray) (hp : p.size ≤ 140737488355328) (hn : M.N (keyB p) = none) :
    Calls Tryz.prog 38 #[.pointer (some ⟨q.t, 0, none⟩), .string p] w fun e w' => e = .returned (.tuple #[.slice none 0 0, .int .i64 60]) ∧ Kept (fun _ => False) w w' := by
  obtain ⟨D, E, h⟩ := h
  obtain ⟨c0, c1, c2, f⟩ := h.three
  have hL : lookV D (.string p.data.toList) = none := by
    rcases h.look p.data.toList with ⟨nd, av, hM, hL, ha⟩ | ⟨hM, hL⟩
    · exact absurd (hM.symm.trans hn) (by simp)
    · exact hL
  have hrun := h.lookNode p hp
  rw [hL] at hrun
  simp only [Option.getD_none, Option.isSome_none, node0] at hrun
  clear h hL hn
  go_enter Tryz.func38, Tryz.ntmps38
  go_wp2_with fail
  go_ret2
  exact ⟨rfl, (Kept.refl _ w).alloc _⟩
theorem none_of {p : ByteArray} (hp : ∀ n ∈ R.N, n.path ≠ p) : (toM R).N (keyB p) = none := node_none.2 (fun n hn e => hp n hn (keyB_inj e))
theorem place_of (hR : RawR k R) {i : Nat} {n : RN} (hn : R.N[i]? = some n) : placeI R.N n.path = i := by
  obtain ⟨hi, rfl⟩ := List.getElem?_eq_some_iff.1 hn
  refine placeI_some hi rfl fun j hj e => ?_
  have h1 := List.pairwise_iff_getElem.1 hR.pth.1 j i (by simpa using (by omega : j < R.N.length)) (by simpa using hi) hj
  simp only [List.getElem_map] at h1
  rw [e] at h1
  exact ltP_irrefl _ h1
/-- a node's box -/
abbrev nodeB (n : RN) (av : Value) : Obj := .cells #[.string n.path, .string n.data, av, .int .i64 n.st.cz, .int .i64 n.st.mz, .int .i64 n.st.pz, .int .i64 n.st.ver, .int .i64 n.st.cver, .int .i64 n.st.aver, .int .i64 n.st.owner, .int .i64 0, .int .i64 0] 91
theorem set_one {xs : List Value} (h : ∀ u ∈ xs, u.oneCell' = true) (j : Nat) {v : Value} (hv : v.oneCell' = true) : ∀ u ∈ xs.set j v, u.oneCell' = true := fun u hu => by
  rcases List.mem_or_eq_of_mem_set hu with h1 | rfl
  · exact h u h1
  · exact hv
theorem strC_one2 (l : List ByteArray) : ∀ u ∈ strC l, u.oneCell' = true := fun u hu => by
  unfold strC at hu
  obtain ⟨x, _, rfl⟩ := List.mem_map.1 hu; rfl
theorem own_setL {B size n cap g j : Nat} {e : TypeId} {xs : List Value} (h : w.ownsRow B e size (.slice (some ⟨g, 0, none⟩) n cap) n xs) (hj : j < xs.length) (u : Value) :
    ∃ ys, ys.length = xs.length ∧ (w.setCell ⟨g, j, none⟩ u).ownsRow B e size (.slice (some ⟨g, 0, none⟩) n cap) n ys := ⟨_, List.length_set .., own_set h hj u⟩
structure RdA (w0 : World) (B : Nat) (e : TypeId) (sz n : Nat) (v : Value) (iv : Value) (wr : World) : Prop where
  ex : ∃ (i : Nat) (xs : List Value), iv = .int .i64 i ∧ i ≤ n ∧ xs.length = n * sz ∧ (∀ u ∈ xs, u.oneCell' = true) ∧ wr.ownsRow B e sz v n xs ∧ Kept (fun k => v.ownBlock = some k) w0 wr
set_option maxRecDepth 100000 in
set_option maxHeartbeats 4000000 in
theorem reads_any (h : TAt Z w q (toM R) c) (hu : RAt w b R) (hR : RawR k R) (hkk : k ≤ 100000000) (hc : c ≤ 4000000000000) (p : ByteArray) (hp : p.size ≤ 140737488351232) :
    Calls Tryz.prog 17 #[.pointer (some ⟨q.t, 0, none⟩), .pointer (some ⟨b, 0, none⟩), .string p] w (QPost true w) := by
  rcases placeI_cases R.N p with ⟨hpl, hno⟩ | ⟨i, hi, hpl, hpath, hno⟩
  · have HG := Lib.hid (get_any h p (by omega) hc)
    have HS := Lib.hid (fun (W : World) (hk : Kept (fun _ => False) w W) => stat_any (h.kept0 hk) p (by omega) hc)
    have HA := Lib.hid (fun (W : World) (hk : Kept (fun _ => False) w W) => acl_any (h.kept0 hk) p (by omega))
    have HKI := Lib.hid (fun (W : World) (hk : Kept (fun _ => False) w W) => kidsN_any (h.kept0 hk) p (by omega) (none_of hno))
    have HRS := Lib.hid (fun (W : World) (hk : Kept (fun _ => False) w W) => rstat_any (hu.kept0 hk) p (hR.rv hkk).ps (by have := hR.N; omega))
    have HN := Lib.hid (none_of hno)
    have HPL := Lib.hid hpl
    clear h hu hR hno hpl
    go_enter Tryz.func17, Tryz.ntmps17
    go_wp2_with fail
    refine HG.out.mono ?_
    rintro e w2 ⟨hk2, hcs⟩
    obtain rfl : e = .returned (.tuple #[.string ⟨#[]⟩, statV St0 0 0, .int .i64 60]) := by
      rcases hcs with ⟨_, h1⟩ | ⟨nd, l, h1, _⟩
      · exact h1
      · exact absurd (h1.symm.trans HN.out) (by simp)
    have HK2 := Lib.hid (hk2.alloc (statO St0 0 0))
    have HB2 : Hid (BoxS (w2.alloc (statO St0 0 0)) w2.heap.size St0 0 0) := Lib.hid (heap_alloc_new w2 _)
    clear hcs hk2 HG
    unfold statV
    go_wp2_with fail
    generalize w2.alloc _ = w2' at HK2 HB2 ⊢
    obtain ⟨p2, hp2⟩ : ∃ p2, w2.heap.size = p2 := ⟨_, rfl⟩
    rw [hp2] at HB2 ⊢
    clear hp2
    refine (HS.out _ HK2.out).mono ?_
    rintro e w3 ⟨hk3, hcs⟩
    obtain rfl : e = .returned (.tuple #[statV St0 0 0, .bool false]) := by
      rcases hcs with ⟨_, h1⟩ | ⟨nd, l, h1, _⟩
      · exact h1
      · exact absurd (h1.symm.trans HN.out) (by simp)
    have HK3 := Lib.hid ((HK2.out.trans hk3).alloc (statO St0 0 0))
    have HB23 := Lib.hid ((HB2.out.kept0 hk3).kept0 ((Kept.refl _ _).alloc (statO St0 0 0)))
    have HB3 : Hid (BoxS (w3.alloc (statO St0 0 0)) w3.heap.size St0 0 0) := Lib.hid (heap_alloc_new w3 _)
    clear hcs hk3 HS HB2
    unfold statV
    go_wp2_with fail
    generalize w3.alloc _ = w3' at HK3 HB23 HB3 ⊢
    obtain ⟨p3, hp3⟩ : ∃ p3, w3.heap.size = p3 := ⟨_, rfl⟩
    rw [hp3] at HB3 ⊢
    clear hp3
    refine (HA.out _ HK3.out).mono ?_
    rintro e w4 ⟨hk4, hcs⟩
    obtain rfl : e = .returned (.tuple #[.slice none 0 0, .int .i64 60]) := by
      rcases hcs with ⟨_, h1⟩ | ⟨nd, l, h1, _⟩
      · exact h1
      · exact absurd (h1.symm.trans HN.out) (by simp)
    have HK4 := Lib.hid (HK3.out.trans hk4)
    have HX4 := Lib.hid hk4
    clear hcs hk4 HA
    go_wp2_with fail
    refine (HKI.out _ HK4.out).mono ?_
    rintro e w5 ⟨rfl, hk5⟩
    have HK5 := Lib.hid (HK4.out.trans hk5)
    have HX5 := Lib.hid (HX4.out.trans hk5)
    clear hk5 HKI HX4
    go_wp2_with fail
    refine (HRS.out _ HK5.out).mono ?_
    rintro e w6 ⟨hk6, hcs⟩
    obtain rfl : e = .returned (.tuple #[statV St0 0 0, .bool false]) := by
      rcases hcs with ⟨_, h1⟩ | ⟨j, n, _, _, h1, _⟩
      · exact h1
      · have := HPL.out; omega
    have HK6 := Lib.hid (HK5.out.trans hk6)
    have hx6 := HX5.out.trans hk6
    obtain ⟨x0, x1, x2, x3, x4, x5, x6, x7, x8, _⟩ := (HB23.out.kept0 (hx6.alloc (statO St0 0 0))).nine
    obtain ⟨y0, y1, y2, y3, y4, y5, y6, y7, y8, _⟩ := (HB3.out.kept0 (hx6.alloc (statO St0 0 0))).nine
    clear hcs hk6 HRS hx6
    unfold statV
    go_wp2_with fail
    go_ret
    exact ⟨rfl, HK6.out.alloc _⟩
  · have hn : R.N[i]? = some R.N[i] := List.getElem?_eq_getElem hi
    generalize R.N[i] = n at *
    clear hno
    subst hpath
    have HGET := Lib.hid (get_of h hR hc hn)
    have HSTA := Lib.hid (fun (W : World) (hk : Kept (fun _ => False) w W) => stat_of (h.kept0 hk) hR hc hn)
    have HACL := Lib.hid (fun (W : World) (hk : Kept (fun _ => False) w W) => acl_of2 (h.kept0 hk) hR hn)
    have HKID := Lib.hid (fun (W : World) (hk : Kept (fun _ => False) w W) => kids_of (h.kept0 hk) hR (by omega) hc hn)
    have HRST := Lib.hid (fun (W : World) (hk : Kept (fun _ => False) w W) => rstat_of (hu.kept0 hk) hR (by omega) hn)
    have HRKI := Lib.hid (fun (W : World) (hk : Kept (fun _ => False) w W) => rkids_any (hu.kept0 hk) n.path (hR.rv hkk).ps (by have := hR.N; omega))
    have HPLC := Lib.hid (fun (W : World) (hk : Kept (fun _ => False) w W) => place_any (hu.kept0 hk) n.path)
    rw [place_of hR hn] at HPLC
    obtain ⟨g, cap, av, hf, hacl, hi9, hcap⟩ := hu.nodeF hn
    have HF := Lib.hid hf
    have HAW := Lib.hid (rowsL_own hacl.own)
    have HAL := Lib.hid hacl.room
    have HAB := Lib.hid (hR.acl n (List.mem_of_getElem? hn))
    obtain ⟨avv, avn, avc, rfl⟩ : ∃ x y z, av = .slice x y z := by
      obtain ⟨x, z, h9, _⟩ := HAW.out
      exact ⟨x, _, z, h9⟩
    have HKL : Hid ((kidsR R n.path).length ≤ 100000000) := Lib.hid (by have := kids_len R n.path; have := hR.N; omega)
    obtain ⟨nl, hnl⟩ : ∃ nl, R.N.length = nl := ⟨_, rfl⟩
    have hnlb : nl ≤ 100000000 := by have := hR.N; omega
    rw [hnl] at HF hi9
    have i1 : (0 : Int) ≤ (i : Int) := by omega
    have i2 : (i : Int) < (nl : Int) := by omega
    have HARW := Lib.hid acl_row
    clear h hu hR hf hacl hcap hn hpl hi hnl
    go_enter Tryz.func17, Tryz.ntmps17
    go_wp2_with fail
    refine HGET.out.mono ?_
    rintro e w2 ⟨rfl, hk2⟩
    obtain ⟨K, hK⟩ : ∃ K, kidsR R n.path = K := ⟨_, rfl⟩
    rw [hK] at HKL HKID HRKI
    unfold StatR at HSTA
    unfold RStatR at HRST
    rw [hK] at HSTA HRST ⊢
    clear hK HGET
    obtain ⟨kl, hkl⟩ : ∃ kl : Nat, K.length = kl := ⟨_, rfl⟩
    rw [hkl] at HSTA HRST ⊢
    have HKLE := Lib.hid hkl
    clear hkl
    unfold statV at *
    have HB2 : Hid (BoxS (w2.alloc (statO n.st n.data.size kl)) w2.heap.size n.st n.data.size kl) := Lib.hid (heap_alloc_new w2 _)
    have HK2 := Lib.hid (hk2.alloc (statO n.st n.data.size kl))
    clear hk2
    go_wp2_with fail
    generalize w2.alloc (statO n.st n.data.size kl) = w2' at HB2 HK2 ⊢
    obtain ⟨p2, hp2⟩ : ∃ p2, w2.heap.size = p2 := ⟨_, rfl⟩
    rw [hp2] at HB2 ⊢
    clear hp2
    refine (HSTA.out _ HK2.out).mono ?_
    rintro e w3 ⟨rfl, hk3⟩
    have HB23 := Lib.hid ((HB2.out.kept0 hk3).kept0 ((Kept.refl _ _).alloc (statO n.st n.data.size kl)))
    have HK3 := Lib.hid ((HK2.out.trans hk3).alloc (statO n.st n.data.size kl))
    have HB3 : Hid (BoxS (w3.alloc (statO n.st n.data.size kl)) w3.heap.size n.st n.data.size kl) := Lib.hid (heap_alloc_new w3 _)
    clear hk3 HSTA HB2
    go_wp2_with fail
    generalize w3.alloc (statO n.st n.data.size kl) = w3' at HB3 HB23 HK3 ⊢
    obtain ⟨p3, hp3⟩ : ∃ p3, w3.heap.size = p3 := ⟨_, rfl⟩
    rw [hp3] at HB3 ⊢
    clear hp3
    refine (HACL.out _ HK3.out).mono ?_
    rintro e w5 ⟨av5, rfl, hav5, hk5⟩
    obtain ⟨aa5, ac5, rfl⟩ := own_shape hav5
    have HLO5 := Lib.hid (Nat.le_trans HK3.out.size (Nat.le_refl _))
    have HAV5 := Lib.hid (row_mono hav5 HLO5.out)
    have HK5 := Lib.hid (HK3.out.trans hk5)
    have HX5 := Lib.hid hk5
    clear hav5 hk5 HACL
    go_wp2_with fail
    refine (HKID.out _ HK5.out).mono ?_
    rintro e w6 ⟨v6, rfl, hv6, hk6⟩
    obtain ⟨aa6, ac6, rfl⟩ := own_shape hv6
    have HV6 : Hid (StrAt w.heap.size w6 _ K) := Lib.hid (row_mono hv6 HK5.out.size)
    have HK6 := Lib.hid (HK5.out.trans hk6)
    have HX6 := Lib.hid (HX5.out.trans hk6)
    have HAV6 := Lib.hid (ownKept HAV5.out hk6 (fun _ _ f => f))
    clear hv6 hk6 HKID HX5 HAV5
    go_wp2_with fail
    refine (HRST.out _ HK6.out).mono ?_
    rintro e w7 ⟨rfl, hk7⟩
    have HB7 : Hid (BoxS (w7.alloc (statO n.st n.data.size kl)) w7.heap.size n.st n.data.size kl) := Lib.hid (heap_alloc_new w7 _)
    have HK7 := Lib.hid ((HK6.out.trans hk7).alloc (statO n.st n.data.size kl))
    have hx7 := (HX6.out.trans hk7).alloc (statO n.st n.data.size kl)
    have hy7 := hk7.alloc (statO n.st n.data.size kl)
    have HB27 := Lib.hid (HB23.out.kept0 hx7)
    have HB37 := Lib.hid (HB3.out.kept0 hx7)
    have HAV7 := Lib.hid (ownKept HAV6.out hy7 (fun _ _ f => f))
    have HV7 := Lib.hid (ownKept HV6.out hy7 (fun _ _ f => f))
    clear hk7 hx7 hy7 HRST HB23 HB3 HAV6 HV6 HX6
    go_wp2_with fail
    generalize w7.alloc (statO n.st n.data.size kl) = w8 at HB7 HK7 HB27 HB37 HAV7 HV7 ⊢
    obtain ⟨p7, hp7⟩ : ∃ p7, w7.heap.size = p7 := ⟨_, rfl⟩
    rw [hp7] at HB7 ⊢
    clear hp7
    have HPW := Lib.hid (fun (W : World) (hW : Kept (fun _ => False) w8 W) => HPLC.out W (HK7.out.trans hW))
    obtain ⟨a0, b0, b1, b2, b3, b4, b5, b6, b7, b8, b9, b10, b11, _, _⟩ := HF.out.kept0 (HK7.out.drew)
    have q4 : w8.drew.cell? ⟨g, i * 12 + 4, none⟩ = some (.int .i64 n.st.mz) := b4
    have q5 : w8.drew.cell? ⟨g, i * 12 + 5, none⟩ = some (.int .i64 n.st.pz) := b5
    have q6 : w8.drew.cell? ⟨g, i * 12 + 6, none⟩ = some (.int .i64 n.st.ver) := b6
    have q7 : w8.drew.cell? ⟨g, i * 12 + 7, none⟩ = some (.int .i64 n.st.cver) := b7
    have q8 : w8.drew.cell? ⟨g, i * 12 + 8, none⟩ = some (.int .i64 n.st.aver) := b8
    have q9 : w8.drew.cell? ⟨g, i * 12 + 9, none⟩ = some (.int .i64 n.st.owner) := b9
    have q10 : w8.drew.cell? ⟨g, i * 12 + 10, none⟩ = some (.int .i64 0) := b10
    have q11 : w8.drew.cell? ⟨g, i * 12 + 11, none⟩ = some (.int .i64 0) := b11
    clear b4 b5 b6 b7 b8 b9 b10 b11
    have KS : Hid (∀ W, Kept (fun _ => False) w8 W → W.cell? ⟨b, 0, none⟩ = some (.slice (some ⟨g, 0, none⟩) nl cap) ∧ W.cell? ⟨g, i * 12, none⟩ = some (.string n.path) ∧ W.cell? ⟨g, i * 12 + 1, none⟩ = some (.string n.data) ∧ W.cell? ⟨g, i * 12 + 2, none⟩ = some (.slice avv avn avc) ∧ W.cell? ⟨g, i * 12 + 3, none⟩ = some (.int .i64 n.st.cz) ∧ W.cell? ⟨g, i * 12 + 4, none⟩ = some (.int .i64 n.st.mz) ∧ W.cell? ⟨g, i * 12 + 5, none⟩ = some (.int .i64 n.st.pz) ∧ W.cell? ⟨g, i * 12 + 6, none⟩ = some (.int .i64 n.st.ver) ∧ W.cell? ⟨g, i * 12 + 7, none⟩ = some (.int .i64 n.st.cver) ∧ W.cell? ⟨g, i * 12 + 8, none⟩ = some (.int .i64 n.st.aver) ∧ W.cell? ⟨g, i * 12 + 9, none⟩ = some (.int .i64 n.st.owner) ∧ W.cell? ⟨g, i * 12 + 10, none⟩ = some (.int .i64 0) ∧ W.cell? ⟨g, i * 12 + 11, none⟩ = some (.int .i64 0)) := Lib.hid (fun W hW => by
      have hf := (HF.out.kept0 HK7.out).kept0 hW
      exact ⟨hf.c0, hf.n0, hf.n1, hf.n2, hf.s0, hf.s1, hf.s2, hf.s3, hf.s4, hf.s5, hf.s6, hf.s7, hf.s8⟩)
    go_cut [18] (fun v wx => v = .pointer (some ⟨w8.heap.size, 0, none⟩) ∧ wx = (w8.alloc (nodeB n (.slice avv avn avc))).drew)
    case first =>
      go_region_held3 (fun w' => w'.cell? ⟨b, 0, none⟩ = some (.slice (some ⟨g, 0, none⟩) nl cap) ∧ w'.cell? ⟨g, i * 12, none⟩ = some (.string n.path) ∧ w'.cell? ⟨g, i * 12 + 1, none⟩ = some (.string n.data) ∧ w'.cell? ⟨g, i * 12 + 2, none⟩ = some (.slice avv avn avc) ∧ w'.cell? ⟨g, i * 12 + 3, none⟩ = some (.int .i64 n.st.cz) ∧ w'.cell? ⟨g, i * 12 + 4, none⟩ = some (.int .i64 n.st.mz) ∧ w'.cell? ⟨g, i * 12 + 5, none⟩ = some (.int .i64 n.st.pz) ∧ w'.cell? ⟨g, i * 12 + 6, none⟩ = some (.int .i64 n.st.ver) ∧ w'.cell? ⟨g, i * 12 + 7, none⟩ = some (.int .i64 n.st.cver) ∧ w'.cell? ⟨g, i * 12 + 8, none⟩ = some (.int .i64 n.st.aver) ∧ w'.cell? ⟨g, i * 12 + 9, none⟩ = some (.int .i64 n.st.owner) ∧ w'.cell? ⟨g, i * 12 + 10, none⟩ = some (.int .i64 0) ∧ w'.cell? ⟨g, i * 12 + 11, none⟩ = some (.int .i64 0))
        (first
          | with_reducible assumption
          | (refine KS.out _ ?_
             repeat' first
               | with_reducible assumption
               | with_reducible exact Kept.refl _ _
               | with_reducible refine Kept.drew ?_
               | with_reducible refine Kept.alloc ?_ _
               | with_reducible refine Kept.setCell ?_ (.inr (Nat.le_refl _)) _))
        (first
          | (go_at_call 62
             with_reducible refine (HPW.out _ ?_).mono ?_
             · repeat' first
                 | with_reducible assumption
                 | with_reducible exact Kept.refl _ _
                 | with_reducible refine Kept.drew ?_
                 | with_reducible refine Kept.alloc ?_ _
             rintro e w9 ⟨rfl, rfl⟩))
      all_goals go_wp2_with fail
      all_goals go_meet
      all_goals exact ⟨rfl, rfl⟩
    case rest =>
      obtain ⟨rfl, hwx⟩ := hcut
      have hk9 : Kept (fun _ => False) w8 wc := by rw [hwx]; exact ((Kept.refl _ w8).alloc _).drew
      have hnb : wc.heap[w8.heap.size]? = some (nodeB n (.slice avv avn avc)) := by rw [hwx]; exact heap_alloc_new w8 _
      have HNB := Lib.hid hnb
      have HK9 := Lib.hid (HK7.out.trans hk9)
      have HB29 := Lib.hid (HB27.out.kept0 hk9)
      have HB39 := Lib.hid (HB37.out.kept0 hk9)
      have HB79 := Lib.hid (HB7.out.kept0 hk9)
      have HAV9 := Lib.hid (ownKept HAV7.out hk9 (fun _ _ f => f))
      have HV9 := Lib.hid (ownKept HV7.out hk9 (fun _ _ f => f))
      obtain ⟨pn, hpn⟩ : ∃ pn, w8.heap.size = pn := ⟨_, rfl⟩
      rw [hpn] at HNB ⊢
      clear hwx hnb hk9 hpn HK7 HB27 HB37 HB7 HAV7 HV7 KS HPW a0 b0 b1 b2 b3 q4 q5 q6 q7 q8 q9 q10 q11
      obtain ⟨w9, hw9⟩ : ∃ w9, w9 = wc := ⟨_, rfl⟩
      subst hw9
      have HRW := Lib.hid (rows_alike (rowsL_own HAV9.out) (HAW.out.kept0 HK9.out) (by have := HAL.out; omega))
      have z2 : w9.cell? ⟨pn, 2, none⟩ = some (.slice avv avn avc) := by
        rw [cell_of_row w9 pn 2 _ _ (0, 0) HNB.out]; rfl
      go_wp2_with fail
      refine HRW.out.mono ?_
      rintro e w10 ⟨rfl, hk10⟩
      have HK10 := Lib.hid (HK9.out.trans hk10)
      have HX10 := Lib.hid hk10
      clear hk10 HRW z2
      go_wp2_with fail
      refine (HRKI.out _ HK10.out).mono ?_
      rintro e w11 ⟨v11, rfl, hv11, hk11⟩
      have hx11 := HX10.out.trans hk11
      have HTX := Lib.hid (texts_alike (ownKept HV9.out hx11 (fun _ _ f => f)) hv11 (by have := HKL.out; omega))
      obtain ⟨aa11, ac11, rfl⟩ := own_shape hv11
      have HK11 := Lib.hid (HK10.out.trans hk11)
      have HX11 := Lib.hid hx11
      clear hv11 hk11 hx11 HRKI HX10
      go_wp2_with fail
      refine HTX.out.mono ?_
      rintro e w12 ⟨rfl, hk12⟩
      have hx12 := HX11.out.trans hk12
      have HK12 := Lib.hid (HK11.out.trans hk12)
      have HNB12 := Lib.hid (box_kept0 HNB.out hx12)
      have HB2 := Lib.hid (HB29.out.kept0 hx12)
      have HB3 := Lib.hid (HB39.out.kept0 hx12)
      have HB7 := Lib.hid (HB79.out.kept0 hx12)
      have HAV := Lib.hid (ownKept HAV9.out hx12 (fun _ _ f => f))
      have HV := Lib.hid (ownKept HV9.out hx12 (fun _ _ f => f))
      clear hk12 hx12 HTX HX11 HNB HB29 HB39 HB79 HAV9 HV9 HK9 HK10 HK11
      go_wp2_with fail
      go_loopw [21] (fun iv wr => RdA w12 w.heap.size 89 2 n.acl.length (.slice aa5 n.acl.length ac5) iv wr) (fun iv _ => n.acl.length - (intOf iv).toNat)
      case atStart => exact ⟨0, _, rfl, Nat.zero_le _, HAV.out.1, aclC_one _, HAV.out, Kept.refl _ _⟩
      case round =>
        obtain ⟨i, xs, rfl, hi, hxl, hx1, hv, hk⟩ := hrel.ex
        have HXL := Lib.hid hxl
        have HX1 := Lib.hid hx1
        have HVr := Lib.hid hv
        have HKr := Lib.hid hk
        clear hrel hxl hx1 hv hk
        by_cases hlt : i < n.acl.length
        · obtain ⟨a, cp, hvv, hcl⟩ := own_cell HVr.out
          injection hvv with h1 h2 h3
          subst h1 h3
          have hj0 : i * 2 < xs.length := by rw [HXL.out]; omega
          have hj1 : i * 2 + 1 < xs.length := by rw [HXL.out]; omega
          obtain ⟨g5, rfl, _, _, e0, f0⟩ := hcl (i * 2) _ (List.getElem?_eq_getElem hj0)
          obtain ⟨g5', e5, _, _, e1, f1⟩ := hcl (i * 2 + 1) _ (List.getElem?_eq_getElem hj1)
          injection e5 with e5
          injection e5 with e5
          subst e5
          have HJ := Lib.hid (And.intro hj0 hj1)
          generalize xs[i * 2] = o0 at e0
          generalize xs[i * 2 + 1] = o1 at e1
          have i1 : (0 : Int) ≤ (i : Int) := by omega
          have i2 : (i : Int) < (n.acl.length : Int) := by omega
          have hal := HAL.out
          clear hcl h2 hj0 hj1
          go_wp2_with fail
          refine ⟨⟨i + 1, _, by go_num, by omega, ?_, ?_, own_set (own_set HVr.out HJ.out.1 (.int .i64 (-1))) (by rw [List.length_set]; exact HJ.out.2) (.string ⟨#[]⟩), ?_⟩, ?_⟩
          · rw [List.length_set, List.length_set]; exact HXL.out
          · exact set_one (set_one HX1.out _ rfl) _ rfl
          · exact (HKr.out.setCell (a := ⟨g5, i * 2, none⟩) (.inl rfl) _).setCell (a := ⟨g5, i * 2 + 1, none⟩) (.inl rfl) _
          · show n.acl.length - ((i : Int) + 1).toNat < n.acl.length - (i : Int).toNat
            omega
        · have hin : i = n.acl.length := by omega
          have hx13 : Kept (fun k => (Value.slice aa5 n.acl.length ac5).ownBlock = some k) w12 wr := HKr.out
          have hty : ∀ k, (Value.slice aa5 n.acl.length ac5).ownBlock = some k → w.heap.size ≤ k ∧ ∃ cur, w12.heap[k]? = some (.cells cur 89 (0, 0)) := fun k hk => by
            obtain ⟨h1, _, cur, h2⟩ := own_lo HAV.out hk
            exact ⟨h1, cur, h2⟩
          have hb0 : ∀ {kb : Nat}, BoxS w12 kb n.st n.data.size kl → ¬ (Value.slice aa5 n.acl.length ac5).ownBlock = some kb := fun {kb} hb e => by
            obtain ⟨_, cur, h2⟩ := hty kb e
            rw [show w12.heap[kb]? = _ from hb] at h2
            injection h2 with h2
            injection h2 with _ h2
            exact absurd h2 (by decide)
          have HB2' := Lib.hid (HB2.out.keptX hx13 (hb0 HB2.out))
          have HB3' := Lib.hid (HB3.out.keptX hx13 (hb0 HB3.out))
          have HB7' := Lib.hid (HB7.out.keptX hx13 (hb0 HB7.out))
          have hnb' : wr.heap[pn]? = some (nodeB n (.slice avv avn avc)) := (hx13.block pn (lt_of_block HNB12.out) (fun e => by
            obtain ⟨_, cur, h2⟩ := hty pn e
            rw [HNB12.out] at h2
            injection h2 with h2
            injection h2 with _ h2
            exact absurd h2 (by decide))).trans HNB12.out
          have hv' : StrAt w.heap.size wr (.slice aa6 K.length ac6) K := ownKept HV.out hx13 (fun k hk e => by
            obtain ⟨_, cur, h2⟩ := hty k e
            obtain ⟨_, _, cur', h3⟩ := own_lo HV.out hk
            rw [h2] at h3
            injection h3 with h3
            injection h3 with _ h3
            exact absurd h3 (by decide))
          have HNB' := Lib.hid hnb'
          have HV' := Lib.hid hv'
          have HK13 : Hid (Kept (fun _ => False) w wr) := Lib.hid (HK12.out.trans' hx13 (fun k hk e => by have := (hty k e).1; omega))
          clear hx13 hty hb0 hnb' hv' HB2 HB3 HB7 HNB12 HV HK12 HKr HAV hin
          have HAR : Hid (∃ xs : List Value, wr.ownsRow w.heap.size 89 2 (.slice aa5 n.acl.length ac5) n.acl.length xs) := Lib.hid ⟨_, HVr.out⟩
          clear HVr HXL HX1
          obtain ⟨w13, hw13⟩ : ∃ w13, w13 = wr := ⟨_, rfl⟩
          subst hw13
          go_wp2_with fail
          go_loopw [22] (fun iv wr => RdA w13 w.heap.size 9 1 K.length (.slice aa6 K.length ac6) iv wr) (fun iv _ => K.length - (intOf iv).toNat)
          case atStart => exact ⟨0, _, rfl, Nat.zero_le _, HV'.out.1, strC_one2 _, HV'.out, Kept.refl _ _⟩
          case round =>
            obtain ⟨i, xs, rfl, hi, hxl, hx1, hv, hk⟩ := hrel.ex
            have HXL := Lib.hid hxl
            have HX1 := Lib.hid hx1
            have HVr := Lib.hid hv
            have HKr := Lib.hid hk
            have hkl := HKL.out
            clear hrel hxl hx1 hv hk
            by_cases hlt : i < K.length
            · obtain ⟨a, cp, hvv, hcl⟩ := own_cell HVr.out
              injection hvv with h1 h2 h3
              subst h1 h3
              have hj0 : i < xs.length := by rw [HXL.out]; omega
              obtain ⟨g6, rfl, _, _, e0, f0⟩ := hcl i _ (List.getElem?_eq_getElem hj0)
              have HJ := Lib.hid hj0
              generalize xs[i] = o0 at e0
              have i1 : (0 : Int) ≤ (i : Int) := by omega
              have i2 : (i : Int) < (K.length : Int) := by omega
              clear hcl h2 hj0
              go_wp2_with fail
              refine ⟨⟨i + 1, _, by go_num, by omega, ?_, ?_, own_set HVr.out HJ.out (.string ⟨#[111, 118, 101, 114]⟩), ?_⟩, ?_⟩
              · rw [List.length_set]; exact HXL.out
              · exact set_one HX1.out _ rfl
              · exact HKr.out.setCell (a := ⟨g6, i, none⟩) (.inl rfl) _
              · show K.length - ((i : Int) + 1).toNat < K.length - (i : Int).toNat
                omega
            · have hx14 : Kept (fun k => (Value.slice aa6 K.length ac6).ownBlock = some k) w13 wr := HKr.out
              have hty : ∀ k, (Value.slice aa6 K.length ac6).ownBlock = some k → w.heap.size ≤ k ∧ ∃ cur, w13.heap[k]? = some (.cells cur 9 (0, 0)) := fun k hk => by
                obtain ⟨h1, _, cur, h2⟩ := own_lo HV'.out hk
                exact ⟨h1, cur, h2⟩
              have hb0 : ∀ {kb : Nat}, BoxS w13 kb n.st n.data.size kl → ¬ (Value.slice aa6 K.length ac6).ownBlock = some kb := fun {kb} hb e => by
                obtain ⟨_, cur, h2⟩ := hty kb e
                rw [show w13.heap[kb]? = _ from hb] at h2
                injection h2 with h2
                injection h2 with _ h2
                exact absurd h2 (by decide)
              have hb2 := HB2'.out.keptX hx14 (hb0 HB2'.out)
              have hb3 := HB3'.out.keptX hx14 (hb0 HB3'.out)
              have hb7 := HB7'.out.keptX hx14 (hb0 HB7'.out)
              have hnb' : wr.heap[pn]? = some (nodeB n (.slice avv avn avc)) := (hx14.block pn (lt_of_block HNB'.out) (fun e => by
                obtain ⟨_, cur, h2⟩ := hty pn e
                rw [HNB'.out] at h2
                injection h2 with h2
                injection h2 with _ h2
                exact absurd h2 (by decide))).trans HNB'.out
              have HAR' : Hid (∃ xs : List Value, wr.ownsRow w.heap.size 89 2 (.slice aa5 n.acl.length ac5) n.acl.length xs) := Lib.hid (by
                obtain ⟨xs, h9⟩ := HAR.out
                refine ⟨xs, ownKept h9 hx14 (fun k hk e => ?_)⟩
                obtain ⟨_, cur, h2⟩ := hty k e
                obtain ⟨_, _, cur', h3⟩ := own_lo h9 hk
                rw [h2] at h3
                injection h3 with h3
                injection h3 with _ h3
                exact absurd h3 (by decide))
              have HK14 : Hid (Kept (fun _ => False) w wr) := Lib.hid (HK13.out.trans' hx14 (fun k hk e => by have := (hty k e).1; omega))
              obtain ⟨ys, hys⟩ := HAR'.out
              have HYS := Lib.hid hys
              have HZ2 := Lib.hid hb2
              have HZ3 := Lib.hid hb3
              have HZ7 := Lib.hid hb7
              have HZN := Lib.hid hnb'
              have hsz := HK14.out.size
              have hal := HAB.out
              clear hx14 hty hb0 hb2 hb3 hb7 hnb' hys HAR HAR' HB2' HB3' HB7' HNB'
              have HFIN : Hid (∀ (v1 : Value) (w1 : World), w1.ownsRow w.heap.size 89 2 v1 (n.acl.length + 1) (ys ++ [.int .i64 (-2), .string ⟨#[]⟩]) → (wr.alloc (.cells #[.int .i64 (-2), .string ⟨#[]⟩] 89)).grownBy w1 (Value.slice aa5 n.acl.length ac5).ownBlock →
                  ∃ g9 c9, v1 = .slice (some ⟨g9, 0, none⟩) (n.acl.length + 1) c9 ∧ w1.cell? ⟨g9, n.acl.length * 2, none⟩ = some (.int .i64 (-2)) ∧ BoxS w1 p2 n.st n.data.size kl ∧ BoxS w1 p3 n.st n.data.size kl ∧ BoxS w1 p7 n.st n.data.size kl ∧ w1.cell? ⟨pn, 1, none⟩ = some (.string n.data) ∧ Kept (fun _ => False) w w1) := Lib.hid (fun v1 w1 ho hg => by
                have hyl : ys.length = n.acl.length * 2 := HYS.out.1
                obtain ⟨a9, c9, hv9, hc9⟩ := own_cell ho
                obtain ⟨g9, rfl, _, _, e9, _⟩ := hc9 (n.acl.length * 2) (.int .i64 (-2)) (by rw [List.getElem?_append_right (by omega), hyl]; simp)
                have hty : ∀ k, (Value.slice aa5 n.acl.length ac5).ownBlock = some k → w.heap.size ≤ k ∧ ∃ cur, wr.heap[k]? = some (.cells cur 89 (0, 0)) := fun k hk => by
                  obtain ⟨h1, _, cur, h2⟩ := own_lo HYS.out hk
                  exact ⟨h1, cur, h2⟩
                have hxk : Kept (fun k => (Value.slice aa5 n.acl.length ac5).ownBlock = some k) wr w1 := ((Kept.refl _ wr).alloc _).trans ((Kept.of_grownBy hg).mono (fun k _ e => e.symm))
                have hb0 : ∀ {kb : Nat}, BoxS wr kb n.st n.data.size kl → ¬ (Value.slice aa5 n.acl.length ac5).ownBlock = some kb := fun {kb} hb e => by
                  obtain ⟨_, cur, h2⟩ := hty kb e
                  rw [show wr.heap[kb]? = _ from hb] at h2
                  injection h2 with h2
                  injection h2 with _ h2
                  exact absurd h2 (by decide)
                have hnb9 : w1.heap[pn]? = some (nodeB n (.slice avv avn avc)) := (hxk.block pn (lt_of_block HZN.out) (fun e => by
                  obtain ⟨_, cur, h2⟩ := hty pn e
                  rw [HZN.out] at h2
                  injection h2 with h2
                  injection h2 with _ h2
                  exact absurd h2 (by decide))).trans HZN.out
                refine ⟨g9, c9, hv9, e9, HZ2.out.keptX hxk (hb0 HZ2.out), HZ3.out.keptX hxk (hb0 HZ3.out), HZ7.out.keptX hxk (hb0 HZ7.out), ?_, HK14.out.trans' hxk (fun k hk e => by have := (hty k e).1; omega)⟩
                rw [cell_of_row w1 pn 1 _ _ (0, 0) hnb9]; rfl)
              have d1 : ((n.acl.length + 1 : Nat) : Int) - 1 = (n.acl.length : Int) := by omega
              have d2 : (0 : Int) ≤ (n.acl.length : Int) := by omega
              have d3 : (n.acl.length : Int) < ((n.acl.length + 1 : Nat) : Int) := by omega
              go_wp2_with (at_builtin; refine wpList_row1 HARW.out (by rfl) _ _ (by rfl) (by rfl) HYS.out [.int .i64 (-2), .string ⟨#[]⟩] (by rfl) (by rfl) (aclC_one [⟨-2, ⟨#[]⟩⟩]) (by omega) (by unfold maxLen; omega) hsz ?_; intro v1 w1 hown1 hg1; obtain ⟨g9, c9, rfl, e9, hz2, hz3, hz7, z1, hkf⟩ := HFIN.out v1 w1 hown1 hg1; have HKF := Lib.hid hkf; obtain ⟨x0, x1, x2, x3, x4, x5, x6, x7, x8, _⟩ := hz2.nine; obtain ⟨y0, y1, y2, y3, y4, y5, y6, y7, y8, _⟩ := hz3.nine; obtain ⟨t0, t1, t2, t3, t4, t5, t6, t7, t8, _⟩ := hz7.nine; clear hown1 hg1 hz2 hz3 hz7 hkf)
              go_ret
              exact ⟨rfl, HKF.out⟩
end
end Go.Proofs.YtenbdoceaabecaaGreat
