/- Alike: the program's tree tells what the document's does. -/
import Derived.Test.YtenbdoceaabecaaGreatP39
import Derived.Test.YtenbdoceaabecaaGreatP40
import Derived.BigQuiet
import Derived.Deep.QuietTactic
namespace Go.Proofs.YtenbdoceaabecaaGreat
open Go.ChangeShapes Go.WideShapes Go.ChangeAt Go.RowKit Go.Maps
set_option linter.unusedVariables false
set_option linter.unusedSimpArgs false
theorem int_row : RowTy Tryz.prog 111 3 1 8 := RowTy.of (z := .int .i64 0) Tryz.underlying111 (by kernel_rfl) rfl (by decide)
/-- a session's cells, in a tree's own -/
structure SessF (w : World) (b g cap len : Nat) (i : Nat) (s : RS) : Prop where
  c1 : w.cell? ⟨b, 1, none⟩ = some (.slice (some ⟨g, 0, none⟩) len cap)
  s0 : w.cell? ⟨g, i * 3, none⟩ = some (.int .i64 s.id)
  s1 : w.cell? ⟨g, i * 3 + 1, none⟩ = some (.int .i64 s.timeout)
  s2 : w.cell? ⟨g, i * 3 + 2, none⟩ = some (.string s.secret)
  hb : b < w.heap.size
  hg : g < w.heap.size
section
variable {w w' : World} {b : Nat} {R : RT}
theorem SessF.kept0 {g cap len i : Nat} {s : RS} (h : SessF w b g cap len i s) (hk : Kept (fun _ => False) w w') : SessF w' b g cap len i s := by
  have e : ∀ j k v, j < w.heap.size → w.cell? ⟨j, k, none⟩ = some v → w'.cell? ⟨j, k, none⟩ = some v := fun j k v hj hv => by
    rw [World.cell?_of_block (w := w) (hk.block j hj (fun f => f))]; exact hv
  obtain ⟨a, b0, b1, b2, hb, hg⟩ := h
  exact ⟨e _ _ _ hb a, e _ _ _ hg b0, e _ _ _ hg b1, e _ _ _ hg b2, Nat.lt_of_lt_of_le hb hk.size, Nat.lt_of_lt_of_le hg hk.size⟩
theorem RAt.sessF (h : RAt w b R) {i : Nat} {s : RS} (hs : R.S[i]? = some s) : ∃ g cap, SessF w b g cap R.S.length i s := by
  obtain ⟨L, nv, sv, hD⟩ := h
  obtain ⟨c0, c1, c2, cf⟩ := hD.cells
  obtain ⟨a, cap, rfl, hc⟩ := own_cell hD.s
  obtain ⟨hi, rfl⟩ := List.getElem?_eq_some_iff.1 hs
  obtain ⟨g, rfl, _, hg, h0, _⟩ := hc (i * 3 + 0) _ (flat_at ssL_len R.S i hi 0 _ rfl)
  obtain ⟨g1, e1, _, _, h1, _⟩ := hc (i * 3 + 1) _ (flat_at ssL_len R.S i hi 1 _ rfl)
  obtain ⟨g2, e2, _, _, h2, _⟩ := hc (i * 3 + 2) _ (flat_at ssL_len R.S i hi 2 _ rfl)
  injection e1 with e1; injection e1 with e1; subst e1
  injection e2 with e2; injection e2 with e2; subst e2
  exact ⟨g, cap, c1, h0, h1, h2, hD.lt ((hD.bs b).2 (.inl rfl)), hg⟩
/-- a tree's three, however many it has -/
structure HeadF (w : World) (b : Nat) (R : RT) (na : Option Addr) (nc : Nat) (sa : Option Addr) (sc : Nat) : Prop where
  c0 : w.cell? ⟨b, 0, none⟩ = some (.slice na R.N.length nc)
  c1 : w.cell? ⟨b, 1, none⟩ = some (.slice sa R.S.length sc)
  c2 : w.cell? ⟨b, 2, none⟩ = some (.int .i64 R.z)
  hb : b < w.heap.size
theorem HeadF.kept0 {na : Option Addr} {nc : Nat} {sa : Option Addr} {sc : Nat} (h : HeadF w b R na nc sa sc) (hk : Kept (fun _ => False) w w') : HeadF w' b R na nc sa sc := by
  have e : ∀ k, w'.cell? ⟨b, k, none⟩ = w.cell? ⟨b, k, none⟩ := fun k => World.cell?_of_block (w := w) (hk.block b h.hb (fun f => f))
  exact ⟨(e 0).trans h.c0, (e 1).trans h.c1, (e 2).trans h.c2, Nat.lt_of_lt_of_le h.hb hk.size⟩
theorem RAt.headF (h : RAt w b R) : ∃ na nc sa sc, HeadF w b R na nc sa sc := by
  obtain ⟨L, nv, sv, hD⟩ := h
  obtain ⟨c0, c1, c2, cf⟩ := hD.cells
  obtain ⟨a, cap, rfl, _⟩ := own_cell hD.n
  obtain ⟨a', cap', rfl, _⟩ := own_cell hD.s
  exact ⟨a, cap, a', cap', by rw [← rd_len hD]; exact c0, c1, c2, hD.lt ((hD.bs b).2 (.inl rfl))⟩
def RStatR (w : World) (R : RT) (n : RN) (e : Ending) (w' : World) : Prop := e = .returned (.tuple #[statV n.st n.data.size (kidsR R n.path).length, .bool true]) ∧ Kept (fun _ => False) w w'
theorem rstat_of (h : RAt w b R) {k : Nat} (hR : RawR k R) (hk : k ≤ 1000000000) {i : Nat} {n : RN} (hn : R.N[i]? = some n) :
    Calls Tryz.prog 36 #[.pointer (some ⟨b, 0, none⟩), .string n.path] w (RStatR w R n) := by
  refine (rstat_any h n.path (hR.rv hk).ps (by have := hR.N; omega)).mono ?_
  rintro e w' ⟨hk, ⟨h0, _⟩ | ⟨j, m, hm, hp, _, rfl⟩⟩
  · rcases placeI_cases R.N n.path with ⟨_, h2⟩ | ⟨j, _, h2, _⟩
    · exact absurd rfl (h2 n (List.mem_of_getElem? hn))
    · rw [h0] at h2; omega
  · have := uq_mem hR.uq.n (List.mem_of_getElem? hm) (List.mem_of_getElem? hn) hp
    subst this
    exact ⟨rfl, hk⟩
theorem path_take {R : RT} {i : Nat} {n : RN} (h : R.N[i]? = some n) : (R.N.map RN.path).take (i + 1) = (R.N.map RN.path).take i ++ [n.path] := by
  rw [← List.map_take, take_at h, List.map_append, List.map_take]; rfl
theorem id_take {R : RT} {i : Nat} {s : RS} (h : R.S[i]? = some s) : (R.S.map RS.id).take (i + 1) = (R.S.map RS.id).take i ++ [s.id] := by
  rw [← List.map_take, take_at h, List.map_append, List.map_take]; rfl
structure AlL (w : World) (R : RT) (pv iv : Value) (wr : World) : Prop where
  ex : ∃ i : Nat, iv = .int .i64 i ∧ i ≤ R.N.length ∧ StrAt w.heap.size wr pv ((R.N.map RN.path).take i) ∧ Kept (fun _ => False) w wr
structure AlS (w : World) (R : RT) (P : List ByteArray) (pv : Value) (sv iv : Value) (wr : World) : Prop where
  ex : ∃ i : Nat, iv = .int .i64 i ∧ i ≤ R.S.length ∧ StrAt w.heap.size wr pv P ∧ (∃ I : List Int, I = (R.S.map RS.id).take i ∧ wr.ownsRow w.heap.size 3 1 sv I.length (I.map encZ)) ∧ Kept (fun _ => False) w wr
theorem num_add {w : World} {B : Nat} {v : Value} {l : List Int} {x : Int} (h : w.ownsRow B 3 1 v (l.length + 1) (l.map encZ ++ [.int .i64 x])) : w.ownsRow B 3 1 v (l ++ [x]).length ((l ++ [x]).map encZ) := by
  rw [List.length_append, List.map_append]; exact h
theorem str_grow {B B' n : Nat} {pv sv : Value} {P : List ByteArray} {xs : List Value} {ob : Obj} (hp : StrAt B w pv P) (hv : w.ownsRow B' 3 1 sv n xs) (hg : (w.alloc ob).grownBy w' sv.ownBlock) : StrAt B w' pv P := by
  refine ownKept (ownKept hp ((Kept.refl (fun _ => False) w).alloc ob) (fun _ _ f => f)) (Kept.of_grownBy hg) (fun k hk e => ?_)
  obtain ⟨_, _, c1, h1⟩ := own_lo hp hk
  obtain ⟨_, _, c2, h2⟩ := own_lo hv e.symm
  rw [h1] at h2
  injection h2 with h2
  injection h2 with _ h2
  exact absurd h2 (by decide)
set_option maxRecDepth 100000 in
set_option maxHeartbeats 4000000 in
theorem alike_any {Z : Nat → Prop} {q : TB} {c k : Nat} (h : TAt Z w q (toM R) c) (hu : RAt w b R) (hR : RawR k R) (hkk : k ≤ 100000000) (hc : c ≤ 4000000000000) :
    Calls Tryz.prog 11 #[.pointer (some ⟨q.t, 0, none⟩), .pointer (some ⟨b, 0, none⟩)] w (QPost true w) := by
  have HT := Lib.hid h
  have HU := Lib.hid hu
  have HR := Lib.hid hR
  obtain ⟨na, nc, sa, sc, hhead⟩ := hu.headF
  have HH := Lib.hid hhead
  have HSTR := Lib.hid str_row
  have HINT := Lib.hid int_row
  have hNl : R.N.length ≤ 100000000 := by have := hR.N; omega
  have hSl : R.S.length ≤ 100000000 := by have := hR.S; omega
  obtain ⟨nl, hnl⟩ : ∃ nl, R.N.length = nl := ⟨_, rfl⟩
  obtain ⟨sl, hsl⟩ : ∃ sl, R.S.length = sl := ⟨_, rfl⟩
  have HNL := Lib.hid hnl
  have HSL := Lib.hid hsl
  rw [hnl] at hNl
  rw [hsl] at hSl
  clear h hu hR hhead hnl hsl
  go_enter Tryz.func11, Tryz.ntmps11
  go_wp2_with fail
  go_loopw [5, 6] (fun pv iv wr => AlL w R pv iv wr) (fun _ iv _ => nl - (intOf iv).toNat)
  case atStart => exact ⟨0, rfl, Nat.zero_le _, World.ownsRow_nil _ _ _ _, Kept.refl _ _⟩
  case round =>
    obtain ⟨i, rfl, hi, hp, hk⟩ := hrel.ex
    have HP := Lib.hid hp
    have HK := Lib.hid hk
    clear hrel hp hk
    rw [HNL.out] at hi
    by_cases hlt : i < nl
    · obtain ⟨n, hn⟩ : ∃ n, R.N[i]? = some n := ⟨_, List.getElem?_eq_getElem (by rw [HNL.out]; exact hlt)⟩
      obtain ⟨g, cap, av, hf, hacl, hi9, hcap⟩ := HU.out.nodeF hn
      have HN := Lib.hid hn
      have hf' := hf
      rw [HNL.out] at hf'
      have HF := Lib.hid hf'
      have HAW := Lib.hid (rowsL_own hacl.own)
      have HAL := Lib.hid hacl.room
      have hcl := hc
      have HGET := Lib.hid (fun (W : World) (hk : Kept (fun _ => False) w W) => get_of (HT.out.kept0 hk) HR.out hcl hn)
      have HSTA := Lib.hid (fun (W : World) (hk : Kept (fun _ => False) w W) => stat_of (HT.out.kept0 hk) HR.out hcl hn)
      have HACL := Lib.hid (fun (W : World) (hk : Kept (fun _ => False) w W) => acl_of2 (HT.out.kept0 hk) HR.out hn)
      have HKID := Lib.hid (fun (W : World) (hk : Kept (fun _ => False) w W) => kids_of (HT.out.kept0 hk) HR.out (by omega) hcl hn)
      have HRST := Lib.hid (fun (W : World) (hk : Kept (fun _ => False) w W) => rstat_of (HU.out.kept0 hk) HR.out (by omega) hn)
      have HRKI := Lib.hid (fun (W : World) (hk : Kept (fun _ => False) w W) => rkids_any (HU.out.kept0 hk) n.path (HR.out.rv hkk).ps (by rw [HNL.out]; omega))
      have HOWN := Lib.hid (fun (W : World) (hk : Kept (fun _ => False) w W) => owned_of (HT.out.kept0 hk) HR.out hcl n.st.owner)
      have HROW := Lib.hid (fun (W : World) (hk : Kept (fun _ => False) w W) => rowned_any (HU.out.kept0 hk) n.st.owner (by rw [HNL.out]; omega))
      have HKL : Hid ((kidsR R n.path).length ≤ 100000000 ∧ (ownedR R n.st.owner).length ≤ 100000000) := Lib.hid ⟨by have := kids_len R n.path; rw [HNL.out] at this; omega, by have := owned_len2 R n.st.owner; rw [HNL.out] at this; omega⟩
      have hpt := path_take hn
      have hlen : ((R.N.map RN.path).take i).length = i := by rw [List.length_take, List.length_map, HNL.out]; omega
      have HPT := Lib.hid hpt
      have HPL := Lib.hid hlen
      obtain ⟨a0, b0, b1, b2, b3, b4, b5, b6, b7, b8, b9, b10, b11, _, _⟩ := HF.out.kept0 HK.out
      have i1 : (0 : Int) ≤ (i : Int) := by omega
      have i2 : (i : Int) < (nl : Int) := by omega
      have hWS := HK.out.size
      clear hn hf hf' hacl hi9 hcap hpt hlen
      go_wp2_with (first
        | (at_builtin; refine wpList_row1 HSTR.out (by rfl) _ _ (by rfl) (by rfl) HP.out [.string n.path] (by rfl) (by rfl) (by intro u hu; simp only [List.mem_singleton] at hu; subst hu; rfl) (by rw [HPL.out]; omega) (by rw [HPL.out]; unfold maxLen; omega) hWS ?_; intro v1 w1 hown1 hg1; have HK1 := Lib.hid (kept_own1 HK.out HP.out (Nat.le_refl _) hg1); have HP1 := Lib.hid (strAt_add hown1); clear hown1 hg1)
        | fail)
      refine (HGET.out _ HK1.out).mono ?_
      rintro e w2 ⟨rfl, hk2⟩
      have HK2 := Lib.hid (HK1.out.trans hk2)
      have HY2 := Lib.hid hk2
      clear hk2 a0 b0 b1 b2 b3 b4 b5 b6 b7 b8 b9 b10 b11 hWS HGET
      obtain ⟨kl, hkl⟩ : ∃ kl : Nat, (kidsR R n.path).length = kl := ⟨_, rfl⟩
      unfold StatR at HSTA
      unfold RStatR at HRST
      rw [hkl] at HSTA HRST ⊢
      have HKLE := Lib.hid hkl
      clear hkl
      unfold statV at *
      have HB2 : Hid (BoxS (w2.alloc (statO n.st n.data.size kl)) w2.heap.size n.st n.data.size kl) := Lib.hid (heap_alloc_new w2 _)
      have HK2' := Lib.hid (HK2.out.alloc (statO n.st n.data.size kl))
      have HY2' := Lib.hid (HY2.out.alloc (statO n.st n.data.size kl))
      go_wp2_with fail
      generalize w2.alloc (statO n.st n.data.size kl) = w2' at HB2 HK2' HY2' ⊢
      refine (HRST.out _ HK2'.out).mono ?_
      rintro e w3 ⟨rfl, hk3⟩
      have HB23 := Lib.hid (HB2.out.kept0 hk3)
      have HK3 := Lib.hid (HK2'.out.trans hk3)
      have HY3 := Lib.hid (HY2'.out.trans hk3)
      clear hk3 HRST HB2 HK2'
      have HB3 : Hid (BoxS (w3.alloc (statO n.st n.data.size kl)) w3.heap.size n.st n.data.size kl) := Lib.hid (heap_alloc_new w3 _)
      have HB24 := Lib.hid (HB23.out.kept0 ((Kept.refl _ w3).alloc (statO n.st n.data.size kl)))
      have HK3' := Lib.hid (HK3.out.alloc (statO n.st n.data.size kl))
      have HY3' := Lib.hid (HY3.out.alloc (statO n.st n.data.size kl))
      go_wp2_with fail
      generalize w3.alloc (statO n.st n.data.size kl) = w3' at HB3 HB24 HK3' HY3' ⊢
      refine (HSTA.out _ HK3'.out).mono ?_
      rintro e w4 ⟨rfl, hk4⟩
      have HB34 := Lib.hid (HB3.out.kept0 hk4)
      have HB25 := Lib.hid (HB24.out.kept0 hk4)
      have HK4 := Lib.hid (HK3'.out.trans hk4)
      have HY4 := Lib.hid (HY3'.out.trans hk4)
      clear hk4 HSTA HB3 HB24 HK3' HB23
      have HB4 : Hid (BoxS (w4.alloc (statO n.st n.data.size kl)) w4.heap.size n.st n.data.size kl) := Lib.hid (heap_alloc_new w4 _)
      have HB35 := Lib.hid (HB34.out.kept0 ((Kept.refl _ w4).alloc (statO n.st n.data.size kl)))
      have HB26 := Lib.hid (HB25.out.kept0 ((Kept.refl _ w4).alloc (statO n.st n.data.size kl)))
      have HK4' := Lib.hid (HK4.out.alloc (statO n.st n.data.size kl))
      have HY4' := Lib.hid (HY4.out.alloc (statO n.st n.data.size kl))
      go_wp2_with fail
      generalize w4.alloc (statO n.st n.data.size kl) = w4' at HB4 HB35 HB26 HK4' HY4' ⊢
      clear HB34 HB25
      obtain ⟨p2, hp2⟩ : ∃ p2, w2.heap.size = p2 := ⟨_, rfl⟩
      obtain ⟨p3, hp3⟩ : ∃ p3, w3.heap.size = p3 := ⟨_, rfl⟩
      obtain ⟨p4, hp4⟩ : ∃ p4, w4.heap.size = p4 := ⟨_, rfl⟩
      rw [hp2] at HB26 ⊢
      rw [hp3] at HB35 ⊢
      rw [hp4] at HB4 ⊢
      clear hp2 hp3 hp4
      refine (HACL.out _ HK4'.out).mono ?_
      rintro e w5 ⟨av5, rfl, hav5, hk5⟩
      obtain ⟨aa5, ac5, rfl⟩ := own_shape hav5
      have HAV5 := Lib.hid (rowsL_own hav5)
      have HK5 := Lib.hid (HK4'.out.trans hk5)
      have HX5 := Lib.hid hk5
      clear hav5 hk5 HACL
      go_wp2_with fail
      refine (HKID.out _ HK5.out).mono ?_
      rintro e w6 ⟨v6, rfl, hv6, hk6⟩
      obtain ⟨aa6, ac6, rfl⟩ := own_shape hv6
      have HV6 := Lib.hid hv6
      have HK6 := Lib.hid (HK5.out.trans hk6)
      have HX6 := Lib.hid (HX5.out.trans hk6)
      have HAV6 := Lib.hid (HAV5.out.kept0 hk6)
      clear hv6 hk6 HKID HX5 HAV5
      obtain ⟨a0, b0, b1, b2, b3, b4, b5, b6, b7, b8, b9, b10, b11, _, _⟩ := HF.out.kept0 HK6.out
      have HRW := Lib.hid (rows_alike HAV6.out (HAW.out.kept0 HK6.out) (by have := HAL.out; omega))
      obtain ⟨avv, avn, avc, rfl⟩ : ∃ x y z, av = .slice x y z := by
        obtain ⟨x, z, h9, _⟩ := HAW.out
        exact ⟨x, _, z, h9⟩
      go_wp2_with fail
      refine HRW.out.mono ?_
      rintro e w7 ⟨rfl, hk7⟩
      have HK7 := Lib.hid (HK6.out.trans hk7)
      have HX7 := Lib.hid (HX6.out.trans hk7)
      have HV7 := Lib.hid (HV6.out.kept hk7 (fun _ _ f => f))
      clear hk7 HRW HX6 HV6 a0 b0 b1 b2 b3 b4 b5 b6 b7 b8 b9 b10 b11
      go_wp2_with fail
      refine (HRKI.out _ HK7.out).mono ?_
      rintro e w8 ⟨v8, rfl, hv8, hk8⟩
      have HTX := Lib.hid (texts_alike (HV7.out.kept hk8 (fun _ _ f => f)) hv8 (by have := HKL.out.1; omega))
      obtain ⟨aa8, ac8, rfl⟩ := own_shape hv8
      have HK8 := Lib.hid (HK7.out.trans hk8)
      have HX8 := Lib.hid (HX7.out.trans hk8)
      clear hv8 hk8 HRKI HX7 HV7
      go_wp2_with fail
      refine HTX.out.mono ?_
      rintro e w9 ⟨rfl, hk9⟩
      have HK9 := Lib.hid (HK8.out.trans hk9)
      have HX9 := Lib.hid (HX8.out.trans hk9)
      clear hk9 HTX HX8
      obtain ⟨a0, b0, b1, b2, b3, b4, b5, b6, b7, b8, b9, b10, b11, _, _⟩ := HF.out.kept0 HK9.out
      obtain ⟨x0, x1, x2, x3, x4, x5, x6, x7, x8, _⟩ := (HB26.out.kept0 HX9.out).nine
      obtain ⟨y0, y1, y2, y3, y4, y5, y6, y7, y8, _⟩ := (HB35.out.kept0 HX9.out).nine
      obtain ⟨z0, z1, z2, z3, z4, z5, z6, z7, z8, _⟩ := (HB4.out.kept0 HX9.out).nine
      go_wp2_with fail
      refine (HOWN.out _ HK9.out).mono ?_
      rintro e w10 ⟨v10, rfl, hv10, hk10⟩
      obtain ⟨aa10, ac10, rfl⟩ := own_shape hv10
      have HK10 := Lib.hid (HK9.out.trans hk10)
      have HX10 := Lib.hid (HX9.out.trans hk10)
      have HV10 := Lib.hid hv10
      clear hv10 hk10 HOWN HX9 a0 b0 b1 b2 b3 b4 b5 b6 b7 b8 b9 b10 b11 x0 x1 x2 x3 x4 x5 x6 x7 x8 y0 y1 y2 y3 y4 y5 y6 y7 y8 z0 z1 z2 z3 z4 z5 z6 z7 z8
      go_wp2_with fail
      refine (HROW.out _ HK10.out).mono ?_
      rintro e w11 ⟨v11, rfl, hv11, hk11⟩
      obtain ⟨aa11, ac11, rfl⟩ := own_shape hv11
      have HTX := Lib.hid (texts_alike (HV10.out.kept hk11 (fun _ _ f => f)) hv11 (by have := HKL.out.2; omega))
      have HK11 := Lib.hid (HK10.out.trans hk11)
      have HX11 := Lib.hid (HX10.out.trans hk11)
      clear hv11 hk11 HROW HX10 HV10
      go_wp2_with fail
      refine HTX.out.mono ?_
      rintro e w12 ⟨rfl, hk12⟩
      have HK12 := Lib.hid (HK11.out.trans hk12)
      have HY12 := Lib.hid (HY4'.out.trans (HX11.out.trans hk12))
      clear hk12 HTX HX11
      go_wp2_with fail
      refine ⟨⟨i + 1, by go_num, by rw [HNL.out]; exact hlt, ?_, HK12.out⟩, ?_⟩
      · rw [HPT.out]; exact HP1.out.kept HY12.out (fun _ _ f => f)
      · show nl - ((i : Int) + 1).toNat < nl - (i : Int).toNat
        omega
    · have hin : i = R.N.length := by rw [HNL.out]; omega
      obtain ⟨P, hP⟩ : ∃ P, R.N.map RN.path = P := ⟨_, rfl⟩
      have hpa : (R.N.map RN.path).take i = P := by rw [← hP]; exact List.take_of_length_le (by rw [List.length_map]; omega)
      have hp9 := HP.out
      rw [hpa] at hp9
      have HPP := Lib.hid hP
      have HPLN : Hid (P.length ≤ 100000000) := Lib.hid (by rw [← hP, List.length_map, HNL.out]; exact hNl)
      obtain ⟨pa, pc, rfl⟩ := own_shape hp9
      have HPA := Lib.hid hp9
      obtain ⟨c0, c1, c2, _⟩ := HH.out.kept0 HK.out
      rw [HNL.out] at c0
      clear hp9 hin hpa HP hP
      go_wp2_with fail
      clear c0 c1 c2
      go_loopw [23, 24] (fun sv iv wr => AlS w R P (.slice pa P.length pc) sv iv wr) (fun _ iv _ => sl - (intOf iv).toNat)
      case atStart => exact ⟨0, rfl, Nat.zero_le _, HPA.out, ⟨[], rfl, World.ownsRow_nil _ _ _ _⟩, HK.out⟩
      case round =>
        obtain ⟨i, rfl, hi, hp, ⟨I, hI, hv⟩, hk⟩ := hrel.ex
        have HP := Lib.hid hp
        have HV := Lib.hid hv
        have HI := Lib.hid hI
        have HK := Lib.hid hk
        clear hrel hp hv hk hI
        rw [HSL.out] at hi
        obtain ⟨c0, c1, c2, _⟩ := HH.out.kept0 HK.out
        rw [HSL.out] at c1
        by_cases hlt : i < sl
        · obtain ⟨s, hs⟩ : ∃ s, R.S[i]? = some s := ⟨_, List.getElem?_eq_getElem (by rw [HSL.out]; exact hlt)⟩
          obtain ⟨g, cap, hf⟩ := HU.out.sessF hs
          rw [HSL.out] at hf
          have HF := Lib.hid hf
          have HSES := Lib.hid (fun (W : World) (hk : Kept (fun _ => False) w W) => session_of (HT.out.kept0 hk) HR.out hs)
          have HIT : Hid ((R.S.map RS.id).take (i + 1) = I ++ [s.id]) := Lib.hid (by rw [id_take hs, HI.out])
          have HIL : Hid (I.length = i) := Lib.hid (by rw [HI.out, List.length_take, List.length_map, HSL.out]; omega)
          have i1 : (0 : Int) ≤ (i : Int) := by omega
          have i2 : (i : Int) < (sl : Int) := by omega
          have hWS := HK.out.size
          clear hs hf c0 c1 c2
          obtain ⟨d1, s0, s1, s2, _, _⟩ := HF.out.kept0 HK.out
          go_wp2_with (first
            | (at_builtin; refine wpList_row1 HINT.out (by rfl) _ _ (by rfl) (by rfl) HV.out [.int .i64 s.id] (by rfl) (by rfl) (by intro u hu; simp only [List.mem_singleton] at hu; subst hu; rfl) (by rw [HIL.out]; omega) (by rw [HIL.out]; unfold maxLen; omega) hWS ?_; intro v1 w1 hown1 hg1; have HK1 := Lib.hid (kept_own1 HK.out HV.out (Nat.le_refl _) hg1); have HP1 := Lib.hid (str_grow HP.out HV.out hg1); have HV1 := Lib.hid (num_add hown1); clear hown1 hg1 s0 s1 s2 d1; obtain ⟨d1, s0, s1, s2, _, _⟩ := HF.out.kept0 HK1.out)
            | fail)
          refine (HSES.out _ HK1.out).mono ?_
          rintro e w2 ⟨rfl, hk2⟩
          have HK2 := Lib.hid (HK1.out.trans hk2)
          have HP2 := Lib.hid (HP1.out.kept hk2 (fun _ _ f => f))
          have HV2 := Lib.hid (ownKept HV1.out hk2 (fun _ _ f => f))
          clear hk2 d1 s0 s1 s2 HSES
          obtain ⟨d1, s0, s1, s2, _, _⟩ := HF.out.kept0 HK2.out
          go_wp2_with fail
          refine ⟨⟨i + 1, by go_num, by rw [HSL.out]; exact hlt, HP2.out, ⟨_, HIT.out.symm, HV2.out⟩, HK2.out⟩, ?_⟩
          show sl - ((i : Int) + 1).toNat < sl - (i : Int).toNat
          omega
        · have hin : i = R.S.length := by rw [HSL.out]; omega
          have hia : R.S.map RS.id = I := by rw [HI.out, List.take_of_length_le (by rw [List.length_map]; omega)]
          have HIA := Lib.hid hia
          have HIN : Hid (I.length ≤ 100000000) := Lib.hid (by rw [← hia, List.length_map, HSL.out]; exact hSl)
          have HPT := Lib.hid (fun (W : World) (hk : Kept (fun _ => False) w W) => paths_of (HT.out.kept0 hk) HR.out hc)
          have HSS := Lib.hid (fun (W : World) (hk : Kept (fun _ => False) w W) => sessions_of (HT.out.kept0 hk) HR.out hc)
          rw [HPP.out] at HPT
          rw [hia] at HSS
          obtain ⟨sa5, sc5, rfl⟩ := own_shape HV.out
          clear hin hia
          go_wp2_with fail
          refine (HPT.out _ HK.out).mono ?_
          rintro e w2 ⟨v2, rfl, hv2, hk2⟩
          have HTX := Lib.hid (texts_alike hv2 (HP.out.kept hk2 (fun _ _ f => f)) (by have := HPLN.out; omega))
          obtain ⟨aa2, ac2, rfl⟩ := own_shape hv2
          have HK2 := Lib.hid (HK.out.trans hk2)
          have HV2 := Lib.hid (ownKept HV.out hk2 (fun _ _ f => f))
          clear hv2 hk2 HPT c0 c1 c2 HP HV
          go_wp2_with fail
          refine HTX.out.mono ?_
          rintro e w3 ⟨rfl, hk3⟩
          have HK3 := Lib.hid (HK2.out.trans hk3)
          have HV3 := Lib.hid (ownKept HV2.out hk3 (fun _ _ f => f))
          clear hk3 HTX HV2
          go_wp2_with fail
          refine (HSS.out _ HK3.out).mono ?_
          rintro e w4 ⟨v4, rfl, hv4, hk4⟩
          have HNX := Lib.hid (nums_alike hv4 (ownKept HV3.out hk4 (fun _ _ f => f)) (by have := HIN.out; omega))
          obtain ⟨aa4, ac4, rfl⟩ := own_shape hv4
          have HK4 := Lib.hid (HK3.out.trans hk4)
          clear hv4 hk4 HSS HV3
          go_wp2_with fail
          refine HNX.out.mono ?_
          rintro e w5 ⟨rfl, hk5⟩
          have HK5 := Lib.hid (HK4.out.trans hk5)
          clear hk5 HNX
          obtain ⟨c0, c1, c2, _⟩ := HH.out.kept0 HK5.out
          have HZX : Hid (∀ n, Calls Tryz.prog 32 #[.pointer (some ⟨q.t, 0, none⟩)] (w5.drewN n) fun e w' => e = .returned (.int .i64 R.z) ∧ w5.drewN n = w') := Lib.hid (fun n => zxid_any (HT.out.kept0 (HK5.out.drewN n)))
          go_wp2_with fail
          go_quiet ((go_at_call 32; exact (HZX.out _).mono fun e w' ⟨he, hw⟩ => ⟨he, _, hw.symm⟩))
          go_wp2_with fail
          go_ret
          exact ⟨rfl, HK5.out.drewN _⟩
end
end Go.Proofs.YtenbdoceaabecaaGreat
