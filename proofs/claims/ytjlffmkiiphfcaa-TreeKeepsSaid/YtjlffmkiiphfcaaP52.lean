/- TreeOwners: the walk. -/
import Derived.Test.YtjlffmkiiphfcaaP49
import Derived.Test.YtjlffmkiiphfcaaP51
import Derived.Test.YtjlffmkiiphfcaaP11
namespace Go.Proofs.Ytjlffmkiiphfcaa
open Go.ChangeShapes Go.WideShapes Go.ChangeAt Go.RowKit Go.Maps
set_option linter.unusedVariables false
set_option linter.unusedSimpArgs false
/-- a row of another type is written: the trees stay -/
theorem TAt.row {Z : Nat → Prop} {w w' : World} {q : TB} {M : TM} {c : Nat} {X : Nat → Prop} (h : TAt Z w q M c) (hk : Kept X w w') (hX : ∀ k, X k → ∃ cur e, w.heap[k]? = some (.cells cur e (0, 0)) ∧ (92 : TypeId) ≠ e ∧ (95 : TypeId) ≠ e) : TAt Z w' q M c := by
  have hnr : ∀ k, TBs q k → ¬ X k := fun k hk' hx => by
    obtain ⟨cur, e, hc, h1, _⟩ := hX k hx
    exact h.noRow h1 k cur hc hk'
  obtain ⟨D, E, h⟩ := h
  have hlt := h.lt
  refine ⟨D, E, ?_, ownsMap_kept h.n hk (hnr _ (.inr (.inl rfl))), fun k => (h.N k).kept hk (fun b cur hb hz hx => ?_), ownsMap_kept h.s hk (hnr _ (.inr (.inr rfl))), h.S, h.ns, h.okk, h.inZ, fun k hk' => h.new k (Nat.le_trans hk.size hk')⟩
  · rw [hk.block q.t (hlt _ (.inl rfl)) (hnr _ (.inl rfl))]; exact h.at_
  · obtain ⟨cur', e, hc, _, h2⟩ := hX b hx
    rw [hb] at hc
    injection hc with hc
    injection hc with _ hc
    exact h2 hc
theorem HsN.row {w wr wr' : World} {B : Nat} {v : Value} {H : List HE} {T : List (TB × TM)} {c B2 : Nat} {rv : Value} {l : List ByteArray} (h : HsN w B v H T c wr) (hr : StrAt B2 wr rv l) (hB : w.heap.size ≤ B2) (hk : Kept (fun k => some k = rv.ownBlock) wr wr') : HsN w B v H T c wr' := by
  have hX : ∀ k, some k = rv.ownBlock → ∃ cur, wr.heap[k]? = some (.cells cur 9 (0, 0)) := fun k e => by
    obtain ⟨_, _, cur, hc⟩ := own_lo hr e.symm
    exact ⟨cur, hc⟩
  refine ⟨fun p hp => (h.t p hp).row hk (fun k e => by obtain ⟨cur, hc⟩ := hX k e; exact ⟨cur, _, hc, by decide, by decide⟩), h.ap, ⟨ownKept h.at_.own hk (fun k e e' => ?_), fun e he => (h.at_.txw e he).kept hk (fun k cur e' hc he' e2 => ?_)⟩, h.lo, h.kept.trans' hk (fun k hlt e => by have := (own_lo hr e.symm).1; omega)⟩
  · obtain ⟨_, _, cur, hc⟩ := own_lo h.at_.own e
    obtain ⟨cur', hc'⟩ := hX k e'
    rw [hc] at hc'; simp at hc'
  · obtain ⟨cur', hc'⟩ := hX k e2
    rw [hc] at hc'
    rcases he' with rfl | rfl <;> simp at hc'
structure OwL (w : World) (B : Nat) (v : Value) (H : List HE) (q : TB) (iv : Value) (wr : World) : Prop where
  ex : ∃ i : Nat, iv = .int .i64 i ∧ i ≤ H.length ∧ HsN w B v H [(q, runH newM (H.take i))] (1 + 2000002 * i) wr
structure OwK (w : World) (B : Nat) (v : Value) (H : List HE) (q : TB) (M : TM) (pv : Value) (P : List ByteArray) (mv sv : Value) (wr : World) : Prop where
  ex : ∃ s : Nat, sv = .int .i64 s ∧ 1 ≤ s ∧ s ≤ 6 ∧ mv = .int .i64 (tillS M s P) ∧ HsN w B v H [(q, M)] 400000000 wr ∧ StrAt w.heap.size wr pv P
structure OwI (w : World) (B : Nat) (v : Value) (H : List HE) (q : TB) (M : TM) (pv : Value) (P : List ByteArray) (B2 s : Nat) (mv wv iv : Value) (wr : World) : Prop where
  ex : ∃ i m : Nat, iv = .int .i64 i ∧ mv = .int .i64 m ∧ i ≤ P.length ∧ m = tillS M s P + (ofS M s (P.take i)).length ∧ HsN w B v H [(q, M)] 400000000 wr ∧ StrAt w.heap.size wr pv P ∧ StrAt B2 wr wv (ofS M s (P.take i)) ∧ B2 ≤ wr.heap.size ∧ (∀ k, pv.ownBlock = some k → k < B2)
structure OwF (w : World) (B : Nat) (v : Value) (H : List HE) (q : TB) (M : TM) (pv : Value) (P : List ByteArray) (fv iv : Value) (wr : World) : Prop where
  ex : ∃ i : Nat, iv = .int .i64 i ∧ i ≤ P.length ∧ fv = .int .i64 (ofS M 0 (P.take i)).length ∧ HsN w B v H [(q, M)] 400000000 wr ∧ StrAt w.heap.size wr pv P
theorem paths_len {R : RT} (hu : UqR R) {P : List ByteArray} (hP : P.Pairwise ltP) (hm : ∀ x, x ∈ P ↔ ((toM R).N (keyB x)).isSome = true) : P.length = R.N.length := by
  have : P.Perm (R.N.map RN.path) := (List.perm_ext_iff_of_nodup (srt_nodup hP) hu.n).2 (fun x => by
    rw [hm, Option.isSome_iff_exists, List.mem_map]
    constructor
    · rintro ⟨nd, h⟩
      obtain ⟨n, hn, hk, _⟩ := (node_iff (k := keyB x) hu.n).1 h
      exact ⟨n, hn, keyB_inj hk⟩
    · rintro ⟨n, hn, rfl⟩
      exact ⟨_, (node_iff (k := keyB n.path) hu.n).2 ⟨n, hn, rfl, rfl⟩⟩)
  rw [this.length_eq, List.length_map]
theorem StrAt.at_ {B : Nat} {w W : World} {a : Option Addr} {n cap : Nat} {l : List ByteArray} (h : StrAt B w (.slice a n cap) l) {i : Nat} {p : ByteArray} (hp : l[i]? = some p) : ∃ g, a = some ⟨g, 0, none⟩ ∧ w.cell? ⟨g, i, none⟩ = some (.string p) := by
  obtain ⟨a1, c1, e, h1⟩ := strC_at h
  injection e with e1 e2 e3
  obtain ⟨g, ha, _, hc⟩ := h1 i p hp
  exact ⟨g, e1.trans ha, hc⟩
theorem owi_next {w W w8 : World} {B B2 s i m : Nat} {v pv wv wv' mv iv : Value} {H : List HE} {q : TB} {M : TM} {P : List ByteArray} {p : ByteArray} (hs : HsN w B v H [(q, M)] 400000000 W) (hpr : StrAt w.heap.size W pv P) (hwr : StrAt B2 W wv (ofS M s (P.take i))) (hb : B2 ≤ W.heap.size) (hpb : ∀ k, pv.ownBlock = some k → k < B2) (hbw : w.heap.size ≤ B2) (hm : m = tillS M s P + (ofS M s (P.take i)).length) (hp : P[i]? = some p)
    (h : (ownerOf M p = s ∧ StrAt B2 w8 wv' (ofS M s (P.take i) ++ [p]) ∧ (W.alloc (.cells #[.string p] 9)).grownBy w8 wv.ownBlock) ∨ (ownerOf M p ≠ s ∧ w8 = W ∧ wv' = wv)) (hiv : iv = .int .i64 ((i + 1 : Nat) : Int)) {m' : Nat} (hmv : mv = .int .i64 m') (hm' : m' = m + (if ownerOf M p = s then 1 else 0)) : OwI w B v H q M pv P B2 s mv wv' iv w8 := by
  have hi : i < P.length := (List.getElem?_eq_some_iff.1 hp).1
  rcases h with ⟨ho, hv8, hg⟩ | ⟨ho, rfl, rfl⟩
  · have ka : Kept (fun _ => False) W (W.alloc (.cells #[.string p] 9)) := (Kept.refl _ W).alloc _
    have hwr' := hwr.kept ka (fun _ _ f => f)
    refine ⟨i + 1, m', hiv, hmv, hi, ?_, (hs.kept0 ka).row hwr' hbw (Kept.of_grownBy hg), ownKept (hpr.kept ka (fun _ _ f => f)) (Kept.of_grownBy hg) (fun k e e' => ?_), by rw [of_take hp, if_pos ho]; exact hv8, Nat.le_trans hb (Nat.le_trans ka.size hg.size), hpb⟩
    · rw [of_take hp, if_pos ho, List.length_append, hm', if_pos ho, hm]; simp; omega
    · have h1 := hpb k e
      have h2 := (own_lo hwr' e'.symm).1
      omega
  · refine ⟨i + 1, m', hiv, hmv, hi, ?_, hs, hpr, by rw [of_take hp, if_neg ho]; exact hwr, hb, hpb⟩
    rw [of_take hp, if_neg ho, hm', if_neg ho, hm]; rfl
set_option maxRecDepth 100000 in
set_option maxHeartbeats 8000000 in
theorem ow_walk (w : World) (a0 : Option Addr) (cap0 : Nat) (l0 : List ActD) (h0 : ActsD w a0 l0) :
    Calls Try.prog 7 #[.slice a0 l0.length cap0] w (QPost true w) := by
  have H0 := Lib.hid h0
  clear h0
  go_enter Try.func7, Try.ntmps7
  go_wp2_with fail
  refine (tawake_any w).mono ?_
  rintro e w1 ⟨rfl, hk1⟩
  have HK1 := Lib.hid hk1
  have HHI := Lib.hid (hist_any a0 cap0 l0 (H0.out.kept0 hk1) 1 (by decide) (by decide))
  clear hk1
  go_wp2_with fail
  refine HHI.out.mono ?_
  rintro e w2 ⟨v, b, H, R, rfl, hat, hhi, hinv, hlen, _, _, hk2⟩
  have hk2' := HK1.out.trans hk2
  have HLEN := Lib.hid hlen
  have HRUN := Lib.hid (runH_hist hhi)
  have HOWN := Lib.hid hhi.own
  have HNL : Hid (R.N.length ≤ 2000) := Lib.hid (by have := hinv.N; omega)
  have HNP := Lib.hid hinv.path
  have HS0 : Hid (HsN w w2.heap.size v H [] 1 w2) := Lib.hid ⟨fun p hp => (List.not_mem_nil hp).elim, .nil, hat.low HK1.out.size, fun p hp => (List.not_mem_nil hp).elim, hk2'⟩
  obtain ⟨av, cv, rfl⟩ := own_shape hat.own
  obtain ⟨B, HB⟩ : ∃ B, Hid (w2.heap.size = B) := ⟨_, Lib.hid rfl⟩
  have HN1 := Lib.hid (tnew_any w2 (B := B) (Nat.le_of_eq HB.out.symm))
  rw [HB.out] at HS0
  clear hat hhi hinv hlen hk2 hk2' HHI HK1
  go_wp2_with fail
  refine HN1.out.mono ?_
  rintro e w3 ⟨q, rfl, hT, hk3, hq⟩
  have HS : Hid (HsN w B _ H [(q, newM)] 1 w3) := Lib.hid (HS0.out.more HS0.out.less hT hk3 hq)
  clear hT hk3 hq HN1 HS0 HB
  go_wp2_with fail
  go_loopw [7] (fun iv wr => OwL w B (.slice av H.length cv) H q iv wr) (fun iv _ => H.length - (intOf iv).toNat)
  case atStart => exact ⟨0, rfl, Nat.zero_le _, HS.out⟩
  case round =>
    obtain ⟨i, rfl, hi, hs⟩ := hrel.ex
    have HS := Lib.hid hs
    have hlen := HLEN.out
    clear hrel hs
    by_cases hlt : i < H.length
    · obtain ⟨E, hE⟩ : ∃ E, H[i]? = some E := ⟨_, List.getElem?_eq_getElem hlt⟩
      have HE' := Lib.hid hE
      obtain ⟨g, rfl⟩ := HS.out.blk hE
      have HA1 := Lib.hid (hs_apply HS.out (i := 0) (q := q) (M := runH newM (H.take i)) rfl hE (by omega))
      obtain ⟨x0, x1, x2, x3, x4, x5, x6, x7, x8, x9, x10⟩ := HS.out.ent hE
      clear hE
      unfold entV at HA1
      go_wp2_with fail
      refine HA1.out.mono ?_
      rintro e w5 ⟨va, vm, rfl, hs⟩
      have HS1 : Hid (HsN w B _ H [(q, runH newM (H.take (i + 1)))] _ w5) := Lib.hid (by
        have h9 : (applyM (runH newM (H.take i)) E.tx E.e.zx).1 = runH newM (H.take (i + 1)) := by
          obtain ⟨hi', rfl⟩ := List.getElem?_eq_some_iff.1 HE'.out
          rw [List.take_succ_eq_append_getElem hi', runH_snoc]
        rw [← h9]; exact hs)
      clear hs HA1 x0 x1 x2 x3 x4 x5 x6 x7 x8 x9 x10
      go_wp2_with fail
      exact ⟨⟨i + 1, by go_num, by omega, HS1.out.to (by omega)⟩, by show H.length - ((i : Int) + 1).toNat < H.length - (i : Int).toNat; omega⟩
    · have hkn : i = H.length := by omega
      have hs9 := HS.out
      rw [hkn, List.take_length, HRUN.out.1] at hs9
      have HS : Hid (HsN w B _ H [(q, toM R)] 400000000 wr) := Lib.hid (hs9.to (by omega))
      clear hs9 hkn
      have HP := Lib.hid (paths_any (HS.out.t (q, toM R) (by simp)) (by omega))
      have HUQ := Lib.hid HRUN.out.2.1
      obtain ⟨M, hM⟩ : ∃ M, toM R = M := ⟨_, rfl⟩
      have HNPM : Hid (∀ p nd, M.N (keyB p) = some nd → p.size ≤ 60) := Lib.hid (fun p nd h => by
        rw [← hM] at h
        obtain ⟨n, hn, hk, _⟩ := (node_iff (k := keyB p) HUQ.out.n).1 h
        rw [← keyB_inj hk]; exact HNP.out n hn)
      have HPL0 := Lib.hid (fun P h1 h2 => @paths_len R HUQ.out P h1 h2)
      rw [hM] at HS HP HOWN HPL0
      clear HRUN HUQ HNP hM
      go_wp2_with fail
      refine HP.out.mono ?_
      rintro e w5 ⟨pv, P, rfl, hsrt, hmem, hrow, hk⟩
      have HSRT := Lib.hid hsrt
      have HMEM := Lib.hid hmem
      have HPL : Hid (P.length ≤ 2000) := Lib.hid (by rw [HPL0.out P hsrt hmem]; exact HNL.out)
      have HPR := Lib.hid (row_mono hrow HS.out.kept.size)
      have HS5 := Lib.hid (HS.out.kept0 hk)
      obtain ⟨pa, pc, rfl⟩ := own_shape hrow
      clear hsrt hmem hrow hk HP HS HPL0 HNL
      go_wp2_with fail
      go_loopw [9, 10] (fun mv sv wr => OwK w B (.slice av H.length cv) H q M (.slice pa P.length pc) P mv sv wr) (fun _ sv _ => 7 - (intOf sv).toNat)
      case atStart => exact ⟨1, rfl, by omega, by omega, by rw [show ((1 : Nat) : Int) = 1 from rfl, till_one]; rfl, HS5.out, HPR.out⟩
      case round =>
        obtain ⟨s, rfl, hs1, hs6, rfl, hs, hpr⟩ := hrel.ex
        have HS := Lib.hid hs
        have HPR := Lib.hid hpr
        have hpl := HPL.out
        clear hrel hs hpr
        by_cases hs5 : s ≤ 5
        · obtain ⟨B2, hB2⟩ : ∃ B2, wr.heap.size = B2 := ⟨_, rfl⟩
          have hBw : w.heap.size ≤ B2 := by rw [← hB2]; exact HS.out.kept.size
          have HB20 := Lib.hid hB2
          have HBW := Lib.hid hBw
          clear hB2 hBw
          have hs5' : (s : Int) ≤ 5 := by omega
          go_wp2_with fail
          go_loopw [9, 11, 12] (fun mv wv iv wr => OwI w B (.slice av H.length cv) H q M (.slice pa P.length pc) P B2 s mv wv iv wr) (fun _ _ iv _ => P.length - (intOf iv).toNat)
          case atStart => exact ⟨0, _, rfl, rfl, Nat.zero_le _, by rw [List.take_zero]; rfl, HS.out, HPR.out, by rw [List.take_zero]; exact strAt_nil _, Nat.le_of_eq HB20.out.symm, fun k e => HB20.out ▸ (own_lo HPR.out e).2.1⟩
          case round =>
            obtain ⟨i, m, rfl, rfl, hi, hm, hs, hpr, hwr, hb2, hpb⟩ := hrel.ex
            have HS := Lib.hid hs
            have HPR := Lib.hid hpr
            have HWR := Lib.hid hwr
            have HM := Lib.hid hm
            have HB2 := Lib.hid hb2
            have HPB := Lib.hid hpb
            have hpl := HPL.out
            clear hrel hs hpr hwr hm hb2 hpb
            by_cases hlt : i < P.length
            · obtain ⟨p, hp⟩ : ∃ p, P[i]? = some p := ⟨_, List.getElem?_eq_getElem hlt⟩
              have HP := Lib.hid hp
              obtain ⟨nd, hnd⟩ : ∃ nd, M.N (keyB p) = some nd := Option.isSome_iff_exists.1 ((HMEM.out p).1 (List.mem_of_getElem? hp))
              obtain ⟨g, rfl, hc⟩ := HPR.out.at_ (W := w) hp
              have HST := Lib.hid (stat_any (HS.out.t (q, M) (by simp)) p (by have := HNPM.out p nd hnd; omega) (by omega))
              have HOO : Hid (ownerOf M p = nd.st.owner) := Lib.hid (by unfold ownerOf; rw [hnd])
              have HND := Lib.hid hnd
              clear hp hnd
              go_wp2_with fail
              refine HST.out.mono ?_
              rintro e w6 ⟨hk6, hst⟩
              rcases hst with ⟨hn, _⟩ | ⟨nd', l', hn, _, rfl⟩
              · exact absurd (hn.symm.trans HND.out) (by simp)
              obtain rfl : nd' = nd := by
                have h9 := hn.symm.trans HND.out
                injection h9
              have HK6 := Lib.hid hk6
              clear hk6 hn HST hc HND
              obtain ⟨d9, a9, ⟨z1, z2, z3, z4, z5, z6, o⟩⟩ := nd'
              obtain ⟨kl, hkl⟩ : ∃ kl : Int, (l'.length : Int) = kl := ⟨_, rfl⟩
              obtain ⟨dl, hdl⟩ : ∃ dl : Int, (d9.size : Int) = dl := ⟨_, rfl⟩
              rw [hkl, hdl]
              clear hkl hdl
              unfold statV
              have hk7 : Kept (fun _ => False) wr (w6.alloc (statO ⟨z1, z2, z3, z4, z5, z6, o⟩ dl kl)) := HK6.out.alloc _
              have HS7 := Lib.hid (HS.out.kept0 hk7)
              have HPR7 := Lib.hid (HPR.out.kept hk7 (fun _ _ f => f))
              have HWR7 := Lib.hid (HWR.out.kept hk7 (fun _ _ f => f))
              have hb7 : B2 ≤ (w6.alloc (statO ⟨z1, z2, z3, z4, z5, z6, o⟩ dl kl)).heap.size := Nat.le_trans HB2.out hk7.size
              have HB7 := Lib.hid hb7
              obtain ⟨g', eg, hc7⟩ := HPR7.out.at_ (W := w) HP.out
              injection eg with eg
              injection eg with eg
              subst eg
              have hwl : (ofS M s (P.take i)).length ≤ 2000 := Nat.le_trans (List.length_filter_le _ _) (by rw [List.length_take]; omega)
              have HWL : Hid ((ofS M s (P.take i)).length ≤ 4000000000000) := Lib.hid (by omega)
              have hml : m ≤ 10000 := by
                have h1 := HM.out
                have h2 : tillS M s P ≤ P.length := List.length_filter_le _ _
                omega
              have HOO1 : Hid (ownerOf M p = o) := HOO
              clear hk7 hb7 HOO hwl
              by_cases ho : o = (s : Int)
              · subst ho
                go_wp2_with (first
                  | (at_builtin; refine wpList_strs1 rfl _ _ rfl B2 _ _ rfl HWR7.out p (by first | rfl | (show Value.slice (some ⟨w6.heap.size + 1, 0, none⟩) 1 1 = Value.slice (some ⟨(w6.alloc _).heap.size, 0, none⟩) 1 1; simp)) HWL.out HB7.out (fun v8 w8 hv8 hg8 => ?_); have HG8 := Lib.hid hg8; have HV8 := Lib.hid hv8; clear hg8 hv8)
                  | fail)
                refine ⟨owi_next HS7.out HPR7.out HWR7.out HB7.out HPB.out HBW.out HM.out HP.out (.inl ⟨HOO1.out, HV8.out, HG8.out⟩) (by go_num) (m' := m + 1) (by go_num) (by rw [if_pos HOO1.out]), ?_⟩
                show P.length - ((i : Int) + 1).toNat < P.length - (i : Int).toNat
                omega
              · go_wp2_with fail
                refine ⟨owi_next HS7.out HPR7.out HWR7.out HB7.out HPB.out HBW.out HM.out HP.out (.inr ⟨fun e => ho (HOO1.out.symm.trans e), rfl, rfl⟩) (by go_num) (m' := m) rfl (by rw [if_neg (fun e => ho (HOO1.out.symm.trans e))]; rfl), ?_⟩
                show P.length - ((i : Int) + 1).toNat < P.length - (i : Int).toNat
                omega
            · have hip : i = P.length := by omega
              have hwr9 := HWR.out
              have hm9 := HM.out
              rw [hip, List.take_length] at hwr9 hm9
              have HW9 := Lib.hid hwr9
              have HM9 := Lib.hid hm9
              obtain ⟨wa, wc, rfl⟩ := own_shape hwr9
              have HOW := Lib.hid (owned_any (HS.out.t (q, M) (by simp)) (s : Int) (by omega) (by omega))
              have hml : m ≤ 10000 := by
                have h1 := hm9
                have h2 : tillS M s P ≤ P.length := List.length_filter_le _ _
                have h3 : (ofS M s P).length ≤ P.length := List.length_filter_le _ _
                omega
              have HWL : Hid ((ofS M s P).length ≤ 4000000000000) := Lib.hid (by have h3 : (ofS M s P).length ≤ P.length := List.length_filter_le _ _; omega)
              clear hwr9 hm9 HM HWR
              go_wp2_with fail
              refine HOW.out.mono ?_
              rintro e w6 ⟨ov, l, rfl, hls, hlm, hor, hk6⟩
              have hl := owned_eq (M := M) (s := (s : Int)) (by omega) HSRT.out HMEM.out hls hlm
              subst hl
              have HS6 := Lib.hid (HS.out.kept0 hk6)
              have HPR6 := Lib.hid (HPR.out.kept hk6 (fun _ _ f => f))
              have HTX := Lib.hid (texts_true hor (HW9.out.kept hk6 (fun _ _ f => f)) HWL.out)
              clear hls hlm hor hk6 HOW
              go_wp2_with fail
              refine HTX.out.mono ?_
              rintro e w7 ⟨rfl, hk7⟩
              have HS7 := Lib.hid (HS6.out.kept0 hk7)
              have HPR7 := Lib.hid (HPR6.out.kept hk7 (fun _ _ f => f))
              have HSE := Lib.hid (session_any (HS7.out.t (q, M) (by simp)) (s : Int) (by omega))
              clear hk7 HTX
              go_wp2_with fail
              refine HSE.out.mono ?_
              rintro e w8 ⟨t8, p8, rfl, _, hk8⟩
              have HS8 := Lib.hid (HS7.out.kept0 hk8)
              have HPR8 := Lib.hid (HPR7.out.kept hk8 (fun _ _ f => f))
              have HSS : Hid (0 < (ofS M s P).length → (M.S s).isSome = true) := Lib.hid (fun h => own_sess HOWN.out (by omega) h)
              have HTN : Hid ((m : Int) = (tillS M ((s + 1 : Nat) : Int) P : Nat)) := Lib.hid (by
                have h1 := till_next M (s := (s : Int)) (by omega) P
                rw [show ((s + 1 : Nat) : Int) = (s : Int) + 1 from rfl, h1, HM9.out])
              obtain ⟨bS, hbS⟩ : ∃ b, (M.S (s : Int)).isSome = b := ⟨_, rfl⟩
              obtain ⟨n9, hn9⟩ : ∃ n, (ofS M s P).length = n := ⟨_, rfl⟩
              rw [hbS, hn9] at HSS
              rw [hbS]
              rw [hn9]
              clear hk8 HSE hbS hn9
              by_cases hn0 : 0 < n9
              · have hb := HSS.out hn0
                subst hb
                go_wp2_with fail
                refine ⟨⟨s + 1, by go_num, by omega, by omega, by rw [HTN.out], HS8.out, HPR8.out⟩, ?_⟩
                show 7 - ((s : Int) + 1).toNat < 7 - (s : Int).toNat
                omega
              · go_wp2_with fail
                refine ⟨⟨s + 1, by go_num, by omega, by omega, by rw [HTN.out], HS8.out, HPR8.out⟩, ?_⟩
                show 7 - ((s : Int) + 1).toNat < 7 - (s : Int).toNat
                omega
        · have hs9 : s = 6 := by omega
          have HT6 : Hid ((ofS M 0 P).length + tillS M s P = P.length) := Lib.hid (by rw [hs9]; exact till_all M P (fun p _ => own_range HOWN.out p))
          obtain ⟨m6, hm6⟩ : ∃ m6, tillS M (s : Int) P = m6 := ⟨_, rfl⟩
          rw [hm6] at HT6
          rw [hm6]
          have hs5' : ¬ (s : Int) ≤ 5 := by omega
          clear hm6 hs1 hs6 hs9
          go_wp2_with fail
          go_loopw [19, 20] (fun fv iv wr => OwF w B (.slice av H.length cv) H q M (.slice pa P.length pc) P fv iv wr) (fun _ iv _ => P.length - (intOf iv).toNat)
          case atStart => exact ⟨0, rfl, Nat.zero_le _, rfl, HS.out, HPR.out⟩
          case round =>
            obtain ⟨i, rfl, hi, rfl, hs, hpr⟩ := hrel.ex
            have HS := Lib.hid hs
            have HPR := Lib.hid hpr
            have hpl := HPL.out
            clear hrel hs hpr
            obtain ⟨f, hf⟩ : ∃ f, (ofS M 0 (P.take i)).length = f := ⟨_, rfl⟩
            have hfl : f ≤ 2000 := by rw [← hf]; exact Nat.le_trans (List.length_filter_le _ _) (by rw [List.length_take]; omega)
            rw [hf]
            have HF := Lib.hid hf
            clear hf
            by_cases hlt : i < P.length
            · obtain ⟨p, hp⟩ : ∃ p, P[i]? = some p := ⟨_, List.getElem?_eq_getElem hlt⟩
              have HP := Lib.hid hp
              obtain ⟨nd, hnd⟩ : ∃ nd, M.N (keyB p) = some nd := Option.isSome_iff_exists.1 ((HMEM.out p).1 (List.mem_of_getElem? hp))
              obtain ⟨g, rfl, hc⟩ := HPR.out.at_ (W := w) hp
              have HST := Lib.hid (stat_any (HS.out.t (q, M) (by simp)) p (by have := HNPM.out p nd hnd; omega) (by omega))
              have HOO : Hid (ownerOf M p = nd.st.owner) := Lib.hid (by unfold ownerOf; rw [hnd])
              have HND := Lib.hid hnd
              clear hp hnd
              go_wp2_with fail
              refine HST.out.mono ?_
              rintro e w6 ⟨hk6, hst⟩
              rcases hst with ⟨hn, _⟩ | ⟨nd', l', hn, _, rfl⟩
              · exact absurd (hn.symm.trans HND.out) (by simp)
              obtain rfl : nd' = nd := by
                have h9 := hn.symm.trans HND.out
                injection h9
              have HK6 := Lib.hid hk6
              clear hk6 hn HST hc HND
              obtain ⟨d9, a9, ⟨z1, z2, z3, z4, z5, z6, o⟩⟩ := nd'
              obtain ⟨kl, hkl⟩ : ∃ kl : Int, (l'.length : Int) = kl := ⟨_, rfl⟩
              obtain ⟨dl, hdl⟩ : ∃ dl : Int, (d9.size : Int) = dl := ⟨_, rfl⟩
              rw [hkl, hdl]
              clear hkl hdl
              unfold statV
              have hk7 : Kept (fun _ => False) wr (w6.alloc (statO ⟨z1, z2, z3, z4, z5, z6, o⟩ dl kl)) := HK6.out.alloc _
              have HS7 := Lib.hid (HS.out.kept0 hk7)
              have HPR7 := Lib.hid (HPR.out.kept hk7 (fun _ _ f => f))
              have HOO1 : Hid (ownerOf M p = o) := HOO
              clear hk7 HOO
              by_cases ho : o = 0
              · subst ho
                go_wp2_with fail
                refine ⟨⟨i + 1, by go_num, hlt, ?_, HS7.out, HPR7.out⟩, ?_⟩
                · rw [of_take HP.out, if_pos HOO1.out, List.length_append, HF.out]; rfl
                · show P.length - ((i : Int) + 1).toNat < P.length - (i : Int).toNat
                  omega
              · go_wp2_with fail
                refine ⟨⟨i + 1, by go_num, hlt, ?_, HS7.out, HPR7.out⟩, ?_⟩
                · rw [of_take HP.out, if_neg (fun e => ho (HOO1.out.symm.trans e)), HF.out]
                · show P.length - ((i : Int) + 1).toNat < P.length - (i : Int).toNat
                  omega
            · have hip : i = P.length := by omega
              have hf9 := HF.out
              rw [hip, List.take_length] at hf9
              have hsum : (f : Int) + (m6 : Int) = (P.length : Int) := by have := HT6.out; rw [hf9] at this; omega
              have HZ := Lib.hid (owned_zero (HS.out.t (q, M) (by simp)))
              clear hip
              go_wp2_with (first
                | (go_at_call 18; refine HZ.out.mono ?_; rintro e w9 ⟨rfl, rfl⟩)
                | fail)
              go_ret
              exact ⟨rfl, HS.out.kept⟩
end Go.Proofs.Ytjlffmkiiphfcaa
