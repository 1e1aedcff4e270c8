/- The law's History. -/
import Derived.Test.YtjlffmkiiphfcaaP44
import Derived.Deep.RegionHeld3
namespace Go.Proofs.Ytjlffmkiiphfcaa
open Go.ChangeShapes Go.WideShapes Go.ChangeAt Go.RowKit Go.Maps
set_option linter.unusedVariables false
set_option linter.unusedSimpArgs false
theorem hist_a {wr w3 : World} {g : Nat} {x : T1} {y : TX} {l : List (T1 × TX)} {e : EX} (hg : wr.heap.size ≤ g) (he : EntRow w3 g) (hx : TxW w3 x y l) (hk : Kept (fun _ => False) wr w3) {W : World} (hW : W = ((((((((((w3.setCell ⟨g, 0, none⟩ (.int .i64 e.zx)).setCell ⟨g, 1, none⟩ (.int .i64 e.sess)).setCell ⟨g, 2, none⟩ (.int .i64 e.xid)).setCell ⟨g, 3, none⟩ (.int .i64 x.kind)).setCell ⟨g, 4, none⟩ (.string x.path)).setCell ⟨g, 5, none⟩ (.string x.data)).setCell ⟨g, 6, none⟩ (.slice y.aa y.an y.ac)).setCell ⟨g, 7, none⟩ (.int .i64 x.owner)).setCell ⟨g, 8, none⟩ (.int .i64 x.number)).setCell ⟨g, 9, none⟩ (.int .i64 y.err)).setCell ⟨g, 10, none⟩ (.slice y.sa y.sn y.sc)) :
    W.heap[g]? = some (entO e x y) ∧ TxW W x y l ∧ Kept (fun _ => False) wr W := by
  have hk8 : Kept (fun k => k = g) w3 W := by
    rw [hW]; exact kept11 (W := w3) (g := g) (.int .i64 e.zx) (.int .i64 e.sess) (.int .i64 e.xid) (.int .i64 x.kind) (.string x.path) (.string x.data) (.slice y.aa y.an y.ac) (.int .i64 x.owner) (.int .i64 x.number) (.int .i64 y.err) (.slice y.sa y.sn y.sc)
  refine ⟨by rw [hW]; exact he.set11 _ _ _ _ _ _ _ _ _ _ _, hx.kept hk8 (fun k cur e' hc he' e2 => ?_), kept_in hk8 hk hg⟩
  have e2 : k = g := e2
  subst e2
  obtain ⟨c, hc', _⟩ := he
  rw [hc] at hc'
  rcases he' with rfl | rfl <;> simp at hc'
theorem hist_b {wr w3 : World} {x : T1} {y : TX} {l : List (T1 × TX)} {e : EX} (hx : TxW w3 x y l) (hk : Kept (fun _ => False) wr w3) {W : World} (hW : W = w3.alloc (entO e x y)) :
    W.heap[w3.heap.size]? = some (entO e x y) ∧ TxW W x y l ∧ Kept (fun _ => False) wr W := by
  have hk8 : Kept (fun _ => False) w3 W := by rw [hW]; exact (Kept.refl _ w3).alloc _
  exact ⟨by rw [hW]; exact heap_alloc_new w3 _, hx.kept0 hk8, hk.trans hk8⟩
theorem Kept.chain11 {T : Nat → Prop} {a W : World} {g : Nat} (h : Kept T a W) (hT : T g) (v0 v1 v2 v3 v4 v5 v6 v7 v8 v9 v10 : Value) : Kept T a (((((((((((W.setCell ⟨g, 0, none⟩ v0).setCell ⟨g, 1, none⟩ v1).setCell ⟨g, 2, none⟩ v2).setCell ⟨g, 3, none⟩ v3).setCell ⟨g, 4, none⟩ v4).setCell ⟨g, 5, none⟩ v5).setCell ⟨g, 6, none⟩ v6).setCell ⟨g, 7, none⟩ v7).setCell ⟨g, 8, none⟩ v8).setCell ⟨g, 9, none⟩ v9).setCell ⟨g, 10, none⟩ v10) := h.trans ((kept11 (W := W) (g := g) v0 v1 v2 v3 v4 v5 v6 v7 v8 v9 v10).mono (fun k _ e => by have e : k = g := e; rw [e]; exact hT))
structure HistPost (w : World) (fr : Int) (e : Ending) (w' : World) : Prop where
  ex : ∃ v b H R, e = .returned (.tuple #[v, .pointer (some ⟨b, 0, none⟩)]) ∧ HistAt w.heap.size w' v H ∧ Hist fr H R ∧ HInv H.length R ∧ H.length ≤ 150 ∧ RAt w' b R ∧ (∀ j, RBs w' b j → w.heap.size ≤ j) ∧ Kept (fun _ => False) w w'
structure HiRel (w : World) (b n : Nat) (fr : Int) (lv iv : Value) (wr : World) : Prop where
  ex : ∃ (i : Nat) (H : List HE) (R : RT), iv = .int .i64 i ∧ i ≤ n ∧ i ≤ 150 ∧ HistAt w.heap.size wr lv H ∧ H.length ≤ i ∧ Hist fr H R ∧ HInv H.length R ∧ RAt wr b R ∧ (∀ j, RBs wr b j → w.heap.size ≤ j) ∧ Kept (fun _ => False) w wr
/-- the entry is left out -/
theorem hist_skip {w w7 : World} {b n i : Nat} {fr : Int} {lv iv : Value} {H : List HE} {R : RT} (hH : HistAt w.heap.size w7 lv H) (hHl : H.length ≤ i) (hi : Hist fr H R) (hI : HInv H.length R) (g1 : i < n) (g2 : i < 150) (hR : RAt w7 b R) (hbs : ∀ j, RBs w7 b j → w.heap.size ≤ j) (hk : Kept (fun _ => False) w w7) (hiv : iv = .int .i64 ((i + 1 : Nat) : Int)) : HiRel w b n fr lv iv w7 :=
  ⟨i + 1, H, R, hiv, g1, g2, hH, by omega, hi, hI, hR, hbs, hk⟩
/-- the entry is applied, and put behind the others -/
theorem hist_next {w w7 w8 w9 : World} {b n i : Nat} {fr zx s xid : Int} {lv v9 iv : Value} {H : List HE} {R : RT} {x : T1} {y : TX} {l : List (T1 × TX)} (hH : HistAt w.heap.size w7 lv H) (hHl : H.length ≤ i) (hi : Hist fr H R) (hI : HInv H.length R) (hzx : fr + (H.length : Int) = zx) (hT : TxnOk R x (l.map (·.1))) (hsb : soundB R x (l.map (·.1)) zx = true) (g1 : i < n) (g2 : i < 150) (hx : TxW w7 x y l) (hR : RAt w7 b R) (hbs : ∀ j, RBs w7 b j → w.heap.size ≤ j) (hk : Kept (fun _ => False) w w7)
    (hR8 : RAt w8 b (applyR R x (l.map (·.1)) zx)) (hS : RStep w7 b w8) (hown : w9.ownsRow w.heap.size 40 11 v9 (H.length + 1) (heC H ++ heL ⟨⟨zx, s, xid⟩, x, y, l⟩)) (hg : (w8.alloc (.cells (heL ⟨⟨zx, s, xid⟩, x, y, l⟩).toArray 40)).grownBy w9 lv.ownBlock) (hiv : iv = .int .i64 ((i + 1 : Nat) : Int)) : HiRel w b n fr v9 iv w9 := by
  have hH8 := hH.step hR hS
  have hx8 := hx.step hR hS
  obtain ⟨h9, k9, hb9⟩ := hH8.app (h := ⟨⟨zx, s, xid⟩, x, y, l⟩) hx8 hown hg
  obtain ⟨hR9, hbs9⟩ := hb9 b _ hR8
  refine ⟨i + 1, H ++ [⟨⟨zx, s, xid⟩, x, y, l⟩], _, hiv, g1, g2, h9, by rw [List.length_append]; simp; omega, .snoc hi hzx.symm hT hsb, by rw [List.length_append]; exact hI.step hT hsb, hR9, fun j hj => ?_, ?_⟩
  · exact (hS.bs j (hbs9 j hj)).elim (hbs j) (fun h => Nat.le_trans hk.size h)
  · refine (hk.trans' hS.kept (fun k hlt hrb => ?_)).trans' k9 (fun k hlt e => ?_)
    · have := hbs k hrb; omega
    · have := (own_lo hH8.own e.symm).1; omega
set_option maxRecDepth 100000 in
set_option maxHeartbeats 8000000 in
theorem hist_any {w : World} (a : Option Addr) (cap : Nat) (acts : List ActD) (h : ActsD w a acts) (fr : Int) (h0 : 0 ≤ fr) (h1 : fr ≤ 2199023255552) :
    Calls Try.prog 12 #[.slice a acts.length cap, .int .i64 fr] w (HistPost w fr) := by
  have HA := Lib.hid h
  have hal := h.len
  clear h
  go_enter Try.func12, Try.ntmps12
  go_wp2_with fail
  refine (rnew_any w).mono ?_
  rintro e w1 ⟨b, rfl, hR1, hb1, hk1⟩
  have HR1 := Lib.hid hR1
  have HB1 : Hid (∀ j, RBs w1 b j → w.heap.size ≤ j) := Lib.hid hb1
  have HK1 := Lib.hid hk1
  clear hR1 hb1 hk1
  go_wp2_with fail
  go_loopw [7, 8] (fun lv iv wr => HiRel w b acts.length fr lv iv wr) (fun _ iv _ => acts.length - (Go.RowKit.intOf iv).toNat)
  case atStart => exact ⟨0, [], newR, rfl, Nat.zero_le _, by decide, HistAt.nil _ _, Nat.le_refl _, .nil, hinv_new, HR1.out, HB1.out, HK1.out⟩
  case round =>
    obtain ⟨i, H, R, rfl, hin, hi150, hH, hHl, hHi, hI, hR, hbs, hkr⟩ := hrel.ex
    clear hrel
    obtain ⟨av, cv, rfl⟩ := own_shape hH.own
    have HH := Lib.hid hH
    have HHI := Lib.hid hHi
    have HI := Lib.hid hI
    have HR := Lib.hid hR
    have HBS := Lib.hid hbs
    have HKR := Lib.hid hkr
    have HEND : Hid (HistPost w fr (.returned (.tuple #[.slice av H.length cv, .pointer (some ⟨b, 0, none⟩)])) wr) := Lib.hid ⟨_, b, H, R, rfl, hH, hHi, hI, by omega, hR, hbs, hkr⟩
    clear hH hHi hI hR hbs hkr
    by_cases g1 : i < acts.length
    · by_cases g2 : i < 150
      · obtain ⟨g, off, sv0, ha, hg, hc, hsub⟩ := HA.out.at_ i g1
        obtain ⟨A, hA⟩ : ∃ A, acts[i] = A := ⟨_, rfl⟩
        rw [hA] at hc hsub
        have hfit := HA.out.fits A (by rw [← hA]; exact List.getElem_mem g1)
        obtain ⟨p, ls⟩ := A
        obtain ⟨sa, sc, rfl, _⟩ := hsub.ex
        subst ha
        have HFIT := Lib.hid hfit
        have HSUB := Lib.hid hsub
        obtain ⟨n, hn⟩ : ∃ n, H.length = n := ⟨_, rfl⟩
        have HN := Lib.hid hn
        obtain ⟨zx, hzx⟩ : ∃ zx, fr + (n : Int) = zx := ⟨_, rfl⟩
        have HZX := Lib.hid hzx
        have hz1 : IntKind.i64.wrap (fr + (n : Int)) = zx := by rw [wrapI_id _ (by omega) (by omega)]; exact hzx
        have HZ1 := Lib.hid hz1
        have HSM : Hid (∀ W, Kept (fun _ => False) wr W → Calls Try.prog 38 #[.agg #[.int .i64 p.a, .int .i64 p.b, .int .i64 p.c, .string p.s, .slice sa ls.length sc]] W (SmallOk W p)) := Lib.hid (fun W hW => small_any p hfit.o hfit.s sa sc ls ((hsub.kept0 HKR.out).kept0 hW) hfit.subs hfit.len)
        have HTX : Hid (∀ W sv sl, Kept (fun _ => False) wr W → SubsD W sv sl → (∀ k ∈ sl, k.Fits) → sl.length ≤ 6 → Calls Try.prog 37 #[.pointer (some ⟨b, 0, none⟩), .agg #[.int .i64 p.a, .int .i64 p.b, .int .i64 p.c, .string (cut100 p.s), sv], .int .i64 (IntKind.i64.wrap (fr + (n : Int)))] W (TxnPost W R)) := Lib.hid (fun W sv sl hW hs hf hl => by
          obtain ⟨a2, c2, rfl, _⟩ := hs.ex
          exact txn_any (HR.out.kept0 hW) HI.out (by omega) _ (cutO p) (cutO_fits hfit.o) a2 c2 sl hs hf hl)
        obtain ⟨s9, hs9⟩ : ∃ s, absN p.b % 9 = s := ⟨_, rfl⟩
        have HPK : Hid (∀ W, Calls Try.prog 13 #[.int .i64 p.b, .int .i64 9] W fun e w' => e = .returned (.int .i64 s9) ∧ W = w') := Lib.hid (fun W => tpick_nat p.b 9 W hfit.o.b.1 hfit.o.b.2 (by decide) (by decide) hs9)
        have HSZW : Hid (w.heap.size ≤ wr.heap.size) := Lib.hid HKR.out.size
        have KS : Hid (∀ W, Kept (fun k => w.heap.size ≤ k) wr W → W.cell? ⟨g, off + i * 5 + 1, none⟩ = some (.int .i64 p.b) ∧ W.cell? ⟨g, off + i * 5, none⟩ = some (.int .i64 p.a) ∧ W.cell? ⟨g, off + i * 5 + 2, none⟩ = some (.int .i64 p.c) ∧ W.cell? ⟨g, off + i * 5 + 3, none⟩ = some (.string p.s) ∧ W.cell? ⟨g, off + i * 5 + 4, none⟩ = some (.slice sa ls.length sc)) := Lib.hid (fun W hW => by
          have kc : ∀ o, W.cell? ⟨g, o, none⟩ = w.cell? ⟨g, o, none⟩ := fun o => (World.cell?_of_block (w := wr) (hW.block g (Nat.lt_of_lt_of_le hg HSZW.out) (fun f => by have f : w.heap.size ≤ g := f; omega))).trans (World.cell?_of_block (w := w) (HKR.out.block g hg (fun f => f)))
          exact ⟨(kc _).trans (hc 1 _ rfl), (kc _).trans (hc 0 _ rfl), (kc _).trans (hc 2 _ rfl), (kc _).trans (hc 3 _ rfl), (kc _).trans (hc 4 _ rfl)⟩)
        have i0 : (0 : Int) ≤ (i : Int) := by omega
        have i1 : (i : Int) < (acts.length : Int) := by omega
        obtain ⟨y0, y1, y2, y3, y4⟩ := KS.out _ (Kept.refl _ wr)
        rw [hn]
        clear hc hsub hfit hs9 hA hn hzx hz1
        go_wp2_with fail
        go_cut [9] (fun v9 wx => ∃ (g : Nat) (x : T1) (y : TX) (l : List (T1 × TX)) (s : Int), v9 = .pointer (some ⟨g, 0, none⟩) ∧ wr.heap.size ≤ g ∧ wx.heap[g]? = some (entO ⟨zx, s, i⟩ x y) ∧ TxW wx x y l ∧ TxnOk R x (l.map (·.1)) ∧ Kept (fun _ => False) wr wx)
        case first =>
          go_region_held3 (fun W => W.cell? ⟨g, off + i * 5 + 1, none⟩ = some (.int .i64 p.b) ∧ W.cell? ⟨g, off + i * 5, none⟩ = some (.int .i64 p.a) ∧ W.cell? ⟨g, off + i * 5 + 2, none⟩ = some (.int .i64 p.c) ∧ W.cell? ⟨g, off + i * 5 + 3, none⟩ = some (.string p.s) ∧ W.cell? ⟨g, off + i * 5 + 4, none⟩ = some (.slice sa ls.length sc))
            (first
              | (refine KS.out _ ?_
                 repeat' first
                   | with_reducible assumption
                   | with_reducible exact Kept.refl _ wr
                   | with_reducible refine Kept.drew ?_
                   | with_reducible refine Kept.alloc ?_ _
                   | with_reducible refine Kept.thru ?_ (by with_reducible assumption)
                   | with_reducible refine Kept.chain11 ?_ ?_ _ _ _ _ _ _ _ _ _ _ _
                 all_goals first
                   | with_reducible exact HSZW.out
                   | (rw [World.heap_drew]; with_reducible exact HSZW.out)
                   | with_reducible exact Nat.le_trans HSZW.out hk2.size
                   | (have h9 := hk2.size; rw [World.heap_drew] at h9; with_reducible exact Nat.le_trans HSZW.out h9)))
            (first
              | (go_at_call 13; with_reducible refine (HPK.out _).mono ?_; rintro ee w2 ⟨rfl, rfl⟩)
              | (go_at_call 38
                 with_reducible refine (HSM.out _ ?_).mono ?_
                 · repeat' first
                     | with_reducible assumption
                     | with_reducible exact Kept.refl _ _
                     | with_reducible refine Kept.drew ?_
                     | with_reducible refine Kept.alloc ?_ _
                     | with_reducible refine Kept.thru ?_ (by with_reducible assumption)
                 rintro ee w2 ⟨sv2, sl, rfl, hsub2, hsf, hsl, hk2⟩
                 first
                   | with_reducible (have he2 := EntRow.kept0 (hk := hk2) (EntRow.new _ _ _ _ _ _ _ _ _ _ _ _))
                   | with_reducible (have he2 := EntRow.kept0 (hk := hk2) (EntRow.drew (EntRow.new _ _ _ _ _ _ _ _ _ _ _ _)))
                   | skip)
              | (go_at_call 37
                 with_reducible refine (HTX.out _ _ sl ?_ (SubsD.kept0 hsub2 ?_) hsf hsl).mono ?_
                 · repeat' first
                     | with_reducible assumption
                     | with_reducible exact Kept.refl _ _
                     | with_reducible refine Kept.drew ?_
                     | with_reducible refine Kept.alloc ?_ _
                     | with_reducible refine Kept.thru ?_ (by with_reducible assumption)
                 · repeat' first
                     | with_reducible assumption
                     | with_reducible exact Kept.refl _ _
                     | with_reducible refine Kept.drew ?_
                     | with_reducible refine Kept.alloc ?_ _
                     | with_reducible refine Kept.thru ?_ (by with_reducible assumption)
                 rintro ee w3 ⟨x, y, l, rfl, hx, hT, hk3⟩
                 unfold txnV txnL
                 first
                   | with_reducible (have he3 := EntRow.kept0 (hk := hk3) (EntRow.new _ _ _ _ _ _ _ _ _ _ _ _))
                   | with_reducible (have he3 := EntRow.kept0 (hk := hk3) (EntRow.drew (EntRow.new _ _ _ _ _ _ _ _ _ _ _ _)))
                   | (with_reducible (have he3 := EntRow.kept0 (hk := hk3) he2)
                      clear he2)
                   | skip)
              | (with_reducible refine upon_pass ?_; (try go_split_ands); obtain ⟨z0, z1, z2, z3, z4, z5, z6, z7, z8, z9, z10, e0, e1, e2, e3, e4, e5, e6, e7, e8, e9, e10, ef⟩ := EntRow.cells (by with_reducible assumption); go_simp)
              | fail)
          all_goals
            have hkk : Kept (fun _ => False) wr w3 := (by
            repeat' first
              | with_reducible assumption
              | with_reducible exact Kept.refl _ wr
              | with_reducible refine Kept.drew ?_
              | with_reducible refine Kept.alloc ?_ _
              | with_reducible refine Kept.thru ?_ (by with_reducible assumption))
          all_goals go_wp2_with fail
          all_goals go_meet
          all_goals rw [← HZ1.out]
          all_goals first
            | (obtain ⟨q1, q2, q3⟩ := hist_b (wr := wr) (e := ⟨IntKind.i64.wrap (fr + (n : Int)), s9, i⟩) hx hkk rfl
               exact ⟨_, x, y, l, s9, rfl, hkk.size, q1, q2, hT, q3⟩)
            | (obtain ⟨q1, q2, q3⟩ := hist_a (wr := wr) (g := wr.heap.size) (e := ⟨IntKind.i64.wrap (fr + (n : Int)), s9, i⟩) (Nat.le_refl _) he3 hx hkk rfl
               exact ⟨_, x, y, l, s9, rfl, Nat.le_refl _, q1, q2, hT, q3⟩)
            | (obtain ⟨q1, q2, q3⟩ := hist_a (wr := wr) (g := w2.heap.size) (e := ⟨IntKind.i64.wrap (fr + (n : Int)), s9, i⟩) hk2.size he3 hx hkk rfl
               exact ⟨_, x, y, l, s9, rfl, hk2.size, q1, q2, hT, q3⟩)
        case rest =>
          obtain ⟨g', x, y, l, s, rfl, hgw, hbe, hxw, hT, hk6⟩ := hcut
          have HK6 := Lib.hid hk6
          have HBE := Lib.hid hbe
          have HXW := Lib.hid hxw
          have HTO := Lib.hid hT
          have HRc := Lib.hid (HR.out.kept0 hk6)
          have HV : Hid (RV 100000000 R) := Lib.hid ((HI.out.rv (by omega)).mono (by decide))
          have HHc := Lib.hid (HH.out.kept0 hk6)
          have ec : ∀ (W : World), W.heap[g']? = some (entO ⟨zx, s, i⟩ x y) → ∀ j, W.cell? ⟨g', j, none⟩ = (heL ⟨⟨zx, s, i⟩, x, y, l⟩)[j]? := fun W hW j => by
            rw [cell_of_row W g' j _ _ (0, 0) hW, ← Array.getElem?_toList]; rfl
          have EC := Lib.hid ec
          have e0 := ec wc hbe 0
          have e1 := ec wc hbe 1
          have e2 := ec wc hbe 2
          have e3 := ec wc hbe 3
          have e4 := ec wc hbe 4
          have e5 := ec wc hbe 5
          have e6 := ec wc hbe 6
          have e7 := ec wc hbe 7
          have e8 := ec wc hbe 8
          have e9 := ec wc hbe 9
          have e10 := ec wc hbe 10
          simp only [heL, List.getElem?_cons_zero, List.getElem?_cons_succ] at e0 e1 e2 e3 e4 e5 e6 e7 e8 e9 e10
          obtain ⟨sb, hsb⟩ : ∃ sb, soundB R x (l.map (·.1)) zx = sb := ⟨_, rfl⟩
          have HSD : Hid (Calls Try.prog 39 #[.pointer (some ⟨b, 0, none⟩), entV ⟨zx, s, i⟩ x y] wc (QPost sb wc)) := Lib.hid (by
            rw [← hsb]
            exact rsound_any HRc.out ⟨zx, s, i⟩ x y l HXW.out HV.out)
          have HSB := Lib.hid hsb
          unfold entV at HSD
          clear hsb ec hbe hxw hT hk6
          go_wp2_with fail
          refine HSD.out.mono ?_
          rintro e w7 ⟨rfl, hk7⟩
          have HK7 := Lib.hid (HK6.out.trans hk7)
          have HBE7 := Lib.hid (box_kept0 HBE.out hk7)
          have HX7 := Lib.hid (HXW.out.kept0 hk7)
          have HR7 := Lib.hid (HRc.out.kept0 hk7)
          have HH7 := Lib.hid (HHc.out.kept0 hk7)
          have HB7 : Hid (∀ j, RBs w7 b j → w.heap.size ≤ j) := Lib.hid (fun j hj => HBS.out j ((rbs_kept HK7.out HR.out.ltb (fun f => f) j).1 hj))
          clear e0 e1 e2 e3 e4 e5 e6 e7 e8 e9 e10 hk7
          obtain ⟨L, nv, ssv, hD⟩ := HR7.out
          obtain ⟨na, ncap, rfl, hcap, hnode⟩ := hD.node
          obtain ⟨r0, r1, r2, rf⟩ := hD.cells
          have e0 := EC.out w7 HBE7.out 0
          have e1 := EC.out w7 HBE7.out 1
          have e2 := EC.out w7 HBE7.out 2
          have e3 := EC.out w7 HBE7.out 3
          have e4 := EC.out w7 HBE7.out 4
          have e5 := EC.out w7 HBE7.out 5
          have e6 := EC.out w7 HBE7.out 6
          have e7 := EC.out w7 HBE7.out 7
          have e8 := EC.out w7 HBE7.out 8
          have e9 := EC.out w7 HBE7.out 9
          have e10 := EC.out w7 HBE7.out 10
          simp only [heL, List.getElem?_cons_zero, List.getElem?_cons_succ] at e0 e1 e2 e3 e4 e5 e6 e7 e8 e9 e10
          have HAP := Lib.hid (rapply_any HR7.out ⟨zx, s, i⟩ x y l HX7.out HV.out)
          unfold entV at HAP
          have HSK : Hid (∀ iv, iv = .int .i64 ((i + 1 : Nat) : Int) → HiRel w b acts.length fr (.slice av n cv) iv w7) := Lib.hid (fun iv hiv => HN.out ▸ hist_skip HH7.out hHl HHI.out HI.out g1 g2 HR7.out (fun j hj => HB7.out j hj) (HKR.out.trans HK7.out) hiv)
          clear hD hnode hcap r1 r2 rf
          cases sb
          all_goals go_wp2_with fail
          all_goals first
            | exact ⟨HSK.out _ (by go_num), by show acts.length - ((i : Int) + 1).toNat < acts.length - (i : Int).toNat; omega⟩
            | (refine HAP.out.mono ?_
               rintro e w8 ⟨va, vm, rfl, hR8, hS8⟩
               have HS8 := Lib.hid hS8
               have HR8 := Lib.hid hR8
               have hb8 : w8.heap[g']? = some (entO ⟨zx, s, i⟩ x y) := (hS8.kept.block g' (lt_of_block HBE7.out) (HR7.out.other HBE7.out (by decide) (by decide) (by decide))).trans HBE7.out
               have HO8 : Hid (w8.ownsRow w.heap.size 40 11 (.slice av n cv) n (heC H)) := Lib.hid (HN.out ▸ (HH7.out.step HR7.out hS8).own)
               have HB9 : Hid (w.heap.size ≤ w8.heap.size) := Lib.hid (Nat.le_trans (HKR.out.trans HK7.out).size hS8.kept.size)
               have hni : n ≤ i := HN.out ▸ hHl
               clear e0 e1 e2 e3 e4 e5 e6 e7 e8 e9 e10 r0 HAP HSK hR8 hS8
               have e0 := EC.out w8 hb8 0
               have e1 := EC.out w8 hb8 1
               have e2 := EC.out w8 hb8 2
               have e3 := EC.out w8 hb8 3
               have e4 := EC.out w8 hb8 4
               have e5 := EC.out w8 hb8 5
               have e6 := EC.out w8 hb8 6
               have e7 := EC.out w8 hb8 7
               have e8 := EC.out w8 hb8 8
               have e9 := EC.out w8 hb8 9
               have e10 := EC.out w8 hb8 10
               simp only [heL, List.getElem?_cons_zero, List.getElem?_cons_succ] at e0 e1 e2 e3 e4 e5 e6 e7 e8 e9 e10
               clear hb8
               go_wp2_with (at_builtin; refine wpList_row1 ents_row rfl _ _ rfl rfl HO8.out (heL ⟨⟨zx, s, i⟩, x, y, l⟩) rfl rfl (heL_one _) (by omega) (by unfold maxLen; omega) HB9.out ?_; intro v9 w9 hown9 hg9)
               have HNX : HiRel w b acts.length fr v9 (.int .i64 ((i : Int) + 1)) w9 := by
                 have hN := HN.out
                 subst hN
                 exact hist_next HH7.out hHl HHI.out HI.out HZX.out HTO.out HSB.out g1 g2 HX7.out HR7.out HB7.out (HKR.out.trans HK7.out) HR8.out HS8.out hown9 hg9 (by go_num)
               exact ⟨HNX, by show acts.length - ((i : Int) + 1).toNat < acts.length - (i : Int).toNat; omega⟩)
      · go_wp2_with fail
        go_ret2
        exact HEND.out
    · go_wp2_with fail
      go_ret2
      exact HEND.out
end Go.Proofs.Ytjlffmkiiphfcaa
