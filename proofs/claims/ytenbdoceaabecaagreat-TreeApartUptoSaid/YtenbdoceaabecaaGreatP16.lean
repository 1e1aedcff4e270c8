/- Apply, of every kind. Entries that came in are applied to trees that were made behind them. Ten digits; path.Numbered and the document's own. The document's own Parent, Base, Kid, Under. -/
import Derived.Test.YtenbdoceaabecaaGreatP14
import Derived.BigQuiet
import Derived.Deep.QuietTactic
import Derived.Test.YtenbdoceaabecaaGreatP15
import Derived.Test.YtenbdoceaabecaaGreatP02
import Derived.Lib.LaidTab
import Derived.Sort.Grow
import Derived.Laws.IdiomStrings
import Derived.Laws.MakeOwn
namespace Go.Proofs.YtenbdoceaabecaaGreat
open Go.ChangeShapes Go.WideShapes Go.ChangeAt Go.RowKit Go.Maps
set_option linter.unusedVariables false
set_option linter.unusedSimpArgs false
section
variable {Z : Nat → Prop} {w w' : World} {q : TB} {M : TM} {c : Nat} {D E : DV} {y : TX} {l : List (T1 × TX)}
set_option maxRecDepth 100000 in
set_option maxHeartbeats 1000000 in
theorem apply_any (h : TAt Z w q M c) (x : T1) (y : TX) (e : EX) (hx : TxP q w x y l) (hc : c + 2 * l.length < 4611686018427387000) :
    Calls Tryz.prog 15 #[.pointer (some ⟨q.t, 0, none⟩), entV e x y] w (ApplyPost Z q (c + 2 * l.length + 2) w (applyM M ⟨x, y.err, l.map Prod.fst⟩ e.zx)) := by
  have hk0 : Kept (fun _ => False) w (w.alloc (entO e x y)) := (Kept.refl _ w).alloc _
  have HK0 := Lib.hid hk0
  have HQ := Lib.hid (h.lt _ (.inl rfl))
  have HNB : Hid (¬ TBs q w.heap.size) := Lib.hid (fun e => Nat.lt_irrefl _ (h.lt _ e))
  have HB0 : Hid ((w.alloc (entO e x y)).heap[w.heap.size]? = some (entO e x y)) := Lib.hid (heap_alloc_new w _)
  have HP := Lib.hid (do_any (h.kept0 hk0) x y e.zx (hx.kept0 hk0) hc)
  obtain ⟨r, hr⟩ : ∃ r, doM M ⟨x, y.err, l.map Prod.fst⟩ e.zx = r := ⟨_, rfl⟩
  rw [hr] at HP
  obtain ⟨R, hR⟩ : ∃ R, applyM M ⟨x, y.err, l.map Prod.fst⟩ e.zx = R := ⟨_, rfl⟩
  rw [hR]
  unfold applyM at hR
  rw [hr] at hR
  have HR := Lib.hid hR
  clear h hk0 hx hr hR
  unfold txnV txnL at *
  unfold entV at *
  by_cases h8 : x.kind = 8
  · have HR8 : Hid (R = ({ r.1 with z := e.zx }, [], y.err)) := Lib.hid (by rw [← HR.out]; exact if_pos h8)
    obtain ⟨xk, xp, xd, xl, xo, xn⟩ := x
    simp only at h8
    subst h8
    go_enter Tryz.func15, Tryz.ntmps15
    go_wp2_with fail
    refine HP.out.mono ?_
    rintro e1 w1 hP
    obtain ⟨v, rfl, hv, ht, hk⟩ := hP
    have HT := Lib.hid (ht.setZ e.zx)
    have e0 : w1.cell? ⟨w.heap.size, 0, none⟩ = some (.int .i64 e.zx) := cell_kept hk HB0.out HNB.out 0 rfl
    have e3 : w1.cell? ⟨w.heap.size, 3, none⟩ = some (.int .i64 8) := cell_kept hk HB0.out HNB.out 3 rfl
    have e9 : w1.cell? ⟨w.heap.size, 9, none⟩ = some (.int .i64 y.err) := cell_kept hk HB0.out HNB.out 9 rfl
    have HK := Lib.hid ((HK0.out.mono (T := TBs q) (fun _ _ f => f.elim)).trans hk)
    obtain ⟨D, E, hD⟩ := ht
    obtain ⟨c0, c1, c2, f⟩ := hD.three
    have f2 := f 2
    have HN : Hid (¬ w.heap.size = q.t) := Lib.hid (fun e => HNB.out (.inl e))
    have HN' : Hid (¬ q.t = w.heap.size) := Lib.hid (fun e => HNB.out (.inl e.symm))
    have hne := HN.out
    have hne' := HN'.out
    clear hv hk hD f
    have hks : Kept (TBs q) w (w1.setCell ⟨q.t, 2, none⟩ (.int .i64 e.zx)) := HK.out.setCell (a := ⟨q.t, 2, none⟩) (.inl (.inl rfl)) _
    have HKS := Lib.hid hks
    clear hks
    go_wp2_with fail
    go_quiet (fail)
    go_wp2_with fail
    go_ret2
    rw [HR8.out]
    exact ⟨_, rfl, World.ownsRow_nil _ _ _ _, HT.out.kept0 (Kept.drewN (Kept.refl _ _) _), HKS.out.drewN _⟩
  · have HR8 : Hid (R = ({ r.1 with z := e.zx }, r.2, 0)) := Lib.hid (by rw [← HR.out]; exact if_neg h8)
    have b8 : (x.kind == 8) = false := by simpa using h8
    clear h8
    go_enter Tryz.func15, Tryz.ntmps15
    go_wp2_with fail
    refine HP.out.mono ?_
    rintro e1 w1 hP
    obtain ⟨v, rfl, hv, ht, hk⟩ := hP
    have HV := Lib.hid (hv.mono (B' := w.heap.size) (by simp))
    have HT := Lib.hid (ht.setZ e.zx)
    have e0 : w1.cell? ⟨w.heap.size, 0, none⟩ = some (.int .i64 e.zx) := cell_kept hk HB0.out HNB.out 0 rfl
    have e3 : w1.cell? ⟨w.heap.size, 3, none⟩ = some (.int .i64 x.kind) := cell_kept hk HB0.out HNB.out 3 rfl
    have HK := Lib.hid ((HK0.out.mono (T := TBs q) (fun _ _ f => f.elim)).trans hk)
    obtain ⟨D, E, hD⟩ := ht
    obtain ⟨c0, c1, c2, f⟩ := hD.three
    have f2 := f 2
    have HN : Hid (¬ w.heap.size = q.t) := Lib.hid (fun e => HNB.out (.inl e))
    have HN' : Hid (¬ q.t = w.heap.size) := Lib.hid (fun e => HNB.out (.inl e.symm))
    have hne := HN.out
    have hne' := HN'.out
    clear hv hk hD f
    go_wp2_with fail
    go_ret2
    have hks : Kept (TBs q) w (w1.setCell ⟨q.t, 2, none⟩ (.int .i64 e.zx)) := HK.out.setCell (a := ⟨q.t, 2, none⟩) (.inl (.inl rfl)) _
    rw [HR8.out]
    exact ⟨v, rfl, ownKept HV.out (kept_set w1 q.t 2 _) (evs_ne HV.out HQ.out), HT.out, hks⟩
end
end Go.Proofs.YtenbdoceaabecaaGreat

namespace Go.Proofs.YtenbdoceaabecaaGreat
open Go.ChangeShapes Go.WideShapes Go.ChangeAt Go.RowKit
set_option linter.unusedVariables false
set_option linter.unusedSimpArgs false
section
variable {Z : Nat → Prop} {w w1 : World} {q : TB} {M : TM} {c : Nat}
theorem TxIn1.at_ {x : T1} {y : TX} (h : TxIn1 w x y) (hk : Kept (fun _ => False) w w1) (hq : ∀ k, TBs q k → w.heap.size ≤ k) : TxAt q w1 x y :=
  ⟨h.acl.kept hk (fun _ _ _ _ f => f), fun a e => (h.blk a e).imp id (fun hl hb => by have := hq _ hb; omega)⟩
theorem TxIn.txp {x : T1} {y : TX} {l : List (T1 × TX)} (h : TxIn w x y l) (hk : Kept (fun _ => False) w w1) (hq : ∀ k, TBs q k → w.heap.size ≤ k) : TxP q w1 x y l := by
  refine ⟨h.one.at_ hk hq, ⟨h.len, h.few, fun p hp => ⟨(h.subs p hp).at_ hk hq, Nat.le_trans (h.subs p hp).path (by decide)⟩, fun i p hi => ?_⟩, Nat.le_trans h.one.path (by decide), h.one.owner⟩
  obtain ⟨g, off, ha, hg, hc⟩ := h.at_ i p hi
  exact ⟨g, off, ha, Nat.lt_of_lt_of_le hg hk.size, fun e => by have := hq _ e; omega, fun j u hu => by rw [World.cell?_of_block (w := w) (hk.block g hg (fun f => f))]; exact hc j u hu⟩
/-- an entry that came in is applied -/
theorem raw_apply (h : TAt Z w1 q M c) {x : T1} {y : TX} {l : List (T1 × TX)} (hx : TxIn w x y l) (hk : Kept (fun _ => False) w w1) (hq : ∀ k, TBs q k → w.heap.size ≤ k) (e : EX) (hc : c < 4000000000000000000) :
    Calls Tryz.prog 15 #[.pointer (some ⟨q.t, 0, none⟩), entV e x y] w1 (ApplyPost Z q (c + 4000000000002) w1 (applyM M ⟨x, y.err, l.map Prod.fst⟩ e.zx)) := by
  have hl := hx.few
  refine (apply_any h x y e (hx.txp hk hq) (by omega)).mono ?_
  rintro e' w' ⟨v, he, hv, ht, hk'⟩
  exact ⟨v, he, hv, ht.mono (by omega), hk'⟩
/-- an entry's cells, wherever the world is by now -/
theorem EntsIn.cells {a : Option Addr} {l : List (EX × T1 × TX × List (T1 × TX))} (h : EntsIn w a l) (hk : Kept (fun _ => False) w w1) {i : Nat} {p : EX × T1 × TX × List (T1 × TX)} (hp : l[i]? = some p) : ∃ g off, a = some ⟨g, off, none⟩ ∧ ∀ j u, (entC1 p.1 p.2.1 p.2.2.1)[j]? = some u → w1.cell? ⟨g, off + i * 11 + j, none⟩ = some u := by
  obtain ⟨g, off, ha, hg, hc⟩ := h.at_ i p hp
  exact ⟨g, off, ha, fun j u hu => by rw [World.cell?_of_block (w := w) (hk.block g hg (fun f => f))]; exact hc j u hu⟩
end
end Go.Proofs.YtenbdoceaabecaaGreat

namespace Go.Proofs.YtenbdoceaabecaaGreat
open Go.Sort Go.ChangeShapes Go.WideShapes Go.ChangeAt Go.RowKit
set_option linter.unusedVariables false
set_option linter.unusedSimpArgs false

def digs (n : Nat) : List UInt8 := (List.range 10).map fun t => Lib.dg n (9 - t)

theorem digs_mod (n : Nat) : digs (n % 10000000000) = digs n := by
  simp only [digs, List.range, List.range.loop, List.map_cons, List.map_nil, Lib.dg, Nat.sub_zero, Nat.reduceSub, Nat.reducePow]
  have h (a b : Nat) (h : a = b) : UInt8.ofNat (48 + a) = UInt8.ofNat (48 + b) := by rw [h]
  congr 1
  · apply h; omega
  congr 1
  · apply h; omega
  congr 1
  · apply h; omega
  congr 1
  · apply h; omega
  congr 1
  · apply h; omega
  congr 1
  · apply h; omega
  congr 1
  · apply h; omega
  congr 1
  · apply h; omega
  congr 1
  · apply h; omega
  congr 1
  · apply h; omega

theorem repeatL_get (c : Nat) : Lib.repeatL [48] c = List.replicate c 48 := by
  induction c with
  | zero => rfl
  | succ c ih => rw [Lib.repeatL, ih]; rfl

theorem nDigits_le {n : Nat} (h : n < 10000000000) : Lib.nDigits n ≤ 10 := by
  rcases Nat.lt_or_ge 10 (Lib.nDigits n) with hk | hk
  · exfalso
    have e : Lib.nDigits n = (Lib.nDigits n - 1) + 1 := by omega
    by_cases h10 : n < 10
    · rw [Lib.nDigits_small h10] at hk; omega
    · have hpos : ∀ (k u : Nat), Lib.nDigits u = k + 1 → 10 ^ k ≤ u ∨ k = 0 := by
        intro k
        induction k with
        | zero => intro u _; exact .inr rfl
        | succ k ih =>
          intro u hu
          have hb : ¬ u < 10 := fun h => by rw [Lib.nDigits_small h] at hu; omega
          rw [Lib.nDigits_big hb] at hu
          rcases ih (u / 10) (by omega) with h | h
          · left; rw [Nat.pow_succ]; omega
          · subst h; left; omega
      rcases hpos _ n e with h1 | h1
      · have : 10 ^ 10 ≤ 10 ^ (Lib.nDigits n - 1) := Nat.pow_le_pow_right (by decide) (by omega)
        omega
      · omega
  · exact hk

theorem decDigits_len (n : Nat) : (Lib.decDigits n).length = Lib.nDigits n := by
  rw [Lib.decDigits_eq]; simp

/-- noughts ahead: ten digits -/
theorem digs_pad {n : Nat} (h : n < 10000000000) : Lib.repeatL [48] (10 - (Lib.decDigits n).length) ++ Lib.decDigits n = digs n := by
  have hk := nDigits_le h
  have hlt := Lib.lt_pow_nDigits n
  rw [decDigits_len, repeatL_get, Lib.decDigits_eq, digs]
  generalize Lib.nDigits n = k at hk hlt
  apply List.ext_getElem
  · simp; omega
  · intro i h1 h2
    simp only [List.length_map, List.length_range] at h2
    simp only [List.getElem_map, List.getElem_range]
    by_cases hi : i < 10 - k
    · rw [List.getElem_append_left (by simpa using hi)]
      simp only [List.getElem_replicate]
      have : n / 10 ^ (9 - i) = 0 := by
        apply Nat.div_eq_of_lt
        exact Nat.lt_of_lt_of_le hlt (Nat.pow_le_pow_right (by decide) (by omega))
      simp [Lib.dg, this]
    · rw [List.getElem_append_right (by simpa using hi)]
      simp only [List.length_replicate, List.getElem_map, List.getElem_range]
      congr 1; omega

theorem digs_length (n : Nat) : (digs n).length = 10 := by simp [digs]

def numS (p : ByteArray) (n : Nat) : ByteArray := p ++ ⟨(digs n).toArray⟩

abbrev TabOk (w : World) : Prop := Lib.TabIs Tryz.prog w "internal/strconv.uint64pow10" .u64 Lib.pow10Tab

theorem tab_below {w w' : World} (h : TabOk w) (hb : Below w.heap.size w w') : TabOk w' := by
  unfold TabOk Lib.TabIs World.var? at h ⊢
  generalize Tryz.prog.globalNamed "internal/strconv.uint64pow10" = og at h ⊢
  cases og with
  | none => simp at h
  | some g =>
    simp only [Option.bind_some] at h ⊢
    by_cases hg : g < w.heap.size
    · rw [hb.block g hg]; exact h
    · rw [Array.getElem?_eq_none (by omega)] at h; simp at h

set_option maxHeartbeats 400000 in
theorem refSlash_any (s : ByteArray) (w : World) (hs : s.size ≤ 140737488355328) :
    Calls Tryz.prog 109 #[.string s] w fun e w' => e = .returned (.int .i64 (lastS s)) ∧ w = w' := by
  have HL : Hid (lastS s = Lib.lastIdx s 47 s.size) := Lib.hid rfl
  generalize lastS s = L at HL
  go_enter Tryz.func109, Tryz.ntmps109
  go_wp2
  go_loop [3] (fun i => ∃ k : Int, -1 ≤ k ∧ k < s.size ∧ i = .int .i64 k ∧ L = Lib.lastIdx s 47 (k + 1).toNat) (fun i => (intOf i + 1).toNat)
  case atStart => exact ⟨(s.size : Int) - 1, by omega, by omega, rfl, by rw [HL.out]; congr 1; omega⟩
  case round =>
    obtain ⟨k, hk1, hk2, rfl, hk⟩ := hrel
    have HK := Lib.hid hk; clear hk
    by_cases h0 : 0 ≤ k
    · obtain ⟨j, rfl⟩ := Int.eq_ofNat_of_zero_le h0
      have hj : j < s.size := by omega
      have hg : s.data[j]! = s[j] := Go.Proofs.LastIndex.byteBang s j hj
      have HI : Hid (L = if (s[j].toNat : Int) = 47 then (j : Int) else Lib.lastIdx s 47 j) := Lib.hid (by
        rw [HK.out, show ((j : Int) + 1).toNat = j + 1 by omega]
        rw [Lib.lastIdx, hg])
      clear hg
      by_cases h47 : s[j].toNat = 47
      · have HF : Hid (L = (j : Int)) := Lib.hid (by rw [HI.out, if_pos (by omega)])
        have e : s[j].toNat = 47 := h47
        clear h47
        have h1 : ((s[j].toNat : Int) == 47) = true := by rw [e]; rfl
        go_wp2
        go_ret
        exact ⟨ret_int HF.out.symm, rfl⟩
      · have HF : Hid (L = Lib.lastIdx s 47 j) := Lib.hid (by rw [HI.out, if_neg (by omega)])
        have h1 : ((s[j].toNat : Int) == 47) = false := by simp; omega
        clear h47
        go_wp2
        go_round
        case rel => exact ⟨(j : Int) - 1, by omega, by omega, rfl, by rw [HF.out]; congr 1; omega⟩
        case measure => simp [intOf]
    · obtain rfl : k = -1 := by omega
      have HF : Hid (L = -1) := Lib.hid (by rw [HK.out]; rfl)
      go_wp2
      go_ret
      exact ⟨ret_int HF.out.symm, rfl⟩

theorem below_grow (w : World) (k : Nat) (os : Array Obj) : Below w.heap.size w (grow (w.drewN k) os) := by
  refine Below.trans (b := w.drewN k) (by induction k with
    | zero => exact Below.refl _ _
    | succ k ih => exact ih.drew) ⟨rfl, rfl, rfl, ?_, ?_⟩
  · simp [grow]
  · intro i hi
    simp only [grow]
    rw [Array.getElem?_append_left (by simpa using hi)]

def cellsAt (N j : Nat) : Array Value := ((List.range 10).map fun t => if 9 - t < j then Value.int .u8 ((Lib.dg N (9 - t)).toNat : Int) else .int .u8 0).toArray

theorem info_u8 : (Tryz.prog.info? 5).map (fun i => (i.zero, i.size, i.bytes)) = some (some (.int .u8 0), 1, 1) := by kernel_rfl

theorem dig_val {N j m : Nat} (h : N / 10 ^ j = m) : 48 + (m : Int) % 10 = ((Lib.dg N j).toNat : Int) := by
  have e : Lib.dg N j = UInt8.ofNat (48 + m % 10) := by rw [Lib.dg, h]
  have e2 : (UInt8.ofNat (48 + m % 10)).toNat = 48 + m % 10 := by
    rw [UInt8.toNat_ofNat']; omega
  rw [e, e2]; omega
theorem next_val {N j m : Nat} (h : N / 10 ^ j = m) : (m : Int) / 10 = ((N / 10 ^ (j + 1) : Nat) : Int) := by
  rw [Nat.pow_succ, ← Nat.div_div_eq_div_mul, h]; rfl

/-- how far the digits are laid -/
structure NumRel (N : Nat) (w : World) (nv iv : Value) (w' : World) : Prop where
  ex : ∃ j : Nat, j ≤ 10 ∧ iv = .int .i64 (9 - (j : Int)) ∧ nv = .int .i64 ((N / 10 ^ j : Nat) : Int) ∧ w' = w.alloc (.cells (cellsAt N j) 5)

end Go.Proofs.YtenbdoceaabecaaGreat

namespace Go.Proofs.YtenbdoceaabecaaGreat
open Go.ChangeShapes Go.WideShapes Go.ChangeAt Go.RowKit
set_option linter.unusedVariables false
set_option linter.unusedSimpArgs false

set_option maxHeartbeats 400000 in
theorem refParent_any (s : ByteArray) (w : World) (hs : s.size ≤ 140737488355328) :
    Calls Tryz.prog 82 #[.string s] w fun e w' => e = .returned (.string (parS s)) ∧ w = w' := by
  have hb := lastS_bd s
  have HP : Hid (parS s = if lastS s = 0 ∧ s ≠ slashS then slashS else s.extract 0 (lastS s).toNat) := Lib.hid rfl
  have HL : Hid (lastS s = lastS s) := Lib.hid rfl
  obtain ⟨k, hk⟩ : ∃ k, lastS s = k := ⟨_, rfl⟩
  have HK := Lib.hid hk
  rw [hk] at HP hb
  clear hk
  by_cases hneg : k < 0
  · have HF : Hid (parS s = ByteArray.empty) := Lib.hid (by
      rw [HP.out, if_neg (by omega), show k.toNat = 0 by omega]; exact ByteArray.ext (by simp))
    go_enter Tryz.func82, Tryz.ntmps82
    go_wp2_with fail
    refine (refSlash_any s _ hs).mono ?_
    rintro e w' ⟨rfl, rfl⟩
    rw [HK.out]
    go_wp2_with fail
    go_ret
    exact ⟨ret_val (congrArg Value.string HF.out.symm), rfl⟩
  · by_cases h : s.data.toList = [47]
    · have HF : Hid (parS s = ByteArray.empty) := Lib.hid (by
        have hk : k = 0 := by
          have : s.size = 1 := by rw [← size_toList, h]; rfl
          omega
        rw [HP.out, if_neg (by simp [slash_iff, h]), hk]; exact ByteArray.ext (by simp))
      have h1 : (s.toList == [47]) = true := by rw [eqSlash]; simpa using h
      clear h
      go_enter Tryz.func82, Tryz.ntmps82
      go_wp2_with fail
      refine (refSlash_any s _ hs).mono ?_
      rintro e w' ⟨rfl, rfl⟩
      rw [HK.out]
      go_wp2_with fail
      go_ret
      exact ⟨ret_val (congrArg Value.string HF.out.symm), rfl⟩
    · have h1 : (s.toList == [47]) = false := by rw [eqSlash]; simpa using h
      by_cases h0 : k = 0
      · have HF : Hid (parS s = slashS) := Lib.hid (by rw [HP.out, if_pos ⟨h0, by simp [slash_iff, h]⟩])
        subst h0
        clear h
        go_enter Tryz.func82, Tryz.ntmps82
        go_wp2_with fail
        refine (refSlash_any s _ hs).mono ?_
        rintro e w' ⟨rfl, rfl⟩
        rw [HK.out]
        go_wp2_with fail
        go_ret
        exact ⟨ret_val (congrArg Value.string HF.out.symm), rfl⟩
      · have HF : Hid (parS s = s.extract 0 k.toNat) := Lib.hid (by rw [HP.out, if_neg (by simp [h0])])
        have h2 : (k == 0) = false := by simpa using h0
        clear h h0
        go_enter Tryz.func82, Tryz.ntmps82
        go_wp2_with fail
        refine (refSlash_any s _ hs).mono ?_
        rintro e w' ⟨rfl, rfl⟩
        rw [HK.out]
        go_wp2_with fail
        go_ret
        exact ⟨ret_val (congrArg Value.string HF.out.symm), rfl⟩

set_option maxHeartbeats 400000 in
theorem refBase_any (s : ByteArray) (w : World) (hs : s.size ≤ 140737488355328) :
    Calls Tryz.prog 83 #[.string s] w fun e w' => e = .returned (.string (baseS s)) ∧ w = w' := by
  have hb := lastS_bd s
  have HP : Hid (baseS s = s.extract (lastS s + 1).toNat s.size) := Lib.hid rfl
  obtain ⟨k, hk⟩ : ∃ k, lastS s = k := ⟨_, rfl⟩
  have HK := Lib.hid hk
  rw [hk] at HP hb
  clear hk
  go_enter Tryz.func83, Tryz.ntmps83
  go_wp2_with fail
  refine (refSlash_any s _ hs).mono ?_
  rintro e w' ⟨rfl, rfl⟩
  rw [HK.out]
  go_wp2_with fail
  go_ret
  exact ⟨ret_val (congrArg Value.string HP.out.symm), rfl⟩

set_option maxHeartbeats 400000 in
theorem refKid_any (p n : ByteArray) (w : World) (hp : p.size ≤ 140737488355328) (hn : n.size ≤ 140737488355328) :
    Calls Tryz.prog 126 #[.string p, .string n] w fun e w' => e = .returned (.string (kidS p n)) ∧ w = w' := by
  have H1 : Hid (∀ (h : (p.toList == [47]) = true), kidS p n = p ++ n) := Lib.hid fun h => by rw [kidS, if_pos (isSlash h)]
  have H2 : Hid (∀ (h : (p.toList == [47]) = false), kidS p n = p ++ slashS ++ n) := Lib.hid fun h => by rw [kidS, if_neg (neSlash h)]
  go_enter Tryz.func126, Tryz.ntmps126
  go_wp2
  · go_ret
    exact ⟨ret_val (congrArg Value.string (H1.out ‹_›).symm), rfl⟩
  · go_ret
    exact ⟨ret_val (congrArg Value.string (H2.out ‹_›).symm), rfl⟩

theorem prefix_take (p t : ByteArray) : ((p.extract 0 t.size).toList == t.toList) = Lib.hasPrefix p.data.toList t.data.toList := by
  have e : (p.extract 0 t.size).data.toList = p.data.toList.take t.data.toList.length := by
    rw [Lib.extract_data]; simp
  rw [Lib.toList_data, Lib.toList_data, e, Bool.eq_iff_iff, Lib.hasPrefix, List.isPrefixOf_iff_prefix, beq_iff_eq]
  constructor
  · intro h
    rw [← h]
    exact List.take_prefix _ _
  · intro h
    exact (List.prefix_iff_eq_take.1 h).symm

set_option maxHeartbeats 400000 in
theorem refUnder_any (p q : ByteArray) (w : World) (hp : p.size ≤ 140737488355328) (hq : q.size ≤ 140737488355328) :
    Calls Tryz.prog 123 #[.string p, .string q] w fun e w' => e = .returned (.bool (underS p q)) ∧ w = w' := by
  have hk := kidS_size q ⟨#[]⟩
  have HU : Hid (underS p q = (decide ((kidS q ⟨#[]⟩).size < p.size) && Lib.hasPrefix p.data.toList (kidS q ⟨#[]⟩).data.toList)) := Lib.hid rfl
  have hz : (ByteArray.mk #[]).size = 0 := rfl
  obtain ⟨t, ht⟩ : ∃ t, kidS q ⟨#[]⟩ = t := ⟨_, rfl⟩
  have HK := Lib.hid ht
  rw [ht] at hk HU
  have hk2 : t.size ≤ 140737488355330 := by omega
  clear ht hz
  by_cases hlt : t.size < p.size
  · have HT := Lib.hid (prefix_take p t)
    go_enter Tryz.func123, Tryz.ntmps123
    go_wp2_with fail
    refine (refKid_any q ⟨#[]⟩ _ hq (by decide)).mono ?_
    rintro e w' ⟨rfl, rfl⟩
    rw [HK.out]
    go_wp2_with fail
    go_ret
    exact ⟨ret_bool (by rw [HU.out, HT.out]; simp [hlt]), rfl⟩
  · go_enter Tryz.func123, Tryz.ntmps123
    go_wp2_with fail
    refine (refKid_any q ⟨#[]⟩ _ hq (by decide)).mono ?_
    rintro e w' ⟨rfl, rfl⟩
    rw [HK.out]
    go_wp2_with fail
    go_ret
    exact ⟨ret_bool (by rw [HU.out]; simp [hlt]), rfl⟩
end Go.Proofs.YtenbdoceaabecaaGreat
