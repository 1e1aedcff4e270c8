/- The document's own answers of layer 2: what they take up, whole or wrong; lists of rows and of texts. The document's own answers of layer 2: a thing taken up field by field, in a block of its own. The document's own answers of layer 2: a list inside a thing, taken up element by element. The document's own answers of layer 2: part, taken up. The document's own answers of layer 2: a transaction, taken up. The document's own answers of layer 2: an entry, taken up. Lists of rows, laid. -/
import Derived.Test.YtpmemcpfoapjmaaGreatQ09
import Derived.Test.YtpmemcpfoapjmaaGreatQ04
import Derived.Test.YtpmemcpfoapjmaaGreatQ06
import Derived.Outline
import Derived.Test.YtpmemcpfoapjmaaGreatQ07
import Derived.Deep.DeepCutAuto
import Derived.WalkSpells
import Derived.StillTailTactics
import Derived.Test.YtpmemcpfoapjmaaGreatQ08
namespace Go.Proofs.YtpmemcpfoapjmaaGreat
open Go.ChangeShapes Go.WideShapes Go.ChangeAt Go.RowKit
set_option linter.unusedVariables false

/-- E, if nothing is wrong -/
def WkE {α : Type} (e : Nat) (E : CellsOf α) : CellsOf α := fun w ok cs x => e = 0 → E w ok cs x
theorem WkE_ok {α : Type} {e : Nat} {E : CellsOf α} (hE : E.Ok) : (WkE e E).Ok := ⟨fun h hk hd h0 => hE.keep (h h0) hk hd, fun h hm h0 => hE.mono (h h0) hm⟩

def FGPost {α : Type} (E : CellsOf α) (n : Nat) (nl : List Nat) (w : World) (b : Nat) (s : ByteArray) (x : α) (q e' : Nat) (en : Ending) (w' : World) : Prop :=
  ∃ cs p', en = .returned (.agg cs.toArray) ∧ Flat n cs ∧ (∀ i ∈ nl, cs[i]? = some (.slice none 0 0)) ∧ WkE e' E w' (New w) cs x ∧ FAt w' b s p' e' ∧ (e' = 0 → p' = q) ∧ Kept (RS b) w w'
def FLPost {α : Type} (E : CellsOf α) (sz : Nat) (w : World) (b : Nat) (s : ByteArray) (xs : List α) (q e' : Nat) (en : Ending) (w' : World) : Prop :=
  ∃ sv p', en = .returned sv ∧ IsSl sv ∧ (e' = 0 → ListR E w' (New w) sz sv xs) ∧ FAt w' b s p' e' ∧ (e' = 0 → p' = q) ∧ Kept (RS b) w w'

theorem AccR.weak {α : Type} {E : CellsOf α} {w0 w : World} {T : TypeId} {sz : Nat} {acc : Value} {ys : List α} {e e' : Nat} (h : AccR (WkE e E) w0 w T sz acc ys) (he : e' = 0 → e = 0) : AccR (WkE e' E) w0 w T sz acc ys := by
  obtain ⟨rows, h1, h2, h3, h4⟩ := h
  exact ⟨rows, h1, h2, h3, fun i hi hi' h0 => h4 i hi hi' (he h0)⟩
theorem AccR.isSl {α : Type} {E : CellsOf α} {w0 w : World} {T : TypeId} {sz : Nat} {acc : Value} {ys : List α} (h : AccR E w0 w T sz acc ys) : IsSl acc := by
  obtain ⟨rows, h1, _⟩ := h
  rcases h1.2 with ⟨rfl, _⟩ | ⟨g, cap, cur, rfl, _⟩
  · exact ⟨_, _, _, rfl⟩
  · exact ⟨_, _, _, rfl⟩
theorem ListR.weak {α : Type} {E : CellsOf α} {w : World} {ok : Nat → Prop} {sz : Nat} {v : Value} {l : List α} {e : Nat} (h : ListR (WkE e E) w ok sz v l) : e = 0 → ListR E w ok sz v l := by
  intro h0
  obtain ⟨rows, h1, h2, h3⟩ := h
  exact ⟨rows, h1, h2, fun i hi hi' => h3 i hi hi' h0⟩

/-- at the head of a loop that takes up n things -/
structure FGetRel {α : Type} (E : CellsOf α) (f : Fmt α) (w0 : World) (b : Nat) (s : ByteArray) (T : TypeId) (sz n p e : Nat) (acc iv : Value) (wr : World) : Prop where
  ex : ∃ k p', iv = .int .i64 (k : Nat) ∧ k ≤ n ∧ AccR (WkE (getN f.get k s.data.toList p e).2.2 E) w0 wr T sz acc (getN f.get k s.data.toList p e).1 ∧
    FAt wr b s p' (getN f.get k s.data.toList p e).2.2 ∧ ((getN f.get k s.data.toList p e).2.2 = 0 → p' = (getN f.get k s.data.toList p e).2.1) ∧ Kept (RS b) w0 wr

theorem getN_wrong {α : Type} {f : Fmt α} (hf : f.Ok) {k n : Nat} (hk : k ≤ n) {l : List UInt8} {p e : Nat} (h : (getN f.get k l p e).2.2 ≠ 0) : (getN f.get n l p e).2.2 = (getN f.get k l p e).2.2 := by
  obtain ⟨m, rfl⟩ : ∃ m, n = k + m := ⟨n - k, by omega⟩
  clear hk
  induction m with
  | zero => rfl
  | succ m ih =>
    rw [show k + (m + 1) = (k + m) + 1 from rfl, getN_snoc]
    dsimp only
    rw [hf.stays _ _ _ (by rw [ih]; exact h), ih]

theorem refcnt_any (w : World) (b : Nat) (s : ByteArray) (p pos e : Nat) (hF : FAt w b s p e) (hp : e = 0 → p = pos) {n q e' : Nat} (h : rCount s.data.toList 256 pos e = (n, q, e')) :
    Calls Tryz.prog 66 #[.pointer (some ⟨b, 0, none⟩)] w (FPost w b s (.int .i64 n) q e') := by
  have hc := fcount_any 256 w b s p pos e hF hp (by unfold I64; omega)
  rw [h] at hc
  have HC := Lib.hid hc; clear hc
  clear h hp
  go_enter Tryz.func66, Tryz.ntmps66
  go_wp2_with fail
  refine HC.out.mono ?_
  rintro en w1 ⟨p1, rfl, hF1, hp1, hk1⟩
  have HP := Lib.hid hp1; clear hp1
  go_wp2_with fail
  go_ret
  exact ⟨p1, rfl, hF1, HP.out, hk1⟩

set_option maxRecDepth 100000 in
set_option maxHeartbeats 800000 in
theorem reftake_acls (w : World) (b : Nat) (s : ByteArray) (p pos e : Nat) (hF : FAt w b s p e) (hp : e = 0 → p = pos) {xs : List Acl} {q e' : Nat} (h : (listF aclF).get s.data.toList pos e = (xs, q, e')) :
    Calls Tryz.prog 118 #[.pointer (some ⟨b, 0, none⟩)] w (FLPost aclE 2 w b s xs q e') := by
  obtain ⟨i0, hi, hz0, hz1, hz2⟩ := info_parts info_acl
  have hcl := rCount_le s.data.toList 256 pos e
  rcases h1 : rCount s.data.toList 256 pos e with ⟨n, p1, e1⟩
  have HCC := Lib.hid (refcnt_any w b s p pos e hF hp h1)
  rw [h1] at hcl
  simp only [listF, h1] at h hcl
  have HH := Lib.hid h; clear h
  have HZ1 := Lib.hid hz1; clear hz1
  have HZ2 := Lib.hid hz2; clear hz2
  have HZ0 := Lib.hid hz0; clear hz0
  have HI := Lib.hid hi; clear hi
  clear h1 hp
  have hn : n ≤ 256 := by omega
  clear hcl
  have hbw := lt_of_block hF.at_
  clear hF
  go_enter Tryz.func118, Tryz.ntmps118
  go_wp2_with fail
  refine HCC.out.mono ?_
  rintro en w0 ⟨p0, rfl, hF0, hp0, hk0⟩
  have HP0 := Lib.hid hp0; clear hp0
  go_wp2_with fail
  go_loopw [3, 5] (fun acc iv wr => FGetRel aclE aclF w b s 56 2 n p1 e1 acc iv wr) (fun _ iv _ => n - (intOf iv).toNat)
  case atStart => exact ⟨0, p0, rfl, Nat.zero_le _, AccR.nil _ _ _ _ _, hF0, HP0.out, hk0⟩
  case round =>
    obtain ⟨k, pk, rfl, hkn, hacc, hFk, hpk, hK⟩ := hrel.ex
    clear hrel HCC hF0 hk0 HP0
    have c2 := hFk.c2
    by_cases hlt : k < n
    · have hkl : (k : Int) < (n : Int) := by omega
      by_cases hz : (getN aclF.get k s.data.toList p1 e1).2.2 = 0
      · rcases hgn : getN aclF.get k s.data.toList p1 e1 with ⟨ys, qk, ek⟩
        have hlen := getN_len (aclF).get k s.data.toList p1 e1
        have hsn := getN_snoc (aclF).get k s.data.toList p1 e1
        rw [hgn] at hacc hFk hpk c2 hz hlen hsn
        simp only at hacc hFk hpk c2 hz hlen hsn
        subst hz
        rcases g1 : numF.get s.data.toList qk 0 with ⟨a1, qa, ea⟩
        rcases g2 : (textF 4096).get s.data.toList qa ea with ⟨a2, qb, eb⟩
        have hone : aclF.get s.data.toList qk 0 = (⟨a1, a2⟩, qb, eb) := by simp only [aclF, isoF, seqF, g1, g2]
        rw [hone] at hsn
        simp only at hsn
        have i1 : I64 a1 := num_fit g1
        have i2 : Str a2 := text_fit (by decide) g2
        have K1 := Lib.hid (fnum_of g1)
        have K2 := Lib.hid (ftext_of (by decide) g2)
        have HSN := Lib.hid hsn
        have HPK := Lib.hid hpk
        clear hgn g1 g2 hone hsn hpk
        go_wp2_with fail
        refine (K1.out _ _ _ hFk HPK.out).mono ?_
        rintro en w1 ⟨pa, rfl, hFa, hpa, hka⟩
        have HPA := Lib.hid hpa; clear hpa
        go_wp2_with fail
        refine (K2.out _ _ _ hFa HPA.out).mono ?_
        rintro en w2 ⟨pb, rfl, hFb, hpb, hkb⟩
        have HPB := Lib.hid hpb; clear hpb
        have hka2 := hka.trans hkb
        have hacc1 := (hacc.keep (WkE_ok aclE_ok) hka2 (fun g hg hs => by have hs' : g = b := hs; have hg' : w.heap.size ≤ g := hg; omega)).weak (e' := eb) (fun _ => rfl)
        have hE2 : WkE eb aclE w2 (fun g => w.heap.size ≤ g ∧ some g ≠ u3.ownBlock) [.int .i64 a1, .string a2] ⟨a1, a2⟩ := fun _ => ⟨rfl, i1, i2⟩
        have hfl : Flat 2 [Value.int .i64 a1, Value.string a2] := ⟨rfl, by simp [Value.oneCell']⟩
        have hwl : w.heap.size ≤ w2.heap.size := Nat.le_trans hK.size hka2.size
        have hK1 := hK.trans hka2
        clear hacc hka hkb hK hka2 hFa hFk K1 K2 c2 HPA HPK
        go_wp2_with (first | (refine wpList_one rfl 24 56 (.tmp 29) rfl (.agg #[.int .i64 a1, .string a2]) [.int .i64 a1, .string a2] rfl rfl i0 _ Tryz.underlying24 HI.out HZ0.out (by rw [HZ1.out]; rfl) (by decide) (by decide) ?_) | (at_builtin; go_loud (refine wpList_push (WkE_ok aclE_ok) w w2 rfl (.tmp 26) (.tmp 30) 24 rfl 56 i0 _ 2 24 Tryz.underlying24 HI.out HZ0.out HZ1.out HZ2.out rfl (by decide) u3 _ hacc1 _ _ hE2 hfl rfl rfl (by omega) (by decide) hwl ?_); intro v' w' hacc' hk'))
        go_roundw
        case rel => exact ⟨k + 1, pb, by go_num, hlt, by rw [HSN.out]; exact hacc', by rw [HSN.out]; exact hFb.keep hk' (fun hs => by have hs' : w.heap.size ≤ b := hs; omega), by rw [HSN.out]; exact HPB.out, Kept.trans' hK1 hk' (fun g hg hs => by have hs' : w.heap.size ≤ g := hs; omega)⟩
        case measure => simp [intOf]; omega
      · have hne : (((getN aclF.get k s.data.toList p1 e1).2.2 : Nat) : Int) ≠ 0 := by omega
        have hfin : e' ≠ 0 := by
          have h2 := getN_wrong aclF_ok hkn hz
          rw [HH.out] at h2
          simp only at h2
          omega
        have hee : (getN aclF.get k s.data.toList p1 e1).2.2 = e' := by
          have h2 := getN_wrong aclF_ok hkn hz
          rw [HH.out] at h2
          exact h2.symm
        have hsl := hacc.isSl
        rw [hee] at hFk c2 hne
        have HSL := Lib.hid hsl
        clear hacc hpk hz hee hsl HH
        have hneb : (((e' : Nat) : Int) == 0) = false := by simpa using hne
        go_wp2_with fail
        go_ret
        exact ⟨_, pk, rfl, HSL.out, fun h0 => absurd h0 hfin, hFk, fun h0 => absurd h0 hfin, hK⟩
    · have hkl : ¬ (k : Int) < (n : Int) := by omega
      obtain rfl : k = n := by omega
      have hlist := hacc.list (WkE_ok aclE_ok)
      have hsl := hacc.isSl
      rw [HH.out] at hlist hFk hpk c2
      have HL := Lib.hid hlist.weak
      have HSL := Lib.hid hsl
      have HPK := Lib.hid hpk
      clear hacc hlist hpk hsl HH
      go_wp2_with fail
      go_ret
      exact ⟨_, pk, rfl, HSL.out, HL.out, hFk, HPK.out, hK⟩
end Go.Proofs.YtpmemcpfoapjmaaGreat

namespace Go.Proofs.YtpmemcpfoapjmaaGreat
open Go.ChangeShapes Go.WideShapes Go.ChangeAt Go.RowKit
set_option linter.unusedVariables false

structure FB (w : World) (b : Nat) (s : ByteArray) (T : TypeId) (zc : List Value) (W : World) (cur : List Value) (p e : Nat) : Prop where
  old : b < w.heap.size
  rd : FAt W b s p e
  kept : Kept (RS b) w W
  res : W.heap[w.heap.size]? = some (.cells zc.toArray T (0, 0))
  box : W.heap[w.heap.size + 1]? = some (.cells cur.toArray T (0, 0))

def Ok2 (w : World) : Nat → Prop := fun k => w.heap.size + 2 ≤ k

theorem FB.start {w : World} {b : Nat} {s : ByteArray} {p e : Nat} (hF : FAt w b s p e) (T : TypeId) (zc cur : List Value) : FB w b s T zc ((w.alloc (.cells zc.toArray T)).alloc (.cells cur.toArray T)) cur p e := by
  have hb := lt_of_block hF.at_
  have hK : Kept (RS b) w ((w.alloc (.cells zc.toArray T)).alloc (.cells cur.toArray T)) := ((Kept.refl _ w).alloc _).alloc _
  refine ⟨hb, hF.keep (((Kept.refl (fun _ => False) w).alloc _).alloc _) id, hK, ?_, ?_⟩
  · rw [((Old.refl (w.alloc (.cells zc.toArray T))).make _).block _ (by simp) id]; exact heap_alloc_new w _
  · have h := heap_alloc_new (w.alloc (.cells zc.toArray T)) (.cells cur.toArray T)
    rwa [show (w.alloc (.cells zc.toArray T)).heap.size = w.heap.size + 1 from by simp] at h

section
variable {w W W' : World} {b : Nat} {s : ByteArray} {T : TypeId} {zc cur : List Value} {p e p' e' : Nat}
theorem FB.size (h : FB w b s T zc W cur p e) : w.heap.size + 2 ≤ W.heap.size := by have := lt_of_block h.box; omega
theorem FB.call (h : FB w b s T zc W cur p e) (hF : FAt W' b s p' e') (hk : Kept (RS b) W W') : FB w b s T zc W' cur p' e' :=
  ⟨h.old, hF, h.kept.trans hk, by rw [hk.block _ (lt_of_block h.res) (fun hs => by have hs' : w.heap.size = b := hs; have := h.old; omega)]; exact h.res,
    by rw [hk.block _ (lt_of_block h.box) (fun hs => by have hs' : w.heap.size + 1 = b := hs; have := h.old; omega)]; exact h.box⟩
theorem FB.set (h : FB w b s T zc W cur p e) (c : List Value) : FB w b s T zc (W.setRow (w.heap.size + 1) c.toArray) c p e := by
  have hk := setRow_kept W (w.heap.size + 1) c.toArray
  have hb := h.old
  exact ⟨h.old, h.rd.keep hk (by omega), Kept.trans' h.kept hk (fun k hk1 hs => by have hs' : k = w.heap.size + 1 := hs; omega), by rw [hk.block _ (lt_of_block h.res) (by omega)]; exact h.res, setRow_heap _ _ _ _ _ _ h.box⟩
theorem FB.new {W0 : World} (h : FB w b s T zc W0 cur p e) {k : Nat} (hk : New W0 k) : Ok2 w k := Nat.le_trans h.size hk
theorem ok2_rs (hb : b < w.heap.size) : Disj (Ok2 w) (RS b) := fun k hk hs => by have hk' : w.heap.size + 2 ≤ k := hk; have hs' : k = b := hs; omega
theorem ok2_box (w : World) : Disj (Ok2 w) (fun k => k = w.heap.size + 1) := fun k hk hs => by have hk' : w.heap.size + 2 ≤ k := hk; have hs' : k = w.heap.size + 1 := hs; omega
theorem ok2_res (w : World) : Disj (Ok2 w) (fun k => k = w.heap.size) := fun k hk hs => by have hk' : w.heap.size + 2 ≤ k := hk; have hs' : k = w.heap.size := hs; omega

section
variable {α : Type} {E : CellsOf α} {sz : Nat} {sv : Value} {xs : List α} {n : Nat}
/-- a list that lies apart, if nothing was wrong when it was taken up -/
structure LB (E : CellsOf α) (w W : World) (sz : Nat) (sv : Value) (xs : List α) (n : Nat) : Prop where
  shape : IsSl sv
  list : n = 0 → ListR E W (Ok2 w) sz sv xs
theorem LB.mk' (hE : E.Ok) {W0 : World} (h : FB w b s T zc W0 cur p e) (hs : IsSl sv) (hL : n = 0 → ListR E W (New W0) sz sv xs) : LB E w W sz sv xs n :=
  ⟨hs, fun h0 => (hL h0).mono hE (fun k _ hk => h.new hk)⟩
theorem LB.call (hE : E.Ok) (h : LB E w W sz sv xs n) (hb : b < w.heap.size) (hk : Kept (RS b) W W') : LB E w W' sz sv xs n := ⟨h.shape, fun h0 => (h.list h0).keep hE hk (ok2_rs hb)⟩
theorem LB.set (hE : E.Ok) (h : LB E w W sz sv xs n) (c : Array Value) : LB E w (W.setRow (w.heap.size + 1) c) sz sv xs n := ⟨h.shape, fun h0 => (h.list h0).keep hE (setRow_kept _ _ _) (ok2_box w)⟩
theorem LB.fin (hE : E.Ok) (h : LB E w W sz sv xs n) (c : Array Value) (h0 : n = 0) : ListR E (W.setRow w.heap.size c) (New w) sz sv xs :=
  ((h.list h0).keep hE (setRow_kept _ _ _) (ok2_res w)).mono hE (fun k _ hk => by have hk' : w.heap.size + 2 ≤ k := hk; unfold New; omega)
end

/-- several numbers that lie apart -/
structure TB (w W : World) (g : Nat) (xs : List Int) : Prop where
  blk : W.heap[g]? = some (.cells (intsOf xs).toArray 3 (0, 0))
  gt : w.heap.size + 2 ≤ g
theorem TB.call {g : Nat} {xs : List Int} (h : TB w W g xs) (hb : b < w.heap.size) (hk : Kept (RS b) W W') : TB w W' g xs := ⟨by rw [hk.block _ (lt_of_block h.blk) (fun hs => by have hs' : g = b := hs; have := h.gt; omega)]; exact h.blk, h.gt⟩
theorem TB.set {g : Nat} {xs : List Int} (h : TB w W g xs) (c : Array Value) : TB w (W.setRow (w.heap.size + 1) c) g xs := ⟨by rw [(setRow_kept W (w.heap.size + 1) c).block _ (lt_of_block h.blk) (by have := h.gt; omega)]; exact h.blk, h.gt⟩
theorem TB.cell {g : Nat} {xs : List Int} (h : TB w W g xs) (j : Nat) (x : Int) (hx : xs[j]? = some x) : W.cell? ⟨g, j, none⟩ = some (.int .i64 x) := by
  rw [cell_of_row _ g j _ _ (0, 0) h.blk]
  simp [intsOf, hx]
end

theorem wpList_store_to {P : Program} {ops : Array Oper} {rest : List Oper} {op : Oper} {a : Act} {w : World} {Q : Exit → Act → World → Prop} (hgd : op.guard = none) (ty : TypeId) (x y : Operand) (ho : op.op = .store ty x y)
    (g i : Nat) (v : Value) (hx : a.eval x = .pointer (some ⟨g, i, none⟩)) (hy : a.eval y = v) (hv : v.oneCell' = true) (c : List Value) (T : TypeId) (hg : w.heap[g]? = some (.cells c.toArray T (0, 0))) (hil : i < c.length) (hi : (P.info? ty).map (·.size) = some 1)
    (c1 : List Value) (hc1 : c.set i v = c1) (w1 : World) (hw : w.setRow g c1.toArray = w1) (h : wpList P ops Q rest (a.put op.dst undef) w1) : wpList P ops Q (op :: rest) a w := by
  subst hc1
  subst hw
  exact wpList_store_at hgd ty x y ho g i v hx hy hv c T hg hil hi h

theorem back0 {α : Type} {f : Fmt α} (hf : f.Ok) {l : List UInt8} {p e q e' : Nat} {x : α} (g : f.get l p e = (x, q, e')) (h : e' = 0) : e = 0 := by
  by_cases h0 : e = 0
  · exact h0
  · have := hf.stays l p e h0
    rw [g] at this
    simp only at this
    omega

theorem fflag_of {s : ByteArray} {pos e q e' : Nat} {a : Bool} (g : flagF.get s.data.toList pos e = (a, q, e')) : ∀ (W : World) (b p : Nat), FAt W b s p e → (e = 0 → p = pos) →
    Calls Tryz.prog 134 #[.pointer (some ⟨b, 0, none⟩)] W (FPost W b s (.bool a) q e') := fun W b p hF hp => by
  have h := fflag_any W b s p pos e hF hp
  have h1 : (rFlag s.data.toList pos e).1 = a := congrArg (·.1) g
  have h2 : (rFlag s.data.toList pos e).2.1 = q := congrArg (·.2.1) g
  have h3 : (rFlag s.data.toList pos e).2.2 = e' := congrArg (·.2.2) g
  rw [h1, h2, h3] at h
  exact h
theorem facls_of {s : ByteArray} {pos e q e' : Nat} {xs : List Acl} (g : (listF aclF).get s.data.toList pos e = (xs, q, e')) : ∀ (W : World) (b p : Nat), FAt W b s p e → (e = 0 → p = pos) →
    Calls Tryz.prog 118 #[.pointer (some ⟨b, 0, none⟩)] W (FLPost aclE 2 W b s xs q e') := fun W b p hF hp => reftake_acls W b s p pos e hF hp g
end Go.Proofs.YtpmemcpfoapjmaaGreat

namespace Go.Proofs.YtpmemcpfoapjmaaGreat
open Go.ChangeShapes Go.WideShapes Go.ChangeAt Go.RowKit
set_option linter.unusedVariables false

/-- the reader's block and the thing's -/
def BG (b g : Nat) : Nat → Prop := fun j => j = b ∨ j = g
/-- at the head of a loop that takes up n elements into the thing in block g, its list at cell idx -/
structure SubRel {α : Type} (E : CellsOf α) (f : Fmt α) (b : Nat) (s : ByteArray) (T : TypeId) (g : Nat) (cs : List Value) (idx : Nat) (wl : World) (Te : TypeId) (sz n p e : Nat) (iv : Value) (wr : World) : Prop where
  ex : ∃ k p' acc, iv = .int .i64 (k : Nat) ∧ k ≤ n ∧ AccR (WkE (getN f.get k s.data.toList p e).2.2 E) wl wr Te sz acc (getN f.get k s.data.toList p e).1 ∧
    FAt wr b s p' (getN f.get k s.data.toList p e).2.2 ∧ ((getN f.get k s.data.toList p e).2.2 = 0 → p' = (getN f.get k s.data.toList p e).2.1) ∧
    wr.heap[g]? = some (.cells (cs.set idx acc).toArray T (0, 0)) ∧ Kept (BG b g) wl wr

/-- where the loop ends -/
structure SubEnd {α : Type} (E : CellsOf α) (b : Nat) (s : ByteArray) (T : TypeId) (g : Nat) (cs : List Value) (idx : Nat) (wl : World) (sz : Nat) (xs : List α) (q e' : Nat) (p' : Nat) (acc : Value) (wr : World) : Prop where
  rd : FAt wr b s p' e'
  pos : e' = 0 → p' = q
  shape : IsSl acc
  list : e' = 0 → ListR E wr (New wl) sz acc xs
  box : wr.heap[g]? = some (.cells (cs.set idx acc).toArray T (0, 0))
  kept : Kept (BG b g) wl wr

section
variable {α : Type} {E : CellsOf α} {f : Fmt α} {b : Nat} {s : ByteArray} {T : TypeId} {g : Nat} {cs : List Value} {idx : Nat} {wl : World} {Te : TypeId} {sz n p e : Nat}
theorem SubRel.start {p0 : Nat} (hF : FAt wl b s p0 e) (hp : e = 0 → p0 = p) (hbox : wl.heap[g]? = some (.cells cs.toArray T (0, 0))) (hnil : cs[idx]? = some (.slice none 0 0)) : SubRel E f b s T g cs idx wl Te sz n p e (.int .i64 0) wl := by
  refine ⟨0, p0, .slice none 0 0, rfl, Nat.zero_le _, AccR.nil _ _ _ _ _, hF, hp, ?_, Kept.refl _ _⟩
  obtain ⟨hi, hv⟩ := List.getElem?_eq_some_iff.1 hnil
  have : cs.set idx (.slice none 0 0) = cs := by rw [← hv]; exact List.set_getElem_self hi
  rw [this]; exact hbox

theorem SubRel.out (hE : E.Ok) (hf : f.Ok) {k p' : Nat} {acc : Value} {wr : World} {xs : List α} {q e' : Nat} (hgo : ¬ (k < n ∧ (getN f.get k s.data.toList p e).2.2 = 0)) (hk : k ≤ n) (h : getN f.get n s.data.toList p e = (xs, q, e'))
    (hacc : AccR (WkE (getN f.get k s.data.toList p e).2.2 E) wl wr Te sz acc (getN f.get k s.data.toList p e).1) (hF : FAt wr b s p' (getN f.get k s.data.toList p e).2.2)
    (hp : (getN f.get k s.data.toList p e).2.2 = 0 → p' = (getN f.get k s.data.toList p e).2.1) (hbox : wr.heap[g]? = some (.cells (cs.set idx acc).toArray T (0, 0))) (hK : Kept (BG b g) wl wr) (hT : TyOf sz Te := by unfold TyOf; decide) :
    SubEnd E b s T g cs idx wl sz xs q e' p' acc wr ∧ (getN f.get k s.data.toList p e).2.2 = e' := by
  by_cases hz : (getN f.get k s.data.toList p e).2.2 = 0
  · obtain rfl : k = n := by omega
    rw [h] at hacc hF hp hz
    simp only at hacc hF hp hz
    refine ⟨⟨hF, hp, hacc.isSl, (hacc.list (WkE_ok hE) hT).weak, hbox, hK⟩, by rw [h]⟩
  · have h2 := getN_wrong hf hk hz
    rw [h] at h2
    simp only at h2
    rw [← h2] at hF hz
    exact ⟨⟨hF, fun h0 => absurd h0 hz, hacc.isSl, fun h0 => absurd h0 hz, hbox, hK⟩, h2.symm⟩

theorem SubRel.step (hE : E.Ok) {k pb : Nat} {v' acc : Value} {w' : World} {ys : List α} {y : α} {qb eb : Nat} (hb : b < wl.heap.size) (hg : g < wl.heap.size) (hbg : b ≠ g) (hk : k < n) (hsn : getN f.get (k + 1) s.data.toList p e = (ys ++ [y], qb, eb))
    (hacc : AccR (WkE eb E) wl w' Te sz v' (ys ++ [y])) (hF : FAt w' b s pb eb) (hp : eb = 0 → pb = qb) (hbox : w'.heap[g]? = some (.cells (cs.set idx acc).toArray T (0, 0))) (hK : Kept (BG b g) wl w') :
    SubRel E f b s T g cs idx wl Te sz n p e (.int .i64 ((k : Int) + 1)) (w'.setRow g (cs.set idx v').toArray) := by
  have hs := setRow_kept w' g (cs.set idx v').toArray
  refine ⟨k + 1, pb, v', by go_num, hk, ?_, ?_, ?_, ?_, ?_⟩
  · rw [hsn]; exact hacc.keep (WkE_ok hE) hs (fun j hj hj' => by have h1 : wl.heap.size ≤ j := hj; have h2 : j = g := hj'; omega)
  · rw [hsn]; exact hF.keep hs hbg
  · rw [hsn]; exact hp
  · rw [setRow_heap _ _ _ _ _ _ hbox]
  · exact Kept.trans' hK hs (fun j _ hj => Or.inr hj)

/-- what a step's callee leaves: the accumulated list, the element, the reader and the box -/
theorem sub_call (hE : E.Ok) {wr w1 : World} {acc : Value} {ys : List α} {e' : Nat} (hb : b < wl.heap.size) (hbg : b ≠ g) (hacc : AccR (WkE 0 E) wl wr Te sz acc ys) (hk : Kept (RS b) wr w1) : AccR (WkE e' E) wl w1 Te sz acc ys :=
  (hacc.keep (WkE_ok hE) hk (fun j hj hj' => by have h1 : wl.heap.size ≤ j := hj; have h2 : j = b := hj'; omega)).weak (fun _ => rfl)
theorem sub_elem (hE : E.Ok) {wr w1 : World} {acc : Value} {ys : List α} {y : α} {c : List Value} {e' e0 : Nat} (hacc : AccR (WkE e0 E) wl wr Te sz acc ys) (hwl : wl.heap.size ≤ wr.heap.size) (h : WkE e' E w1 (New wr) c y) : WkE e' E w1 (fun j => wl.heap.size ≤ j ∧ some j ≠ acc.ownBlock) c y := by
  have hown := hacc.own
  exact (WkE_ok hE).mono h (fun j _ hj => ⟨Nat.le_trans hwl hj, fun e => by have := (hown j e.symm).2; have hj' : wr.heap.size ≤ j := hj; omega⟩)
end

/-- one row more onto a list that the call made -/
theorem run_push_at {P : Program} {α : Type} {E : CellsOf α} (hE : E.Ok) {w0 W : World} {T : TypeId} {sz bytes : Nat} {acc : Value} {ys : List α} (hacc : AccR E w0 W T sz acc ys) {B c : Nat} {cs : List Value} {y : α}
    (hB : W.heap[B]? = some (.cells cs.toArray T (0, 0))) (hEy : E W (fun g => w0.heap.size ≤ g ∧ some g ≠ acc.ownBlock) cs y) (hfl : Flat sz cs)
    (t ty : TypeId) (i : TypeInfo) (z : Value) (ht : P.underlying t = some (.slice T)) (hi : P.info? T = some i) (hz : i.zero = some z) (hsize : i.size = sz) (hby : i.bytes = bytes) (hzs : z.cells.size = sz) (hsz : 0 < sz)
    (hsm : ys.length ≤ 1000) (hbs : bytes ≤ 1000) (hw : w0.heap.size ≤ W.heap.size) :
    ∃ v' w', (Builtin.append_ #[t, t] ty #[acc, .slice (some ⟨B, 0, none⟩) 1 c]).run P W = .ok v' w' ∧ AccR E w0 w' T sz v' (ys ++ [y]) ∧ Kept (fun k => some k = acc.ownBlock) W w' := by
  have hown := hacc.own
  obtain ⟨rows, h1, h2, h3, h4⟩ := hacc
  have hbytes : (ys.length + 1) * bytes ≤ 140737488355328 := by
    have : (ys.length + 1) * bytes ≤ 1001 * 1000 := Nat.mul_le_mul (by omega) hbs
    omega
  obtain ⟨v', w', hr, o1, o2, o3⟩ := run_append_apart (P := P) W w0.heap.size t ty T i z sz bytes ht hi hz hsize hby hzs hsz acc ys.length rows.flatten h1 ⟨B, 0, none⟩ 1 c cs (by rw [hfl.1, Nat.one_mul])
    (fun j u hu => by rw [Addr.add_mid]; exact range_row hB j u hu) hfl.2 (by unfold maxLen; omega) hbytes hw
  have hk : Kept (fun k => some k = acc.ownBlock) W w' := Kept.of_grownBy o2
  have hmv : ∀ k, k < W.heap.size → w0.heap.size ≤ k ∧ some k ≠ acc.ownBlock → w0.heap.size ≤ k ∧ some k ≠ v'.ownBlock := by
    intro k hk1 hk2
    refine ⟨hk2.1, fun e => ?_⟩
    rcases o3 with o3 | o3
    · exact hk2.2 (e.trans o3)
    · have := o3 k e.symm
      omega
  refine ⟨v', w', hr, ⟨rows ++ [cs], by simpa using o1, by simp [h2], fun r hr => ?_, fun i hi' hi2 => ?_⟩, hk⟩
  · rcases List.mem_append.1 hr with hr | hr
    · exact h3 r hr
    · rw [List.mem_singleton.1 hr]; exact hfl
  · have hst : ∀ (c : List Value) (u : α), E W (fun g => w0.heap.size ≤ g ∧ some g ≠ acc.ownBlock) c u → E w' (fun g => w0.heap.size ≤ g ∧ some g ≠ v'.ownBlock) c u := fun c u hc =>
      hE.keep (hE.mono (hE.mono hc (ok' := fun g => (w0.heap.size ≤ g ∧ some g ≠ v'.ownBlock) ∧ some g ≠ acc.ownBlock) (fun k a b => ⟨hmv k a b, b.2⟩)) (fun _ _ b => b)) hk (fun k a b => a.2 b) |> fun q => hE.mono q (fun _ _ b => b.1)
    by_cases hlt : i < ys.length
    · have := hst _ _ (h4 i hlt (by omega))
      rw [List.getElem_append_left (by omega), List.getElem_append_left hlt]
      exact this
    · have hi3 : i = ys.length := by simp at hi'; omega
      subst hi3
      have := hst _ _ hEy
      rw [List.getElem_append_right (by omega), List.getElem_append_right (by omega)]
      simp only [h2, Nat.sub_self, List.getElem_cons_zero]
      exact this

theorem o_keptS {S : Nat → Prop} {w w' : World} (h : Old w w') : Kept S w w' := Kept.mono h (fun _ _ f => f.elim)
/-- the block is as it was -/
structure AsAt (g : Nat) (w w' : World) : Prop where
  eq : w'.heap[g]? = w.heap[g]?
  lt : g < w.heap.size
  le : w.heap.size ≤ w'.heap.size
theorem AsAt.refl {g : Nat} {w : World} (h : g < w.heap.size) : AsAt g w w := ⟨rfl, h, Nat.le_refl _⟩
theorem AsAt.drew {g : Nat} {w w' : World} (h : AsAt g w w') : AsAt g w w'.drew := ⟨h.eq, h.lt, h.le⟩
theorem AsAt.make {g : Nat} {w w' : World} (h : AsAt g w w') (o : Obj) : AsAt g w (w'.alloc o) := ⟨by rw [((Old.refl w').make o).block _ (Nat.lt_of_lt_of_le h.lt h.le) id]; exact h.eq, h.lt, Nat.le_trans h.le (by simp)⟩
theorem AsAt.kept {g : Nat} {w w' w2 : World} {S : Nat → Prop} (h : AsAt g w w') (hk : Kept S w' w2) (hs : ¬ S g) : AsAt g w w2 := ⟨by rw [hk.block _ (Nat.lt_of_lt_of_le h.lt h.le) hs]; exact h.eq, h.lt, Nat.le_trans h.le hk.size⟩
theorem AsAt.set {g : Nat} {w w' : World} (h : AsAt g w w') (b i : Nat) (v : Value) (hb : g ≠ b) : AsAt g w (w'.setCell ⟨b, i, none⟩ v) :=
  h.kept (Kept.setCell (S := fun j => j = b) (Kept.refl _ w') (a := ⟨b, i, none⟩) (Or.inl rfl) v) hb
theorem AsAt.cell {g : Nat} {w w' : World} (h : AsAt g w w') {cs : List Value} {T : TypeId} (hb : w.heap[g]? = some (.cells cs.toArray T (0, 0))) (i : Nat) (v : Value) (hv : cs[i]? = some v) : w'.cell? ⟨g, i, none⟩ = some v := cell_of_heap (h.eq.trans hb) hv
end Go.Proofs.YtpmemcpfoapjmaaGreat

namespace Go.Proofs.YtpmemcpfoapjmaaGreat
open Go.ChangeShapes Go.WideShapes Go.ChangeAt Go.RowKit
set_option linter.unusedVariables false

set_option maxRecDepth 100000 in
set_option maxHeartbeats 1600000 in
theorem reftake_part (w : World) (b : Nat) (s : ByteArray) (p pos e : Nat) (hF : FAt w b s p e) (hp : e = 0 → p = pos) {x : Part} {q e' : Nat} (h : partF.get s.data.toList pos e = (x, q, e')) :
    Calls Tryz.prog 133 #[.pointer (some ⟨b, 0, none⟩)] w (FGPost partE 8 [7] w b s x q e') := by
  have HSZ := Lib.hid (show (Tryz.prog.info? 36).map (·.size) = some 8 by kernel_rfl)
  have HS_int := Lib.hid (show (Tryz.prog.info? 3).map (·.size) = some 1 by kernel_rfl)
  have HS_string := Lib.hid (show (Tryz.prog.info? 9).map (·.size) = some 1 by kernel_rfl)
  have HS_acls := Lib.hid (show (Tryz.prog.info? 24).map (·.size) = some 1 by kernel_rfl)
  have HS_errno := Lib.hid (show (Tryz.prog.info? 33).map (·.size) = some 1 by kernel_rfl)
  obtain ⟨v0, q0, e0, g0⟩ : ∃ aa qq ee, numF.get s.data.toList pos e = (aa, qq, ee) := ⟨_, _, _, eta3 _⟩
  obtain ⟨v1, q1, e1, g1⟩ : ∃ aa qq ee, (textF 4096).get s.data.toList q0 e0 = (aa, qq, ee) := ⟨_, _, _, eta3 _⟩
  obtain ⟨v2, q2, e2, g2⟩ : ∃ aa qq ee, (textF 4096).get s.data.toList q1 e1 = (aa, qq, ee) := ⟨_, _, _, eta3 _⟩
  obtain ⟨v3, q3, e3, g3⟩ : ∃ aa qq ee, (listF aclF).get s.data.toList q2 e2 = (aa, qq, ee) := ⟨_, _, _, eta3 _⟩
  obtain ⟨v4, q4, e4, g4⟩ : ∃ aa qq ee, numF.get s.data.toList q3 e3 = (aa, qq, ee) := ⟨_, _, _, eta3 _⟩
  obtain ⟨v5, q5, e5, g5⟩ : ∃ aa qq ee, numF.get s.data.toList q4 e4 = (aa, qq, ee) := ⟨_, _, _, eta3 _⟩
  obtain ⟨v6, q6, e6, g6⟩ : ∃ aa qq ee, numF.get s.data.toList q5 e5 = (aa, qq, ee) := ⟨_, _, _, eta3 _⟩
  have hget : partF.get s.data.toList pos e = (⟨v0, v1, v2, v3, v4, v5, v6⟩, q6, e6) := by simp only [partF, isoF, seqF, g0, g1, g2, g3, g4, g5, g6]
  rw [hget] at h
  simp only [Prod.mk.injEq] at h
  obtain ⟨rfl, rfl, rfl⟩ := h
  have i0 : I64 v0 := num_fit g0
  have i1 : Str v1 := text_fit (by decide) g1
  have i2 : Str v2 := text_fit (by decide) g2
  have i4 : I64 v4 := num_fit g4
  have i5 : I64 v5 := num_fit g5
  have i6 : I64 v6 := num_fit g6
  have HZ := Lib.hid (show e6 = 0 → e3 = 0 from fun h0 => (back0 numF_ok g4 (back0 numF_ok g5 (back0 numF_ok g6 h0))))
  have K0 := Lib.hid (fnum_of g0)
  have K1 := Lib.hid (ftext_of (by decide) g1)
  have K2 := Lib.hid (ftext_of (by decide) g2)
  have K3 := Lib.hid (facls_of g3)
  have hn4 : numsN 3 s.data.toList q3 e3 = ([v4, v5, v6], q6, e6) := by simp only [numsN, getN, g4, g5, g6]
  have K4 := Lib.hid (ftake_of (by decide) hn4)
  clear hn4
  clear hget g0 g1 g2 g3 g4 g5 g6
  have S0 := FB.start hF 36 [.int .i64 0, .string ⟨#[]⟩, .string ⟨#[]⟩, .slice none 0 0, .int .i64 0, .int .i64 0, .int .i64 0, .slice none 0 0] [.int .i64 0, .string ⟨#[]⟩, .string ⟨#[]⟩, .slice none 0 0, .int .i64 0, .int .i64 0, .int .i64 0, .slice none 0 0]
  have HP0 := Lib.hid hp; clear hp hF
  go_enter Tryz.func133, Tryz.ntmps133
  go_wp2_with fail
  refine (K0.out _ _ _ S0.rd HP0.out).mono ?_
  rintro en w0_ ⟨pp0, rfl, hF, hp, hk⟩
  have HP1 := Lib.hid hp; clear hp
  have S := S0.call hF hk
  clear hF hk K0 HP0 S0
  have S1 := S; clear S
  have HB0 := Lib.hid S1.box
  obtain ⟨x0_0, hx⟩ : ∃ u, World.setRow w0_ (w.heap.size + 1) ([(.int .i64 v0), (.string ⟨#[]⟩), (.string ⟨#[]⟩), (.slice none 0 0), (.int .i64 0), (.int .i64 0), (.int .i64 0), (.slice none 0 0)] : List Value).toArray = u := ⟨_, rfl⟩
  have S2 := S1.set [(.int .i64 v0), (.string ⟨#[]⟩), (.string ⟨#[]⟩), (.slice none 0 0), (.int .i64 0), (.int .i64 0), (.int .i64 0), (.slice none 0 0)]
  rw [hx] at S2
  have HX0 := Lib.hid hx; clear hx
  clear S1
  go_wp2_with (refine wpList_store_to rfl 3 (.tmp 8) (.tmp 7) rfl (w.heap.size + 1) 0 (.int .i64 v0) rfl rfl rfl [(.int .i64 0), (.string ⟨#[]⟩), (.string ⟨#[]⟩), (.slice none 0 0), (.int .i64 0), (.int .i64 0), (.int .i64 0), (.slice none 0 0)] 36 HB0.out (by show 0 < 8; decide) HS_int.out [(.int .i64 v0), (.string ⟨#[]⟩), (.string ⟨#[]⟩), (.slice none 0 0), (.int .i64 0), (.int .i64 0), (.int .i64 0), (.slice none 0 0)] rfl x0_0 HX0.out ?_)
  refine (K1.out _ _ _ S2.rd HP1.out).mono ?_
  rintro en w1_ ⟨pp1, rfl, hF, hp, hk⟩
  have HP2 := Lib.hid hp; clear hp
  have S := S2.call hF hk
  clear hF hk K1 HP1 S2
  have S3 := S; clear S
  have HB0 := Lib.hid S3.box
  obtain ⟨x1_0, hx⟩ : ∃ u, World.setRow w1_ (w.heap.size + 1) ([(.int .i64 v0), (.string v1), (.string ⟨#[]⟩), (.slice none 0 0), (.int .i64 0), (.int .i64 0), (.int .i64 0), (.slice none 0 0)] : List Value).toArray = u := ⟨_, rfl⟩
  have S4 := S3.set [(.int .i64 v0), (.string v1), (.string ⟨#[]⟩), (.slice none 0 0), (.int .i64 0), (.int .i64 0), (.int .i64 0), (.slice none 0 0)]
  rw [hx] at S4
  have HX0 := Lib.hid hx; clear hx
  clear S3
  go_wp2_with (refine wpList_store_to rfl 9 (.tmp 11) (.tmp 10) rfl (w.heap.size + 1) 1 (.string v1) rfl rfl rfl [(.int .i64 v0), (.string ⟨#[]⟩), (.string ⟨#[]⟩), (.slice none 0 0), (.int .i64 0), (.int .i64 0), (.int .i64 0), (.slice none 0 0)] 36 HB0.out (by show 1 < 8; decide) HS_string.out [(.int .i64 v0), (.string v1), (.string ⟨#[]⟩), (.slice none 0 0), (.int .i64 0), (.int .i64 0), (.int .i64 0), (.slice none 0 0)] rfl x1_0 HX0.out ?_)
  refine (K2.out _ _ _ S4.rd HP2.out).mono ?_
  rintro en w2_ ⟨pp2, rfl, hF, hp, hk⟩
  have HP3 := Lib.hid hp; clear hp
  have S := S4.call hF hk
  clear hF hk K2 HP2 S4
  have S5 := S; clear S
  have HB0 := Lib.hid S5.box
  obtain ⟨x2_0, hx⟩ : ∃ u, World.setRow w2_ (w.heap.size + 1) ([(.int .i64 v0), (.string v1), (.string v2), (.slice none 0 0), (.int .i64 0), (.int .i64 0), (.int .i64 0), (.slice none 0 0)] : List Value).toArray = u := ⟨_, rfl⟩
  have S6 := S5.set [(.int .i64 v0), (.string v1), (.string v2), (.slice none 0 0), (.int .i64 0), (.int .i64 0), (.int .i64 0), (.slice none 0 0)]
  rw [hx] at S6
  have HX0 := Lib.hid hx; clear hx
  clear S5
  go_wp2_with (refine wpList_store_to rfl 9 (.tmp 14) (.tmp 13) rfl (w.heap.size + 1) 2 (.string v2) rfl rfl rfl [(.int .i64 v0), (.string v1), (.string ⟨#[]⟩), (.slice none 0 0), (.int .i64 0), (.int .i64 0), (.int .i64 0), (.slice none 0 0)] 36 HB0.out (by show 2 < 8; decide) HS_string.out [(.int .i64 v0), (.string v1), (.string v2), (.slice none 0 0), (.int .i64 0), (.int .i64 0), (.int .i64 0), (.slice none 0 0)] rfl x2_0 HX0.out ?_)
  refine (K3.out _ _ _ S6.rd HP3.out).mono ?_
  rintro en w3_ ⟨sv, pp3, rfl, hsl, hls, hF, hp, hk⟩
  have HP4 := Lib.hid hp; clear hp
  have LL : LB aclE w w3_ 2 sv v3 e3 := LB.mk' aclE_ok S6 hsl hls
  have HSL := Lib.hid hsl
  obtain ⟨sa, sn, sc, rfl⟩ := hsl
  clear hls
  have S := S6.call hF hk
  clear hF hk K3 HP3 S6
  have S7 := S; clear S
  have HB0 := Lib.hid S7.box
  obtain ⟨x3_0, hx⟩ : ∃ u, World.setRow w3_ (w.heap.size + 1) ([(.int .i64 v0), (.string v1), (.string v2), (.slice sa sn sc), (.int .i64 0), (.int .i64 0), (.int .i64 0), (.slice none 0 0)] : List Value).toArray = u := ⟨_, rfl⟩
  have S8 := S7.set [(.int .i64 v0), (.string v1), (.string v2), (.slice sa sn sc), (.int .i64 0), (.int .i64 0), (.int .i64 0), (.slice none 0 0)]
  replace LL := LL.set aclE_ok ([(.int .i64 v0), (.string v1), (.string v2), (.slice sa sn sc), (.int .i64 0), (.int .i64 0), (.int .i64 0), (.slice none 0 0)] : List Value).toArray
  rw [hx] at S8 LL
  have HX0 := Lib.hid hx; clear hx
  clear S7
  go_wp2_with (refine wpList_store_to rfl 24 (.tmp 17) (.tmp 16) rfl (w.heap.size + 1) 3 (.slice sa sn sc) rfl rfl rfl [(.int .i64 v0), (.string v1), (.string v2), (.slice none 0 0), (.int .i64 0), (.int .i64 0), (.int .i64 0), (.slice none 0 0)] 36 HB0.out (by show 3 < 8; decide) HS_acls.out [(.int .i64 v0), (.string v1), (.string v2), (.slice sa sn sc), (.int .i64 0), (.int .i64 0), (.int .i64 0), (.slice none 0 0)] rfl x3_0 HX0.out ?_)
  refine (K4.out _ _ _ S8.rd HP4.out).mono ?_
  rintro en w4_ ⟨t4, pp4, rfl, hblk, hgt, hF, hp, hk⟩
  have HP5 := Lib.hid hp; clear hp
  have TB4 : TB w w4_ t4 [v4, v5, v6] := ⟨hblk, Nat.le_trans S8.size hgt⟩
  clear hblk hgt
  replace LL := LL.call aclE_ok S8.old hk
  have S := S8.call hF hk
  clear hF hk K4 HP4 S8
  have S9 := S; clear S
  have HB0 := Lib.hid S9.box
  have d0 := TB4.cell 0 v4 rfl
  obtain ⟨x4_0, hx⟩ : ∃ u, World.setRow w4_ (w.heap.size + 1) ([(.int .i64 v0), (.string v1), (.string v2), (.slice sa sn sc), (.int .i64 v4), (.int .i64 0), (.int .i64 0), (.slice none 0 0)] : List Value).toArray = u := ⟨_, rfl⟩
  have S10 := S9.set [(.int .i64 v0), (.string v1), (.string v2), (.slice sa sn sc), (.int .i64 v4), (.int .i64 0), (.int .i64 0), (.slice none 0 0)]
  replace LL := LL.set aclE_ok ([(.int .i64 v0), (.string v1), (.string v2), (.slice sa sn sc), (.int .i64 v4), (.int .i64 0), (.int .i64 0), (.slice none 0 0)] : List Value).toArray
  replace TB4 := TB4.set ([(.int .i64 v0), (.string v1), (.string v2), (.slice sa sn sc), (.int .i64 v4), (.int .i64 0), (.int .i64 0), (.slice none 0 0)] : List Value).toArray
  rw [hx] at S10 LL TB4
  have HX0 := Lib.hid hx; clear hx
  clear S9
  have HB1 := Lib.hid S10.box
  have d1 := TB4.cell 1 v5 rfl
  obtain ⟨x4_1, hx⟩ : ∃ u, World.setRow x4_0 (w.heap.size + 1) ([(.int .i64 v0), (.string v1), (.string v2), (.slice sa sn sc), (.int .i64 v4), (.int .i64 v5), (.int .i64 0), (.slice none 0 0)] : List Value).toArray = u := ⟨_, rfl⟩
  have S11 := S10.set [(.int .i64 v0), (.string v1), (.string v2), (.slice sa sn sc), (.int .i64 v4), (.int .i64 v5), (.int .i64 0), (.slice none 0 0)]
  replace LL := LL.set aclE_ok ([(.int .i64 v0), (.string v1), (.string v2), (.slice sa sn sc), (.int .i64 v4), (.int .i64 v5), (.int .i64 0), (.slice none 0 0)] : List Value).toArray
  replace TB4 := TB4.set ([(.int .i64 v0), (.string v1), (.string v2), (.slice sa sn sc), (.int .i64 v4), (.int .i64 v5), (.int .i64 0), (.slice none 0 0)] : List Value).toArray
  rw [hx] at S11 LL TB4
  have HX1 := Lib.hid hx; clear hx
  clear S10
  have HB2 := Lib.hid S11.box
  have d2 := TB4.cell 2 v6 rfl
  obtain ⟨x4_2, hx⟩ : ∃ u, World.setRow x4_1 (w.heap.size + 1) ([(.int .i64 v0), (.string v1), (.string v2), (.slice sa sn sc), (.int .i64 v4), (.int .i64 v5), (.int .i64 v6), (.slice none 0 0)] : List Value).toArray = u := ⟨_, rfl⟩
  have S12 := S11.set [(.int .i64 v0), (.string v1), (.string v2), (.slice sa sn sc), (.int .i64 v4), (.int .i64 v5), (.int .i64 v6), (.slice none 0 0)]
  replace LL := LL.set aclE_ok ([(.int .i64 v0), (.string v1), (.string v2), (.slice sa sn sc), (.int .i64 v4), (.int .i64 v5), (.int .i64 v6), (.slice none 0 0)] : List Value).toArray
  replace TB4 := TB4.set ([(.int .i64 v0), (.string v1), (.string v2), (.slice sa sn sc), (.int .i64 v4), (.int .i64 v5), (.int .i64 v6), (.slice none 0 0)] : List Value).toArray
  rw [hx] at S12 LL TB4
  have HX2 := Lib.hid hx; clear hx
  clear S11
  have HRG := Lib.hid (range_row S12.box)
  have HRES := Lib.hid S12.res
  have HSF := Lib.hid S12; clear S12
  have HLL := Lib.hid LL; clear LL
  go_wp2_with (first | (refine wpList_store_to rfl 3 (.tmp 23) (.tmp 22) rfl (w.heap.size + 1) 4 (.int .i64 v4) rfl rfl rfl [(.int .i64 v0), (.string v1), (.string v2), (.slice sa sn sc), (.int .i64 0), (.int .i64 0), (.int .i64 0), (.slice none 0 0)] 36 HB0.out (by show 4 < 8; decide) HS_int.out [(.int .i64 v0), (.string v1), (.string v2), (.slice sa sn sc), (.int .i64 v4), (.int .i64 0), (.int .i64 0), (.slice none 0 0)] rfl x4_0 HX0.out ?_) | (refine wpList_store_to rfl 3 (.tmp 27) (.tmp 26) rfl (w.heap.size + 1) 5 (.int .i64 v5) rfl rfl rfl [(.int .i64 v0), (.string v1), (.string v2), (.slice sa sn sc), (.int .i64 v4), (.int .i64 0), (.int .i64 0), (.slice none 0 0)] 36 HB1.out (by show 5 < 8; decide) HS_int.out [(.int .i64 v0), (.string v1), (.string v2), (.slice sa sn sc), (.int .i64 v4), (.int .i64 v5), (.int .i64 0), (.slice none 0 0)] rfl x4_1 HX1.out ?_) | (refine wpList_store_to rfl 33 (.tmp 31) (.tmp 30) rfl (w.heap.size + 1) 6 (.int .i64 v6) rfl rfl rfl [(.int .i64 v0), (.string v1), (.string v2), (.slice sa sn sc), (.int .i64 v4), (.int .i64 v5), (.int .i64 0), (.slice none 0 0)] 36 HB2.out (by show 6 < 8; decide) HS_errno.out [(.int .i64 v0), (.string v1), (.string v2), (.slice sa sn sc), (.int .i64 v4), (.int .i64 v5), (.int .i64 v6), (.slice none 0 0)] rfl x4_2 HX2.out ?_) | (refine wpList_load_mid rfl 36 (.tmp 3) rfl (w.heap.size + 1) 0 rfl [(.int .i64 v0), (.string v1), (.string v2), (.slice sa sn sc), (.int .i64 v4), (.int .i64 v5), (.int .i64 v6), (.slice none 0 0)] _ HRG.out Tryz.underlying36 rfl HSZ.out ?_) | (refine wpList_store_row _ rfl 36 (.tmp 2) (.tmp 32) rfl w.heap.size _ [(.int .i64 v0), (.string v1), (.string v2), (.slice sa sn sc), (.int .i64 v4), (.int .i64 v5), (.int .i64 v6), (.slice none 0 0)] rfl rfl HRES.out HSZ.out rfl (by simp [Value.oneCell']) ?_))
  have hrow := setRow_heap _ w.heap.size _ ([(.int .i64 v0), (.string v1), (.string v2), (.slice sa sn sc), (.int .i64 v4), (.int .i64 v5), (.int .i64 v6), (.slice none 0 0)] : List Value).toArray _ _ HRES.out
  have hload := run_loadVar_row (P := Tryz.prog) _ w.heap.size 36 36 _ (0, 0) _ hrow Tryz.underlying36 rfl HSZ.out
  have hb := HSF.out.old
  exact ret_cell 2 36 w.heap.size _ Tryz.results133 rfl hload rfl ⟨[(.int .i64 v0), (.string v1), (.string v2), (.slice sa sn sc), (.int .i64 v4), (.int .i64 v5), (.int .i64 v6), (.slice none 0 0)], _, rfl, ⟨rfl, by simp [Value.oneCell']⟩, by simp, fun h0 => ⟨.slice none 0 0, .slice sa sn sc, rfl, HLL.out.fin aclE_ok _ (HZ.out h0), i0, i1, i2, i4, i5, i6, ⟨_, _, _, rfl⟩⟩, HSF.out.rd.keep (setRow_kept _ _ _) (fun hs => by omega), HP5.out, Kept.trans' HSF.out.kept (setRow_kept _ _ _) (fun k hk hs => by omega)⟩
end Go.Proofs.YtpmemcpfoapjmaaGreat

namespace Go.Proofs.YtpmemcpfoapjmaaGreat
open Go.ChangeShapes Go.WideShapes Go.ChangeAt Go.RowKit
set_option linter.unusedVariables false

set_option maxRecDepth 100000 in
set_option maxHeartbeats 1600000 in
theorem reftake_txn (w : World) (b : Nat) (s : ByteArray) (p pos e : Nat) (hF : FAt w b s p e) (hp : e = 0 → p = pos) {x : Txn} {q e' : Nat} (h : txnF.get s.data.toList pos e = (x, q, e')) :
    Calls Tryz.prog 106 #[.pointer (some ⟨b, 0, none⟩)] w (FGPost txnE 8 [] w b s x q e') := by
  have HSE := Lib.hid (show (Tryz.prog.info? 36).map (·.size) = some 8 by kernel_rfl)
  have HSS := Lib.hid (show (Tryz.prog.info? 34).map (·.size) = some 1 by kernel_rfl)
  obtain ⟨i, hi, hz0, hz1, hz2⟩ := info_parts info_part
  have HI := Lib.hid (And.intro hi (And.intro hz0 (And.intro hz1 hz2)))
  clear hi hz0 hz1 hz2
  obtain ⟨x1, q1, e0, g1⟩ : ∃ aa qq ee, partF.get s.data.toList pos e = (aa, qq, ee) := ⟨_, _, _, eta3 _⟩
  have hcl := rCount_le s.data.toList 256 q1 e0
  rcases g2 : rCount s.data.toList 256 q1 e0 with ⟨n, p1, e1⟩
  rw [g2] at hcl
  obtain ⟨xs, q3, e3, g3⟩ : ∃ aa qq ee, getN partF.get n s.data.toList p1 e1 = (aa, qq, ee) := ⟨_, _, _, eta3 _⟩
  have hget : txnF.get s.data.toList pos e = (⟨x1, xs⟩, q3, e3) := by simp only [txnF, isoF, seqF, listF, g1, g2, g3]
  rw [hget] at h
  simp only [Prod.mk.injEq] at h
  obtain ⟨rfl, rfl, rfl⟩ := h
  have hlist : (listF partF).get s.data.toList q1 e0 = (xs, q3, e3) := by simp only [listF, g2, g3]
  have HZ := Lib.hid (show e3 = 0 → e0 = 0 from fun h0 => back0 (listF_ok partF_ok) hlist h0)
  have K1 := Lib.hid (reftake_part w b s p pos e hF hp g1)
  have KC := Lib.hid (fun (W : World) (p : Nat) (hF : FAt W b s p e0) (hp : e0 = 0 → p = q1) => refcnt_any W b s p q1 e0 hF hp g2)
  have HH := Lib.hid g3
  have hn : n ≤ 256 := by have h := hcl; simp only at h; omega
  have hbw := lt_of_block hF.at_
  have hK0 : Kept (RS b) w (w.alloc (.cells ([.int .i64 0, .string ⟨#[]⟩, .string ⟨#[]⟩, .slice none 0 0, .int .i64 0, .int .i64 0, .int .i64 0, .slice none 0 0] : List Value).toArray 36)) := (Kept.refl _ w).alloc _
  have hF0 : FAt (w.alloc (.cells ([.int .i64 0, .string ⟨#[]⟩, .string ⟨#[]⟩, .slice none 0 0, .int .i64 0, .int .i64 0, .int .i64 0, .slice none 0 0] : List Value).toArray 36)) b s p e := hF.keep ((Kept.refl (fun _ => False) w).alloc _) id
  have hres0 := heap_alloc_new w (.cells ([.int .i64 0, .string ⟨#[]⟩, .string ⟨#[]⟩, .slice none 0 0, .int .i64 0, .int .i64 0, .int .i64 0, .slice none 0 0] : List Value).toArray 36)
  have K1 := Lib.hid (reftake_part (w.alloc (.cells ([.int .i64 0, .string ⟨#[]⟩, .string ⟨#[]⟩, .slice none 0 0, .int .i64 0, .int .i64 0, .int .i64 0, .slice none 0 0] : List Value).toArray 36)) b s p pos e hF0 hp g1)
  have HK0 := Lib.hid hK0
  have HRES0 := Lib.hid hres0
  clear hget g1 g2 g3 hlist hcl hF hF0 hp hK0 hres0
  go_enter Tryz.func106, Tryz.ntmps106
  go_wp2_with fail
  refine K1.out.mono ?_
  rintro en w0 ⟨cs, p0, rfl, hfl, hnl, hE0, hF0, hp0, hk0⟩
  have hA : Kept (fun _ => False) w0 (w0.alloc (.cells cs.toArray 36)) := (Kept.refl _ w0).alloc _
  have hK1 : Kept (RS b) w (w0.alloc (.cells cs.toArray 36)) := Kept.trans' (HK0.out.trans hk0) hA (fun j _ hj => hj.elim)
  have hgz : w.heap.size + 1 ≤ w0.heap.size := by have := hk0.size; simp at this; omega
  have hres1 : (w0.alloc (.cells cs.toArray 36)).heap[w.heap.size]? = some (.cells ([.int .i64 0, .string ⟨#[]⟩, .string ⟨#[]⟩, .slice none 0 0, .int .i64 0, .int .i64 0, .int .i64 0, .slice none 0 0] : List Value).toArray 36 (0, 0)) :=
    (hA.block _ (by omega) id).trans ((hk0.block _ (by simp) (fun hs => by have hs' : w.heap.size = b := hs; omega)).trans HRES0.out)
  have hbox1 := heap_alloc_new w0 (.cells cs.toArray 36)
  have hF1 := hF0.keep hA id
  have hE1 : WkE e0 partE (w0.alloc (.cells cs.toArray 36)) (fun j => w.heap.size + 1 ≤ j ∧ j ≠ w0.heap.size) cs x1 :=
    (WkE_ok partE_ok).keep ((WkE_ok partE_ok).mono hE0 (fun j hj hj' => ⟨by have h2 : (w.alloc (.cells ([.int .i64 0, .string ⟨#[]⟩, .string ⟨#[]⟩, .slice none 0 0, .int .i64 0, .int .i64 0, .int .i64 0, .slice none 0 0] : List Value).toArray 36)).heap.size ≤ j := hj'; simpa using h2, by omega⟩)) hA (disj_none _)
  have HP0 := Lib.hid hp0
  have HFL0 := Lib.hid hfl
  have HCL := Lib.hid hfl.1
  have hw1z : w0.heap.size < (w0.alloc (.cells cs.toArray 36)).heap.size := by simp
  have hnil : cs[7]? = some (.slice none 0 0) := hnl 7 (by simp)
  have HNIL := Lib.hid hnil
  clear hk0 hF0 hp0 hE0 hfl hnl hA K1 HK0 HRES0 hnil
  obtain ⟨g, hg⟩ : ∃ g, w0.heap.size = g := ⟨_, rfl⟩
  rw [hg] at hgz hbox1 hE1 hw1z
  have HG0 := Lib.hid hg; clear hg
  have HFL := HFL0
  go_wp2_with (refine wpList_store_new w0 rfl 36 _ _ rfl _ cs rfl rfl (by rw [HFL.out.1]; exact HSE.out) HFL.out.1.symm HFL.out.2 ?_)
  generalize hw1 : w0.alloc (.cells cs.toArray 36) = w1 at hK1 hres1 hbox1 hF1 hE1 hw1z
  rw [HG0.out]
  clear hw1 HG0
  have HBOX1 := Lib.hid hbox1
  have HRES1 := Lib.hid hres1
  have HE1 := Lib.hid hE1
  have HK1 := Lib.hid hK1
  clear hbox1 hres1 hE1 hK1 HFL
  refine (KC.out _ _ hF1 HP0.out).mono ?_
  rintro en wl ⟨pl, rfl, hFl, hpl, hkl⟩
  have hzl : w1.heap.size ≤ wl.heap.size := hkl.size
  have hbl : b < wl.heap.size := by omega
  have hgl : g < wl.heap.size := by omega
  have hbg : b ≠ g := by omega
  have HB := Lib.hid hbl; clear hbl
  have HG := Lib.hid hgl; clear hgl
  have HBG := Lib.hid hbg
  have hboxl : wl.heap[g]? = some (.cells cs.toArray 36 (0, 0)) := (hkl.block _ hw1z (fun hs => by have hs' : g = b := hs; omega)).trans HBOX1.out
  have HRESL := Lib.hid ((hkl.block _ (by omega) (fun hs => by have hs' : w.heap.size = b := hs; omega)).trans HRES1.out)
  have HEL := Lib.hid ((WkE_ok partE_ok).keep HE1.out hkl (fun j hj hj' => by have h2 : j = b := hj'; have h1 := hj.1; omega))
  have HKL := Lib.hid (HK1.out.trans hkl)
  have HSTART := Lib.hid (SubRel.start (E := partE) (f := partF) (Te := 36) (sz := 8) (n := n) hFl hpl hboxl HNIL.out)
  clear hFl hpl hboxl HNIL hkl hF1 HP0 HE1 HK1 HRES1 HBOX1 KC hbg
  go_wp2_with fail
  go_loopw [5] (fun iv wr => SubRel partE partF b s 36 g cs 7 wl 36 8 n p1 e1 iv wr) (fun iv _ => n - (intOf iv).toNat)
  case atStart => exact HSTART.out
  case round =>
    obtain ⟨k, pk, acc, rfl, hkn, hacc, hFk, hpk, hbox, hK⟩ := hrel.ex
    clear hrel HSTART
    have hkz : wl.heap.size ≤ wr.heap.size := hK.size
    by_cases hgo : k < n ∧ (getN partF.get k s.data.toList p1 e1).2.2 = 0
    · obtain ⟨hlt, hz⟩ := hgo
      have hkl : (k : Int) < (n : Int) := by omega
      rcases hgn : getN partF.get k s.data.toList p1 e1 with ⟨ys, qk, ek⟩
      have hlen := getN_len (partF).get k s.data.toList p1 e1
      have hsn := getN_snoc (partF).get k s.data.toList p1 e1
      rw [hgn] at hacc hFk hpk hz hlen hsn
      simp only at hacc hFk hpk hz hlen hsn
      subst hz
      obtain ⟨y, qb, eb, gy⟩ : ∃ aa qq ee, partF.get s.data.toList qk 0 = (aa, qq, ee) := ⟨_, _, _, eta3 _⟩
      rw [gy] at hsn
      simp only at hsn
      have KY := Lib.hid (fun (W : World) (p : Nat) (hF : FAt W b s p 0) (hp : 0 = 0 → p = qk) => reftake_part W b s p qk 0 hF hp gy)
      have HSN := Lib.hid hsn
      have c2 := hFk.c2
      have HPK := Lib.hid hpk
      clear hgn gy hsn hpk
      go_wp2_with fail
      refine (KY.out _ _ hFk HPK.out).mono ?_
      rintro en w1 ⟨cy, pb, rfl, hfl, _, hEy, hFb, hpb, hkb⟩
      have HPB := Lib.hid hpb
      have hacc1 : AccR (WkE eb partE) wl w1 36 8 acc ys := sub_call partE_ok HB.out HBG.out hacc hkb
      have hE1 := sub_elem (c := cy) (y := y) partE_ok hacc hkz hEy
      have hwb : w1.heap[g]? = some (.cells (cs.set 7 acc).toArray 36 (0, 0)) := (hkb.block _ (lt_of_block hbox) (fun hs => by have hs' : g = b := hs; have := HBG.out; omega)).trans hbox
      have hK1 : Kept (BG b g) wl w1 := Kept.trans' hK hkb (fun j _ hj => Or.inl hj)
      have hA : Kept (fun _ => False) w1 (w1.alloc (.cells cy.toArray 36)) := (Kept.refl _ w1).alloc _
      have hacc2 := hacc1.keep (WkE_ok partE_ok) hA (disj_none _)
      have hE2 := (WkE_ok partE_ok).keep hE1 hA (disj_none _)
      have hbox2 := (hA.block _ (lt_of_block hwb) id).trans hwb
      have hF2 := hFb.keep hA id
      have hK2 : Kept (BG b g) wl (w1.alloc (.cells cy.toArray 36)) := Kept.trans' hK1 hA (fun j _ hj => hj.elim)
      have hnew := heap_alloc_new w1 (.cells cy.toArray 36)
      have hwl : wl.heap.size ≤ (w1.alloc (.cells cy.toArray 36)).heap.size := hK2.size
      have hg7 : (cs.set 7 acc)[7]? = some acc := by rw [List.getElem?_set_self (by rw [HCL.out]; decide)]
      have HFL := Lib.hid hfl
      clear hacc hE1 hacc1 hEy hbox hwb hA hK1 hkb hpb hK hFk hFb hfl c2 HPK KY
      generalize hw2 : w1.alloc (.cells cy.toArray 36) = w2 at hacc2 hE2 hbox2 hF2 hK2 hnew hwl
      have c7 : w2.cell? ⟨g, 7, none⟩ = some acc := cell_of_heap hbox2 hg7
      have HRY := Lib.hid (range_row hnew)
      have HBOX := Lib.hid hbox2
      have HW2 := Lib.hid hw2
      have HBZ := Lib.hid (lt_of_block hbox2)
      have hsl := hacc2.isSl
      clear hw2 hnew hbox2 hg7
      go_upto_region 7 with (refine wpList_store_new w1 rfl 36 _ _ rfl _ cy rfl rfl (by rw [HFL.out.1]; exact HSE.out) HFL.out.1.symm HFL.out.2 ?_)
      rw [HW2.out]
      obtain ⟨an0, an1, an2, rfl⟩ := hsl
      go_wp2_with (first
        | (refine wpList_load_mid rfl 36 (.tmp 6) rfl w1.heap.size 0 rfl cy _ HRY.out Tryz.underlying36 rfl (by rw [HFL.out.1]; exact HSE.out) ?_)
        | (refine wpList_one rfl 34 36 (.tmp 27) rfl (.agg cy.toArray) cy rfl rfl i _ Tryz.underlying34 HI.out.1 HI.out.2.1 (by rw [HI.out.2.2.1, HFL.out.1]) (by rw [HFL.out.1]; decide) (by rw [HFL.out.1]; decide) ?_)
        | (at_builtin; go_loud (refine wpList_push (WkE_ok partE_ok) wl w2 rfl (.tmp 26) (.tmp 28) 34 rfl 36 i _ 8 112 Tryz.underlying34 HI.out.1 HI.out.2.1 HI.out.2.2.1 HI.out.2.2.2 rfl (by decide) (.slice an0 an1 an2) _ hacc2 cy _ hE2 HFL.out rfl rfl (by omega) (by decide) hwl ?_); intro v' w' hacc' hk'; have hslv := hacc'.isSl; obtain ⟨bn0, bn1, bn2, rfl⟩ := hslv; have HBOX' := Lib.hid ((hk'.block _ HBZ.out (fun hs => by have hs' : wl.heap.size ≤ g := hs; have := HG.out; omega)).trans HBOX.out))
        | (refine wpList_store_to rfl 34 (.tmp 30) (.tmp 29) rfl g 7 (.slice bn0 bn1 bn2) rfl rfl rfl (cs.set 7 (.slice an0 an1 an2)) 36 HBOX'.out (by rw [List.length_set, HCL.out]; decide) HSS.out _ rfl _ rfl ?_))
      go_roundw
      case rel => exact SubRel.step partE_ok HB.out HG.out HBG.out hlt HSN.out hacc' (hF2.keep hk' (fun hs => by have hs' : wl.heap.size ≤ b := hs; have := HB.out; omega)) HPB.out HBOX'.out (Kept.trans' hK2 hk' (fun j hj hs => by have hs' : wl.heap.size ≤ j := hs; omega))
      case measure => simp [intOf]; omega
    · obtain ⟨hend, hee⟩ := SubRel.out (cs := cs) (T := 36) (g := g) (idx := 7) partE_ok partF_ok hgo hkn HH.out hacc hFk hpk hbox hK
      have hex : ¬ k < n ∨ (k < n ∧ e3 ≠ 0) := by rw [hee] at hgo; omega
      have HEX := Lib.hid hex
      have HEND := Lib.hid hend
      have c2 := hend.rd.c2
      clear hgo hee hex hacc hFk hpk hbox hK hend hkz
      go_upto_region 4 with fail
      go_cut [20] (fun v wx => v = .bool false ∧ wx = wr)
      case first =>
        rcases HEX.out with hlt | ⟨hlt, hne⟩
        · have hkl : ¬ (k : Int) < (n : Int) := by omega
          go_wp2_with fail
          go_meet
          exact ⟨rfl, rfl⟩
        · have hkl : (k : Int) < (n : Int) := by omega
          have hneb : (((e3 : Nat) : Int) == 0) = false := by simpa using hne
          go_wp2_with fail
          go_meet
          exact ⟨rfl, rfl⟩
      case rest =>
      obtain ⟨rfl, rfl⟩ := hcut
      clear c2 HEX
      have HBX := Lib.hid HEND.out.box
      have HRG := Lib.hid (range_row HBX.out)
      have HRES := Lib.hid ((HEND.out.kept.block _ (by have := HB.out; omega) (fun hs => by rcases hs with hs | hs <;> omega)).trans HRESL.out)
      obtain ⟨sa, sn, sc, rfl⟩ := HEND.out.shape
      have hfs : Flat 8 (cs.set 7 (.slice sa sn sc)) := flat_set HFL0.out 7 rfl
      have HFS := Lib.hid hfs; clear hfs
      have HSE2 := Lib.hid (info_len HSE.out HFS.out.1)
      go_wp2_with (first
        | (refine wpList_load_mid rfl 36 (.tmp 3) rfl g 0 rfl (cs.set 7 (.slice sa sn sc)) _ HRG.out Tryz.underlying36 rfl HSE2.out ?_)
        | (refine wpList_store_row _ rfl 36 (.tmp 2) (.tmp 31) rfl w.heap.size _ (cs.set 7 (.slice sa sn sc)) rfl rfl HRES.out HSE2.out HFS.out.1.symm HFS.out.2 ?_))
      have hrow := setRow_heap _ w.heap.size _ (cs.set 7 (.slice sa sn sc)).toArray _ _ HRES.out
      have hload := run_loadVar_row (P := Tryz.prog) _ w.heap.size 36 36 _ (0, 0) _ hrow Tryz.underlying36 rfl (by rw [List.size_toArray]; exact HSE2.out)
      have hKf : Kept (RS b) w wc := Kept.trans' HKL.out HEND.out.kept (fun j hj hs => by rcases hs with hs | hs; exact hs; omega)
      refine ret_cell 2 36 w.heap.size _ Tryz.results106 rfl hload rfl ⟨_, pk, rfl, HFS.out, by simp, fun h0 => ?_, HEND.out.rd.keep (setRow_kept _ _ _) (fun hs => by omega), HEND.out.pos, Kept.trans' hKf (setRow_kept _ _ _) (fun k hk hs => by omega)⟩
      have hp1 := HEL.out (HZ.out h0)
      have hp2 := partE_ok.keep hp1 HEND.out.kept (fun j hj hs => by rcases hs with hs | hs; (have := hj.1; omega); exact hj.2 hs)
      have hp3 := partE_ok.mono (partE_ok.keep hp2 (setRow_kept wc w.heap.size (cs.set 7 (.slice sa sn sc)).toArray) (fun j hj hs => by have := hj.1; have hs' : j = w.heap.size := hs; omega)) (ok' := New w) (fun j _ hj => by have := hj.1; unfold New; omega)
      have hl3 := ((HEND.out.list h0).keep partE_ok (setRow_kept wc w.heap.size (cs.set 7 (.slice sa sn sc)).toArray) (fun j hj hs => by have h1 : wl.heap.size ≤ j := hj; have hs' : j = w.heap.size := hs; omega)).mono partE_ok (ok' := New w) (fun j _ hj => by have h1 : wl.heap.size ≤ j := hj; unfold New; omega)
      exact ⟨_, partQ_set hp3 ⟨_, _, _, rfl⟩, hl3⟩
end Go.Proofs.YtpmemcpfoapjmaaGreat

namespace Go.Proofs.YtpmemcpfoapjmaaGreat
open Go.ChangeShapes Go.WideShapes Go.ChangeAt Go.RowKit
set_option linter.unusedVariables false

theorem split8 {l : List Value} (h : l.length = 8) : ∃ v0 v1 v2 v3 v4 v5 v6 v7, l = [v0, v1, v2, v3, v4, v5, v6, v7] := by
  match l, h with
  | [v0, v1, v2, v3, v4, v5, v6, v7], _ => exact ⟨v0, v1, v2, v3, v4, v5, v6, v7, rfl⟩

set_option maxRecDepth 100000 in
set_option maxHeartbeats 3200000 in
theorem reftake_entry (w : World) (b : Nat) (s : ByteArray) (p pos e : Nat) (hF : FAt w b s p e) (hp : e = 0 → p = pos) {x : Entry} {q e' : Nat} (h : entryF.get s.data.toList pos e = (x, q, e')) :
    Calls Tryz.prog 68 #[.pointer (some ⟨b, 0, none⟩)] w (FGPost entryE 11 [] w b s x q e') := by
  have HSZ := Lib.hid (show (Tryz.prog.info? 38).map (·.size) = some 11 by kernel_rfl)
  have HST := Lib.hid (show (Tryz.prog.info? 36).map (·.size) = some 8 by kernel_rfl)
  obtain ⟨v0, q0, e0, g0⟩ : ∃ aa qq ee, numF.get s.data.toList pos e = (aa, qq, ee) := ⟨_, _, _, eta3 _⟩
  obtain ⟨v1, q1, e1, g1⟩ : ∃ aa qq ee, numF.get s.data.toList q0 e0 = (aa, qq, ee) := ⟨_, _, _, eta3 _⟩
  obtain ⟨v2, q2, e2, g2⟩ : ∃ aa qq ee, numF.get s.data.toList q1 e1 = (aa, qq, ee) := ⟨_, _, _, eta3 _⟩
  obtain ⟨t, q3, e3, g3⟩ : ∃ aa qq ee, txnF.get s.data.toList q2 e2 = (aa, qq, ee) := ⟨_, _, _, eta3 _⟩
  have hget : entryF.get s.data.toList pos e = (⟨v0, v1, v2, t⟩, q3, e3) := by simp only [entryF, isoF, seqF, g0, g1, g2, g3]
  rw [hget] at h
  simp only [Prod.mk.injEq] at h
  obtain ⟨rfl, rfl, rfl⟩ := h
  have i0 : I64 v0 := num_fit g0
  have i1 : I64 v1 := num_fit g1
  have i2 : I64 v2 := num_fit g2
  have hn3 : numsN 3 s.data.toList pos e = ([v0, v1, v2], q2, e2) := by simp only [numsN, getN, g0, g1, g2]
  have K0 := Lib.hid (ftake_of (by decide) hn3)
  have K1 := Lib.hid (fun (W : World) (p : Nat) (hF : FAt W b s p e2) (hp : e2 = 0 → p = q2) => reftake_txn W b s p q2 e2 hF hp g3)
  have hbw := lt_of_block hF.at_
  have hF0 : FAt (w.alloc (.cells ([.int .i64 0, .int .i64 0, .int .i64 0, .int .i64 0, .string ⟨#[]⟩, .string ⟨#[]⟩, .slice none 0 0, .int .i64 0, .int .i64 0, .int .i64 0, .slice none 0 0] : List Value).toArray 38)) b s p e := hF.keep ((Kept.refl (fun _ => False) w).alloc _) id
  have HRES0 := Lib.hid (heap_alloc_new w (.cells ([.int .i64 0, .int .i64 0, .int .i64 0, .int .i64 0, .string ⟨#[]⟩, .string ⟨#[]⟩, .slice none 0 0, .int .i64 0, .int .i64 0, .int .i64 0, .slice none 0 0] : List Value).toArray 38))
  have HP := Lib.hid hp
  clear hget g0 g1 g2 g3 hn3 hF hp
  go_enter Tryz.func68, Tryz.ntmps68
  go_wp2_with fail
  refine (K0.out _ _ _ hF0 HP.out).mono ?_
  rintro en w0 ⟨tk, p0, rfl, hblk, hgt, hF1, hp1, hk0⟩
  have hz0 : w.heap.size + 1 ≤ w0.heap.size := by have := hk0.size; simpa using this
  have hgt1 : w.heap.size + 1 ≤ tk := by simpa using hgt
  clear hgt
  have HP1 := Lib.hid hp1
  have HRES1 := Lib.hid ((hk0.block _ (by simp) (fun hs => by have hs' : w.heap.size = b := hs; omega)).trans HRES0.out)
  have HBLK := Lib.hid hblk
  have HK0 := Lib.hid (Kept.trans' ((Kept.refl (RS b) w).alloc _) hk0 (fun _ _ h => h))
  clear hblk hp1 hk0 hF0 HRES0 HP K0
  go_wp2_with fail
  refine (K1.out _ _ hF1 HP1.out).mono ?_
  rintro en w1 ⟨cs, p2, rfl, hfl, hnl, hE1, hF2, hp2, hk1⟩
  have hz1 := hk1.size
  obtain ⟨a0, a1, a2, a3, a4, a5, a6, a7, rfl⟩ := split8 hfl.1
  have hone := hfl.2
  have HP2 := Lib.hid hp2
  have HRES2 := Lib.hid ((hk1.block _ (lt_of_block HRES1.out) (fun hs => by have hs' : w.heap.size = b := hs; omega)).trans HRES1.out)
  have hblk2 := (hk1.block _ (lt_of_block HBLK.out) (fun hs => by have hs' : tk = b := hs; omega)).trans HBLK.out
  have hbox := heap_alloc_new w1 (.cells ([a0, a1, a2, a3, a4, a5, a6, a7] : List Value).toArray 36)
  have hA : Kept (fun _ => False) w1 (w1.alloc (.cells ([a0, a1, a2, a3, a4, a5, a6, a7] : List Value).toArray 36)) := (Kept.refl _ w1).alloc _
  have HONE := Lib.hid hone
  have HFL := Lib.hid hfl
  have hblk3 := (hA.block _ (lt_of_block hblk2) id).trans hblk2
  have hres3 := (hA.block _ (lt_of_block HRES2.out) id).trans HRES2.out
  have hE3 := (WkE_ok txnE_ok).keep hE1 hA (disj_none _)
  have hF3 := hF2.keep hA id
  have hK3 := Kept.trans' (HK0.out.trans hk1) hA (fun _ _ h => h.elim)
  clear hfl hnl hE1 hF2 hk1 hone HRES1 HBLK HK0 hF1 HP1 K1 hp2 hblk2 HRES2
  go_upto_region 3 with (refine wpList_store_new w1 rfl 36 _ _ rfl _ [a0, a1, a2, a3, a4, a5, a6, a7] rfl rfl HST.out rfl HONE.out ?_)
  generalize w1.alloc (.cells ([a0, a1, a2, a3, a4, a5, a6, a7] : List Value).toArray 36) = w2 at hbox hblk3 hres3 hE3 hF3 hK3 hA
  have d0 : w2.cell? ⟨tk, 0, none⟩ = some (.int .i64 v0) := cell_of_heap hblk3 rfl
  have d1 : w2.cell? ⟨tk, 1, none⟩ = some (.int .i64 v1) := cell_of_heap hblk3 rfl
  have d2 : w2.cell? ⟨tk, 2, none⟩ = some (.int .i64 v2) := cell_of_heap hblk3 rfl
  have hcc := fun i v hv => cell_of_heap (i := i) (v := v) hbox hv
  have b0 := hcc 0 _ rfl
  have b1 := hcc 1 _ rfl
  have b2 := hcc 2 _ rfl
  have b3 := hcc 3 _ rfl
  have b4 := hcc 4 _ rfl
  have b5 := hcc 5 _ rfl
  have b6 := hcc 6 _ rfl
  have b7 := hcc 7 _ rfl
  have HRES3 := Lib.hid hres3
  have HE3 := Lib.hid hE3
  have HF3 := Lib.hid hF3
  have HK3 := Lib.hid hK3
  have HI := Lib.hid (And.intro i0 (And.intro i1 i2))
  clear hcc hbox hblk3 hres3 hE3 hF3 hK3 hA i0 i1 i2
  go_still_tail 11, (by kernel_rfl)
  change wpList _ _ _ _ _ w2.drew
  have HRY : Hid (w2.drew.heap[w.heap.size]? = _) := HRES3
  have HFY := Lib.hid (show FAt w2.drew b s p2 e3 from HF3.out.drewN 1)
  have HKY := Lib.hid (show Kept (RS b) w w2.drew from HK3.out.drewN 1)
  have HEY := Lib.hid (show WkE e3 txnE w2.drew (New w0) [a0, a1, a2, a3, a4, a5, a6, a7] t from (WkE_ok txnE_ok).keep HE3.out ((Kept.refl (fun _ => False) w2).drewN 1) (disj_none _))
  generalize w2.drew = wy at HRY HFY HKY HEY ⊢
  have hone : ∀ v ∈ [Value.int .i64 v0, .int .i64 v1, .int .i64 v2, a0, a1, a2, a3, a4, a5, a6, a7], v.oneCell' = true := fun v hv => by
    simp only [List.mem_cons, List.not_mem_nil, or_false] at hv
    rcases hv with rfl | rfl | rfl | hv
    · rfl
    · rfl
    · rfl
    · exact HONE.out v (by simpa using hv)
  have HONE2 := Lib.hid hone; clear hone
  clear d0 d1 d2 b0 b1 b2 b3 b4 b5 b6 b7
  go_wp2_with (refine wpList_store_row _ rfl 38 (.tmp 2) (.tmp 19) rfl w.heap.size _ [.int .i64 v0, .int .i64 v1, .int .i64 v2, a0, a1, a2, a3, a4, a5, a6, a7] rfl rfl HRY.out HSZ.out rfl HONE2.out ?_)
  have hrow := setRow_heap wy w.heap.size _ ([.int .i64 v0, .int .i64 v1, .int .i64 v2, a0, a1, a2, a3, a4, a5, a6, a7] : List Value).toArray _ _ HRY.out
  have hload := run_loadVar_row (P := Tryz.prog) _ w.heap.size 38 38 _ (0, 0) _ hrow Tryz.underlying38 rfl (by rw [List.size_toArray]; exact HSZ.out)
  refine ret_cell 2 38 w.heap.size _ Tryz.results68 rfl hload rfl ⟨_, p2, rfl, ⟨rfl, HONE2.out⟩, by simp, fun h0 => ?_, HFY.out.keep (setRow_kept _ _ _) (fun hs => by omega), HP2.out, Kept.trans' HKY.out (setRow_kept _ _ _) (fun k hk hs => by omega)⟩
  have ht := txnE_ok.mono (txnE_ok.keep (HEY.out h0) (setRow_kept wy w.heap.size ([.int .i64 v0, .int .i64 v1, .int .i64 v2, a0, a1, a2, a3, a4, a5, a6, a7] : List Value).toArray) (fun j hj hs => by have h1 : w0.heap.size ≤ j := hj; have hs' : j = w.heap.size := hs; omega)) (ok' := New w) (fun j _ hj => by have h1 : w0.heap.size ≤ j := hj; unfold New; omega)
  exact ⟨[a0, a1, a2, a3, a4, a5, a6, a7], rfl, ht, HI.out.1, HI.out.2.1, HI.out.2.2⟩
end Go.Proofs.YtpmemcpfoapjmaaGreat

namespace Go.Proofs.YtpmemcpfoapjmaaGreat
open Go.ChangeShapes Go.WideShapes Go.ChangeAt Go.RowKit
set_option linter.unusedVariables false

theorem put_acl (x : Acl) (cs : List Value) (ok : Nat → Prop) (w : World) (b : Nat) (v : Value) (l : List UInt8) (hW : WAt w b v l) (hE : aclE w ok cs x) (hd : Disj ok (WS b v)) (hi : In w ok) (hl : l.length + (aclF.lay x).length ≤ 144900000000000) :
    Calls Tryz.prog 131 #[.pointer (some ⟨b, 0, none⟩), .agg cs.toArray] w (WPost w b v (l ++ aclF.lay x)) := by
  obtain ⟨rfl, h1, h2⟩ := hE
  exact putAcl_any x w b v l hW h1 h2 hl

set_option maxRecDepth 100000 in
theorem putList_acl (xs : List Acl) (sv : Value) (ok : Nat → Prop) (w : World) (b : Nat) (v : Value) (l : List UInt8) (hW : WAt w b v l) (hL : ListR aclE w ok 2 sv xs) (hd : Disj ok (WS b v)) (hi : In w ok) (hl : l.length + ((listF aclF).lay xs).length ≤ 144900000000000) :
    Calls Tryz.prog 130 #[.pointer (some ⟨b, 0, none⟩), sv, .func (.func 131) #[] #[]] w (WPost w b v (l ++ (listF aclF).lay xs)) := by
  obtain ⟨rows, ⟨A, c, rfl, hlc, hm, hat⟩, hlen, hel⟩ := hL
  unfold maxLen at hm
  have hlen1 : rows.length ≤ xs.length := by omega
  have hlen2 : xs.length ≤ rows.length := by omega
  have hfin := (show (listF aclF).lay xs = sev xs.length ++ layN aclF xs from rfl)
  rw [hfin] at hl ⊢
  rw [← hlen] at hl ⊢
  clear hfin hlen
  rw [List.length_append] at hl
  go_enter Tryz.func130, Tryz.ntmps130
  go_wp2_with fail
  refine (wcount_wide rows.length _ b v l hW (by omega) (by omega)).mono ?_
  rintro e w0 h0
  obtain ⟨v0, rfl, S0⟩ := (WSt.start hW).step h0
  clear h0
  go_wp2_with fail
  go_loopw [14] (fun iv wr => PutRelL w b v (l ++ sev rows.length) xs.length (fun k => layN aclF (xs.take k)) iv wr) (fun iv _ => xs.length - (intOf iv).toNat)
  case atStart => exact ⟨0, v0, rfl, Nat.zero_le _, by simpa [layN] using S0⟩
  case round =>
    obtain ⟨k, v1, rfl, hk, S1⟩ := hrel.ex
    clear hrel S0
    by_cases hlt : k < xs.length
    · have hkr : k < rows.length := by omega
      rcases hat with h0 | ⟨g, off, rfl, hok, hg, hc⟩
      · simp [h0.1] at hkr
      have hE := aclE_ok.keep (hel k hlt hkr) S1.kept hd
      have hcell : ∀ j (hj : j < rows[k].length), wr.cell? ⟨g, off + k * 2 + j, none⟩ = some rows[k][j] := fun j hj => by
        rw [← (hc k hkr).2 j hj]; exact World.cell?_of_block (S1.kept.block g hg (hd g hok.1))
      have hle := layN_le (f := aclF) hlt
      have HTK := Lib.hid (layN_take (f := aclF) hlt)
      generalize rows[k] = cs at hcell hE
      generalize xs[k] = x at hle hE HTK
      clear hc hel
      obtain ⟨rfl, _⟩ := id hE
      have c0 : wr.cell? ⟨g, off + k * 2, none⟩ = some (.int .i64 x.perms) := hcell 0 (by simp)
      have c1 : wr.cell? ⟨g, off + k * 2 + 1, none⟩ = some (.string x.id) := hcell 1 (by simp)
      clear hcell
      have hkl : (k : Int) < (rows.length : Int) := by omega
      have hd1 := (hd.symm.sep hi S1.sep).symm
      have hi1 : In wr ok := hi.kept S1.kept
      have hll : (l ++ sev rows.length ++ layN aclF (xs.take k)).length + (aclF.lay x).length ≤ 144900000000000 := by simp only [List.length_append]; omega
      have hcall : ∀ (o : Obj), Calls Tryz.prog 131 #[.pointer (some ⟨b, 0, none⟩), .agg #[.int .i64 x.perms, .string x.id]] (wr.alloc o) (WPost (wr.alloc o) b v1 (l ++ sev rows.length ++ layN aclF (xs.take k) ++ aclF.lay x)) := fun o =>
        put_acl x _ ok _ b v1 _ (S1.alloc o).at_ (aclE_ok.keep hE ((Kept.refl (fun _ => False) wr).alloc o) (disj_none ok)) hd1 (hi1.kept ((Kept.refl (fun _ => False) wr).alloc o)) hll
      have HCALL := Lib.hid hcall
      have HS := Lib.hid (fun (o : Obj) => S1.alloc o)
      clear hcall hE S1 hd1 hi1 hll
      go_wp2_with fail
      refine (HCALL.out _).mono ?_
      rintro e w2 h2
      obtain ⟨v2, rfl, S2⟩ := (HS.out _).step h2
      clear h2 HCALL HS
      go_wp2_with fail
      go_roundw
      case rel => exact ⟨k + 1, v2, rfl, hlt, by rw [HTK.out, ← List.append_assoc]; exact S2⟩
      case measure => simp [intOf]; omega
    · have hkl : ¬ (k : Int) < (rows.length : Int) := by omega
      obtain rfl : k = xs.length := by omega
      go_wp2_with fail
      go_end0
      exact S1.fin (by rw [List.take_length, List.append_assoc])
end Go.Proofs.YtpmemcpfoapjmaaGreat
