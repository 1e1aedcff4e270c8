/- The document's own answers of layer 2: what they take up, whole or wrong; lists of rows and of texts. The document's own answers of layer 2: a thing taken up field by field, in a block of its own. The document's own answers of layer 2: a list inside a thing, taken up element by element. Parts, taken up. A thing that is taken up in two steps: its part in a block of its own, then its lists. Transactions and entries, taken up. An entry inside a message: where it lies among the message's bytes; a list cut short. -/
import Derived.Test.YtpmemcpfoapjmaaGreatV09
import Derived.Test.YtpmemcpfoapjmaaGreatV04
import Derived.Test.YtpmemcpfoapjmaaGreatV07
namespace Go.Proofs.YtpmemcpfoapjmaaGreat
open Go.ChangeShapes Go.WideShapes Go.ChangeAt Go.RowKit
set_option linter.unusedVariables false

/-- E, if nothing is wrong -/
def WkE {α : Type} (e : Nat) (E : CellsOf α) : CellsOf α := fun w ok cs x => e = 0 → E w ok cs x
theorem WkE_ok {α : Type} {e : Nat} {E : CellsOf α} (hE : E.Ok) : (WkE e E).Ok := ⟨fun h hk hd h0 => hE.keep (h h0) hk hd, fun h hm h0 => hE.mono (h h0) hm⟩

def FGPost {α : Type} (E : CellsOf α) (n : Nat) (nl : List Nat) (w : World) (b : Nat) (s : ByteArray) (x : α) (q e' : Nat) (en : Ending) (w' : World) : Prop :=
  ∃ cs p', en = .returned (.agg cs.toArray) ∧ Flat n cs ∧ (∀ i ∈ nl, cs[i]? = some (.slice none 0 0)) ∧ WkE e' E w' (New w) cs x ∧ FAt w' b s p' e' ∧ (e' = 0 → p' = q) ∧ Kept (RS b) w w'
def FLPost {α : Type} (E : CellsOf α) (sz : Nat) (w : World) (b : Nat) (s : ByteArray) (xs : List α) (q e' : Nat) (en : Ending) (w' : World) : Prop :=
  ∃ sv p', en = .returned sv ∧ IsSl sv ∧ (e' = 0 → ListR E w' (New w) sz sv xs) ∧ FAt w' b s p' e' ∧ (e' = 0 → p' = q) ∧ Kept (RS b) w w'

theorem AccR.weak {α : Type} {E : CellsOf α} {w0 w : World} {T : TypeId} {sz : Nat} {acc : Value} {ys : List α} {e e' : Nat} (h : AccR (WkE e E) w0 w T sz acc ys) (he : e' = 0 → e = 0) : AccR (WkE e' E) w0 w T sz acc ys := by
  obtain ⟨rows, h1, h2, h3, h4⟩ := h
  exact ⟨rows, h1, h2, h3, fun i hi hi' h0 => h4 i hi hi' (he h0)⟩
theorem AccR.isSl {α : Type} {E : CellsOf α} {w0 w : World} {T : TypeId} {sz : Nat} {acc : Value} {ys : List α} (h : AccR E w0 w T sz acc ys) : IsSl acc := by
  obtain ⟨rows, h1, _⟩ := h
  rcases h1.2 with ⟨rfl, _⟩ | ⟨g, cap, cur, rfl, _⟩
  · exact ⟨_, _, _, rfl⟩
  · exact ⟨_, _, _, rfl⟩
theorem ListR.weak {α : Type} {E : CellsOf α} {w : World} {ok : Nat → Prop} {sz : Nat} {v : Value} {l : List α} {e : Nat} (h : ListR (WkE e E) w ok sz v l) : e = 0 → ListR E w ok sz v l := by
  intro h0
  obtain ⟨rows, h1, h2, h3⟩ := h
  exact ⟨rows, h1, h2, fun i hi hi' => h3 i hi hi' h0⟩

/-- at the head of a loop that takes up n things -/
structure FGetRel {α : Type} (E : CellsOf α) (f : Fmt α) (w0 : World) (b : Nat) (s : ByteArray) (T : TypeId) (sz n p e : Nat) (acc iv : Value) (wr : World) : Prop where
  ex : ∃ k p', iv = .int .i64 (k : Nat) ∧ k ≤ n ∧ AccR (WkE (getN f.get k s.data.toList p e).2.2 E) w0 wr T sz acc (getN f.get k s.data.toList p e).1 ∧
    FAt wr b s p' (getN f.get k s.data.toList p e).2.2 ∧ ((getN f.get k s.data.toList p e).2.2 = 0 → p' = (getN f.get k s.data.toList p e).2.1) ∧ Kept (RS b) w0 wr

theorem getN_wrong {α : Type} {f : Fmt α} (hf : f.Ok) {k n : Nat} (hk : k ≤ n) {l : List UInt8} {p e : Nat} (h : (getN f.get k l p e).2.2 ≠ 0) : (getN f.get n l p e).2.2 = (getN f.get k l p e).2.2 := by
  obtain ⟨m, rfl⟩ : ∃ m, n = k + m := ⟨n - k, by omega⟩
  clear hk
  induction m with
  | zero => rfl
  | succ m ih =>
    rw [show k + (m + 1) = (k + m) + 1 from rfl, getN_snoc]
    dsimp only
    rw [hf.stays _ _ _ (by rw [ih]; exact h), ih]

theorem refcnt_any (w : World) (b : Nat) (s : ByteArray) (p pos e : Nat) (hF : FAt w b s p e) (hp : e = 0 → p = pos) {n q e' : Nat} (h : rCount s.data.toList 256 pos e = (n, q, e')) :
    Calls Tryz.prog 66 #[.pointer (some ⟨b, 0, none⟩)] w (FPost w b s (.int .i64 n) q e') := by
  have hc := fcount_any 256 w b s p pos e hF hp (by unfold I64; omega)
  rw [h] at hc
  have HC := Lib.hid hc; clear hc
  clear h hp
  go_enter Tryz.func66, Tryz.ntmps66
  go_wp2_with fail
  refine HC.out.mono ?_
  rintro en w1 ⟨p1, rfl, hF1, hp1, hk1⟩
  have HP := Lib.hid hp1; clear hp1
  go_wp2_with fail
  go_ret
  exact ⟨p1, rfl, hF1, HP.out, hk1⟩

set_option maxRecDepth 100000 in
set_option maxHeartbeats 800000 in
theorem reftake_acls (w : World) (b : Nat) (s : ByteArray) (p pos e : Nat) (hF : FAt w b s p e) (hp : e = 0 → p = pos) {xs : List Acl} {q e' : Nat} (h : (listF aclF).get s.data.toList pos e = (xs, q, e')) :
    Calls Tryz.prog 118 #[.pointer (some ⟨b, 0, none⟩)] w (FLPost aclE 2 w b s xs q e') := by
  obtain ⟨i0, hi, hz0, hz1, hz2⟩ := info_parts info_acl
  have hcl := rCount_le s.data.toList 256 pos e
  rcases h1 : rCount s.data.toList 256 pos e with ⟨n, p1, e1⟩
  have HCC := Lib.hid (refcnt_any w b s p pos e hF hp h1)
  rw [h1] at hcl
  simp only [listF, h1] at h hcl
  have HH := Lib.hid h; clear h
  have HZ1 := Lib.hid hz1; clear hz1
  have HZ2 := Lib.hid hz2; clear hz2
  have HZ0 := Lib.hid hz0; clear hz0
  have HI := Lib.hid hi; clear hi
  clear h1 hp
  have hn : n ≤ 256 := by omega
  clear hcl
  have hbw := lt_of_block hF.at_
  clear hF
  go_enter Tryz.func118, Tryz.ntmps118
  go_wp2_with fail
  refine HCC.out.mono ?_
  rintro en w0 ⟨p0, rfl, hF0, hp0, hk0⟩
  have HP0 := Lib.hid hp0; clear hp0
  go_wp2_with fail
  go_loopw [3, 5] (fun acc iv wr => FGetRel aclE aclF w b s 56 2 n p1 e1 acc iv wr) (fun _ iv _ => n - (intOf iv).toNat)
  case atStart => exact ⟨0, p0, rfl, Nat.zero_le _, AccR.nil _ _ _ _ _, hF0, HP0.out, hk0⟩
  case round =>
    obtain ⟨k, pk, rfl, hkn, hacc, hFk, hpk, hK⟩ := hrel.ex
    clear hrel HCC hF0 hk0 HP0
    have c2 := hFk.c2
    by_cases hlt : k < n
    · have hkl : (k : Int) < (n : Int) := by omega
      by_cases hz : (getN aclF.get k s.data.toList p1 e1).2.2 = 0
      · rcases hgn : getN aclF.get k s.data.toList p1 e1 with ⟨ys, qk, ek⟩
        have hlen := getN_len (aclF).get k s.data.toList p1 e1
        have hsn := getN_snoc (aclF).get k s.data.toList p1 e1
        rw [hgn] at hacc hFk hpk c2 hz hlen hsn
        simp only at hacc hFk hpk c2 hz hlen hsn
        subst hz
        rcases g1 : numF.get s.data.toList qk 0 with ⟨a1, qa, ea⟩
        rcases g2 : (textF 4096).get s.data.toList qa ea with ⟨a2, qb, eb⟩
        have hone : aclF.get s.data.toList qk 0 = (⟨a1, a2⟩, qb, eb) := by simp only [aclF, isoF, seqF, g1, g2]
        rw [hone] at hsn
        simp only at hsn
        have i1 : I64 a1 := num_fit g1
        have i2 : Str a2 := text_fit (by decide) g2
        have K1 := Lib.hid (fnum_of g1)
        have K2 := Lib.hid (ftext_of (by decide) g2)
        have HSN := Lib.hid hsn
        have HPK := Lib.hid hpk
        clear hgn g1 g2 hone hsn hpk
        go_wp2_with fail
        refine (K1.out _ _ _ hFk HPK.out).mono ?_
        rintro en w1 ⟨pa, rfl, hFa, hpa, hka⟩
        have HPA := Lib.hid hpa; clear hpa
        go_wp2_with fail
        refine (K2.out _ _ _ hFa HPA.out).mono ?_
        rintro en w2 ⟨pb, rfl, hFb, hpb, hkb⟩
        have HPB := Lib.hid hpb; clear hpb
        have hka2 := hka.trans hkb
        have hacc1 := (hacc.keep (WkE_ok aclE_ok) hka2 (fun g hg hs => by have hs' : g = b := hs; have hg' : w.heap.size ≤ g := hg; omega)).weak (e' := eb) (fun _ => rfl)
        have hE2 : WkE eb aclE w2 (fun g => w.heap.size ≤ g ∧ some g ≠ u3.ownBlock) [.int .i64 a1, .string a2] ⟨a1, a2⟩ := fun _ => ⟨rfl, i1, i2⟩
        have hfl : Flat 2 [Value.int .i64 a1, Value.string a2] := ⟨rfl, by simp [Value.oneCell']⟩
        have hwl : w.heap.size ≤ w2.heap.size := Nat.le_trans hK.size hka2.size
        have hK1 := hK.trans hka2
        clear hacc hka hkb hK hka2 hFa hFk K1 K2 c2 HPA HPK
        go_wp2_with (first | (refine wpList_one rfl 24 56 (.tmp 29) rfl (.agg #[.int .i64 a1, .string a2]) [.int .i64 a1, .string a2] rfl rfl i0 _ Tryz.underlying24 HI.out HZ0.out (by rw [HZ1.out]; rfl) (by decide) (by decide) ?_) | (at_builtin; go_loud (refine wpList_push (WkE_ok aclE_ok) w w2 rfl (.tmp 26) (.tmp 30) 24 rfl 56 i0 _ 2 24 Tryz.underlying24 HI.out HZ0.out HZ1.out HZ2.out rfl (by decide) u3 _ hacc1 _ _ hE2 hfl rfl rfl (by omega) (by decide) hwl ?_); intro v' w' hacc' hk'))
        go_roundw
        case rel => exact ⟨k + 1, pb, by go_num, hlt, by rw [HSN.out]; exact hacc', by rw [HSN.out]; exact hFb.keep hk' (fun hs => by have hs' : w.heap.size ≤ b := hs; omega), by rw [HSN.out]; exact HPB.out, Kept.trans' hK1 hk' (fun g hg hs => by have hs' : w.heap.size ≤ g := hs; omega)⟩
        case measure => simp [intOf]; omega
      · have hne : (((getN aclF.get k s.data.toList p1 e1).2.2 : Nat) : Int) ≠ 0 := by omega
        have hfin : e' ≠ 0 := by
          have h2 := getN_wrong aclF_ok hkn hz
          rw [HH.out] at h2
          simp only at h2
          omega
        have hee : (getN aclF.get k s.data.toList p1 e1).2.2 = e' := by
          have h2 := getN_wrong aclF_ok hkn hz
          rw [HH.out] at h2
          exact h2.symm
        have hsl := hacc.isSl
        rw [hee] at hFk c2 hne
        have HSL := Lib.hid hsl
        clear hacc hpk hz hee hsl HH
        have hneb : (((e' : Nat) : Int) == 0) = false := by simpa using hne
        go_wp2_with fail
        go_ret
        exact ⟨_, pk, rfl, HSL.out, fun h0 => absurd h0 hfin, hFk, fun h0 => absurd h0 hfin, hK⟩
    · have hkl : ¬ (k : Int) < (n : Int) := by omega
      obtain rfl : k = n := by omega
      have hlist := hacc.list (WkE_ok aclE_ok)
      have hsl := hacc.isSl
      rw [HH.out] at hlist hFk hpk c2
      have HL := Lib.hid hlist.weak
      have HSL := Lib.hid hsl
      have HPK := Lib.hid hpk
      clear hacc hlist hpk hsl HH
      go_wp2_with fail
      go_ret
      exact ⟨_, pk, rfl, HSL.out, HL.out, hFk, HPK.out, hK⟩
end Go.Proofs.YtpmemcpfoapjmaaGreat

namespace Go.Proofs.YtpmemcpfoapjmaaGreat
open Go.ChangeShapes Go.WideShapes Go.ChangeAt Go.RowKit
set_option linter.unusedVariables false

structure FB (w : World) (b : Nat) (s : ByteArray) (T : TypeId) (zc : List Value) (W : World) (cur : List Value) (p e : Nat) : Prop where
  old : b < w.heap.size
  rd : FAt W b s p e
  kept : Kept (RS b) w W
  res : W.heap[w.heap.size]? = some (.cells zc.toArray T (0, 0))
  box : W.heap[w.heap.size + 1]? = some (.cells cur.toArray T (0, 0))

def Ok2 (w : World) : Nat → Prop := fun k => w.heap.size + 2 ≤ k

theorem FB.start {w : World} {b : Nat} {s : ByteArray} {p e : Nat} (hF : FAt w b s p e) (T : TypeId) (zc cur : List Value) : FB w b s T zc ((w.alloc (.cells zc.toArray T)).alloc (.cells cur.toArray T)) cur p e := by
  have hb := lt_of_block hF.at_
  have hK : Kept (RS b) w ((w.alloc (.cells zc.toArray T)).alloc (.cells cur.toArray T)) := ((Kept.refl _ w).alloc _).alloc _
  refine ⟨hb, hF.keep (((Kept.refl (fun _ => False) w).alloc _).alloc _) id, hK, ?_, ?_⟩
  · rw [((Old.refl (w.alloc (.cells zc.toArray T))).make _).block _ (by simp) id]; exact heap_alloc_new w _
  · have h := heap_alloc_new (w.alloc (.cells zc.toArray T)) (.cells cur.toArray T)
    rwa [show (w.alloc (.cells zc.toArray T)).heap.size = w.heap.size + 1 from by simp] at h

section
variable {w W W' : World} {b : Nat} {s : ByteArray} {T : TypeId} {zc cur : List Value} {p e p' e' : Nat}
theorem FB.size (h : FB w b s T zc W cur p e) : w.heap.size + 2 ≤ W.heap.size := by have := lt_of_block h.box; omega
theorem FB.call (h : FB w b s T zc W cur p e) (hF : FAt W' b s p' e') (hk : Kept (RS b) W W') : FB w b s T zc W' cur p' e' :=
  ⟨h.old, hF, h.kept.trans hk, by rw [hk.block _ (lt_of_block h.res) (fun hs => by have hs' : w.heap.size = b := hs; have := h.old; omega)]; exact h.res,
    by rw [hk.block _ (lt_of_block h.box) (fun hs => by have hs' : w.heap.size + 1 = b := hs; have := h.old; omega)]; exact h.box⟩
theorem FB.set (h : FB w b s T zc W cur p e) (c : List Value) : FB w b s T zc (W.setRow (w.heap.size + 1) c.toArray) c p e := by
  have hk := setRow_kept W (w.heap.size + 1) c.toArray
  have hb := h.old
  exact ⟨h.old, h.rd.keep hk (by omega), Kept.trans' h.kept hk (fun k hk1 hs => by have hs' : k = w.heap.size + 1 := hs; omega), by rw [hk.block _ (lt_of_block h.res) (by omega)]; exact h.res, setRow_heap _ _ _ _ _ _ h.box⟩
theorem FB.new {W0 : World} (h : FB w b s T zc W0 cur p e) {k : Nat} (hk : New W0 k) : Ok2 w k := Nat.le_trans h.size hk
theorem ok2_rs (hb : b < w.heap.size) : Disj (Ok2 w) (RS b) := fun k hk hs => by have hk' : w.heap.size + 2 ≤ k := hk; have hs' : k = b := hs; omega
theorem ok2_box (w : World) : Disj (Ok2 w) (fun k => k = w.heap.size + 1) := fun k hk hs => by have hk' : w.heap.size + 2 ≤ k := hk; have hs' : k = w.heap.size + 1 := hs; omega
theorem ok2_res (w : World) : Disj (Ok2 w) (fun k => k = w.heap.size) := fun k hk hs => by have hk' : w.heap.size + 2 ≤ k := hk; have hs' : k = w.heap.size := hs; omega

section
variable {α : Type} {E : CellsOf α} {sz : Nat} {sv : Value} {xs : List α} {n : Nat}
/-- a list that lies apart, if nothing was wrong when it was taken up -/
structure LB (E : CellsOf α) (w W : World) (sz : Nat) (sv : Value) (xs : List α) (n : Nat) : Prop where
  shape : IsSl sv
  list : n = 0 → ListR E W (Ok2 w) sz sv xs
theorem LB.mk' (hE : E.Ok) {W0 : World} (h : FB w b s T zc W0 cur p e) (hs : IsSl sv) (hL : n = 0 → ListR E W (New W0) sz sv xs) : LB E w W sz sv xs n :=
  ⟨hs, fun h0 => (hL h0).mono hE (fun k _ hk => h.new hk)⟩
theorem LB.call (hE : E.Ok) (h : LB E w W sz sv xs n) (hb : b < w.heap.size) (hk : Kept (RS b) W W') : LB E w W' sz sv xs n := ⟨h.shape, fun h0 => (h.list h0).keep hE hk (ok2_rs hb)⟩
theorem LB.set (hE : E.Ok) (h : LB E w W sz sv xs n) (c : Array Value) : LB E w (W.setRow (w.heap.size + 1) c) sz sv xs n := ⟨h.shape, fun h0 => (h.list h0).keep hE (setRow_kept _ _ _) (ok2_box w)⟩
theorem LB.fin (hE : E.Ok) (h : LB E w W sz sv xs n) (c : Array Value) (h0 : n = 0) : ListR E (W.setRow w.heap.size c) (New w) sz sv xs :=
  ((h.list h0).keep hE (setRow_kept _ _ _) (ok2_res w)).mono hE (fun k _ hk => by have hk' : w.heap.size + 2 ≤ k := hk; unfold New; omega)
end

/-- several numbers that lie apart -/
structure TB (w W : World) (g : Nat) (xs : List Int) : Prop where
  blk : W.heap[g]? = some (.cells (intsOf xs).toArray 3 (0, 0))
  gt : w.heap.size + 2 ≤ g
theorem TB.call {g : Nat} {xs : List Int} (h : TB w W g xs) (hb : b < w.heap.size) (hk : Kept (RS b) W W') : TB w W' g xs := ⟨by rw [hk.block _ (lt_of_block h.blk) (fun hs => by have hs' : g = b := hs; have := h.gt; omega)]; exact h.blk, h.gt⟩
theorem TB.set {g : Nat} {xs : List Int} (h : TB w W g xs) (c : Array Value) : TB w (W.setRow (w.heap.size + 1) c) g xs := ⟨by rw [(setRow_kept W (w.heap.size + 1) c).block _ (lt_of_block h.blk) (by have := h.gt; omega)]; exact h.blk, h.gt⟩
theorem TB.cell {g : Nat} {xs : List Int} (h : TB w W g xs) (j : Nat) (x : Int) (hx : xs[j]? = some x) : W.cell? ⟨g, j, none⟩ = some (.int .i64 x) := by
  rw [cell_of_row _ g j _ _ (0, 0) h.blk]
  simp [intsOf, hx]
end

theorem wpList_store_to {P : Program} {ops : Array Oper} {rest : List Oper} {op : Oper} {a : Act} {w : World} {Q : Exit → Act → World → Prop} (hgd : op.guard = none) (ty : TypeId) (x y : Operand) (ho : op.op = .store ty x y)
    (g i : Nat) (v : Value) (hx : a.eval x = .pointer (some ⟨g, i, none⟩)) (hy : a.eval y = v) (hv : v.oneCell' = true) (c : List Value) (T : TypeId) (hg : w.heap[g]? = some (.cells c.toArray T (0, 0))) (hil : i < c.length) (hi : (P.info? ty).map (·.size) = some 1)
    (c1 : List Value) (hc1 : c.set i v = c1) (w1 : World) (hw : w.setRow g c1.toArray = w1) (h : wpList P ops Q rest (a.put op.dst undef) w1) : wpList P ops Q (op :: rest) a w := by
  subst hc1
  subst hw
  exact wpList_store_at hgd ty x y ho g i v hx hy hv c T hg hil hi h

theorem back0 {α : Type} {f : Fmt α} (hf : f.Ok) {l : List UInt8} {p e q e' : Nat} {x : α} (g : f.get l p e = (x, q, e')) (h : e' = 0) : e = 0 := by
  by_cases h0 : e = 0
  · exact h0
  · have := hf.stays l p e h0
    rw [g] at this
    simp only at this
    omega

theorem fflag_of {s : ByteArray} {pos e q e' : Nat} {a : Bool} (g : flagF.get s.data.toList pos e = (a, q, e')) : ∀ (W : World) (b p : Nat), FAt W b s p e → (e = 0 → p = pos) →
    Calls Tryz.prog 134 #[.pointer (some ⟨b, 0, none⟩)] W (FPost W b s (.bool a) q e') := fun W b p hF hp => by
  have h := fflag_any W b s p pos e hF hp
  have h1 : (rFlag s.data.toList pos e).1 = a := congrArg (·.1) g
  have h2 : (rFlag s.data.toList pos e).2.1 = q := congrArg (·.2.1) g
  have h3 : (rFlag s.data.toList pos e).2.2 = e' := congrArg (·.2.2) g
  rw [h1, h2, h3] at h
  exact h
theorem facls_of {s : ByteArray} {pos e q e' : Nat} {xs : List Acl} (g : (listF aclF).get s.data.toList pos e = (xs, q, e')) : ∀ (W : World) (b p : Nat), FAt W b s p e → (e = 0 → p = pos) →
    Calls Tryz.prog 118 #[.pointer (some ⟨b, 0, none⟩)] W (FLPost aclE 2 W b s xs q e') := fun W b p hF hp => reftake_acls W b s p pos e hF hp g
end Go.Proofs.YtpmemcpfoapjmaaGreat

namespace Go.Proofs.YtpmemcpfoapjmaaGreat
open Go.ChangeShapes Go.WideShapes Go.ChangeAt Go.RowKit
set_option linter.unusedVariables false

/-- the reader's block and the thing's -/
def BG (b g : Nat) : Nat → Prop := fun j => j = b ∨ j = g
/-- at the head of a loop that takes up n elements into the thing in block g, its list at cell idx -/
structure SubRel {α : Type} (E : CellsOf α) (f : Fmt α) (b : Nat) (s : ByteArray) (T : TypeId) (g : Nat) (cs : List Value) (idx : Nat) (wl : World) (Te : TypeId) (sz n p e : Nat) (iv : Value) (wr : World) : Prop where
  ex : ∃ k p' acc, iv = .int .i64 (k : Nat) ∧ k ≤ n ∧ AccR (WkE (getN f.get k s.data.toList p e).2.2 E) wl wr Te sz acc (getN f.get k s.data.toList p e).1 ∧
    FAt wr b s p' (getN f.get k s.data.toList p e).2.2 ∧ ((getN f.get k s.data.toList p e).2.2 = 0 → p' = (getN f.get k s.data.toList p e).2.1) ∧
    wr.heap[g]? = some (.cells (cs.set idx acc).toArray T (0, 0)) ∧ Kept (BG b g) wl wr

/-- where the loop ends -/
structure SubEnd {α : Type} (E : CellsOf α) (b : Nat) (s : ByteArray) (T : TypeId) (g : Nat) (cs : List Value) (idx : Nat) (wl : World) (sz : Nat) (xs : List α) (q e' : Nat) (p' : Nat) (acc : Value) (wr : World) : Prop where
  rd : FAt wr b s p' e'
  pos : e' = 0 → p' = q
  shape : IsSl acc
  list : e' = 0 → ListR E wr (New wl) sz acc xs
  box : wr.heap[g]? = some (.cells (cs.set idx acc).toArray T (0, 0))
  kept : Kept (BG b g) wl wr

section
variable {α : Type} {E : CellsOf α} {f : Fmt α} {b : Nat} {s : ByteArray} {T : TypeId} {g : Nat} {cs : List Value} {idx : Nat} {wl : World} {Te : TypeId} {sz n p e : Nat}
theorem SubRel.start {p0 : Nat} (hF : FAt wl b s p0 e) (hp : e = 0 → p0 = p) (hbox : wl.heap[g]? = some (.cells cs.toArray T (0, 0))) (hnil : cs[idx]? = some (.slice none 0 0)) : SubRel E f b s T g cs idx wl Te sz n p e (.int .i64 0) wl := by
  refine ⟨0, p0, .slice none 0 0, rfl, Nat.zero_le _, AccR.nil _ _ _ _ _, hF, hp, ?_, Kept.refl _ _⟩
  obtain ⟨hi, hv⟩ := List.getElem?_eq_some_iff.1 hnil
  have : cs.set idx (.slice none 0 0) = cs := by rw [← hv]; exact List.set_getElem_self hi
  rw [this]; exact hbox

theorem SubRel.out (hE : E.Ok) (hf : f.Ok) {k p' : Nat} {acc : Value} {wr : World} {xs : List α} {q e' : Nat} (hgo : ¬ (k < n ∧ (getN f.get k s.data.toList p e).2.2 = 0)) (hk : k ≤ n) (h : getN f.get n s.data.toList p e = (xs, q, e'))
    (hacc : AccR (WkE (getN f.get k s.data.toList p e).2.2 E) wl wr Te sz acc (getN f.get k s.data.toList p e).1) (hF : FAt wr b s p' (getN f.get k s.data.toList p e).2.2)
    (hp : (getN f.get k s.data.toList p e).2.2 = 0 → p' = (getN f.get k s.data.toList p e).2.1) (hbox : wr.heap[g]? = some (.cells (cs.set idx acc).toArray T (0, 0))) (hK : Kept (BG b g) wl wr) (hT : TyOf sz Te := by unfold TyOf; decide) :
    SubEnd E b s T g cs idx wl sz xs q e' p' acc wr ∧ (getN f.get k s.data.toList p e).2.2 = e' := by
  by_cases hz : (getN f.get k s.data.toList p e).2.2 = 0
  · obtain rfl : k = n := by omega
    rw [h] at hacc hF hp hz
    simp only at hacc hF hp hz
    refine ⟨⟨hF, hp, hacc.isSl, (hacc.list (WkE_ok hE) hT).weak, hbox, hK⟩, by rw [h]⟩
  · have h2 := getN_wrong hf hk hz
    rw [h] at h2
    simp only at h2
    rw [← h2] at hF hz
    exact ⟨⟨hF, fun h0 => absurd h0 hz, hacc.isSl, fun h0 => absurd h0 hz, hbox, hK⟩, h2.symm⟩

theorem SubRel.step (hE : E.Ok) {k pb : Nat} {v' acc : Value} {w' : World} {ys : List α} {y : α} {qb eb : Nat} (hb : b < wl.heap.size) (hg : g < wl.heap.size) (hbg : b ≠ g) (hk : k < n) (hsn : getN f.get (k + 1) s.data.toList p e = (ys ++ [y], qb, eb))
    (hacc : AccR (WkE eb E) wl w' Te sz v' (ys ++ [y])) (hF : FAt w' b s pb eb) (hp : eb = 0 → pb = qb) (hbox : w'.heap[g]? = some (.cells (cs.set idx acc).toArray T (0, 0))) (hK : Kept (BG b g) wl w') :
    SubRel E f b s T g cs idx wl Te sz n p e (.int .i64 ((k : Int) + 1)) (w'.setRow g (cs.set idx v').toArray) := by
  have hs := setRow_kept w' g (cs.set idx v').toArray
  refine ⟨k + 1, pb, v', by go_num, hk, ?_, ?_, ?_, ?_, ?_⟩
  · rw [hsn]; exact hacc.keep (WkE_ok hE) hs (fun j hj hj' => by have h1 : wl.heap.size ≤ j := hj; have h2 : j = g := hj'; omega)
  · rw [hsn]; exact hF.keep hs hbg
  · rw [hsn]; exact hp
  · rw [setRow_heap _ _ _ _ _ _ hbox]
  · exact Kept.trans' hK hs (fun j _ hj => Or.inr hj)

/-- what a step's callee leaves: the accumulated list, the element, the reader and the box -/
theorem sub_call (hE : E.Ok) {wr w1 : World} {acc : Value} {ys : List α} {e' : Nat} (hb : b < wl.heap.size) (hbg : b ≠ g) (hacc : AccR (WkE 0 E) wl wr Te sz acc ys) (hk : Kept (RS b) wr w1) : AccR (WkE e' E) wl w1 Te sz acc ys :=
  (hacc.keep (WkE_ok hE) hk (fun j hj hj' => by have h1 : wl.heap.size ≤ j := hj; have h2 : j = b := hj'; omega)).weak (fun _ => rfl)
theorem sub_elem (hE : E.Ok) {wr w1 : World} {acc : Value} {ys : List α} {y : α} {c : List Value} {e' e0 : Nat} (hacc : AccR (WkE e0 E) wl wr Te sz acc ys) (hwl : wl.heap.size ≤ wr.heap.size) (h : WkE e' E w1 (New wr) c y) : WkE e' E w1 (fun j => wl.heap.size ≤ j ∧ some j ≠ acc.ownBlock) c y := by
  have hown := hacc.own
  exact (WkE_ok hE).mono h (fun j _ hj => ⟨Nat.le_trans hwl hj, fun e => by have := (hown j e.symm).2; have hj' : wr.heap.size ≤ j := hj; omega⟩)
end

/-- one row more onto a list that the call made -/
theorem run_push_at {P : Program} {α : Type} {E : CellsOf α} (hE : E.Ok) {w0 W : World} {T : TypeId} {sz bytes : Nat} {acc : Value} {ys : List α} (hacc : AccR E w0 W T sz acc ys) {B c : Nat} {cs : List Value} {y : α}
    (hB : W.heap[B]? = some (.cells cs.toArray T (0, 0))) (hEy : E W (fun g => w0.heap.size ≤ g ∧ some g ≠ acc.ownBlock) cs y) (hfl : Flat sz cs)
    (t ty : TypeId) (i : TypeInfo) (z : Value) (ht : P.underlying t = some (.slice T)) (hi : P.info? T = some i) (hz : i.zero = some z) (hsize : i.size = sz) (hby : i.bytes = bytes) (hzs : z.cells.size = sz) (hsz : 0 < sz)
    (hsm : ys.length ≤ 1000) (hbs : bytes ≤ 1000) (hw : w0.heap.size ≤ W.heap.size) :
    ∃ v' w', (Builtin.append_ #[t, t] ty #[acc, .slice (some ⟨B, 0, none⟩) 1 c]).run P W = .ok v' w' ∧ AccR E w0 w' T sz v' (ys ++ [y]) ∧ Kept (fun k => some k = acc.ownBlock) W w' := by
  have hown := hacc.own
  obtain ⟨rows, h1, h2, h3, h4⟩ := hacc
  have hbytes : (ys.length + 1) * bytes ≤ 140737488355328 := by
    have : (ys.length + 1) * bytes ≤ 1001 * 1000 := Nat.mul_le_mul (by omega) hbs
    omega
  obtain ⟨v', w', hr, o1, o2, o3⟩ := run_append_apart (P := P) W w0.heap.size t ty T i z sz bytes ht hi hz hsize hby hzs hsz acc ys.length rows.flatten h1 ⟨B, 0, none⟩ 1 c cs (by rw [hfl.1, Nat.one_mul])
    (fun j u hu => by rw [Addr.add_mid]; exact range_row hB j u hu) hfl.2 (by unfold maxLen; omega) hbytes hw
  have hk : Kept (fun k => some k = acc.ownBlock) W w' := Kept.of_grownBy o2
  have hmv : ∀ k, k < W.heap.size → w0.heap.size ≤ k ∧ some k ≠ acc.ownBlock → w0.heap.size ≤ k ∧ some k ≠ v'.ownBlock := by
    intro k hk1 hk2
    refine ⟨hk2.1, fun e => ?_⟩
    rcases o3 with o3 | o3
    · exact hk2.2 (e.trans o3)
    · have := o3 k e.symm
      omega
  refine ⟨v', w', hr, ⟨rows ++ [cs], by simpa using o1, by simp [h2], fun r hr => ?_, fun i hi' hi2 => ?_⟩, hk⟩
  · rcases List.mem_append.1 hr with hr | hr
    · exact h3 r hr
    · rw [List.mem_singleton.1 hr]; exact hfl
  · have hst : ∀ (c : List Value) (u : α), E W (fun g => w0.heap.size ≤ g ∧ some g ≠ acc.ownBlock) c u → E w' (fun g => w0.heap.size ≤ g ∧ some g ≠ v'.ownBlock) c u := fun c u hc =>
      hE.keep (hE.mono (hE.mono hc (ok' := fun g => (w0.heap.size ≤ g ∧ some g ≠ v'.ownBlock) ∧ some g ≠ acc.ownBlock) (fun k a b => ⟨hmv k a b, b.2⟩)) (fun _ _ b => b)) hk (fun k a b => a.2 b) |> fun q => hE.mono q (fun _ _ b => b.1)
    by_cases hlt : i < ys.length
    · have := hst _ _ (h4 i hlt (by omega))
      rw [List.getElem_append_left (by omega), List.getElem_append_left hlt]
      exact this
    · have hi3 : i = ys.length := by simp at hi'; omega
      subst hi3
      have := hst _ _ hEy
      rw [List.getElem_append_right (by omega), List.getElem_append_right (by omega)]
      simp only [h2, Nat.sub_self, List.getElem_cons_zero]
      exact this

theorem o_keptS {S : Nat → Prop} {w w' : World} (h : Old w w') : Kept S w w' := Kept.mono h (fun _ _ f => f.elim)
/-- the block is as it was -/
structure AsAt (g : Nat) (w w' : World) : Prop where
  eq : w'.heap[g]? = w.heap[g]?
  lt : g < w.heap.size
  le : w.heap.size ≤ w'.heap.size
theorem AsAt.refl {g : Nat} {w : World} (h : g < w.heap.size) : AsAt g w w := ⟨rfl, h, Nat.le_refl _⟩
theorem AsAt.drew {g : Nat} {w w' : World} (h : AsAt g w w') : AsAt g w w'.drew := ⟨h.eq, h.lt, h.le⟩
theorem AsAt.make {g : Nat} {w w' : World} (h : AsAt g w w') (o : Obj) : AsAt g w (w'.alloc o) := ⟨by rw [((Old.refl w').make o).block _ (Nat.lt_of_lt_of_le h.lt h.le) id]; exact h.eq, h.lt, Nat.le_trans h.le (by simp)⟩
theorem AsAt.kept {g : Nat} {w w' w2 : World} {S : Nat → Prop} (h : AsAt g w w') (hk : Kept S w' w2) (hs : ¬ S g) : AsAt g w w2 := ⟨by rw [hk.block _ (Nat.lt_of_lt_of_le h.lt h.le) hs]; exact h.eq, h.lt, Nat.le_trans h.le hk.size⟩
theorem AsAt.set {g : Nat} {w w' : World} (h : AsAt g w w') (b i : Nat) (v : Value) (hb : g ≠ b) : AsAt g w (w'.setCell ⟨b, i, none⟩ v) :=
  h.kept (Kept.setCell (S := fun j => j = b) (Kept.refl _ w') (a := ⟨b, i, none⟩) (Or.inl rfl) v) hb
theorem AsAt.cell {g : Nat} {w w' : World} (h : AsAt g w w') {cs : List Value} {T : TypeId} (hb : w.heap[g]? = some (.cells cs.toArray T (0, 0))) (i : Nat) (v : Value) (hv : cs[i]? = some v) : w'.cell? ⟨g, i, none⟩ = some v := cell_of_heap (h.eq.trans hb) hv
end Go.Proofs.YtpmemcpfoapjmaaGreat

namespace Go.Proofs.YtpmemcpfoapjmaaGreat
open Go.ChangeShapes Go.WideShapes Go.ChangeAt Go.RowKit
set_option linter.unusedVariables false

set_option maxRecDepth 100000 in
set_option maxHeartbeats 600000 in
theorem get_part (w : World) (b : Nat) (v : Value) (l : List UInt8) (p e : Nat) (hR : RAt w b v l p e) {x : Part} {q e' : Nat} (h : partF.get l p e = (x, q, e')) :
    Calls Tryz.prog 136 #[.pointer (some ⟨b, 0, none⟩)] w (GPost partE w b v l x q e') := by
  rcases h1 : numF.get l p e with ⟨x1, p1, e1⟩
  have hi1 : I64 x1 := by have := numF_i64 (l := l) (p := p) (e := e); rw [h1] at this; exact this
  rcases h2 : (textF 4096).get l p1 e1 with ⟨x2, p2, e2⟩
  have hi2 : Str x2 := by have := textF_str (most := 4096) (by omega) (l := l) (p := p1) (e := e1); rw [h2] at this; exact this
  rcases h3 : (textF 4096).get l p2 e2 with ⟨x3, p3, e3⟩
  have hi3 : Str x3 := by have := textF_str (most := 4096) (by omega) (l := l) (p := p2) (e := e2); rw [h3] at this; exact this
  rcases h4 : (listF aclF).get l p3 e3 with ⟨x4, p4, e4⟩
  rcases h5 : numF.get l p4 e4 with ⟨x5, p5, e5⟩
  have hi5 : I64 x5 := by have := numF_i64 (l := l) (p := p4) (e := e4); rw [h5] at this; exact this
  rcases h6 : numF.get l p5 e5 with ⟨x6, p6, e6⟩
  have hi6 : I64 x6 := by have := numF_i64 (l := l) (p := p5) (e := e5); rw [h6] at this; exact this
  rcases h7 : numF.get l p6 e6 with ⟨x7, p7, e7⟩
  have hi7 : I64 x7 := by have := numF_i64 (l := l) (p := p6) (e := e6); rw [h7] at this; exact this
  have hf : partF.get l p e = (⟨x1, x2, x3, x4, x5, x6, x7⟩, p7, e7) := by simp only [partF, isoF, seqF, h1, h2, h3, h4, h5, h6, h7]
  rw [hf] at h
  simp only [Prod.mk.injEq] at h
  obtain ⟨rfl, rfl, rfl⟩ := h
  have H1 := Lib.hid h1; clear h1
  have H2 := Lib.hid h2; clear h2
  have H3 := Lib.hid h3; clear h3
  have H4 := Lib.hid h4; clear h4
  have H5 := Lib.hid h5; clear h5
  have H6 := Lib.hid h6; clear h6
  have H7 := Lib.hid h7; clear h7
  clear hf
  have S0 := RSt.start (hR.alloc (.cells #[.int .i64 0, .string ⟨#[]⟩, .string ⟨#[]⟩, .slice none 0 0, .int .i64 0, .int .i64 0, .int .i64 0, .slice none 0 0] 36))
  have hbk := heap_alloc_new w (.cells #[.int .i64 0, .string ⟨#[]⟩, .string ⟨#[]⟩, .slice none 0 0, .int .i64 0, .int .i64 0, .int .i64 0, .slice none 0 0] 36)
  have hnb := rbox_new hR
  have hz0 : w.heap.size + 1 ≤ (w.alloc (.cells #[.int .i64 0, .string ⟨#[]⟩, .string ⟨#[]⟩, .slice none 0 0, .int .i64 0, .int .i64 0, .int .i64 0, .slice none 0 0] 36)).heap.size := by simp
  go_enter Tryz.func136, Tryz.ntmps136
  go_wp2_with fail
  refine (gnum_any _ b v l _ _ S0.at_ H1.out).mono ?_
  rintro en w1 ⟨rfl, hR1, hk1⟩
  have S1 : RSt (w.alloc (.cells #[.int .i64 0, .string ⟨#[]⟩, .string ⟨#[]⟩, .slice none 0 0, .int .i64 0, .int .i64 0, .int .i64 0, .slice none 0 0] 36)) b v l w1 p1 e1 := ⟨hR1, S0.kept.trans hk1⟩
  clear S0 hR1 hk1
  go_wp2_with fail
  refine (getText_any _ b v l _ _ S1.at_ H2.out).mono ?_
  rintro en w2 ⟨rfl, hR2, hk2⟩
  have S2 : RSt (w.alloc (.cells #[.int .i64 0, .string ⟨#[]⟩, .string ⟨#[]⟩, .slice none 0 0, .int .i64 0, .int .i64 0, .int .i64 0, .slice none 0 0] 36)) b v l w2 p2 e2 := ⟨hR2, S1.kept.trans hk2⟩
  clear S1 hR2 hk2
  go_wp2_with fail
  refine (getText_any _ b v l _ _ S2.at_ H3.out).mono ?_
  rintro en w3 ⟨rfl, hR3, hk3⟩
  have S3 : RSt (w.alloc (.cells #[.int .i64 0, .string ⟨#[]⟩, .string ⟨#[]⟩, .slice none 0 0, .int .i64 0, .int .i64 0, .int .i64 0, .slice none 0 0] 36)) b v l w3 p3 e3 := ⟨hR3, S2.kept.trans hk3⟩
  clear S2 hR3 hk3
  go_wp2_with fail
  refine (getList_acl _ b v l _ _ S3.at_ H4.out).mono ?_
  rintro en w4 ⟨sv4, rfl, hL4, hR4, hk4⟩
  obtain ⟨A4, n4, c4, rfl⟩ := hL4.shape
  have hd4 := new_rs S3.at_
  have hz4 : w.heap.size + 1 ≤ w3.heap.size := Nat.le_trans hz0 S3.kept.size
  have S4 : RSt (w.alloc (.cells #[.int .i64 0, .string ⟨#[]⟩, .string ⟨#[]⟩, .slice none 0 0, .int .i64 0, .int .i64 0, .int .i64 0, .slice none 0 0] 36)) b v l w4 p4 e4 := ⟨hR4, S3.kept.trans hk4⟩
  clear S3 hR4 hk4
  go_wp2_with fail
  refine (gnum_any _ b v l _ _ S4.at_ H5.out).mono ?_
  rintro en w5 ⟨rfl, hR5, hk5⟩
  replace hL4 := hL4.keep aclE_ok hk5 hd4
  have S5 : RSt (w.alloc (.cells #[.int .i64 0, .string ⟨#[]⟩, .string ⟨#[]⟩, .slice none 0 0, .int .i64 0, .int .i64 0, .int .i64 0, .slice none 0 0] 36)) b v l w5 p5 e5 := ⟨hR5, S4.kept.trans hk5⟩
  clear S4 hR5 hk5
  go_wp2_with fail
  refine (gnum_any _ b v l _ _ S5.at_ H6.out).mono ?_
  rintro en w6 ⟨rfl, hR6, hk6⟩
  replace hL4 := hL4.keep aclE_ok hk6 hd4
  have S6 : RSt (w.alloc (.cells #[.int .i64 0, .string ⟨#[]⟩, .string ⟨#[]⟩, .slice none 0 0, .int .i64 0, .int .i64 0, .int .i64 0, .slice none 0 0] 36)) b v l w6 p6 e6 := ⟨hR6, S5.kept.trans hk6⟩
  clear S5 hR6 hk6
  go_wp2_with fail
  refine (getErr_any _ b v l _ _ S6.at_ H7.out).mono ?_
  rintro en w7 ⟨rfl, hR7, hk7⟩
  replace hL4 := hL4.keep aclE_ok hk7 hd4
  have S7 : RSt (w.alloc (.cells #[.int .i64 0, .string ⟨#[]⟩, .string ⟨#[]⟩, .slice none 0 0, .int .i64 0, .int .i64 0, .int .i64 0, .slice none 0 0] 36)) b v l w7 p7 e7 := ⟨hR7, S6.kept.trans hk7⟩
  clear S6 hR7 hk7
  have hb := S7.blk hbk hnb
  have hsz : (Tryz.prog.info? 36).map (·.size) = some 8 := by kernel_rfl
  have HSZ := Lib.hid hsz; clear hsz
  have HB := Lib.hid hb; clear hb
  go_wp2_with (refine wpList_store_row _ rfl 36 _ _ rfl w.heap.size _ [.int .i64 x1, .string x2, .string x3, .slice A4 n4 c4, .int .i64 x5, .int .i64 x6, .int .i64 x7, .slice none 0 0] rfl rfl HB.out HSZ.out rfl (by simp [Value.oneCell']) ?_)
  have hrow := setRow_heap w7 w.heap.size _ ([.int .i64 x1, .string x2, .string x3, .slice A4 n4 c4, .int .i64 x5, .int .i64 x6, .int .i64 x7, .slice none 0 0] : List Value).toArray _ _ HB.out
  have hload := run_loadVar_row (P := Tryz.prog) _ w.heap.size 36 36 _ (0, 0) _ hrow Tryz.underlying36 rfl HSZ.out
  exact ret_cell 2 36 w.heap.size _ Tryz.results136 rfl hload rfl ⟨_, rfl, ⟨_, _, rfl, fin_list aclE_ok hL4 hz4 _, hi1, hi2, hi3, hi5, hi6, hi7, ⟨_, _, _, rfl⟩⟩, fin_R hR S7.at_ _, fin_K hR S7.kept _⟩

theorem info_part : (Tryz.prog.info? 36).map (fun i => (i.zero, i.size, i.bytes)) = some (some (.agg #[.int .i64 0, .string ⟨#[]⟩, .string ⟨#[]⟩, .slice none 0 0, .int .i64 0, .int .i64 0, .int .i64 0, .slice none 0 0]), 8, 112) := by kernel_rfl

set_option maxRecDepth 100000 in
set_option maxHeartbeats 600000 in
theorem getList_part (w : World) (b : Nat) (v : Value) (l : List UInt8) (p e : Nat) (hR : RAt w b v l p e) {xs : List Part} {q e' : Nat} (h : (listF partF).get l p e = (xs, q, e')) :
    Calls Tryz.prog 137 #[.pointer (some ⟨b, 0, none⟩), .func (.func 136) #[] #[]] w (LPost partE 8 w b v l xs q e') := by
  obtain ⟨i0, hi, hz0, hz1, hz2⟩ := info_parts info_part
  have hcl := rCount_le l 256 p e
  have hcc := rcount_any 256 w b v l p e hR (by omega) (by omega)
  rcases h1 : rCount l 256 p e with ⟨n, p1, e1⟩
  rw [h1] at hcl hcc
  simp only [listF, h1] at h hcl hcc
  have HH := Lib.hid h; clear h
  have HZ1 := Lib.hid hz1; clear hz1
  have HZ2 := Lib.hid hz2; clear hz2
  have HZ0 := Lib.hid hz0; clear hz0
  have HI := Lib.hid hi; clear hi
  clear h1
  have hn : n ≤ 256 := by omega
  clear hcl
  have HCC := Lib.hid hcc; clear hcc
  go_enter Tryz.func137, Tryz.ntmps137
  go_wp2_with fail
  refine HCC.out.mono ?_
  rintro en w0 ⟨rfl, hR0, hk0⟩
  go_wp2_with fail
  go_loopw [5, 8] (fun acc iv wr => GetRel partE partF w b v l 36 8 n p1 e1 acc iv wr) (fun _ iv _ => n - (intOf iv).toNat)
  case atStart => exact ⟨0, rfl, Nat.zero_le _, AccR.nil _ _ _ _ _, hR0, hk0⟩
  case round =>
    obtain ⟨k, rfl, hkn, hacc, hRk, hK⟩ := hrel.ex
    clear hrel HCC hR0 hk0
    by_cases hlt : k < n
    · have hkl : (k : Int) < (n : Int) := by omega
      go_wp2_with fail
      refine (get_part wr b v l _ _ hRk (eta3 _)).mono ?_
      rintro en w1 ⟨cs, rfl, hE1, hR1, hk1⟩
      have hfl := partE_flat hE1
      have hacc1 := hacc.keep partE_ok hk1 (new_rs hR)
      have hown := hacc.own
      have hE2 : partE w1 (fun g => w.heap.size ≤ g ∧ some g ≠ u5.ownBlock) _ _ := partE_ok.mono hE1 (fun g _ hg => ⟨Nat.le_trans hK.size hg, fun e => by have := (hown g e.symm).2; have hg' : wr.heap.size ≤ g := hg; omega⟩)
      have hsn := getN_snoc (partF).get k l p1 e1
      have hlen := getN_len (partF).get k l p1 e1
      have hwl : w.heap.size ≤ w1.heap.size := Nat.le_trans hK.size hk1.size
      have HSN := Lib.hid hsn; clear hsn
      have HLEN := Lib.hid hlen; clear hlen
      have hK1 := hK.trans hk1
      clear hacc hown hE1 hRk hK hk1
      go_wp2_with (first | (refine wpList_one rfl 34 36 (.tmp 13) rfl (.agg cs.toArray) cs rfl rfl i0 _ Tryz.underlying34 HI.out HZ0.out (by rw [HZ1.out, hfl.1]) (by rw [hfl.1]; omega) (by rw [hfl.1]; omega) ?_) | (at_builtin; go_loud (refine wpList_push partE_ok w w1 rfl (.tmp 10) (.tmp 14) 34 rfl 36 i0 _ 8 112 Tryz.underlying34 HI.out HZ0.out HZ1.out HZ2.out rfl (by decide) u5 _ hacc1 cs _ hE2 hfl rfl rfl (by rw [HLEN.out]; omega) (by decide) hwl ?_); intro v' w' hacc' hk'))
      go_roundw
      case rel => exact ⟨k + 1, by go_num, hlt, by rw [HSN.out]; dsimp only; exact hacc', by rw [HSN.out]; dsimp only; exact hR1.keep hk' (fun g hg hs => by have := hR.inn g hg; have hs' : w.heap.size ≤ g := hs; omega), Kept.trans' hK1 hk' (fun g hg hs => by have hs' : w.heap.size ≤ g := hs; omega)⟩
      case measure => simp [intOf]; omega
    · have hkl : ¬ (k : Int) < (n : Int) := by omega
      obtain rfl : k = n := by omega
      have hlist := hacc.list partE_ok
      rw [HH.out] at hlist hRk
      have HL := Lib.hid hlist
      have HR := Lib.hid hRk
      clear hacc hlist hRk
      go_wp2_with fail
      go_ret
      exact ⟨_, rfl, HL.out, HR.out, hK⟩

end Go.Proofs.YtpmemcpfoapjmaaGreat

namespace Go.Proofs.YtpmemcpfoapjmaaGreat
open Go.ChangeShapes Go.WideShapes Go.ChangeAt Go.RowKit
set_option linter.unusedVariables false

/-- the reader b; the block of the answer behind w's, still as made; the block g that bears the cells cur -/
structure TBox (w : World) (b : Nat) (v : Value) (l : List UInt8) (T : TypeId) (zc : Array Value) (g : Nat) (W : World) (cur : List Value) (p e : Nat) : Prop where
  old : ∀ k, WS b v k → k < w.heap.size
  rd : RAt W b v l p e
  kept : Kept (RS b) w W
  res : W.heap[w.heap.size]? = some (.cells zc T (0, 0))
  box : W.heap[g]? = some (.cells cur.toArray T (0, 0))
  gt : w.heap.size < g

def Ok1 (w : World) (g : Nat) : Nat → Prop := fun k => w.heap.size + 1 ≤ k ∧ k ≠ g

theorem TBox.start {w w1 : World} {b : Nat} {v : Value} {l : List UInt8} {T : TypeId} {zc : Array Value} {cs : List Value} {p e q e' : Nat} (hR : RAt w b v l p e) (hR1 : RAt w1 b v l q e') (hk : Kept (RS b) (w.alloc (.cells zc T)) w1) :
    TBox w b v l T zc w1.heap.size (w1.alloc (.cells cs.toArray T)) cs q e' := by
  have h1 : (w.alloc (.cells zc T)).heap.size ≤ w1.heap.size := hk.size
  have h2 : (w.alloc (.cells zc T)).heap.size = w.heap.size + 1 := by simp
  have hA : Kept (fun _ => False) w1 (w1.alloc (.cells cs.toArray T)) := (Kept.refl _ w1).alloc _
  have hK : Kept (RS b) w w1 := Kept.trans' ((Kept.refl (RS b) w).alloc _) hk (fun _ _ s => s)
  refine ⟨hR.inn, hR1.alloc _, Kept.trans' hK hA (fun _ _ f => f.elim), ?_, heap_alloc_new w1 _, by omega⟩
  rw [hA.block _ (by omega) id, hk.block _ (by omega) (rbox_new hR)]
  exact heap_alloc_new w _

section
variable {w W W' : World} {b g : Nat} {v : Value} {l : List UInt8} {T : TypeId} {zc : Array Value} {cur : List Value} {p e q e' : Nat}

theorem TBox.list (h : TBox w b v l T zc g W cur p e) (hR : RAt W' b v l q e') (hk : Kept (RS b) W W') : TBox w b v l T zc g W' cur q e' := by
  have hb : b < w.heap.size := h.old b (Or.inl rfl)
  have hg := h.gt
  exact ⟨h.old, hR, h.kept.trans hk, by rw [hk.block _ (lt_of_block h.res) (fun hs => by have hs' : w.heap.size = b := hs; omega)]; exact h.res,
    by rw [hk.block _ (lt_of_block h.box) (fun hs => by have hs' : g = b := hs; omega)]; exact h.box, h.gt⟩

theorem TBox.cell (h : TBox w b v l T zc g W cur p e) (i : Nat) (hi : i < cur.length) : W.cell? ⟨g, i, none⟩ = some cur[i] ∧ W.frozen? ⟨g, i, none⟩ = false := by
  refine ⟨?_, by simp [World.frozen?, h.box]⟩
  rw [cell_of_row _ _ i _ _ (0, 0) h.box]
  simp [List.getElem?_eq_getElem hi]

theorem set_kept (W : World) (g i : Nat) (u : Value) : Kept (fun k => k = g) W (W.setCell ⟨g, i, none⟩ u) :=
  Kept.setCell (S := fun k => k = g) (Kept.refl _ _) (a := ⟨g, i, none⟩) (Or.inl rfl) u

theorem TBox.set (h : TBox w b v l T zc g W cur p e) (i : Nat) (u : Value) : TBox w b v l T zc g (W.setCell ⟨g, i, none⟩ u) (cur.set i u) p e := by
  have hb : b < w.heap.size := h.old b (Or.inl rfl)
  have hg := h.gt
  have hk := set_kept W g i u
  refine ⟨h.old, h.rd.keep hk (fun k hk1 hs => by have := h.old k hk1; have hs' : k = g := hs; omega), Kept.trans' h.kept hk (fun k hk1 hs => by have hs' : k = g := hs; omega), ?_, ?_, h.gt⟩
  · rw [hk.block _ (lt_of_block h.res) (by omega)]; exact h.res
  · have hb := h.box
    simp [World.setCell, Array.getElem?_modify, hb]

theorem TBox.finR (h : TBox w b v l T zc g W cur p e) (c : Array Value) : RAt (W.setRow w.heap.size c) b v l p e :=
  h.rd.keep (setRow_kept W w.heap.size c) (fun k hk hs => by have := h.old k hk; have hs' : k = w.heap.size := hs; omega)
theorem TBox.finK (h : TBox w b v l T zc g W cur p e) (c : Array Value) : Kept (RS b) w (W.setRow w.heap.size c) :=
  Kept.trans' h.kept (setRow_kept W w.heap.size c) (fun k hk hs => by have hs' : k = w.heap.size := hs; omega)

section
variable {α : Type} {E : CellsOf α} {cs : List Value} {x : α} {sz : Nat} {sv : Value} {xs : List α}

theorem rel_start (hE : E.Ok) {w1 : World} {o : Obj} {zc' : Array Value} (h : E w1 (New (w.alloc (.cells zc' T))) cs x) : E (w1.alloc o) (Ok1 w w1.heap.size) cs x :=
  hE.keep (hE.mono h (fun k hk hn => ⟨by have hn' : (w.alloc (.cells zc' T)).heap.size ≤ k := hn; simpa using hn', by omega⟩)) ((Kept.refl (fun _ => False) w1).alloc o) (disj_none _)
theorem TBox.ok_rs (h : TBox w b v l T zc g W cur p e) : Disj (Ok1 w g) (RS b) := fun k hk hs => by have hb : b < w.heap.size := h.old b (Or.inl rfl); have hs' : k = b := hs; have := hk.1; omega
theorem ok_g (w : World) (g : Nat) : Disj (Ok1 w g) (fun k => k = g) := fun k hk hs => hk.2 hs
theorem ok_w (w : World) (g : Nat) : Disj (Ok1 w g) (fun k => k = w.heap.size) := fun k hk hs => by have := hk.1; have hs' : k = w.heap.size := hs; omega
theorem TBox.rel_list (hE : E.Ok) (h : TBox w b v l T zc g W cur p e) (hL : ListR E W' (New W) sz sv xs) : ListR E W' (Ok1 w g) sz sv xs :=
  hL.mono hE (fun k _ hk => by have hk' : W.heap.size ≤ k := hk; have := lt_of_block h.box; have := h.gt; exact ⟨by omega, by omega⟩)
theorem rel_fin (hE : E.Ok) (h : E W (Ok1 w g) cs x) (c : Array Value) : E (W.setRow w.heap.size c) (New w) cs x :=
  hE.mono (hE.keep h (setRow_kept W w.heap.size c) (ok_w w g)) (fun k _ hk => by have := hk.1; unfold New; omega)
theorem rel_finL (hE : E.Ok) (h : ListR E W (Ok1 w g) sz sv xs) (c : Array Value) : ListR E (W.setRow w.heap.size c) (New w) sz sv xs :=
  (h.keep hE (setRow_kept W w.heap.size c) (ok_w w g)).mono hE (fun k _ hk => by have := hk.1; unfold New; omega)
end
end

theorem partQ_set {w : World} {ok : Nat → Prop} {cs : List Value} {x : Part} (h : partE w ok cs x) {u : Value} (hu : IsSl u) : partQ w ok (cs.set 7 u) x u := by
  obtain ⟨vsubs, vacl, rfl, h1, h2, h3, h4, h5, h6, h7, _⟩ := h
  exact ⟨vacl, rfl, h1, h2, h3, h4, h5, h6, h7, hu⟩
theorem oper1Q_set {w : World} {ok : Nat → Prop} {cs : List Value} {x : Oper1} (h : oper1E w ok cs x) {u t : Value} (hu : IsSl u) (ht : IsSl t) : oper1Q w ok ((cs.set 8 u).set 9 t) x u t := by
  obtain ⟨_, _, vacl, rfl, h1, h2, h3, h4, h5, h6, h7, _⟩ := h
  exact ⟨vacl, rfl, h1, h2, h3, h4, h5, h6, h7, hu, ht⟩
theorem ansQ_set {w : World} {ok : Nat → Prop} {cs : List Value} {x : Ans} (h : ansE w ok cs x) {u : Value} (hu : IsSl u) : ansQ w ok (cs.set 16 u) x u := by
  obtain ⟨_, vacl, vkids, rfl, h1, h2, a1, a2, a3, a4, a5, b1, b2, b3, b4, b5, b6, b7, b8, b9, _⟩ := h
  exact ⟨vacl, vkids, rfl, h1, h2, a1, a2, a3, a4, a5, b1, b2, b3, b4, b5, b6, b7, b8, b9, hu⟩
theorem flat_set {n : Nat} {cs : List Value} (h : Flat n cs) (i : Nat) {u : Value} (hu : u.oneCell' = true) : Flat n (cs.set i u) :=
  ⟨by rw [List.length_set]; exact h.1, fun v hv => by
    rcases List.mem_or_eq_of_mem_set hv with hv | rfl
    · exact h.2 v hv
    · exact hu⟩
end Go.Proofs.YtpmemcpfoapjmaaGreat

namespace Go.Proofs.YtpmemcpfoapjmaaGreat
open Go.ChangeShapes Go.WideShapes Go.ChangeAt Go.RowKit
set_option linter.unusedVariables false

set_option maxRecDepth 100000 in
set_option maxHeartbeats 600000 in
theorem get_txn (w : World) (b : Nat) (v : Value) (l : List UInt8) (p e : Nat) (hR : RAt w b v l p e) {x : Txn} {q e' : Nat} (h : txnF.get l p e = (x, q, e')) :
    Calls Tryz.prog 113 #[.pointer (some ⟨b, 0, none⟩)] w (GPost txnE w b v l x q e') := by
  rcases h1 : partF.get l p e with ⟨x1, p1, e1⟩
  rcases h2 : (listF partF).get l p1 e1 with ⟨x2, p2, e2⟩
  have hf : txnF.get l p e = (⟨x1, x2⟩, p2, e2) := by simp only [txnF, isoF, seqF, h1, h2]
  rw [hf] at h
  simp only [Prod.mk.injEq] at h
  obtain ⟨rfl, rfl, rfl⟩ := h
  have H1 := Lib.hid h1; clear h1
  have H2 := Lib.hid h2; clear h2
  clear hf
  have hR0 := hR.alloc (.cells #[.int .i64 0, .string ⟨#[]⟩, .string ⟨#[]⟩, .slice none 0 0, .int .i64 0, .int .i64 0, .int .i64 0, .slice none 0 0] 36)
  have hsz : (Tryz.prog.info? 36).map (·.size) = some 8 := by kernel_rfl
  have HSZ := Lib.hid hsz; clear hsz
  go_enter Tryz.func113, Tryz.ntmps113
  go_wp2_with fail
  refine (get_part _ b v l _ _ hR0 H1.out).mono ?_
  rintro en w1 ⟨cs, rfl, hE1, hR1, hk1⟩
  have hfl := partE_flat hE1
  have HFL := Lib.hid hfl.1
  have HF1 := Lib.hid hfl.2
  have B0 := TBox.start (cs := cs) hR hR1 hk1
  replace hE1 := rel_start partE_ok (o := .cells cs.toArray 36) hE1
  clear hR1 hk1 hfl
  go_wp2_with (refine wpList_store_new w1 rfl 36 _ (.tmp 5) rfl _ cs rfl rfl (by rw [HFL.out]; exact HSZ.out) HFL.out.symm HF1.out ?_)
  refine (getList_part _ b v l _ _ B0.rd H2.out).mono ?_
  rintro en w2 ⟨sv2, rfl, hL2, hR2, hk2⟩
  obtain ⟨A2, n2, c2, rfl⟩ := hL2.shape
  replace hE1 := partE_ok.keep hE1 hk2 B0.ok_rs
  replace hL2 := B0.rel_list partE_ok hL2
  have B1a := B0.list hR2 hk2
  obtain ⟨hc2, hfz2⟩ := B1a.cell 7 (by rw [HFL.out]; omega)
  have B1 := B1a.set 7 (.slice A2 n2 c2)
  generalize cs[7]'(by rw [HFL.out]; omega) = u2 at hc2
  replace hE1 := partE_ok.keep hE1 (set_kept _ w1.heap.size 7 (.slice A2 n2 c2)) (ok_g w w1.heap.size)
  replace hL2 := hL2.keep partE_ok (set_kept _ w1.heap.size 7 (.slice A2 n2 c2)) (ok_g w w1.heap.size)
  clear B0 B1a hR2 hk2
  have hfl2 : Flat 8 (cs.set 7 (.slice A2 n2 c2)) := flat_set ⟨HFL.out, HF1.out⟩ 7 rfl
  have HL2 := Lib.hid hfl2.1
  have HF2 := Lib.hid hfl2.2
  have HB := Lib.hid B1.res
  have HX := Lib.hid (range_row B1.box)
  clear hfl2
  go_wp2_with (first | (refine wpList_load_mid rfl 36 (.tmp 3) rfl w1.heap.size 0 rfl (cs.set 7 (.slice A2 n2 c2)) _ HX.out Tryz.underlying36 rfl (by rw [HL2.out]; exact HSZ.out) ?_) | (refine wpList_store_row _ rfl 36 _ _ rfl w.heap.size _ (cs.set 7 (.slice A2 n2 c2)) rfl rfl HB.out (by rw [HL2.out]; exact HSZ.out) (by rw [HL2.out]; rfl) HF2.out ?_))
  have hrow := setRow_heap (w2.setCell ⟨w1.heap.size, 7, none⟩ (.slice A2 n2 c2)) w.heap.size _ ((cs.set 7 (.slice A2 n2 c2))).toArray _ _ HB.out
  have hload := run_loadVar_row (P := Tryz.prog) _ w.heap.size 36 36 _ (0, 0) _ hrow Tryz.underlying36 rfl (by rw [List.size_toArray, HL2.out]; exact HSZ.out)
  exact ret_cell 2 36 w.heap.size _ Tryz.results113 rfl hload rfl ⟨_, rfl, ⟨_, partQ_set (rel_fin partE_ok hE1 _) ⟨_, _, _, rfl⟩, rel_finL partE_ok hL2 _⟩, B1.finR _, B1.finK _⟩

set_option maxRecDepth 100000 in
set_option maxHeartbeats 600000 in
theorem get_entry (w : World) (b : Nat) (v : Value) (l : List UInt8) (p e : Nat) (hR : RAt w b v l p e) {x : Entry} {q e' : Nat} (h : entryF.get l p e = (x, q, e')) :
    Calls Tryz.prog 75 #[.pointer (some ⟨b, 0, none⟩)] w (GPost entryE w b v l x q e') := by
  rcases h1 : numF.get l p e with ⟨x1, p1, e1⟩
  have hi1 : I64 x1 := by have := numF_i64 (l := l) (p := p) (e := e); rw [h1] at this; exact this
  rcases h2 : numF.get l p1 e1 with ⟨x2, p2, e2⟩
  have hi2 : I64 x2 := by have := numF_i64 (l := l) (p := p1) (e := e1); rw [h2] at this; exact this
  rcases h3 : numF.get l p2 e2 with ⟨x3, p3, e3⟩
  have hi3 : I64 x3 := by have := numF_i64 (l := l) (p := p2) (e := e2); rw [h3] at this; exact this
  rcases h4 : txnF.get l p3 e3 with ⟨x4, p4, e4⟩
  have hf : entryF.get l p e = (⟨x1, x2, x3, x4⟩, p4, e4) := by simp only [entryF, isoF, seqF, h1, h2, h3, h4]
  rw [hf] at h
  simp only [Prod.mk.injEq] at h
  obtain ⟨rfl, rfl, rfl⟩ := h
  have H1 := Lib.hid h1; clear h1
  have H2 := Lib.hid h2; clear h2
  have H3 := Lib.hid h3; clear h3
  have H4 := Lib.hid h4; clear h4
  clear hf
  have S0 := RSt.start (hR.alloc (.cells #[.int .i64 0, .int .i64 0, .int .i64 0, .int .i64 0, .string ⟨#[]⟩, .string ⟨#[]⟩, .slice none 0 0, .int .i64 0, .int .i64 0, .int .i64 0, .slice none 0 0] 38))
  have hbk := heap_alloc_new w (.cells #[.int .i64 0, .int .i64 0, .int .i64 0, .int .i64 0, .string ⟨#[]⟩, .string ⟨#[]⟩, .slice none 0 0, .int .i64 0, .int .i64 0, .int .i64 0, .slice none 0 0] 38)
  have hnb := rbox_new hR
  have hz0 : w.heap.size + 1 ≤ (w.alloc (.cells #[.int .i64 0, .int .i64 0, .int .i64 0, .int .i64 0, .string ⟨#[]⟩, .string ⟨#[]⟩, .slice none 0 0, .int .i64 0, .int .i64 0, .int .i64 0, .slice none 0 0] 38)).heap.size := by simp
  go_enter Tryz.func75, Tryz.ntmps75
  go_wp2_with fail
  refine (gnum_any _ b v l _ _ S0.at_ H1.out).mono ?_
  rintro en w1 ⟨rfl, hR1, hk1⟩
  have S1 : RSt (w.alloc (.cells #[.int .i64 0, .int .i64 0, .int .i64 0, .int .i64 0, .string ⟨#[]⟩, .string ⟨#[]⟩, .slice none 0 0, .int .i64 0, .int .i64 0, .int .i64 0, .slice none 0 0] 38)) b v l w1 p1 e1 := ⟨hR1, S0.kept.trans hk1⟩
  clear S0 hR1 hk1
  go_wp2_with fail
  refine (gnum_any _ b v l _ _ S1.at_ H2.out).mono ?_
  rintro en w2 ⟨rfl, hR2, hk2⟩
  have S2 : RSt (w.alloc (.cells #[.int .i64 0, .int .i64 0, .int .i64 0, .int .i64 0, .string ⟨#[]⟩, .string ⟨#[]⟩, .slice none 0 0, .int .i64 0, .int .i64 0, .int .i64 0, .slice none 0 0] 38)) b v l w2 p2 e2 := ⟨hR2, S1.kept.trans hk2⟩
  clear S1 hR2 hk2
  go_wp2_with fail
  refine (gnum_any _ b v l _ _ S2.at_ H3.out).mono ?_
  rintro en w3 ⟨rfl, hR3, hk3⟩
  have S3 : RSt (w.alloc (.cells #[.int .i64 0, .int .i64 0, .int .i64 0, .int .i64 0, .string ⟨#[]⟩, .string ⟨#[]⟩, .slice none 0 0, .int .i64 0, .int .i64 0, .int .i64 0, .slice none 0 0] 38)) b v l w3 p3 e3 := ⟨hR3, S2.kept.trans hk3⟩
  clear S2 hR3 hk3
  go_wp2_with fail
  refine (get_txn _ b v l _ _ S3.at_ H4.out).mono ?_
  rintro en w4 ⟨cs4, rfl, hL4, hR4, hk4⟩
  obtain ⟨A4_acl, n4_acl, c4_acl, A4_subs, n4_subs, c4_subs, rfl⟩ := txnE_cells hL4
  have hd4 := new_rs S3.at_
  have hz4 : w.heap.size + 1 ≤ w3.heap.size := Nat.le_trans hz0 S3.kept.size
  have S4 : RSt (w.alloc (.cells #[.int .i64 0, .int .i64 0, .int .i64 0, .int .i64 0, .string ⟨#[]⟩, .string ⟨#[]⟩, .slice none 0 0, .int .i64 0, .int .i64 0, .int .i64 0, .slice none 0 0] 38)) b v l w4 p4 e4 := ⟨hR4, S3.kept.trans hk4⟩
  clear S3 hR4 hk4
  have hb := S4.blk hbk hnb
  have hsz : (Tryz.prog.info? 38).map (·.size) = some 11 := by kernel_rfl
  have HSZ := Lib.hid hsz; clear hsz
  have HB := Lib.hid hb; clear hb
  go_wp2_with (refine wpList_store_row _ rfl 38 _ _ rfl w.heap.size _ [.int .i64 x1, .int .i64 x2, .int .i64 x3, .int .i64 x4.part.kind, .string x4.part.path, .string x4.part.data, .slice A4_acl n4_acl c4_acl, .int .i64 x4.part.owner, .int .i64 x4.part.number, .int .i64 x4.part.err, .slice A4_subs n4_subs c4_subs] rfl rfl HB.out HSZ.out rfl (by simp [Value.oneCell']) ?_)
  have hrow := setRow_heap w4 w.heap.size _ ([.int .i64 x1, .int .i64 x2, .int .i64 x3, .int .i64 x4.part.kind, .string x4.part.path, .string x4.part.data, .slice A4_acl n4_acl c4_acl, .int .i64 x4.part.owner, .int .i64 x4.part.number, .int .i64 x4.part.err, .slice A4_subs n4_subs c4_subs] : List Value).toArray _ _ HB.out
  have hload := run_loadVar_row (P := Tryz.prog) _ w.heap.size 38 38 _ (0, 0) _ hrow Tryz.underlying38 rfl HSZ.out
  exact ret_cell 2 38 w.heap.size _ Tryz.results75 rfl hload rfl ⟨_, rfl, ⟨_, rfl, fin_E txnE_ok hL4 hz4 _, hi1, hi2, hi3⟩, fin_R hR S4.at_ _, fin_K hR S4.kept _⟩

theorem info_entry : (Tryz.prog.info? 38).map (fun i => (i.zero, i.size, i.bytes)) = some (some (.agg #[.int .i64 0, .int .i64 0, .int .i64 0, .int .i64 0, .string ⟨#[]⟩, .string ⟨#[]⟩, .slice none 0 0, .int .i64 0, .int .i64 0, .int .i64 0, .slice none 0 0]), 11, 136) := by kernel_rfl

set_option maxRecDepth 100000 in
set_option maxHeartbeats 600000 in
theorem getList_entry (w : World) (b : Nat) (v : Value) (l : List UInt8) (p e : Nat) (hR : RAt w b v l p e) {xs : List Entry} {q e' : Nat} (h : (listF entryF).get l p e = (xs, q, e')) :
    Calls Tryz.prog 111 #[.pointer (some ⟨b, 0, none⟩), .func (.func 75) #[] #[]] w (LPost entryE 11 w b v l xs q e') := by
  obtain ⟨i0, hi, hz0, hz1, hz2⟩ := info_parts info_entry
  have hcl := rCount_le l 256 p e
  have hcc := rcount_any 256 w b v l p e hR (by omega) (by omega)
  rcases h1 : rCount l 256 p e with ⟨n, p1, e1⟩
  rw [h1] at hcl hcc
  simp only [listF, h1] at h hcl hcc
  have HH := Lib.hid h; clear h
  have HZ1 := Lib.hid hz1; clear hz1
  have HZ2 := Lib.hid hz2; clear hz2
  have HZ0 := Lib.hid hz0; clear hz0
  have HI := Lib.hid hi; clear hi
  clear h1
  have hn : n ≤ 256 := by omega
  clear hcl
  have HCC := Lib.hid hcc; clear hcc
  go_enter Tryz.func111, Tryz.ntmps111
  go_wp2_with fail
  refine HCC.out.mono ?_
  rintro en w0 ⟨rfl, hR0, hk0⟩
  go_wp2_with fail
  go_loopw [5, 8] (fun acc iv wr => GetRel entryE entryF w b v l 38 11 n p1 e1 acc iv wr) (fun _ iv _ => n - (intOf iv).toNat)
  case atStart => exact ⟨0, rfl, Nat.zero_le _, AccR.nil _ _ _ _ _, hR0, hk0⟩
  case round =>
    obtain ⟨k, rfl, hkn, hacc, hRk, hK⟩ := hrel.ex
    clear hrel HCC hR0 hk0
    by_cases hlt : k < n
    · have hkl : (k : Int) < (n : Int) := by omega
      go_wp2_with fail
      refine (get_entry wr b v l _ _ hRk (eta3 _)).mono ?_
      rintro en w1 ⟨cs, rfl, hE1, hR1, hk1⟩
      have hfl := entryE_flat hE1
      have hacc1 := hacc.keep entryE_ok hk1 (new_rs hR)
      have hown := hacc.own
      have hE2 : entryE w1 (fun g => w.heap.size ≤ g ∧ some g ≠ u5.ownBlock) _ _ := entryE_ok.mono hE1 (fun g _ hg => ⟨Nat.le_trans hK.size hg, fun e => by have := (hown g e.symm).2; have hg' : wr.heap.size ≤ g := hg; omega⟩)
      have hsn := getN_snoc (entryF).get k l p1 e1
      have hlen := getN_len (entryF).get k l p1 e1
      have hwl : w.heap.size ≤ w1.heap.size := Nat.le_trans hK.size hk1.size
      have HSN := Lib.hid hsn; clear hsn
      have HLEN := Lib.hid hlen; clear hlen
      have hK1 := hK.trans hk1
      clear hacc hown hE1 hRk hK hk1
      go_wp2_with (first | (refine wpList_one rfl 23 38 (.tmp 13) rfl (.agg cs.toArray) cs rfl rfl i0 _ Tryz.underlying23 HI.out HZ0.out (by rw [HZ1.out, hfl.1]) (by rw [hfl.1]; omega) (by rw [hfl.1]; omega) ?_) | (at_builtin; go_loud (refine wpList_push entryE_ok w w1 rfl (.tmp 10) (.tmp 14) 23 rfl 38 i0 _ 11 136 Tryz.underlying23 HI.out HZ0.out HZ1.out HZ2.out rfl (by decide) u5 _ hacc1 cs _ hE2 hfl rfl rfl (by rw [HLEN.out]; omega) (by decide) hwl ?_); intro v' w' hacc' hk'))
      go_roundw
      case rel => exact ⟨k + 1, by go_num, hlt, by rw [HSN.out]; dsimp only; exact hacc', by rw [HSN.out]; dsimp only; exact hR1.keep hk' (fun g hg hs => by have := hR.inn g hg; have hs' : w.heap.size ≤ g := hs; omega), Kept.trans' hK1 hk' (fun g hg hs => by have hs' : w.heap.size ≤ g := hs; omega)⟩
      case measure => simp [intOf]; omega
    · have hkl : ¬ (k : Int) < (n : Int) := by omega
      obtain rfl : k = n := by omega
      have hlist := hacc.list entryE_ok
      rw [HH.out] at hlist hRk
      have HL := Lib.hid hlist
      have HR := Lib.hid hRk
      clear hacc hlist hRk
      go_wp2_with fail
      go_ret
      exact ⟨_, rfl, HL.out, HR.out, hK⟩

end Go.Proofs.YtpmemcpfoapjmaaGreat

namespace Go.Proofs.YtpmemcpfoapjmaaGreat
open Go.ChangeShapes Go.WideShapes Go.ChangeAt Go.RowKit
set_option linter.unusedVariables false

theorem layN_app {α : Type} (f : Fmt α) (l r : List α) : layN f (l ++ r) = layN f l ++ layN f r := by simp [layN]
theorem layN_takel {α : Type} (f : Fmt α) (l : List α) (n : Nat) : (layN f (l.take n)).length ≤ (layN f l).length := by
  have h : layN f l = layN f (l.take n) ++ layN f (l.drop n) := by rw [← layN_app, List.take_append_drop]
  rw [h, List.length_append]; omega

theorem message_split' (y : Message) : ∃ a b, 0 < b.length ∧ ∀ l, messageF.lay (withEntries y l) = a ++ (sev l.length ++ (layN entryF l ++ b)) := by
  refine ⟨sev (zz y.kind) ++ (sev (zz y.epoch) ++ (sev (zz y.zxid) ++ (sev (zz y.number) ++ (sev (zz y.session) ++ ((listF numF).lay y.marks ++ (textF 65536).lay y.data))))), reqF.lay y.request ++ (listF (textF 4096)).lay y.ids, ?_, fun l => by
    simp only [messageF, isoF, seqF, listF, numF, withEntries, List.append_assoc]⟩
  have h := sev_length_pos (zz y.request.op.kind)
  obtain ⟨r, e⟩ : ∃ r, reqF.lay y.request = sev (zz y.request.op.kind) ++ r := ⟨_, by simp only [reqF, isoF, seqF, oper1F, numF, List.append_assoc]; rfl⟩
  rw [e, List.length_append, List.length_append]; omega

/-- where the last entry lies -/
structure At (t s : List UInt8) (p : Nat) : Prop where
  room : p + 1 + s.length ≤ t.length
  eq : (t.drop p).take s.length = s

theorem inside_at (y : Message) (l : List Entry) (x : Entry) : ∃ p, At (messageF.lay (withEntries y (l ++ [x]))) (entryF.lay x) p := by
  obtain ⟨a, b, hb, h⟩ := message_split' y
  refine ⟨(a ++ (sev (l ++ [x]).length ++ layN entryF l)).length, ?_, ?_⟩
  · rw [h, layN_app]
    simp only [List.length_append, layN, List.flatMap_cons, List.flatMap_nil, List.append_nil]
    omega
  · have e : messageF.lay (withEntries y (l ++ [x])) = (a ++ (sev (l ++ [x]).length ++ layN entryF l)) ++ (entryF.lay x ++ b) := by
      rw [h, layN_app]
      simp only [layN, List.flatMap_cons, List.flatMap_nil, List.append_nil, List.append_assoc]
    rw [e, List.drop_left, List.take_left]

theorem inside_len (y : Message) (x : Entry) (n : Nat) (hn : n ≤ 100) : (messageF.lay (withEntries y (y.entries.take n ++ [x]))).length ≤ (messageF.lay y).length + (entryF.lay x).length + 10 := by
  obtain ⟨a, b, hb, h⟩ := message_split' y
  have h0 := h y.entries
  rw [withEntries_self] at h0
  rw [h, h0, layN_app]
  have h1 := layN_takel entryF y.entries n
  have h2 := sev_length_u64 (n := (y.entries.take n ++ [x]).length) (by simp; omega)
  simp only [List.length_append, layN, List.flatMap_cons, List.flatMap_nil, List.append_nil] at h1 h2 ⊢
  omega

theorem at_str {s t : ByteArray} {p : Nat} (h : At t.data.toList s.data.toList p) : t.extract p (p + s.size) = s := by
  apply str_eq
  rw [Lib.extract_data]
  have := h.eq
  rw [str_len] at this
  simpa using this

theorem ListR.take {α : Type} {E : CellsOf α} {w : World} {ok : Nat → Prop} {sz : Nat} {A : Option Addr} {n c : Nat} {l : List α} (h : ListR E w ok sz (.slice A n c) l) (k : Nat) (hk : k ≤ n) : ListR E w ok sz (.slice A k c) (l.take k) := by
  obtain ⟨rows, ⟨A', c', hv, hc, hm, hat⟩, hlen, hel⟩ := h
  simp only [Value.slice.injEq] at hv
  obtain ⟨rfl, rfl, rfl⟩ := hv
  refine ⟨rows.take k, ⟨A, c, by simp; omega, by simp; omega, hm, ?_⟩, by simp [hlen], fun i hi hi' => ?_⟩
  · rcases hat with h0 | ⟨g, off, hA, hok, hg, hcell⟩
    · exact Or.inl ⟨by simp [h0.1], h0.2⟩
    · refine Or.inr ⟨g, off, hA, ⟨hok.1, fun k' hk' => hok.2.1 k' (Nat.lt_of_lt_of_le hk' (Nat.mul_le_mul_right _ (by simp; omega))), hok.2.2⟩, hg, fun i hi => ?_⟩
      have hi2 : i < rows.length := by simp at hi; omega
      have := hcell i hi2
      rw [List.getElem_take]
      exact this
  · rw [List.getElem_take, List.getElem_take]
    exact hel i (by simp at hi; omega) (by simp at hi'; omega)
end Go.Proofs.YtpmemcpfoapjmaaGreat
