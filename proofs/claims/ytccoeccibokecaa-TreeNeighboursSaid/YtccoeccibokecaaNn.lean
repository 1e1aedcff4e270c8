/- do, Apply, for a transaction that is no session's and no multi; New. -/
import Derived.Test.YtccoeccibokecaaNl
namespace Go.Proofs.Ytccoeccibokecaa
open Go.ChangeShapes Go.WideShapes Go.ChangeAt Go.RowKit Go.Maps
set_option linter.unusedVariables false
set_option linter.unusedSimpArgs false
structure EX where
  zx : Int
  sess : Int
  xid : Int
def entV (e : EX) (x : T1) (y : TX) : Value := .agg #[.int .i64 e.zx, .int .i64 e.sess, .int .i64 e.xid, .int .i64 x.kind, .string x.path, .string x.data, .slice y.aa y.an y.ac, .int .i64 x.owner, .int .i64 x.number, .int .i64 y.err, .slice y.sa y.sn y.sc]
abbrev entO (e : EX) (x : T1) (y : TX) : Obj := .cells #[.int .i64 e.zx, .int .i64 e.sess, .int .i64 e.xid, .int .i64 x.kind, .string x.path, .string x.data, .slice y.aa y.an y.ac, .int .i64 x.owner, .int .i64 x.number, .int .i64 y.err, .slice y.sa y.sn y.sc] 40
section
variable {Z : Nat → Prop} {w w' : World} {q : TB} {M : TM} {c : Nat} {D E : DV}
set_option maxRecDepth 100000 in
set_option maxHeartbeats 1000000 in
theorem do_one (h : TAt Z w q M c) (x : T1) (y : TX) (zx : Int) (hx : TxAt q w x y) (hp : x.path.size ≤ 140737488355328) (hc : c < 4611686018427387903) (h5 : x.kind ≠ 5) (h6 : x.kind ≠ 6) (h7 : x.kind ≠ 7) :
    Calls Try.prog 32 #[.pointer (some ⟨q.t, 0, none⟩), txnV x y, .int .i64 zx] w (CallPost Z q (c + 2) w (partM M x zx)) := by
  have hk0 : Kept (fun _ => False) w (w.alloc (txnO x y)) := (Kept.refl _ w).alloc _
  have HK0 := Lib.hid hk0
  have HP := Lib.hid (part_any (h.kept0 hk0) x y zx (hx.kept0 hk0) hp hc)
  clear h hk0 hx
  unfold txnV txnL at *
  have b5 : (x.kind == 5) = false := by simpa using h5
  have b6 : (x.kind == 6) = false := by simpa using h6
  have b7 : (x.kind == 7) = false := by simpa using h7
  clear h5 h6 h7
  go_enter Try.func32, Try.ntmps32
  go_wp2_with fail
  refine HP.out.mono ?_
  rintro e w1 hP
  obtain ⟨v, rfl, hr⟩ := hP.back HK0.out (Nat.le_refl _)
  have HR := Lib.hid hr
  clear hP hr
  go_wp2_with fail
  go_ret
  exact ⟨v, rfl, HR.out⟩
theorem evs_ne {B b : Nat} {v : Value} {l : List Ev} (h : EvsAt B w v l) (hb : b < B) : ∀ k, v.ownBlock = some k → ¬ k = b := own_ne h hb
/-- what an Apply answers and leaves -/
def ApplyPost (Z : Nat → Prop) (q : TB) (c : Nat) (w : World) (r : TM × List Ev × Int) (e : Ending) (w' : World) : Prop := ∃ v, e = .returned (.tuple #[v, .int .i64 r.2.2]) ∧ EvsAt w.heap.size w' v r.2.1 ∧ TAt Z w' q r.1 c ∧ Kept (TBs q) w w'
theorem TAt.setZ (h : TAt Z w q M c) (z : Int) : TAt Z (w.setCell ⟨q.t, 2, none⟩ (.int .i64 z)) q { M with z := z } c := by
  obtain ⟨D, E, h⟩ := h; exact ⟨D, E, h.setZ z⟩
set_option maxRecDepth 100000 in
set_option maxHeartbeats 1000000 in
theorem apply_one (h : TAt Z w q M c) (x : T1) (y : TX) (e : EX) (hx : TxAt q w x y) (hp : x.path.size ≤ 140737488355328) (hc : c < 4611686018427387903) (h5 : x.kind ≠ 5) (h6 : x.kind ≠ 6) (h7 : x.kind ≠ 7) (h8 : x.kind ≠ 8) :
    Calls Try.prog 12 #[.pointer (some ⟨q.t, 0, none⟩), entV e x y] w (ApplyPost Z q (c + 2) w ({ (partM M x e.zx).1 with z := e.zx }, (partM M x e.zx).2, 0)) := by
  have hk0 : Kept (fun _ => False) w (w.alloc (entO e x y)) := (Kept.refl _ w).alloc _
  have HK0 := Lib.hid hk0
  have HQ := Lib.hid (h.lt _ (.inl rfl))
  have HNB : Hid (¬ TBs q w.heap.size) := Lib.hid (fun e => Nat.lt_irrefl _ (h.lt _ e))
  have HB0 : Hid ((w.alloc (entO e x y)).heap[w.heap.size]? = some (entO e x y)) := Lib.hid (heap_alloc_new w _)
  have HP := Lib.hid (do_one (h.kept0 hk0) x y e.zx (hx.kept0 hk0) hp hc h5 h6 h7)
  clear h hk0 hx
  unfold txnV txnL at *
  unfold entV at *
  have b8 : (x.kind == 8) = false := by simpa using h8
  clear h5 h6 h7 h8
  go_enter Try.func12, Try.ntmps12
  go_wp2_with fail
  refine HP.out.mono ?_
  rintro e1 w1 hP
  obtain ⟨v, rfl, hv, ht, hk⟩ := hP
  have HV := Lib.hid (hv.mono (B' := w.heap.size) (by simp))
  have HT := Lib.hid (ht.setZ e.zx)
  have e0 : w1.cell? ⟨w.heap.size, 0, none⟩ = some (.int .i64 e.zx) := cell_kept hk HB0.out HNB.out 0 rfl
  have e3 : w1.cell? ⟨w.heap.size, 3, none⟩ = some (.int .i64 x.kind) := cell_kept hk HB0.out HNB.out 3 rfl
  have HK := Lib.hid ((HK0.out.mono (T := TBs q) (fun _ _ f => f.elim)).trans hk)
  obtain ⟨D, E, hD⟩ := ht
  obtain ⟨c0, c1, c2, f⟩ := hD.three
  have f2 := f 2
  have HN : Hid (¬ w.heap.size = q.t) := Lib.hid (fun e => HNB.out (.inl e))
  have HN' : Hid (¬ q.t = w.heap.size) := Lib.hid (fun e => HNB.out (.inl e.symm))
  have hne := HN.out
  have hne' := HN'.out
  clear hv hk hD f
  go_wp2_with fail
  go_ret2
  have hks : Kept (TBs q) w (w1.setCell ⟨q.t, 2, none⟩ (.int .i64 e.zx)) := HK.out.setCell (a := ⟨q.t, 2, none⟩) (.inl (.inl rfl)) _
  exact ⟨v, rfl, ownKept HV.out (kept_set w1 q.t 2 _) (evs_ne HV.out HQ.out), HT.out, hks⟩
end
end Go.Proofs.Ytccoeccibokecaa
