/- set, setAcl. -/
import Derived.Test.YtccoeccibokecaaNe
namespace Go.Proofs.Ytccoeccibokecaa
open Go.ChangeShapes Go.WideShapes Go.ChangeAt Go.RowKit Go.Maps
set_option linter.unusedVariables false
set_option linter.unusedSimpArgs false
/-- a transaction as a value: its ACL's slice, its error, its parts' slice -/
structure TX where
  aa : Option Addr
  an : Nat
  ac : Nat
  err : Int
  sa : Option Addr
  sn : Nat
  sc : Nat
def txnL (x : T1) (y : TX) : List Value := [.int .i64 x.kind, .string x.path, .string x.data, .slice y.aa y.an y.ac, .int .i64 x.owner, .int .i64 x.number, .int .i64 y.err, .slice y.sa y.sn y.sc]
def txnV (x : T1) (y : TX) : Value := .agg (txnL x y).toArray
def evsC (l : List Ev) : List Value := l.flatMap fun e => [.int .i64 e.kind, .string e.path, .int .i64 e.zx]
/-- the events that a call answers: a new row -/
def EvsAt (B : Nat) (w : World) (v : Value) (l : List Ev) : Prop := w.ownsRow B 64 3 v l.length (evsC l)
section
variable {Z : Nat → Prop} {w w' : World} {q : TB} {M : TM} {c : Nat} {D E : DV}
theorem one_le : 1 ≤ maxLen := by unfold maxLen; decide
theorem two_le : 2 ≤ maxLen := by unfold maxLen; decide
theorem evsAt_nil (B : Nat) : EvsAt B w (.slice none 0 0) [] := World.ownsRow_nil _ _ _ _
theorem evsC_len (l : List Ev) : (evsC l).length = l.length * 3 := by
  induction l with
  | nil => rfl
  | cons a l ih => simp [evsC] at ih ⊢; omega
theorem evsAt_new {B : Nat} {l : List Ev} (hB : B ≤ w.heap.size) (hm : l.length ≤ maxLen) : EvsAt B (w.alloc (.cells (evsC l).toArray 64)) (.slice (some ⟨w.heap.size, 0, none⟩) l.length l.length) l := by
  have hl := evsC_len l
  refine ⟨by rw [hl], .inr ⟨w.heap.size, l.length, (evsC l).toArray, rfl, hB, heap_alloc_new w _, Nat.le_refl _, ?_, ?_, ?_⟩⟩
  · exact hm
  · rw [List.size_toArray, hl]
  · exact List.take_of_length_le (Nat.le_of_eq hl)
abbrev txnO (x : T1) (y : TX) : Obj := .cells #[.int .i64 x.kind, .string x.path, .string x.data, .slice y.aa y.an y.ac, .int .i64 x.owner, .int .i64 x.number, .int .i64 y.err, .slice y.sa y.sn y.sc] 38
abbrev nodeO (d : ByteArray) (va : Option Addr) (vn vc : Nat) (s : St) : Obj := .cells #[.string d, .slice va vn vc, .int .i64 s.cz, .int .i64 s.mz, .int .i64 s.pz, .int .i64 s.ver, .int .i64 s.cver, .int .i64 s.aver, .int .i64 s.owner, .int .i64 0, .int .i64 0] 85
theorem empty_eq : ByteArray.empty = ⟨#[]⟩ := rfl
theorem World.heap_drew (w : World) : w.drew.heap = w.heap := rfl
theorem cell_kept {X : Nat → Prop} {c : Array Value} {b : Nat} {T : TypeId} (hk : Kept X w w') (h : w.heap[b]? = some (.cells c T (0, 0))) (hx : ¬ X b) (i : Nat) {v : Value} (hv : c[i]? = some v) : w'.cell? ⟨b, i, none⟩ = some v := by
  rw [cell_of_row w' b i _ _ (0, 0) ((hk.block b (lt_of_block h) hx).trans h)]; exact hv
def CallPost (Z : Nat → Prop) (q : TB) (c : Nat) (w : World) (r : TM × List Ev) (e : Ending) (w' : World) : Prop := ∃ v, e = .returned v ∧ EvsAt w.heap.size w' v r.2 ∧ TAt Z w' q r.1 c ∧ Kept (TBs q) w w'
set_option maxRecDepth 100000 in
set_option maxHeartbeats 1000000 in
theorem set_any (h : TAt Z w q M c) (x : T1) (y : TX) (zx : Int) (hp : x.path.size ≤ 140737488355328) (hc : c < 4611686018427387904) :
    Calls Try.prog 78 #[.pointer (some ⟨q.t, 0, none⟩), txnV x y, .int .i64 zx] w (CallPost Z q (c + 1) w (setM M x zx)) := by
  obtain ⟨D, E, h⟩ := h
  unfold txnV txnL
  have HD := Lib.hid h
  have hlt := h.lt _ (.inl rfl)
  obtain ⟨c0, c1, c2, f⟩ := h.three
  have hk1 : Kept (fun _ => False) w (w.alloc (txnO x y)).drew := ((Kept.refl _ w).alloc _).drew
  have hk2 : Kept (fun _ => False) w ((w.alloc (txnO x y)).alloc (nodeO ⟨#[]⟩ none 0 0 ⟨0, 0, 0, 0, 0, 0, 0⟩)).drew := (((Kept.refl _ w).alloc _).alloc _).drew
  rcases h.look x.path.data.toList with ⟨nd, av, hM, hL, ha⟩ | ⟨hM, hL⟩
  · obtain ⟨va, vn, vc, rfl⟩ := ha.shape
    have hrun := (h.kept0 hk1).lookNode x.path hp
    have hrun' := (h.kept0 hk2).lookNode x.path hp
    rw [hL] at hrun hrun'
    simp only [Option.getD_some, Option.isSome_some, nodeV] at hrun hrun'
    have hk3 : Kept (fun _ => False) w (((w.alloc (txnO x y)).alloc (nodeO x.data va vn vc { nd.st with ver := x.number, mz := zx })).drew.drew.drew) := (((Kept.refl _ w).alloc _).alloc _).drew.drew.drew
    obtain ⟨W, hst, hT, hK⟩ := (h.kept0 hk3).storeN x.path hp (h.okk _ (by rw [hM]; exact fun e => nomatch e)) hc (nd := { nd with data := x.data, st := { nd.st with ver := x.number, mz := zx } }) (ha.kept0 hk3)
    simp only [nodeV] at hst
    have HE : Hid (setM M x zx = ({ M with N := updN M.N x.path.data.toList (some { nd with data := x.data, st := { nd.st with ver := x.number, mz := zx } }) }, [⟨3, x.path, zx⟩])) := Lib.hid (by unfold setM; rw [hM])
    have h3 : (((w.alloc (txnO x y)).alloc (nodeO x.data va vn vc { nd.st with ver := x.number, mz := zx })).drew.drew.drew).heap[w.heap.size]? = some (txnO x y) := (Below.heap_alloc _ _ _ (by simp)).trans (heap_alloc_new w _)
    have e1 : W.cell? ⟨w.heap.size, 1, none⟩ = some (.string x.path) := cell_kept hK h3 (fun e => Nat.lt_irrefl _ (h.lt _ e)) 1 rfl
    clear h3
    have HT := Lib.hid hT
    have HK := Lib.hid (hk3.mono (T := TBs q) (fun _ _ f => f.elim) |>.trans hK)
    clear h hL hT hK hk1 hk2 hk3 ha hM
    go_enter Try.func78, Try.ntmps78
    go_wp2
    go_region
    all_goals (
      go_wp2
      go_region
      all_goals (
        go_wp2
        go_region
        all_goals (
          go_wp2
          go_ret
          rw [HE.out]
          have hsz := HK.out.size
          have hT2 := HT.out.kept0 ((Kept.refl _ W).alloc (.cells #[.int .i64 3, .string x.path, .int .i64 zx] 64))
          have hK2 := HK.out.alloc (.cells #[.int .i64 3, .string x.path, .int .i64 zx] 64)
          refine ⟨_, rfl, ?_, hT2, hK2⟩
          exact evsAt_new (l := [⟨3, x.path, zx⟩]) hsz one_le)))
  · have hrun := (h.kept0 hk1).lookNode x.path hp
    have hrun' := (h.kept0 hk2).lookNode x.path hp
    rw [hL] at hrun hrun'
    simp only [Option.getD_none, Option.isSome_none, node0, empty_eq] at hrun hrun'
    have HE : Hid (setM M x zx = (M, [])) := Lib.hid (by unfold setM; rw [hM])
    clear h hL hk1 hk2 hM
    go_enter Try.func78, Try.ntmps78
    go_wp2
    go_region
    all_goals go_wp2
    all_goals go_ret
    all_goals rw [HE.out]
    all_goals refine ⟨_, rfl, evsAt_nil _, TAt.mono ⟨_, _, HD.out.kept0 (((Kept.refl _ w).alloc _).alloc _).drew⟩ (Nat.le_succ _), (((Kept.refl _ w).alloc _).alloc _).drew⟩
end
end Go.Proofs.Ytccoeccibokecaa
