/- Lay, New. -/
import Derived.Test.YtccoeccibokecaaNc
namespace Go.Proofs.Ytccoeccibokecaa
open Go.ChangeShapes Go.WideShapes Go.ChangeAt Go.RowKit Go.Maps
set_option linter.unusedVariables false
set_option linter.unusedSimpArgs false
def statV (s : St) (len kids : Int) : Value := .agg #[.int .i64 s.cz, .int .i64 s.mz, .int .i64 s.pz, .int .i64 s.ver, .int .i64 s.cver, .int .i64 s.aver, .int .i64 s.owner, .int .i64 len, .int .i64 kids]
/-- a Stat in a box -/
def BoxS (w : World) (b : Nat) (s : St) (len kids : Int) : Prop := w.heap[b]? = some (.cells #[.int .i64 s.cz, .int .i64 s.mz, .int .i64 s.pz, .int .i64 s.ver, .int .i64 s.cver, .int .i64 s.aver, .int .i64 s.owner, .int .i64 len, .int .i64 kids] 56 (0, 0))
structure Nine (w : World) (b : Nat) (s : St) (len kids : Int) : Prop where
  b0 : w.cell? ⟨b, 0, none⟩ = some (.int .i64 s.cz)
  b1 : w.cell? ⟨b, 1, none⟩ = some (.int .i64 s.mz)
  b2 : w.cell? ⟨b, 2, none⟩ = some (.int .i64 s.pz)
  b3 : w.cell? ⟨b, 3, none⟩ = some (.int .i64 s.ver)
  b4 : w.cell? ⟨b, 4, none⟩ = some (.int .i64 s.cver)
  b5 : w.cell? ⟨b, 5, none⟩ = some (.int .i64 s.aver)
  b6 : w.cell? ⟨b, 6, none⟩ = some (.int .i64 s.owner)
  b7 : w.cell? ⟨b, 7, none⟩ = some (.int .i64 len)
  b8 : w.cell? ⟨b, 8, none⟩ = some (.int .i64 kids)
  f : ∀ i, w.frozen? ⟨b, i, none⟩ = false
theorem BoxS.nine {w : World} {b : Nat} {s : St} {len kids : Int} (h : BoxS w b s len kids) : Nine w b s len kids := by
  have e : ∀ i, w.cell? ⟨b, i, none⟩ = ([.int .i64 s.cz, .int .i64 s.mz, .int .i64 s.pz, .int .i64 s.ver, .int .i64 s.cver, .int .i64 s.aver, .int .i64 s.owner, .int .i64 len, .int .i64 kids] : List Value)[i]? := fun i => by
    rw [cell_of_row w b i _ _ (0, 0) h, ← Array.getElem?_toList]
  exact ⟨e 0, e 1, e 2, e 3, e 4, e 5, e 6, e 7, e 8, fun i => by simp [World.frozen?, (show w.heap[b]? = some _ from h)]⟩
theorem BoxS.kept0 {w w' : World} {b : Nat} {s : St} {len kids : Int} (h : BoxS w b s len kids) (hk : Kept (fun _ => False) w w') : BoxS w' b s len kids := (hk.block b (lt_of_block h) (fun f => f)).trans h
theorem BoxS.kept' {X : Nat → Prop} {w w' : World} {b : Nat} {s : St} {len kids : Int} (h : BoxS w b s len kids) (hk : Kept X w.drew w') (hx : ¬ X b) : BoxS w' b s len kids := (hk.block b (lt_of_block h) hx).trans h
theorem BoxS.zero {w : World} {b : Nat} {s : St} {len kids : Int} (h : BoxS w b s len kids) : BoxS ((w.setCell ⟨b, 7, none⟩ (.int .i64 0)).setCell ⟨b, 8, none⟩ (.int .i64 0)) b s 0 0 := by
  have h1 := heap_set (c := [.int .i64 s.cz, .int .i64 s.mz, .int .i64 s.pz, .int .i64 s.ver, .int .i64 s.cver, .int .i64 s.aver, .int .i64 s.owner, .int .i64 len, .int .i64 kids]) (i := 7) (.int .i64 0) h
  exact heap_set (c := [.int .i64 s.cz, .int .i64 s.mz, .int .i64 s.pz, .int .i64 s.ver, .int .i64 s.cver, .int .i64 s.aver, .int .i64 s.owner, .int .i64 0, .int .i64 kids]) (i := 8) (.int .i64 0) h1
section
variable {Z : Nat → Prop} {w w' : World} {q : TB} {M : TM} {c : Nat} {D E : DV}
theorem TAt.c0 (h : TAt Z w q M c) : w.cell? ⟨q.t, 0, none⟩ = some (.map (some q.n)) := by
  obtain ⟨D, E, h⟩ := h; exact h.three.c0
theorem aclAt_new {B : Nat} {v : Value} {l : List AR} (h : w.ownsRow B 81 2 v l.length (aclC l)) (hz : ∀ k, B ≤ k → Z k) : AclAt w Z v l := by
  rcases h.2 with ⟨hv, h0⟩ | ⟨g, cap, cur, rfl, hb, hh, r⟩
  · exact ⟨⟨h.1, .inl ⟨hv, h0⟩⟩, fun k hk => by rw [hv] at hk; cases hk⟩
  · exact ⟨⟨h.1, .inr ⟨g, cap, cur, rfl, Nat.zero_le _, hh, r⟩⟩, fun k hk => by have : some g = some k := hk; injection this with e; exact hz k (e ▸ hb)⟩
theorem TD.layStep (h : TD Z w q M c D E) {w5 : World} {v : Value} {l : List AR} (hk : Kept (fun _ => False) w w5) (hown : w5.ownsRow w.heap.size 81 2 v l.length (aclC l)) (p data : ByteArray) (s : St) (hp : p.size ≤ 140737488355328) (hl : p.data.toList.length ≤ 60) (hc : c < 4611686018427387904) :
    ∃ va vn vc W, v = .slice va vn vc ∧ (Instr.mapUpdate 75 (.map (some q.n)) (.string p) (.agg #[.string data, .slice va vn vc, .int .i64 s.cz, .int .i64 s.mz, .int .i64 s.pz, .int .i64 s.ver, .int .i64 s.cver, .int .i64 s.aver, .int .i64 s.owner, .int .i64 0, .int .i64 0])).run Try.prog w5 = .ok () W ∧ TAt Z W q { M with N := updN M.N p.data.toList (some ⟨data, l, s⟩) } (c + 1) ∧ Kept (TBs q) w W := by
  have ha : AclAt w5 Z v l := aclAt_new hown h.new
  obtain ⟨va, vn, vc, rfl⟩ := ha.shape
  obtain ⟨W, hst, hT, hK⟩ := (h.kept0 hk).storeN p hp hl hc (nd := ⟨data, l, s⟩) ha
  exact ⟨va, vn, vc, W, rfl, hst, hT, (hk.mono (T := TBs q) (fun _ _ f => f.elim)).trans hK⟩
theorem kept_in {B : Nat} (h : Kept (fun k => k = B) w w') {w0 : World} (h0 : Kept (fun _ => False) w0 w) (hB : w0.heap.size ≤ B) : Kept (fun _ => False) w0 w' :=
  ⟨h.os.trans h0.os, h.tape.trans h0.tape, h.output.trans h0.output, Nat.le_trans h0.size h.size, fun k hk _ => (h.block k (Nat.lt_of_lt_of_le hk h0.size) (by omega)).trans (h0.block k hk (fun f => f))⟩
set_option maxRecDepth 100000 in
set_option maxHeartbeats 1000000 in
theorem lay_any (h : TAt Z w q M c) (p data : ByteArray) {v : Value} {l : List AR} (hv : AclIn w v l) (s : St) (len kids : Int) (hp : p.size ≤ 140737488355328) (hc : c < 4611686018427387904) :
    Calls Try.prog 31 #[.pointer (some ⟨q.t, 0, none⟩), .string p, .string data, v, statV s len kids] w fun e w' => e = .returned (.tuple #[]) ∧ TAt Z w' q (layM M p data l s) (c + 1) ∧ Kept (TBs q) w w' := by
  obtain ⟨D, E, h⟩ := h
  have HD := Lib.hid h
  have hlt := h.lt _ (.inl rfl)
  have HNB : Hid (¬ TBs q w.heap.size) := Lib.hid (fun e => Nat.lt_irrefl _ (h.lt _ e))
  unfold statV
  have HV := Lib.hid hv
  have HB0 : Hid (BoxS (w.alloc (.cells #[.int .i64 s.cz, .int .i64 s.mz, .int .i64 s.pz, .int .i64 s.ver, .int .i64 s.cver, .int .i64 s.aver, .int .i64 s.owner, .int .i64 len, .int .i64 kids] 56)) w.heap.size s len kids) := Lib.hid (heap_alloc_new w _)
  have HC := Lib.hid (fun w => check_any p w hp)
  by_cases hk : checkS p = 0
  · have hl := checkS_len hk
    have HE : Hid (layM M p data l s = { M with N := updN M.N p.data.toList (some ⟨data, l, s⟩) }) := Lib.hid (by unfold layM okP; rw [if_pos (by simp [hk])])
    clear h hv
    go_enter Try.func31, Try.ntmps31
    go_wp2_with fail
    refine (HC.out _).mono ?_
    rintro e w1 ⟨rfl, hb⟩
    have HK1 := Lib.hid (keptB hb (Nat.le_refl _))
    have HB1 := Lib.hid (HB0.out.kept0 HK1.out)
    obtain ⟨b0, b1, b2, b3, b4, b5, b6, b7, b8, bf⟩ := HB1.out.nine
    clear hb
    rw [hk]
    go_wp2_with fail
    have HB2 := Lib.hid HB1.out.zero
    have hk2 : Kept (fun k => k = w.heap.size) w1 ((w1.setCell ⟨w.heap.size, 7, none⟩ (.int .i64 0)).setCell ⟨w.heap.size, 8, none⟩ (.int .i64 0)) := (kept_set w1 w.heap.size 7 _).setCell (a := ⟨w.heap.size, 8, none⟩) (.inl rfl) _
    have HK2 := Lib.hid (kept_in hk2 (((Kept.refl (fun _ => False) w).alloc _).trans HK1.out) (Nat.le_refl _))
    generalize ((w1.setCell ⟨w.heap.size, 7, none⟩ (.int .i64 0)).setCell ⟨w.heap.size, 8, none⟩ (.int .i64 0)) = w2 at HB2 HK2 ⊢
    have HK3 := Lib.hid (HK2.out.drew)
    have HV2 := Lib.hid (HV.out.kept HK3.out (fun _ _ _ _ f => f))
    have HD2 := Lib.hid (HD.out.kept0 HK3.out)
    have hbx : BoxS w2.drew w.heap.size s 0 0 := HB2.out
    clear b0 b1 b2 b3 b4 b5 b6 b7 b8 bf hk2 HB1 HB0 HK1
    obtain ⟨b0, b1, b2, b3, b4, b5, b6, b7, b8, bf⟩ := hbx.nine
    have t0 := HD2.out.three.c0
    go_region_held3 (fun w' => w'.cell? ⟨w.heap.size, 0, none⟩ = some (.int .i64 s.cz) ∧ w'.cell? ⟨w.heap.size, 1, none⟩ = some (.int .i64 s.mz) ∧ w'.cell? ⟨w.heap.size, 2, none⟩ = some (.int .i64 s.pz) ∧ w'.cell? ⟨w.heap.size, 3, none⟩ = some (.int .i64 s.ver) ∧ w'.cell? ⟨w.heap.size, 4, none⟩ = some (.int .i64 s.cver) ∧ w'.cell? ⟨w.heap.size, 5, none⟩ = some (.int .i64 s.aver) ∧ w'.cell? ⟨w.heap.size, 6, none⟩ = some (.int .i64 s.owner) ∧ w'.cell? ⟨w.heap.size, 7, none⟩ = some (.int .i64 0) ∧ w'.cell? ⟨w.heap.size, 8, none⟩ = some (.int .i64 0) ∧ w'.cell? ⟨q.t, 0, none⟩ = some (.map (some q.n)))
      (first | assumption | go_keep)
      (first
        | (go_at_call 54; with_reducible refine (clone_any HV2.out).mono ?_; rintro e w5 ⟨v', rfl, hown, hk5⟩; obtain ⟨va, vn, vc, W, rfl, hst, hT, hKW⟩ := HD2.out.layStep hk5 hown p data s hp hl hc; replace hbx := hbx.kept0 hk5; have HT := Lib.hid hT; have HKW := Lib.hid hKW; clear hown hKW t0 b0 b1 b2 b3 b4 b5 b6 b7 b8 bf; obtain ⟨b0, b1, b2, b3, b4, b5, b6, b7, b8, bf⟩ := hbx.nine; have t0 := (HD2.out.kept0 hk5).three.c0; have hbW := BoxS.kept' HB2.out HKW.out HNB.out; obtain ⟨d0, d1, d2, d3, d4, d5, d6, d7, d8, df⟩ := hbW.nine; have d9 := hT.c0; clear hk5 hbW hT))
    go_wp2_with fail
    go_end0
    rw [HE.out]
    exact ⟨rfl, HT.out, (HK3.out.mono (fun _ _ f => f.elim)).trans HKW.out⟩
  · have HE : Hid (layM M p data l s = M) := Lib.hid (by unfold layM okP; rw [if_neg (by simp [hk])])
    clear h hv
    go_enter Try.func31, Try.ntmps31
    go_wp2_with fail
    refine (HC.out _).mono ?_
    rintro e w1 ⟨rfl, hb⟩
    have HK1 := Lib.hid (keptB hb (Nat.le_refl _))
    clear hb
    go_wp2_with fail
    refine bodyPost_ret (results_none rfl _ _ _) rfl ?_
    rw [HE.out]
    exact ⟨rfl, TAt.mono ⟨_, _, HD.out.kept0 (((Kept.refl _ w).alloc _).trans HK1.out)⟩ (Nat.le_succ _), (((Kept.refl _ w).alloc _).trans HK1.out).mono (fun _ _ f => f.elim)⟩
end
end Go.Proofs.Ytccoeccibokecaa
