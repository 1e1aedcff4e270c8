/- Lay, New. removeUnder; New. set, setAcl. -/
import Derived.Test.YtenbdoceaabecaaGreatP04
import Derived.Maps.RangeWalk
namespace Go.Proofs.YtenbdoceaabecaaGreat
open Go.ChangeShapes Go.WideShapes Go.ChangeAt Go.RowKit Go.Maps
set_option linter.unusedVariables false
set_option linter.unusedSimpArgs false
def statV (s : St) (len kids : Int) : Value := .agg #[.int .i64 s.cz, .int .i64 s.mz, .int .i64 s.pz, .int .i64 s.ver, .int .i64 s.cver, .int .i64 s.aver, .int .i64 s.owner, .int .i64 len, .int .i64 kids]
/-- a Stat in a box -/
def BoxS (w : World) (b : Nat) (s : St) (len kids : Int) : Prop := w.heap[b]? = some (.cells #[.int .i64 s.cz, .int .i64 s.mz, .int .i64 s.pz, .int .i64 s.ver, .int .i64 s.cver, .int .i64 s.aver, .int .i64 s.owner, .int .i64 len, .int .i64 kids] 36 (0, 0))
structure Nine (w : World) (b : Nat) (s : St) (len kids : Int) : Prop where
  b0 : w.cell? ⟨b, 0, none⟩ = some (.int .i64 s.cz)
  b1 : w.cell? ⟨b, 1, none⟩ = some (.int .i64 s.mz)
  b2 : w.cell? ⟨b, 2, none⟩ = some (.int .i64 s.pz)
  b3 : w.cell? ⟨b, 3, none⟩ = some (.int .i64 s.ver)
  b4 : w.cell? ⟨b, 4, none⟩ = some (.int .i64 s.cver)
  b5 : w.cell? ⟨b, 5, none⟩ = some (.int .i64 s.aver)
  b6 : w.cell? ⟨b, 6, none⟩ = some (.int .i64 s.owner)
  b7 : w.cell? ⟨b, 7, none⟩ = some (.int .i64 len)
  b8 : w.cell? ⟨b, 8, none⟩ = some (.int .i64 kids)
  f : ∀ i, w.frozen? ⟨b, i, none⟩ = false
theorem BoxS.nine {w : World} {b : Nat} {s : St} {len kids : Int} (h : BoxS w b s len kids) : Nine w b s len kids := by
  have e : ∀ i, w.cell? ⟨b, i, none⟩ = ([.int .i64 s.cz, .int .i64 s.mz, .int .i64 s.pz, .int .i64 s.ver, .int .i64 s.cver, .int .i64 s.aver, .int .i64 s.owner, .int .i64 len, .int .i64 kids] : List Value)[i]? := fun i => by
    rw [cell_of_row w b i _ _ (0, 0) h, ← Array.getElem?_toList]
  exact ⟨e 0, e 1, e 2, e 3, e 4, e 5, e 6, e 7, e 8, fun i => by simp [World.frozen?, (show w.heap[b]? = some _ from h)]⟩
theorem BoxS.kept0 {w w' : World} {b : Nat} {s : St} {len kids : Int} (h : BoxS w b s len kids) (hk : Kept (fun _ => False) w w') : BoxS w' b s len kids := (hk.block b (lt_of_block h) (fun f => f)).trans h
theorem BoxS.kept' {X : Nat → Prop} {w w' : World} {b : Nat} {s : St} {len kids : Int} (h : BoxS w b s len kids) (hk : Kept X w.drew w') (hx : ¬ X b) : BoxS w' b s len kids := (hk.block b (lt_of_block h) hx).trans h
theorem BoxS.zero {w : World} {b : Nat} {s : St} {len kids : Int} (h : BoxS w b s len kids) : BoxS ((w.setCell ⟨b, 7, none⟩ (.int .i64 0)).setCell ⟨b, 8, none⟩ (.int .i64 0)) b s 0 0 := by
  have h1 := heap_set (c := [.int .i64 s.cz, .int .i64 s.mz, .int .i64 s.pz, .int .i64 s.ver, .int .i64 s.cver, .int .i64 s.aver, .int .i64 s.owner, .int .i64 len, .int .i64 kids]) (i := 7) (.int .i64 0) h
  exact heap_set (c := [.int .i64 s.cz, .int .i64 s.mz, .int .i64 s.pz, .int .i64 s.ver, .int .i64 s.cver, .int .i64 s.aver, .int .i64 s.owner, .int .i64 0, .int .i64 kids]) (i := 8) (.int .i64 0) h1
section
variable {Z : Nat → Prop} {w w' : World} {q : TB} {M : TM} {c : Nat} {D E : DV}
theorem TAt.c0 (h : TAt Z w q M c) : w.cell? ⟨q.t, 0, none⟩ = some (.map (some q.n)) := by
  obtain ⟨D, E, h⟩ := h; exact h.three.c0
theorem aclAt_new {B : Nat} {v : Value} {l : List AR} (h : w.ownsRow B 89 2 v l.length (aclC l)) (hz : ∀ k, B ≤ k → Z k) (hr : l.length * 24 ≤ 140737488355328) : AclAt w Z v l := by
  rcases h.2 with ⟨hv, h0⟩ | ⟨g, cap, cur, rfl, hb, hh, r⟩
  · exact ⟨⟨h.1, .inl ⟨hv, h0⟩⟩, (fun k hk => by rw [hv] at hk; cases hk), hr⟩
  · exact ⟨⟨h.1, .inr ⟨g, cap, cur, rfl, Nat.zero_le _, hh, r⟩⟩, (fun k hk => by have : some g = some k := hk; injection this with e; exact hz k (e ▸ hb)), hr⟩
theorem TD.layStep (h : TD Z w q M c D E) {w5 : World} {v : Value} {l : List AR} (hk : Kept (fun _ => False) w w5) (hown : w5.ownsRow w.heap.size 89 2 v l.length (aclC l)) (hroom : l.length * 24 ≤ 140737488355328) (p data : ByteArray) (s : St) (hp : p.size ≤ 140737488355328) (hl : p.data.toList.length ≤ 60) (hc : c < 4611686018427387904) :
    ∃ va vn vc W, v = .slice va vn vc ∧ (Instr.mapUpdate 83 (.map (some q.n)) (.string p) (.agg #[.string data, .slice va vn vc, .int .i64 s.cz, .int .i64 s.mz, .int .i64 s.pz, .int .i64 s.ver, .int .i64 s.cver, .int .i64 s.aver, .int .i64 s.owner, .int .i64 0, .int .i64 0])).run Tryz.prog w5 = .ok () W ∧ TAt Z W q { M with N := updN M.N p.data.toList (some ⟨data, l, s⟩) } (c + 1) ∧ Kept (TBs q) w W := by
  have ha : AclAt w5 Z v l := aclAt_new hown h.new hroom
  obtain ⟨va, vn, vc, rfl⟩ := ha.shape
  obtain ⟨W, hst, hT, hK⟩ := (h.kept0 hk).storeN p hp hl hc (nd := ⟨data, l, s⟩) ha
  exact ⟨va, vn, vc, W, rfl, hst, hT, (hk.mono (T := TBs q) (fun _ _ f => f.elim)).trans hK⟩
theorem kept_in {B : Nat} (h : Kept (fun k => k = B) w w') {w0 : World} (h0 : Kept (fun _ => False) w0 w) (hB : w0.heap.size ≤ B) : Kept (fun _ => False) w0 w' :=
  ⟨h.os.trans h0.os, h.tape.trans h0.tape, h.output.trans h0.output, Nat.le_trans h0.size h.size, fun k hk _ => (h.block k (Nat.lt_of_lt_of_le hk h0.size) (by omega)).trans (h0.block k hk (fun f => f))⟩
set_option maxRecDepth 100000 in
set_option maxHeartbeats 1000000 in
theorem lay_any (h : TAt Z w q M c) (p data : ByteArray) {v : Value} {l : List AR} (hv : AclIn w v l) (s : St) (len kids : Int) (hp : p.size ≤ 140737488355328) (hc : c < 4611686018427387904) :
    Calls Tryz.prog 33 #[.pointer (some ⟨q.t, 0, none⟩), .string p, .string data, v, statV s len kids] w fun e w' => e = .returned (.tuple #[]) ∧ TAt Z w' q (layM M p data l s) (c + 1) ∧ Kept (TBs q) w w' := by
  obtain ⟨D, E, h⟩ := h
  have HD := Lib.hid h
  have hlt := h.lt _ (.inl rfl)
  have HNB : Hid (¬ TBs q w.heap.size) := Lib.hid (fun e => Nat.lt_irrefl _ (h.lt _ e))
  unfold statV
  have HV := Lib.hid hv
  have HB0 : Hid (BoxS (w.alloc (.cells #[.int .i64 s.cz, .int .i64 s.mz, .int .i64 s.pz, .int .i64 s.ver, .int .i64 s.cver, .int .i64 s.aver, .int .i64 s.owner, .int .i64 len, .int .i64 kids] 36)) w.heap.size s len kids) := Lib.hid (heap_alloc_new w _)
  have HC := Lib.hid (fun w => check_any p w hp)
  by_cases hk : checkS p = 0
  · have hl := checkS_len hk
    have HE : Hid (layM M p data l s = { M with N := updN M.N p.data.toList (some ⟨data, l, s⟩) }) := Lib.hid (by unfold layM okP; rw [if_pos (by simp [hk])])
    clear h hv
    go_enter Tryz.func33, Tryz.ntmps33
    go_wp2_with fail
    refine (HC.out _).mono ?_
    rintro e w1 ⟨rfl, hb⟩
    have HK1 := Lib.hid (keptB hb (Nat.le_refl _))
    have HB1 := Lib.hid (HB0.out.kept0 HK1.out)
    obtain ⟨b0, b1, b2, b3, b4, b5, b6, b7, b8, bf⟩ := HB1.out.nine
    clear hb
    rw [hk]
    go_wp2_with fail
    have HB2 := Lib.hid HB1.out.zero
    have hk2 : Kept (fun k => k = w.heap.size) w1 ((w1.setCell ⟨w.heap.size, 7, none⟩ (.int .i64 0)).setCell ⟨w.heap.size, 8, none⟩ (.int .i64 0)) := (kept_set w1 w.heap.size 7 _).setCell (a := ⟨w.heap.size, 8, none⟩) (.inl rfl) _
    have HK2 := Lib.hid (kept_in hk2 (((Kept.refl (fun _ => False) w).alloc _).trans HK1.out) (Nat.le_refl _))
    generalize ((w1.setCell ⟨w.heap.size, 7, none⟩ (.int .i64 0)).setCell ⟨w.heap.size, 8, none⟩ (.int .i64 0)) = w2 at HB2 HK2 ⊢
    have HK3 := Lib.hid (HK2.out.drew)
    have HV2 := Lib.hid (HV.out.kept HK3.out (fun _ _ _ _ f => f))
    have HD2 := Lib.hid (HD.out.kept0 HK3.out)
    have hbx : BoxS w2.drew w.heap.size s 0 0 := HB2.out
    clear b0 b1 b2 b3 b4 b5 b6 b7 b8 bf hk2 HB1 HB0 HK1
    obtain ⟨b0, b1, b2, b3, b4, b5, b6, b7, b8, bf⟩ := hbx.nine
    have t0 := HD2.out.three.c0
    go_region_held3 (fun w' => w'.cell? ⟨w.heap.size, 0, none⟩ = some (.int .i64 s.cz) ∧ w'.cell? ⟨w.heap.size, 1, none⟩ = some (.int .i64 s.mz) ∧ w'.cell? ⟨w.heap.size, 2, none⟩ = some (.int .i64 s.pz) ∧ w'.cell? ⟨w.heap.size, 3, none⟩ = some (.int .i64 s.ver) ∧ w'.cell? ⟨w.heap.size, 4, none⟩ = some (.int .i64 s.cver) ∧ w'.cell? ⟨w.heap.size, 5, none⟩ = some (.int .i64 s.aver) ∧ w'.cell? ⟨w.heap.size, 6, none⟩ = some (.int .i64 s.owner) ∧ w'.cell? ⟨w.heap.size, 7, none⟩ = some (.int .i64 0) ∧ w'.cell? ⟨w.heap.size, 8, none⟩ = some (.int .i64 0) ∧ w'.cell? ⟨q.t, 0, none⟩ = some (.map (some q.n)))
      (first | assumption | go_keep)
      (first
        | (go_at_call 79; with_reducible refine (clone_any HV2.out).mono ?_; rintro e w5 ⟨v', rfl, hown, hk5⟩; obtain ⟨va, vn, vc, W, rfl, hst, hT, hKW⟩ := HD2.out.layStep hk5 hown HV2.out.room p data s hp hl hc; replace hbx := hbx.kept0 hk5; have HT := Lib.hid hT; have HKW := Lib.hid hKW; clear hown hKW t0 b0 b1 b2 b3 b4 b5 b6 b7 b8 bf; obtain ⟨b0, b1, b2, b3, b4, b5, b6, b7, b8, bf⟩ := hbx.nine; have t0 := (HD2.out.kept0 hk5).three.c0; have hbW := BoxS.kept' HB2.out HKW.out HNB.out; obtain ⟨d0, d1, d2, d3, d4, d5, d6, d7, d8, df⟩ := hbW.nine; have d9 := hT.c0; clear hk5 hbW hT))
    go_wp2_with fail
    go_end0
    rw [HE.out]
    exact ⟨rfl, HT.out, (HK3.out.mono (fun _ _ f => f.elim)).trans HKW.out⟩
  · have HE : Hid (layM M p data l s = M) := Lib.hid (by unfold layM okP; rw [if_neg (by simp [hk])])
    clear h hv
    go_enter Tryz.func33, Tryz.ntmps33
    go_wp2_with fail
    refine (HC.out _).mono ?_
    rintro e w1 ⟨rfl, hb⟩
    have HK1 := Lib.hid (keptB hb (Nat.le_refl _))
    clear hb
    go_wp2_with fail
    refine bodyPost_ret (results_none rfl _ _ _) rfl ?_
    rw [HE.out]
    exact ⟨rfl, TAt.mono ⟨_, _, HD.out.kept0 (((Kept.refl _ w).alloc _).trans HK1.out)⟩ (Nat.le_succ _), (((Kept.refl _ w).alloc _).trans HK1.out).mono (fun _ _ f => f.elim)⟩
end
end Go.Proofs.YtenbdoceaabecaaGreat

namespace Go.Proofs.YtenbdoceaabecaaGreat
open Go.ChangeShapes Go.WideShapes Go.ChangeAt Go.RowKit Go.Maps
set_option linter.unusedVariables false
set_option linter.unusedSimpArgs false
theorem keyOf_string_inv {key : Value} {kl : Lit} (h : keyOf Tryz.prog 9 key = some kl) : ∃ x : ByteArray, key = .string x ∧ kl = .string x.data.toList ∧ x.size ≤ maxLen := by
  cases key <;> simp [keyOf, Tryz.underlying9, mapKey] at h
  rename_i s
  refine ⟨s, rfl, ?_⟩
  rcases h with ⟨h1, h2⟩
  exact ⟨h2.symm, by simpa [Lit.wf] using h1⟩
section
variable {Z : Nat → Prop} {w w' : World} {q : TB} {M : TM} {c : Nat} {D E : DV}
theorem TD.cut (h : TD Z w q M c D E) {D' : DV} {N' : List UInt8 → Option Nd} (hown : w'.ownsMap Tryz.prog 9 tok q.n c D') (hk : Kept (fun j => j = q.n) w w')
    (hL : ∀ k, (lookV D' (.string k) = lookV D (.string k) ∧ N' k = M.N k) ∨ (lookV D' (.string k) = none ∧ N' k = none)) : TD Z w' q { M with N := N' } c D' E := by
  have hnt := h.nt
  have hk2 : Kept (TBs q) w w' := hk.mono (fun j _ e => .inr (.inl e))
  refine ⟨?_, hown, fun x => ?_, ownsMap_kept h.s hk (fun e => h.ns e.symm), h.S, h.ns, fun x hx => ?_, h.inZ, fun j hj => h.new j (Nat.le_trans hk.size hj)⟩
  · rw [hk.block q.t (h.lt _ (.inl rfl)) (fun e => hnt.1 e.symm)]; exact h.at_
  · rcases hL x with ⟨h1, h2⟩ | ⟨h1, h2⟩
    · show NdAt w' Z _ (N' x)
      rw [h1, h2]
      exact (h.N x).kept hk2 (fun b cur hb _ => h.noAcl b cur hb)
    · show NdAt w' Z _ (N' x)
      rw [h1, h2]; exact True.intro
  · rcases hL x with ⟨_, h2⟩ | ⟨_, h2⟩
    · exact h.okk x (by rw [← h2]; exact hx)
    · exact absurd h2 hx
def underM (M : TM) (p : ByteArray) : TM := { M with N := fun k => if underL k p = true then none else M.N k }
theorem ba_mk (x : ByteArray) : (⟨x.data.toList.toArray⟩ : ByteArray) = x := by
  cases x; simp
theorem kept_grown {row : Option Nat} (h : w.grownBy w' row) {b : Nat} (e : row = some b) : Kept (fun j => j = b) w w' := (Kept.of_grownBy h).mono (fun k _ e' => by rw [e] at e'; injection e')
set_option maxRecDepth 100000 in
set_option maxHeartbeats 1000000 in
theorem removeUnder_any (h : TAt Z w q M c) (p : ByteArray) (hp : p.size ≤ 140737488355328) :
    Calls Tryz.prog 116 #[.pointer (some ⟨q.t, 0, none⟩), .string p] w fun e w' => e = .returned (.tuple #[]) ∧ TAt Z w' q (underM M p) c ∧ Kept (TBs q) w w' := by
  obtain ⟨D, E, h⟩ := h
  obtain ⟨c0, c1, c2, f⟩ := h.three
  have HD := Lib.hid h
  have hlt := h.lt _ (.inl rfl)
  have hown := h.n
  have hnt := h.nt.1
  clear h
  go_enter Tryz.func116, Tryz.ntmps116
  go_wp2_with (first
    | (at_range; refine wpList_range_own _ rfl _ 83 rfl 9 98 keyS Tryz.underlying83 _ q.n c _ rfl hown ?_; intro w0 hrg0 hg0 hs0)
    | go_in)
  go_frame
  go_loopw [4] (fun _ wr => ∃ (D' : DV) (left : Lit → Bool) (cnt : Nat), wr.ranges Tryz.prog 9 tok q.n w.heap.size c D' left cnt ∧ w.grownBy wr (some q.n) ∧
      (∀ k, lookV D' (.string k) = if underL k p = true ∧ left (.string k) = false then none else lookV D (.string k)) ∧ (∀ k, left (.string k) = true → (lookV D (.string k)).isSome = true))
    (fun _ wr => wr.rangeLeft q.n w.heap.size)
  case atStart =>
    refine ⟨_, _, _, hrg0, hg0.but _, fun k => ?_, fun k hk => by rw [lookV_isSome]; exact hk⟩
    split
    · rename_i hh
      have := lookV_isSome D (.string k)
      rw [hh.2] at this
      cases hl : lookV D (.string k) with
      | none => rfl
      | some v => rw [hl] at this; cases this
    · rfl
  case round =>
    obtain ⟨D', left, cnt, hrg, hgw, hI, hJ⟩ := hrel
    have HI := Lib.hid hI
    have HJ := Lib.hid hJ
    clear hI hJ
    go_wp2_with (first
      | (at_next; refine wpList_next_ranges _ rfl _ rfl 9 keyS tok (fun x : ByteArray => Value.string x) id (fun key kl hkey => by obtain ⟨x, rfl, _⟩ := keyOf_string_inv hkey; exact ⟨x, rfl⟩) (fun v _ _ => ⟨v, rfl⟩) q.n w.heap.size c _ _ _ rfl hrg ?_ ?_)
      | go_in)
    · intro _ hl0
      go_wp2
      go_end0
      refine ⟨rfl, ⟨D', E, HD.out.cut hrg.owns (kept_grown hgw rfl) (fun k => ?_)⟩, (kept_grown hgw rfl).mono (fun j _ e => .inr (.inl e))⟩
      rw [HI.out k, hl0]
      by_cases hu : underL k p = true
      · right; simp [hu]
      · left; simp [hu]
    · intro x v kl yd yp w1 cnt1 hkey hlx hv hat hrg1 hlt1 hg1 hs1 hen
      obtain ⟨x', ex, rfl, hx⟩ := keyOf_string_inv hkey
      cases ex
      have hxl : x.data.toList.length ≤ 60 := by
        have h1 := HJ.out _ hlx
        have h2 := HD.out.N x.data.toList
        apply HD.out.okk
        intro e
        rw [e] at h2
        cases hl : lookV D (.string x.data.toList) with
        | none => rw [hl] at h1; cases h1
        | some v => rw [hl] at h2; exact h2
      have hxs : x.size ≤ 140737488355328 := by
        have : x.size = x.data.toList.length := (Array.length_toList (xs := x.data)).symm
        omega
      have hgw1 := hgw.andThen hg1 (fun j hj => by cases hj; exact Or.inl (Nat.le_refl _))
      have e0 : w1.cell? ⟨q.t, 0, none⟩ = some (.map (some q.n)) := by
        rw [World.cell?_of_block (w := w) ((kept_grown hgw1 rfl).block q.t hlt (fun e => hnt e.symm))]; exact c0
      have HU := Lib.hid (under_any x p w1 hxs hp)
      have HUL : Hid (underL x.data.toList p = underS x p) := Lib.hid (by unfold underL; rw [ba_mk])
      have HIx : ∀ k, (Lit.string k).sameKey (.string x.data.toList) = true → k = x.data.toList := fun k e => by
        have := WideAt.sameKey_eq e; injection this
      have HXs : (Lit.string x.data.toList).sameKey (.string x.data.toList) = true := WideAt.sameKey_self trivial
      by_cases hu : underS x p = true
      · rw [hu] at HU
        go_wp2_with (first
          | (go_at_call 146; refine HU.out.mono ?_; rintro e w2 ⟨rfl, rfl⟩)
          | (at_delete; refine wpList_delete_ranges _ rfl _ _ 83 9 rfl 98 keyS Tryz.underlying83 _ q.n w.heap.size c _ _ _ rfl hrg1 _ _ rfl hkey ?_; intro w3 cnt3 hrg3 hle hturn; go_frame)
          | go_in)
        rw [strike_twice] at hrg3
        go_roundw
        case rel =>
          refine ⟨_, _, cnt3, hrg3, hgw1.andThen hturn.grown (fun j hj => by cases hj; exact Or.inr rfl), fun k => ?_, fun k hk => HJ.out k (by simp at hk; exact hk.1)⟩
          by_cases e : k = x.data.toList
          · subst e
            rw [lookV_del_same, if_pos ⟨by rw [HUL.out]; exact hu, by rw [HXs]; simp⟩]
          · have hs : (Lit.string k).sameKey (.string x.data.toList) = false := by
              cases hh : (Lit.string k).sameKey (.string x.data.toList) with
              | false => rfl
              | true => exact absurd (HIx k hh) e
            rw [lookV_del_other (fun e' => e (by injection e')), HI.out k, hs]; simp
        case measure => rw [hrg3.left_eq, hrg.left_eq]; omega
      · have hu : underS x p = false := by simpa using hu
        rw [hu] at HU
        go_wp2_with (first
          | (go_at_call 146; refine HU.out.mono ?_; rintro e w2 ⟨rfl, rfl⟩)
          | go_in)
        go_roundw
        case rel =>
          refine ⟨_, _, cnt1, hrg1, hgw1, fun k => ?_, fun k hk => HJ.out k (by simp at hk; exact hk.1)⟩
          by_cases e : k = x.data.toList
          · subst e
            rw [HI.out, if_neg (by rw [HUL.out, hu]; simp), if_neg (by rw [HUL.out, hu]; simp)]
          · have hs : (Lit.string k).sameKey (.string x.data.toList) = false := by
              cases hh : (Lit.string k).sameKey (.string x.data.toList) with
              | false => rfl
              | true => exact absurd (HIx k hh) e
            rw [HI.out k, hs]; simp
        case measure => rw [hrg1.left_eq, hrg.left_eq]; exact hlt1
end
end Go.Proofs.YtenbdoceaabecaaGreat

namespace Go.Proofs.YtenbdoceaabecaaGreat
open Go.ChangeShapes Go.WideShapes Go.ChangeAt Go.RowKit Go.Maps
set_option linter.unusedVariables false
set_option linter.unusedSimpArgs false
/-- a transaction as a value: its ACL's slice, its error, its parts' slice -/
structure TX where
  aa : Option Addr
  an : Nat
  ac : Nat
  err : Int
  sa : Option Addr
  sn : Nat
  sc : Nat
def txnL (x : T1) (y : TX) : List Value := [.int .i64 x.kind, .string x.path, .string x.data, .slice y.aa y.an y.ac, .int .i64 x.owner, .int .i64 x.number, .int .i64 y.err, .slice y.sa y.sn y.sc]
def txnV (x : T1) (y : TX) : Value := .agg (txnL x y).toArray
def evsC (l : List Ev) : List Value := l.flatMap fun e => [.int .i64 e.kind, .string e.path, .int .i64 e.zx]
/-- the events that a call answers: a new row -/
def EvsAt (B : Nat) (w : World) (v : Value) (l : List Ev) : Prop := w.ownsRow B 75 3 v l.length (evsC l)
section
variable {Z : Nat → Prop} {w w' : World} {q : TB} {M : TM} {c : Nat} {D E : DV}
theorem one_le : 1 ≤ maxLen := by unfold maxLen; decide
theorem two_le : 2 ≤ maxLen := by unfold maxLen; decide
theorem evsAt_nil (B : Nat) : EvsAt B w (.slice none 0 0) [] := World.ownsRow_nil _ _ _ _
theorem evsC_len (l : List Ev) : (evsC l).length = l.length * 3 := by
  induction l with
  | nil => rfl
  | cons a l ih => simp [evsC] at ih ⊢; omega
theorem evsAt_new {B : Nat} {l : List Ev} (hB : B ≤ w.heap.size) (hm : l.length ≤ maxLen) : EvsAt B (w.alloc (.cells (evsC l).toArray 75)) (.slice (some ⟨w.heap.size, 0, none⟩) l.length l.length) l := by
  have hl := evsC_len l
  refine ⟨by rw [hl], .inr ⟨w.heap.size, l.length, (evsC l).toArray, rfl, hB, heap_alloc_new w _, Nat.le_refl _, ?_, ?_, ?_⟩⟩
  · exact hm
  · rw [List.size_toArray, hl]
  · exact List.take_of_length_le (Nat.le_of_eq hl)
abbrev txnO (x : T1) (y : TX) : Obj := .cells #[.int .i64 x.kind, .string x.path, .string x.data, .slice y.aa y.an y.ac, .int .i64 x.owner, .int .i64 x.number, .int .i64 y.err, .slice y.sa y.sn y.sc] 32
abbrev nodeO (d : ByteArray) (va : Option Addr) (vn vc : Nat) (s : St) : Obj := .cells #[.string d, .slice va vn vc, .int .i64 s.cz, .int .i64 s.mz, .int .i64 s.pz, .int .i64 s.ver, .int .i64 s.cver, .int .i64 s.aver, .int .i64 s.owner, .int .i64 0, .int .i64 0] 98
theorem empty_eq : ByteArray.empty = ⟨#[]⟩ := rfl
theorem World.heap_drew (w : World) : w.drew.heap = w.heap := rfl
theorem cell_kept {X : Nat → Prop} {c : Array Value} {b : Nat} {T : TypeId} (hk : Kept X w w') (h : w.heap[b]? = some (.cells c T (0, 0))) (hx : ¬ X b) (i : Nat) {v : Value} (hv : c[i]? = some v) : w'.cell? ⟨b, i, none⟩ = some v := by
  rw [cell_of_row w' b i _ _ (0, 0) ((hk.block b (lt_of_block h) hx).trans h)]; exact hv
def CallPost (Z : Nat → Prop) (q : TB) (c : Nat) (w : World) (r : TM × List Ev) (e : Ending) (w' : World) : Prop := ∃ v, e = .returned v ∧ EvsAt w.heap.size w' v r.2 ∧ TAt Z w' q r.1 c ∧ Kept (TBs q) w w'
set_option maxRecDepth 100000 in
set_option maxHeartbeats 1000000 in
theorem set_any (h : TAt Z w q M c) (x : T1) (y : TX) (zx : Int) (hp : x.path.size ≤ 140737488355328) (hc : c < 4611686018427387904) :
    Calls Tryz.prog 119 #[.pointer (some ⟨q.t, 0, none⟩), txnV x y, .int .i64 zx] w (CallPost Z q (c + 1) w (setM M x zx)) := by
  obtain ⟨D, E, h⟩ := h
  unfold txnV txnL
  have HD := Lib.hid h
  have hlt := h.lt _ (.inl rfl)
  obtain ⟨c0, c1, c2, f⟩ := h.three
  have hk1 : Kept (fun _ => False) w (w.alloc (txnO x y)).drew := ((Kept.refl _ w).alloc _).drew
  have hk2 : Kept (fun _ => False) w ((w.alloc (txnO x y)).alloc (nodeO ⟨#[]⟩ none 0 0 ⟨0, 0, 0, 0, 0, 0, 0⟩)).drew := (((Kept.refl _ w).alloc _).alloc _).drew
  rcases h.look x.path.data.toList with ⟨nd, av, hM, hL, ha⟩ | ⟨hM, hL⟩
  · obtain ⟨va, vn, vc, rfl⟩ := ha.shape
    have hrun := (h.kept0 hk1).lookNode x.path hp
    have hrun' := (h.kept0 hk2).lookNode x.path hp
    rw [hL] at hrun hrun'
    simp only [Option.getD_some, Option.isSome_some, nodeV] at hrun hrun'
    have hk3 : Kept (fun _ => False) w (((w.alloc (txnO x y)).alloc (nodeO x.data va vn vc { nd.st with ver := x.number, mz := zx })).drew.drew.drew) := (((Kept.refl _ w).alloc _).alloc _).drew.drew.drew
    obtain ⟨W, hst, hT, hK⟩ := (h.kept0 hk3).storeN x.path hp (h.okk _ (by rw [hM]; exact fun e => nomatch e)) hc (nd := { nd with data := x.data, st := { nd.st with ver := x.number, mz := zx } }) (ha.kept0 hk3)
    simp only [nodeV] at hst
    have HE : Hid (setM M x zx = ({ M with N := updN M.N x.path.data.toList (some { nd with data := x.data, st := { nd.st with ver := x.number, mz := zx } }) }, [⟨3, x.path, zx⟩])) := Lib.hid (by unfold setM; rw [hM])
    have h3 : (((w.alloc (txnO x y)).alloc (nodeO x.data va vn vc { nd.st with ver := x.number, mz := zx })).drew.drew.drew).heap[w.heap.size]? = some (txnO x y) := (Below.heap_alloc _ _ _ (by simp)).trans (heap_alloc_new w _)
    have e1 : W.cell? ⟨w.heap.size, 1, none⟩ = some (.string x.path) := cell_kept hK h3 (fun e => Nat.lt_irrefl _ (h.lt _ e)) 1 rfl
    clear h3
    have HT := Lib.hid hT
    have HK := Lib.hid (hk3.mono (T := TBs q) (fun _ _ f => f.elim) |>.trans hK)
    clear h hL hT hK hk1 hk2 hk3 ha hM
    go_enter Tryz.func119, Tryz.ntmps119
    go_wp2
    go_region
    all_goals (
      go_wp2
      go_region
      all_goals (
        go_wp2
        go_region
        all_goals (
          go_wp2
          go_ret
          rw [HE.out]
          have hsz := HK.out.size
          have hT2 := HT.out.kept0 ((Kept.refl _ W).alloc (.cells #[.int .i64 3, .string x.path, .int .i64 zx] 75))
          have hK2 := HK.out.alloc (.cells #[.int .i64 3, .string x.path, .int .i64 zx] 75)
          refine ⟨_, rfl, ?_, hT2, hK2⟩
          exact evsAt_new (l := [⟨3, x.path, zx⟩]) hsz one_le)))
  · have hrun := (h.kept0 hk1).lookNode x.path hp
    have hrun' := (h.kept0 hk2).lookNode x.path hp
    rw [hL] at hrun hrun'
    simp only [Option.getD_none, Option.isSome_none, node0, empty_eq] at hrun hrun'
    have HE : Hid (setM M x zx = (M, [])) := Lib.hid (by unfold setM; rw [hM])
    clear h hL hk1 hk2 hM
    go_enter Tryz.func119, Tryz.ntmps119
    go_wp2
    go_region
    all_goals go_wp2
    all_goals go_ret
    all_goals rw [HE.out]
    all_goals refine ⟨_, rfl, evsAt_nil _, TAt.mono ⟨_, _, HD.out.kept0 (((Kept.refl _ w).alloc _).alloc _).drew⟩ (Nat.le_succ _), (((Kept.refl _ w).alloc _).alloc _).drew⟩
end
end Go.Proofs.YtenbdoceaabecaaGreat
