/- AclAnyone holds: a row of world's is as good as a row of each ID, no row gives nothing, and whoever has all IDs of an ACL may what any of its rows gives (U2). No condition. -/
import Derived.Test.YtpjanfclobpkjaaDoorCards
import Derived.Test.YtpjanfclobpkjaaDoorTie
import Derived.Test.YtpjanfclobpkjaaDoorUw
import Derived.WalkKit
import Derived.ProofKit
import Derived.OpenShut
import Derived.ShutString
import Derived.ChangeOld
import Derived.Below
import Derived.SizedLaws
import Derived.Deep.DeepHandedRow
import Derived.Lib.LaidTab
import Derived.Stop.LaidErr
import Derived.Laws.AppendOwn
import Derived.Maps.AppendAt
namespace Go.Proofs.YtpjanfclobpkjaaDoor.aclAnyone
open Go.ChangeShapes Go.WideShapes Go.ChangeAt Go.RowKit
open Go.ChangeMaps (open_string shut_string)
set_option linter.unusedVariables false
set_option linter.unusedSimpArgs false

theorem one_id_at (w : World) (a : ByteArray) : IdsAt (w.alloc (.cells #[.string a] 9)) (.slice (some ⟨w.heap.size, 0, none⟩) 1 1) [a] := by
  refine ⟨⟨_, _, rfl, fun i hi => ⟨w.heap.size, 0, rfl, by simp, ?_⟩⟩, by simp⟩
  have hi : i < 1 := hi
  obtain rfl : i = 0 := by omega
  rw [cell_of_row _ w.heap.size (0 + 0) _ _ (0, 0) (heap_alloc_new w _)]; rfl
theorem row_below {w w' : World} {base : Nat} {e : TypeId} {size n : Nat} {v : Value} {xs : List Value} (h : w.ownsRow base e size v n xs) (hb : ∀ k, v.ownBlock = some k → w'.heap[k]? = w.heap[k]?) : w'.ownsRow base e size v n xs := by
  refine ⟨h.1, h.2.imp id ?_⟩
  rintro ⟨g, cap, cur, hv, hb2, hh, r⟩
  exact ⟨g, cap, cur, hv, hb2, by rw [hb g (by rw [hv]; rfl)]; exact hh, r⟩
theorem row_alloc {w : World} {base : Nat} {e : TypeId} {size n : Nat} {v : Value} {xs : List Value} (h : w.ownsRow base e size v n xs) (o : Obj) : (w.alloc o).ownsRow base e size v n xs :=
  row_below h (fun k hk => Below.heap_alloc _ _ _ (World.ownsRow.lt h k hk).2)

theorem apart {w : World} {b1 b2 : Nat} {e1 e2 : TypeId} {s1 s2 n m : Nat} {v1 v2 : Value} {xs ys : List Value} (h1 : w.ownsRow b1 e1 s1 v1 n xs) (h2 : w.ownsRow b2 e2 s2 v2 m ys) (hne : e1 ≠ e2) {k : Nat} (k1 : v1.ownBlock = some k) (k2 : v2.ownBlock = some k) : False := by
  rcases h1.2 with ⟨rfl, _⟩ | ⟨g, cap, cur, rfl, _, hh, _⟩
  · simp [Value.ownBlock] at k1
  · rcases h2.2 with ⟨rfl, _⟩ | ⟨g', cap', cur', rfl, _, hh', _⟩
    · simp [Value.ownBlock] at k2
    · simp only [Value.ownBlock, Option.some.injEq] at k1 k2
      subst k1 k2
      rw [hh] at hh'
      injection hh' with hh'
      injection hh' with _ h _
      exact hne h
theorem row_grown {w w' : World} {b1 b2 : Nat} {e1 e2 : TypeId} {s1 s2 n m : Nat} {v1 v2 : Value} {xs ys : List Value} (h1 : w.ownsRow b1 e1 s1 v1 n xs) (h2 : w.ownsRow b2 e2 s2 v2 m ys) (hne : e1 ≠ e2) (hg : w.grownBy w' v1.ownBlock) : w'.ownsRow b2 e2 s2 v2 m ys :=
  row_below h2 (fun k hk => hg.block k (World.ownsRow.lt h2 k hk).2 (fun e => apart h1 h2 hne e.symm hk))

/-! ### plain -/
def worldR (r : Row) : Row := ⟨r.perms, worldS⟩
def given64 (l : List Row) : BitVec 64 := l.foldl (fun g r => g ||| P64 r.perms) 0#64
theorem given64_snoc (l : List Row) (r : Row) : given64 (l ++ [r]) = given64 l ||| P64 r.perms := by simp [given64]
theorem given64_bit (l : List Row) (k : Nat) : (given64 l).getLsbD k = l.any fun r => (P64 r.perms).getLsbD k := by
  have : ∀ (l : List Row) (g : BitVec 64), (l.foldl (fun g r => g ||| P64 r.perms) g).getLsbD k = (g.getLsbD k || l.any fun r => (P64 r.perms).getLsbD k) := by
    intro l
    induction l with
    | nil => intro g; simp
    | cons r l ih => intro g; rw [List.foldl_cons, ih]; simp [Bool.or_assoc]
  rw [given64, this]; simp
theorem hits_world (r : Row) (ids : List ByteArray) : hits ids (worldR r) = true := by
  simp only [hits, worldR]; rfl
theorem hits_all {l : List Row} {r : Row} (h : r ∈ l) : hits (l.map (·.id)) r = true := by
  rw [hits, Bool.or_eq_true, List.any_eq_true]; right
  exact ⟨r.id, List.mem_map.2 ⟨r, h, rfl⟩, by simp⟩
theorem grant_all (l : List Row) : grant l (l.map (·.id)) = given64 l := by
  apply BitVec.eq_of_getLsbD_eq
  intro k hk
  rw [grant_bit, given64_bit, Bool.eq_iff_iff, List.any_eq_true, List.any_eq_true]
  constructor
  · rintro ⟨r, hr, h⟩; rw [Bool.and_eq_true] at h; exact ⟨r, hr, h.2⟩
  · rintro ⟨r, hr, h⟩; exact ⟨r, hr, by rw [hits_all hr, h]; rfl⟩
theorem grant_world (l : List Row) (ids : List ByteArray) : grant (l.map worldR) ids = given64 l := by
  apply BitVec.eq_of_getLsbD_eq
  intro k hk
  rw [grant_bit, given64_bit, List.any_map]
  congr 1
theorem may_given {l : List Row} {ids : List ByteArray} {G : BitVec 64} (h : grant l ids = G) (p : Int) (h1 : -9223372036854775808 ≤ p) (h2 : p ≤ 9223372036854775807) : mayB l p ids = (small p && (bits .and .i64 p G.toInt == p)) := by
  rw [mayB, h]
  congr 1
  rw [bits_and, P_toInt, Bool.eq_iff_iff, beq_iff_eq, beq_iff_eq]
  have e : (P64 p &&& G).toInt = p ↔ P64 p &&& G = P64 p := by
    constructor
    · intro h
      have := congrArg P64 h
      rwa [P_toInt] at this
    · intro h; rw [h]; exact toInt_P h1 h2
  rw [e]
  constructor
  · intro h
    apply BitVec.eq_of_getLsbD_eq
    intro k hk
    have hb := congrArg (BitVec.getLsbD · k) h
    simp only [BitVec.getLsbD_and, BitVec.getLsbD_not, BitVec.getLsbD_zero, hk, decide_true, Bool.true_and] at hb ⊢
    revert hb
    cases (P64 p).getLsbD k <;> cases G.getLsbD k <;> simp
  · intro h
    apply BitVec.eq_of_getLsbD_eq
    intro k hk
    have hb := congrArg (BitVec.getLsbD · k) h
    simp only [BitVec.getLsbD_and, BitVec.getLsbD_not, BitVec.getLsbD_zero, hk, decide_true, Bool.true_and] at hb ⊢
    revert hb
    cases (P64 p).getLsbD k <;> cases G.getLsbD k <;> simp
theorem may_none (p : Int) (ids : List ByteArray) (h1 : -9223372036854775808 ≤ p) (h2 : p ≤ 9223372036854775807) : mayB [] p ids = (p == 0) := by
  rw [mayB, show grant [] ids = 0#64 from rfl, BitVec.not_zero, BitVec.and_allOnes, Bool.eq_iff_iff, Bool.and_eq_true, beq_iff_eq, beq_iff_eq]
  constructor
  · rintro ⟨_, h⟩
    have := toInt_P h1 h2
    rw [h] at this
    rw [← this]; decide
  · rintro rfl; decide
def mayG (p : Int) (G : BitVec 64) : Bool := small p && (bits .and .i64 p G.toInt == p)

structure AnRel (w : World) (l : List Row) (a : Option Addr) (cap : Nat) (iv av wv gv : Value) (wr : World) : Prop where
  ex : ∃ (k : Nat) (va vw : Value), va = av ∧ vw = wv ∧ k ≤ l.length ∧ iv = .int .i64 k ∧ gv = .int .i64 (given64 (l.take k)).toInt ∧
    wr.ownsRow w.heap.size 9 1 va ((l.take k).map (·.id)).length (idC ((l.take k).map (·.id))) ∧ wr.ownsRow w.heap.size 27 2 vw ((l.take k).map worldR).length (rowC ((l.take k).map worldR)) ∧
    Below w.heap.size w wr

set_option maxHeartbeats 4000000 in
theorem walk (v0 v2 : Value) (l : List Row) (p : Int) (ids : List ByteArray) (w : World) (h : RowsAt w v0 l) (hi : IdsAt w v2 ids) (z0 : l.length * 24 ≤ 140737488351232) (p1 : -9223372036854775808 ≤ p) (p2 : p ≤ 9223372036854775807) (tab : TabOk w) :
    Calls Tryd.prog 7 #[v0, .int .i64 p, v2] w fun e w' => e = .returned (.bool true) ∧ Below w.heap.size w w' := by
  have H := Lib.hid h
  have HI := Lib.hid hi
  have HF := Lib.hid h.fits
  obtain ⟨a, cap, rfl, _⟩ := h.ex
  obtain ⟨ia, icap, rfl, _⟩ := hi.ex
  clear h hi
  go_enter Tryd.func7, Tryd.ntmps7
  go_wp2_with fail
  refine (awake_any _ tab).mono ?_
  rintro e w1 ⟨rfl, hb1⟩
  have H1 := Lib.hid (H.out.below hb1)
  have HI1 := Lib.hid (HI.out.below hb1)
  have HB1 := Lib.hid hb1; clear hb1
  go_wp2_with fail
  go_loopw [11, 8, 9, 10] (fun iv av wv gv wr => AnRel w1 l a cap iv av wv gv wr) (fun iv _ _ _ _ => l.length - (intOf iv).toNat)
  case atStart => exact ⟨0, _, _, rfl, rfl, Nat.zero_le _, rfl, rfl, World.ownsRow_nil w1 _ _ 1, World.ownsRow_nil w1 _ _ 2, Below.refl _ _⟩
  case round =>
    obtain ⟨k, va, vw, rfl, rfl, hk, rfl, rfl, hoa, how, hbel⟩ := hrel.ex
    clear hrel
    have HOA := Lib.hid hoa
    have HOW := Lib.hid how
    have HB := Lib.hid hbel
    clear hoa how hbel
    by_cases hlt : k < l.length
    · obtain ⟨r, hr⟩ : ∃ r, l[k] = r := ⟨_, rfl⟩
      obtain ⟨b, off, rfl, hb, hc1', hc2'⟩ := H1.out.at_ hlt hr
      have HC1 := Lib.hid hc1'
      have hc1 : wr.cell? ⟨b, off + k * 2, none⟩ = some (.int .i64 r.perms) := by rw [HB.out.cell (p := ⟨b, _, none⟩) hb]; exact hc1'
      have hc2 : wr.cell? ⟨b, off + k * 2 + 1, none⟩ = some (.string r.id) := by rw [HB.out.cell (p := ⟨b, _, none⟩) hb]; exact hc2'
      clear hc1' hc2'
      have HTK : Hid (l.take (k + 1) = l.take k ++ [r]) := Lib.hid (by rw [List.take_succ_eq_append_getElem hlt, hr])
      have hfit := HF.out r (by rw [← hr]; exact List.getElem_mem hlt)
      have f1 := hfit.lo
      have f2 := hfit.hi
      clear hr hfit
      have HLEN : Hid (((l.take k).map (·.id)).length = k) := Lib.hid (by simp; omega)
      have HLEN2 : Hid (((l.take k).map worldR).length = k) := Lib.hid (by simp; omega)
      have HG : Hid (bits .or .i64 (given64 (l.take k)).toInt r.perms = (given64 (l.take (k + 1))).toInt) := Lib.hid (by rw [bits_or, P_toInt, HTK.out, given64_snoc])
      obtain ⟨G, hG⟩ : ∃ G, (given64 (l.take k)).toInt = G := ⟨_, rfl⟩
      rw [hG] at HG
      rw [hG]
      clear hG
      have HONE := Lib.hid (one_id_at wr r.id)
      have HOA1 := Lib.hid (row_alloc HOA.out (.cells #[.string r.id] 9))
      have HOW1 := Lib.hid (row_alloc HOW.out (.cells #[.string r.id] 9))
      have HB1' : Hid (Below w1.heap.size w1 (wr.alloc (.cells #[.string r.id] 9))) := Lib.hid (HB.out.alloc HB.out.size _)
      go_wp2_with (first
        | (at_builtin; refine wpList_app_ids _ rfl _ _ rfl (base := w1.heap.size) (v := va) (l := (l.take k).map (·.id)) (m := [r.id]) rfl rfl HOA1.out HONE.out (by rw [HLEN.out]; simp; omega) HB1'.out.size (fun va2 w2 hown2 hg2 => ?_)
           have HOA2 := Lib.hid hown2
           have HOW2 := Lib.hid (row_grown HOA1.out HOW1.out (by decide) hg2)
           have HB2 : Hid (Below w1.heap.size w1 w2) := Lib.hid (HB1'.out.trans (grown_below HOA1.out hg2 HB1'.out.size))
           have hd1 : w2.cell? ⟨b, off + k * 2, none⟩ = some (.int .i64 r.perms) := by rw [HB2.out.cell (p := ⟨b, _, none⟩) hb]; exact HC1.out
           have HONR := Lib.hid (one_row_at w2 r.perms worldS f1 f2 (by decide))
           have HOA3 := Lib.hid (row_alloc HOA2.out (.cells #[.int .i64 r.perms, .string worldS] 27))
           have HOW3 := Lib.hid (row_alloc HOW2.out (.cells #[.int .i64 r.perms, .string worldS] 27))
           have HB3 : Hid (Below w1.heap.size w1 (w2.alloc (.cells #[.int .i64 r.perms, .string worldS] 27))) := Lib.hid (HB2.out.alloc HB2.out.size _)
           clear hown2 hg2 HONE HOA1 HOW1 HB1')
        | (at_builtin; refine wpList_app_rows _ rfl _ _ rfl (base := w1.heap.size) (v := vw) (l := (l.take k).map worldR) (m := [⟨r.perms, worldS⟩]) rfl rfl HOW3.out HONR.out (by rw [HLEN2.out]; simp; omega) HB3.out.size (fun vw4 w4 hown4 hg4 => ?_)
           have HOW4 := Lib.hid hown4
           have HOA4 := Lib.hid (row_grown HOW3.out HOA3.out (by decide) hg4)
           have HB4 : Hid (Below w1.heap.size w1 w4) := Lib.hid (HB3.out.trans (grown_below HOW3.out hg4 HB3.out.size))
           have hd4 : w4.cell? ⟨b, off + k * 2, none⟩ = some (.int .i64 r.perms) := by rw [HB4.out.cell (p := ⟨b, _, none⟩) hb]; exact HC1.out
           clear hown4 hg4 HONR HOA3 HOW3 HB3))
      go_roundw
      case rel =>
        refine ⟨k + 1, va2, vw4, rfl, rfl, by omega, by go_num, congrArg (Value.int .i64) HG.out, ?_, ?_, HB4.out⟩
        · rw [HTK.out, List.map_append]; exact HOA4.out
        · rw [HTK.out, List.map_append]; exact HOW4.out
      case measure => simp [intOf]; omega
    · have e := List.take_of_length_le (show l.length ≤ k by omega)
      have HIA : Hid (IdsAt wr va (l.map (·.id))) := Lib.hid (by have := IdsAt.own HOA.out; rwa [e] at this)
      have HRW : Hid (RowsAt wr vw (l.map worldR)) := Lib.hid (by
        have := RowsAt.own HOW.out (fun r hr => by
          obtain ⟨r', hr', rfl⟩ := List.mem_map.1 hr
          have := HF.out r' (List.mem_of_mem_take hr')
          exact ⟨this.lo, this.hi, by show worldS.size ≤ maxLen; decide⟩)
        rwa [e] at this)
      have HR1 := Lib.hid (H1.out.below HB.out)
      have HI2 := Lib.hid (HI1.out.below HB.out)
      have HBW : Hid (Below w.heap.size w wr) := Lib.hid (HB1.out.trans (HB.out.mono HB1.out.size))
      have hG : (given64 (l.take k)).toInt = (given64 l).toInt := by rw [e]
      rw [hG]
      clear e hG HOA HOW HB
      obtain ⟨M, hM⟩ : ∃ M, mayG p (given64 l) = M := ⟨_, rfl⟩
      have HMA : Hid (mayB l p (l.map (·.id)) = M) := Lib.hid (by rw [may_given (grant_all l) p p1 p2]; exact hM)
      have HMB : Hid (mayB (l.map worldR) p ids = M) := Lib.hid (by rw [may_given (grant_world l ids) p p1 p2]; exact hM)
      have HMC : Hid (mayB (l.map worldR) p [] = M) := Lib.hid (by rw [may_given (grant_world l []) p p1 p2]; exact hM)
      have HMN := Lib.hid (may_none p (l.map (·.id)) p1 p2)
      obtain ⟨z, hz⟩ : ∃ z, (p == 0) = z := ⟨_, rfl⟩
      rw [hz] at HMN
      obtain ⟨G, hG⟩ : ∃ G, (given64 l).toInt = G := ⟨_, rfl⟩
      rw [hG]
      obtain ⟨y, hy⟩ : ∃ y, (bits .and .i64 p G == p) = y := ⟨_, rfl⟩
      have HMM : Hid (M = (small p && y)) := Lib.hid (by rw [← hM, mayG, hG, hy])
      clear hM hG
      have hcase : (p < 0 ∧ M = false) ∨ (0 ≤ p ∧ 31 < p ∧ M = false) ∨ (0 ≤ p ∧ p ≤ 31 ∧ M = y) := by
        rcases (show p < 0 ∨ (0 ≤ p ∧ 31 < p) ∨ (0 ≤ p ∧ p ≤ 31) by omega) with h | h | h
        · left; refine ⟨h, ?_⟩; rw [HMM.out, small, decide_eq_false (by omega)]; rfl
        · right; left; refine ⟨h.1, h.2, ?_⟩; rw [HMM.out, small, decide_eq_true (by omega), decide_eq_false (by omega)]; rfl
        · right; right; refine ⟨h.1, h.2, ?_⟩; rw [HMM.out, small, decide_eq_true (by omega), decide_eq_true (by omega)]; rfl
      clear HMM
      rcases hcase with ⟨q1, rfl⟩ | ⟨q1, q2, rfl⟩ | ⟨q1, q2, rfl⟩
      all_goals
        go_wp2_with fail
        refine (may_any HR1.out HIA.out p p1 p2 HMA.out).mono ?_
        rintro e w3 ⟨rfl, hb3⟩
        have HIA3 := Lib.hid (HIA.out.below hb3)
        have HRW3 := Lib.hid (HRW.out.below hb3)
        have HI3 := Lib.hid (HI2.out.below hb3)
        have HB3 : Hid (Below w.heap.size w w3) := Lib.hid (HBW.out.trans (hb3.mono HBW.out.size))
        clear hb3
        go_wp2_with fail
        refine (may_any HRW3.out HI3.out p p1 p2 HMB.out).mono ?_
        rintro e w4 ⟨rfl, hb4⟩
        have HIA4 := Lib.hid (HIA3.out.below hb4)
        have HRW4 := Lib.hid (HRW3.out.below hb4)
        have HB4 : Hid (Below w.heap.size w w4) := Lib.hid (HB3.out.trans (hb4.mono HB3.out.size))
        clear hb4
        go_wp2_with fail
        refine (may_any HRW4.out (IdsAt.nil _) p p1 p2 HMC.out).mono ?_
        rintro e w5 ⟨rfl, hb5⟩
        have HIA5 := Lib.hid (HIA4.out.below hb5)
        have HB5 : Hid (Below w.heap.size w w5) := Lib.hid (HB4.out.trans (hb5.mono HB4.out.size))
        clear hb5
        go_wp2_with fail
        refine (may_any (RowsAt.nil _) HIA5.out p p1 p2 HMN.out).mono ?_
        rintro e w6 ⟨rfl, hb6⟩
        have HB6 : Hid (Below w.heap.size w w6) := Lib.hid (HB5.out.trans (hb6.mono HB5.out.size))
        clear hb6
        go_wp2_with fail
        go_ret
        exact ⟨ret_bool (by simp), HB6.out⟩

theorem own : ownKnob Tryd.prog.godebug = none := by kernel_rfl
theorem laidOut : laidOutB Tryd.prog = true := by kernel_rfl

theorem table {W : World} (h : laidMetH Tryd.prog Rows.aclAnyoneRow.laid W) : TabOk W := by
  have h1 : laidMet Tryd.prog Rows.aclAnyoneRow.laid W := h
  exact Lib.tabIs_of_head (zs := tab64) (g := 3) (t := 86) (e := 5) (n := 64) (by kernel_rfl) (by kernel_rfl) (by kernel_rfl) (by kernel_rfl) (by kernel_rfl) (by kernel_rfl) h1.tail

theorem contract (H : Type) (enc : TypeId × Value → H) (W : World) (base : Nat) (args : Array Value) (ds gs : List (DataW H)) (before : List MemPlace)
    (hval0 : ∀ (j : Nat) t v, Tryd.f7.params[j]? = some t → args[j]? = some v → Value.okWide Tryd.prog W .any base t v)
    (hW : DataW.Whole enc Tryd.prog Tryd.f7.params.toList Rows.aclAnyoneSpec.vars false W args.toList ds gs before) (hL : laidMetH Tryd.prog Rows.aclAnyoneRow.laid W)
    (hsz0 : (DataW.weightsEach Tryd.prog (Tryd.f7.params.toList ++ Rows.aclAnyoneSpec.plain.varTypes Tryd.prog) (ds ++ gs)).all (· ≤ reachBytes) = true) :
    Calls Tryd.prog 7 args W fun e W' => ∃ v, e = .returned v ∧ Rows.aclAnyoneSpec.post enc Tryd.prog Tryd.f7 false true false false W args v W' := by
  have hval : ∀ (j : Nat) t v, Tryd.f7.params[j]? = some t → args[j]? = some v → Value.okWide Tryd.prog W .any base t v := hval0
  have hW' := hW
  obtain ⟨p, q, hA0, hV, rfl, hfz, hnd⟩ := hW
  have hA : DataW.TrodAll enc Tryd.prog W 0 (fun _ => true) true Tryd.f7.params.toList args.toList ds p := hA0
  have hsz : (DataW.weightsEach Tryd.prog (Tryd.f7.params.toList ++ Rows.aclAnyoneSpec.plain.varTypes Tryd.prog) (ds ++ gs)).all (· ≤ reachBytes) = true := hsz0
  clear hsz0
  rw [Tryd.params7] at hA hval hsz
  obtain ⟨v0, vs0, d0, ds0, p0, q0, hargs, rfl, rfl, h0, r0⟩ := trodAll_cons hA
  obtain ⟨v1, vs1, d1, ds1, p1, q1, rfl, rfl, rfl, h1, r1⟩ := trodAll_cons r0
  obtain ⟨v2, vs2, d2, ds2, p2, q2, rfl, rfl, rfl, h2, r2⟩ := trodAll_cons r1
  obtain ⟨rfl, rfl, rfl⟩ := trodAll_nil r2
  obtain rfl : args = #[v0, v1, v2] := by cases args; simp_all
  obtain ⟨rfl, rfl⟩ := trodVars_none hV
  have k0 := h0
  have lt0 : ∀ x ∈ p0, x.block < W.heap.size := by obtain ⟨m, hm⟩ := k0; exact DataW.trod_lt m _ _ _ hm
  obtain ⟨a0, len0, cap0, rfl⟩ := okWide_slice Tryd.underlying22 (hval 0 22 v0 rfl rfl)
  obtain ⟨l0, hl0, R0, s0⟩ : ∃ l : List Row, l.length = len0 ∧ RowsAt W (.slice a0 len0 cap0) l ∧ (len0 = 0 ∨ ∃ el sp, d0 = .slice el sp ∧ el.length = len0) := by obtain ⟨fuel, hf⟩ := h0; exact rows_of (fun _ => rfl) hf
  have k1 := h1
  have lt1 : ∀ x ∈ p1, x.block < W.heap.size := by obtain ⟨m, hm⟩ := k1; exact DataW.trod_lt m _ _ _ hm
  obtain ⟨a1, e1, f1, g1, w1⟩ := open_int Tryd.underlying3 (hval 1 3 v1 rfl rfl) h1
  subst e1
  have b1 : -9223372036854775808 ≤ a1 ∧ a1 ≤ 9223372036854775807 := by have w := w1; simp [Lit.wf, IntKind.min, IntKind.max, IntKind.bits, IntKind.signed] at w; omega
  have k2 := h2
  have lt2 : ∀ x ∈ p2, x.block < W.heap.size := by obtain ⟨m, hm⟩ := k2; exact DataW.trod_lt m _ _ _ hm
  obtain ⟨a2, len2, cap2, rfl⟩ := okWide_slice Tryd.underlying25 (hval 2 25 v2 rfl rfl)
  obtain ⟨l2, hl2, R2, y2, s2⟩ : ∃ l : List ByteArray, l.length = len2 ∧ IdsAt W (.slice a2 len2 cap2) l ∧ (∀ s ∈ l, s.size ≤ maxLen) ∧ (len2 = 0 ∨ ∃ el sp, d2 = .slice el sp ∧ el.length = len2) := by obtain ⟨fuel, hf⟩ := h2; exact ids_of (fun _ => rfl) hf
  clear hA0 hval0
  have z0 : l0.length * 24 ≤ 140737488351232 := by
    rw [hl0]
    rcases s0 with s | ⟨el, sp, s, hs⟩
    · omega
    · have := sized_slice hsz (j := 0) (t := 22) (e := 27) (elems := el) (spare := sp) rfl (by rw [s]; rfl) Tryd.underlying22
      rw [show Tryd.prog.bytesOf 27 = 24 by kernel_rfl] at this
      have e : reachBytes = 140737488351232 := rfl
      omega
  have z2 : l2.length * 16 ≤ 140737488351232 := by
    rw [hl2]
    rcases s2 with s | ⟨el, sp, s, hs⟩
    · omega
    · have := sized_slice hsz (j := 2) (t := 25) (e := 9) (elems := el) (spare := sp) rfl (by rw [s]; rfl) Tryd.underlying25
      rw [show Tryd.prog.bytesOf 9 = 16 by kernel_rfl] at this
      have e : reachBytes = 140737488351232 := rfl
      omega
  have tab := table hL
  refine (walk _ _ l0 a1 l2 W R0 R2 z0 b1.1 b1.2 tab).mono fun e W' ⟨he, bel⟩ => ?_
  subst he
  exact ⟨_, rfl, _, _, _, [], _, [], hW', trodAll_mk1 (shut_bool Tryd.underlying4 _), (trodAll_cons_mk (Below.trod laidOut (by kernel_rfl) (of_decide_eq_true (by kernel_rfl)) k0 bel lt0) (trodAll_cons_mk (Below.trod laidOut (by kernel_rfl) (of_decide_eq_true (by kernel_rfl)) k1 bel lt1) (trodAll_cons_mk (Below.trod laidOut (by kernel_rfl) (of_decide_eq_true (by kernel_rfl)) k2 bel lt2) trodAll_mk0))), rfl, bel.frame _, fun h => by cases h⟩

/-- the cells that a listed table has -/
def tabCells {H : Type} : DataW H → Array Value
  | .agg parts => (parts.map fun d => match d with | .lit (.int k z) => Value.int k z | _ => undef).toArray
  | _ => #[]
def lay (W : World) (g : Nat) (cs : Array Value) : World := { W with heap := W.heap.modify g fun
      | .cells _ t frozen => .cells cs t frozen
      | o => o }
noncomputable def laidWorld (os : Os) : World :=
  lay (lay (lay (World.holding Tryd.prog os ⟨#[], #[], []⟩) 0 (tabCells (H := Unit) Rows.laid_internal_strconv_uint64pow10)) 2 (tabCells (H := Unit) Rows.laid_math_bits_deBruijn32tab)) 3 (tabCells (H := Unit) Rows.laid_math_bits_deBruijn64tab)
theorem laid_met (os : Os) : laidMet Tryd.prog Rows.aclAnyoneRow.laid ((laidWorld os).forCall (fun _ _ => 0) ⟨#[], #[.slice none 0 0, .int .i64 0, .slice none 0 0], []⟩).memory :=
  laidMet_of_run' 8 (by kernel_rfl) (by kernel_rfl)
theorem reads (os : Os) {H : Type} (enc : TypeId × Value → H) : ∃ places, DataW.whole enc Tryd.prog ((laidWorld os).forCall (fun _ _ => 0) ⟨#[], #[.slice none 0 0, .int .i64 0, .slice none 0 0], []⟩).memory Tryd.f7.params.toList Rows.aclAnyoneSpec.vars false (#[.slice none 0 0, .int .i64 0, .slice none 0 0] : Array Value).toList 8 = some ([.nil, .lit (.int .i64 0), .nil], [], places) :=
  ⟨[], by kernel_rfl⟩

set_option maxRecDepth 100000 in
theorem lifted (os : Os) (started : os.Started) (H : Type) (enc : TypeId × Value → H) (F : Stop.Interp) :
    ReturnsInHanded {} Tryd.checked os 7 .any ((OpenSpec.ofChange Rows.aclAnyoneSpec).preRow enc Tryd.prog Tryd.f7 Rows.aclAnyoneRow.domain false Rows.aclAnyoneRow.laid) (((OpenSpec.ofChange Rows.aclAnyoneSpec).at F).post enc Tryd.prog Tryd.f7 false true false false) := by
  obtain ⟨places, hx⟩ := reads os enc
  refine returnsInHanded_of_row (C := Tryd.checked) (s := OpenSpec.ofChange Rows.aclAnyoneSpec) own started (by kernel_rfl) Tryd.func7
    (witness_row_at (enc := enc) (C := Tryd.checked) false (laidWorld os) #[.slice none 0 0, .int .i64 0, .slice none 0 0] rfl (by kernel_rfl) (by kernel_rfl) (by kernel_rfl)
      (OpenSpec.preRow_of_cond 8 hx (by kernel_rfl) (fun k hk => by cases hk) (by kernel_rfl) (laid_met os))) ?_
  intro W base args ds gs before hval hW _ hcond hsz hL _ _
  exact contract H enc W base args ds gs before hval hW hL hsz

theorem said : Rows.AclAnyoneSaid :=
  OpenClaim.holds_of_cond 7 Tryd.f7 rfl rfl rfl rfl rfl rfl rfl ⟨rfl, rfl, rfl, rfl, rfl⟩ rfl rfl rfl rfl rfl (by kernel_rfl) Tryd.func7 (by kernel_rfl)
    (of_decide_eq_true (by kernel_rfl)) (by unfold Func.isWrapper; first | (rw [if_pos (by decide +kernel)]; kernel_rfl) | (rw [if_neg (by decide +kernel)]; exact ⟨rfl, rfl⟩))
    (fun os started H enc _ F => by rw [OpenClaim.pre_eq_preRow]; exact lifted os started H enc F)

theorem plain (f : FuncId) (fn : Func) (hf : Tryd.pinned.checked.prog.funcNamed Rows.aclAnyoneRow.func = some f) (hfn : Tryd.pinned.checked.prog.funcs[f]? = some fn) :
    false = Tryd.pinned.checked.prog.looks [] ∧ ∀ (j : Nat) t, fn.params[j]? = some t → Tryd.pinned.checked.prog.wantsStandIn t = false := by
  obtain rfl : f = 7 := Option.some.inj ((show Tryd.prog.funcNamed Rows.aclAnyoneRow.func = some 7 by kernel_rfl).symm.trans hf) |>.symm
  obtain rfl : fn = Tryd.f7 := (Option.some.inj (Tryd.func7.symm.trans hfn)).symm
  refine ⟨by kernel_rfl, fun j t ht => ?_⟩
  rw [Tryd.params7] at ht
  have hm := Array.mem_of_getElem? ht
  have hall : ∀ t ∈ (#[22, 3, 25] : Array TypeId), Tryd.prog.wantsStandIn t = false := by
    intro t h
    simp only [List.mem_toArray, List.mem_cons, List.not_mem_nil, or_false] at h
    rcases h with rfl | rfl | rfl <;> kernel_rfl
  exact hall t hm

/-- the given statement -/
theorem proved : Rows.AclAnyoneCardSaid :=
  Claim7.holds_tied_plain_at .later [] _ _ _ _ said (fun _ h => by cases h) (by kernel_rfl) (fun _ h => by cases h) aclAnyone_row_tie rfl ⟨rfl, rfl⟩ (by kernel_rfl) rfl plain (by kernel_rfl)
#print axioms proved
end Go.Proofs.YtpjanfclobpkjaaDoor.aclAnyone
