/- same: whether a log is just so. -/
import Derived.Test.YtcjfpddmpiggoaaJtf
namespace Go.Proofs.Ytcjfpddmpiggoaa
open Go.ChangeShapes Go.WideShapes Go.ChangeAt Go.RowKit
set_option linter.unusedVariables false
set_option linter.unusedSimpArgs false
section
variable {Z : Nat → Prop} {w w' : World} {lb db : Nat} {g : LSt} {d : DSt}
def sameB (g : LSt) (l : List ByteArray) (xa xb : Int) : Bool := decide (l = g.recs) && (decide (xa = g.m.a) && (decide (xb = g.m.b) && decide (g.m.nu = g.recs.length)))
def SamePost (w : World) (g : LSt) (l : List ByteArray) (xa xb : Int) (e : Ending) (w' : World) : Prop :=
  e = .returned (.bool (sameB g l xa xb)) ∧ Kept (fun _ => False) w w'
set_option maxRecDepth 100000 in
set_option maxHeartbeats 2000000 in
theorem same_any (hw : Wl Z w lb db g d) (hg : Good d g) {ok : Nat → Prop} {a : Option Addr} {c : Nat} {l : List ByteArray} (hx : TsAt w ok (.slice a l.length c) l) (hok : ∀ k, ok k → k < w.heap.size) (hl : l.length ≤ 140737488355328) (xa xb : Int) :
    Calls Try.prog 20 #[.pointer (some ⟨lb, 0, none⟩), .agg #[.slice a l.length c, .int .i64 xa, .int .i64 xb]] w (SamePost w g l xa xb) := by
  have hsp := hg.half.base.space
  have husp := hg.usp
  have hus := hg.used
  have hll := sizeN_len g.recs
  have hlen : g.recs.length ≤ 1048512 := by omega
  obtain ⟨B1, hB1⟩ : ∃ B1, w.heap.size = B1 := ⟨_, rfl⟩
  have hb1 : (w.alloc (.cells #[.slice a l.length c, .int .i64 xa, .int .i64 xb] 52)).heap[B1]? = some (.cells #[.slice a l.length c, .int .i64 xa, .int .i64 xb] 52 (0, 0)) := by rw [← hB1]; exact heap_alloc_new w _
  have hkw : Kept (fun _ => False) w (w.alloc (.cells #[.slice a l.length c, .int .i64 xa, .int .i64 xb] 52)) := (Kept.refl _ w).alloc _
  have hlt1 := lt_of_block hb1
  have hw1 := hw.kept0 hkw
  have hx1 := hx.kept hkw (fun _ _ x => x)
  have HBE : Hid (w.heap.size = B1) := Lib.hid hB1
  obtain ⟨W1, hW1⟩ : ∃ W1, w.alloc (.cells #[.slice a l.length c, .int .i64 xa, .int .i64 xb] 52) = W1 := ⟨_, rfl⟩
  rw [hW1] at hb1 hkw hlt1 hw1 hx1
  have HB1 := Lib.hid hb1
  have HKW := Lib.hid hkw
  have HLT := Lib.hid hlt1
  have HW1 := Lib.hid hw1
  have HX1 := Lib.hid hx1
  have HWE := Lib.hid hW1
  have HTO := Lib.hid (told_true hw1 hg)
  have HG := Lib.hid hg
  clear hw hg hsp husp hus hll hB1 hb1 hkw hlt1 hw1 hW1 hx hx1
  go_enter Try.func20, Try.ntmps20
  go_wp2_with fail
  rw [HWE.out]
  refine HTO.out.mono ?_
  rintro e w2 ⟨a2, c2, rfl, ht, hk⟩
  have hto : toldL g true = g.recs := rfl
  rw [hto] at ht ⊢
  have hk3 : Kept (fun _ => False) W1 (w2.alloc (.cells #[.slice a2 g.recs.length c2, .int .i64 g.m.a, .int .i64 g.m.b] 52)) := hk.alloc _
  have HT := Lib.hid (ht.kept ((Kept.refl (fun _ => False) w2).alloc (.cells #[.slice a2 g.recs.length c2, .int .i64 g.m.a, .int .i64 g.m.b] 52)) (fun _ _ x => x))
  have HK3 := Lib.hid hk3
  have HX3 := Lib.hid (HX1.out.kept hk3 (fun _ _ x => x))
  have HW3 := Lib.hid (HW1.out.kept0 hk3)
  have hb2 : (w2.alloc (.cells #[.slice a2 g.recs.length c2, .int .i64 g.m.a, .int .i64 g.m.b] 52)).heap[w2.heap.size]? = some (.cells #[.slice a2 g.recs.length c2, .int .i64 g.m.a, .int .i64 g.m.b] 52 (0, 0)) := heap_alloc_new w2 _
  have hb1 := (hk3.block B1 HLT.out id).trans HB1.out
  rw [HBE.out]
  obtain ⟨c0, c1, c2', _⟩ := three_of hb1
  obtain ⟨e0, e1, e2, _⟩ := three_of hb2
  have HB1' := Lib.hid hb1
  have HB2' := Lib.hid hb2
  clear ht hk hk3 hb1 hb2
  go_wp2_with fail
  refine (texts_any HX3.out HT.out hl (by omega)).mono ?_
  rintro e w4 ⟨rfl, n4, rfl⟩
  have HK4 : Hid (Kept (fun _ => False) w ((w2.alloc (.cells #[.slice a2 g.recs.length c2, .int .i64 g.m.a, .int .i64 g.m.b] 52)).drewN n4)) := Lib.hid ((HKW.out.trans HK3.out).drewN n4)
  have HW4 := Lib.hid (HW3.out.drewN n4)
  have hb1 : ((w2.alloc (.cells #[.slice a2 g.recs.length c2, .int .i64 g.m.a, .int .i64 g.m.b] 52)).drewN n4).heap[B1]? = some (.cells #[.slice a l.length c, .int .i64 xa, .int .i64 xb] 52 (0, 0)) := HB1'.out
  have hb2 : ((w2.alloc (.cells #[.slice a2 g.recs.length c2, .int .i64 g.m.a, .int .i64 g.m.b] 52)).drewN n4).heap[w2.heap.size]? = some (.cells #[.slice a2 g.recs.length c2, .int .i64 g.m.a, .int .i64 g.m.b] 52 (0, 0)) := HB2'.out
  clear c0 c1 c2' e0 e1 e2 HX3 HT HW3 HK3 HB1' HB2'
  generalize (w2.alloc (.cells #[.slice a2 g.recs.length c2, .int .i64 g.m.a, .int .i64 g.m.b] 52)).drewN n4 = w4 at HK4 HW4 hb1 hb2 ⊢
  generalize w2.heap.size = B2 at hb2 ⊢
  obtain ⟨c0, c1, c2', _⟩ := three_of hb1
  obtain ⟨e0, e1, e2, _⟩ := three_of hb2
  clear hb1 hb2
  unfold SamePost
  by_cases h1 : l = g.recs
  · have hd1 : decide (l = g.recs) = true := decide_eq_true h1
    rw [hd1]
    by_cases h2 : xa = g.m.a
    · have hd2 : (xa == (g.m.a : Int)) = true := by simp [h2]
      by_cases h3 : xb = g.m.b
      · have hd3 : (xb == (g.m.b : Int)) = true := by simp [h3]
        go_wp2_with fail
        refine (synced_any HW4.out).mono ?_
        rintro e w5 ⟨rfl, rfl⟩
        go_wp2_with fail
        refine (len_any HW4.out).mono ?_
        rintro e w5 ⟨rfl, rfl⟩
        cases hh : ((g.m.nu : Int) == (g.recs.length : Int))
        · have HH : Hid (¬ g.m.nu = g.recs.length) := Lib.hid (by have h9 := hh; simp at h9; omega)
          go_wp2_with fail
          go_ret
          exact ⟨ret_bool (by unfold sameB; simp [HH.out, h1, h2, h3]), HK4.out⟩
        · have HH : Hid (g.m.nu = g.recs.length) := Lib.hid (by have h9 := hh; simp at h9; omega)
          go_wp2_with fail
          go_ret
          exact ⟨ret_bool (by unfold sameB; simp [HH.out, h1, h2, h3]), HK4.out⟩
      · have H3 := Lib.hid h3
        have hd3 : (xb == (g.m.b : Int)) = false := by simp [h3]
        go_wp2_with fail
        go_ret
        exact ⟨ret_bool (by unfold sameB; simp [H3.out]), HK4.out⟩
    · have H2 := Lib.hid h2
      have hd2 : (xa == (g.m.a : Int)) = false := by simp [h2]
      go_wp2_with fail
      go_ret
      exact ⟨ret_bool (by unfold sameB; simp [H2.out]), HK4.out⟩
  · have H1 := Lib.hid h1
    have hd1 : decide (l = g.recs) = false := decide_eq_false h1
    rw [hd1]
    go_wp2_with fail
    go_ret
    exact ⟨ret_bool (by unfold sameB; simp [H1.out]), HK4.out⟩
end
end Go.Proofs.Ytcjfpddmpiggoaa
