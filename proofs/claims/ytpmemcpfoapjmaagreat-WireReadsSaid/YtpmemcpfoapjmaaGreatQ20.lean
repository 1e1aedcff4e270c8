/- The document's own answers of layer 2: ans, taken up. -/
import Derived.Test.YtpmemcpfoapjmaaGreatQ10
import Derived.Test.YtpmemcpfoapjmaaGreatQ19
import Derived.Test.YtpmemcpfoapjmaaGreatQ03
import Derived.StillTailTactics
import Derived.Outline
namespace Go.Proofs.YtpmemcpfoapjmaaGreat
open Go.ChangeShapes Go.WideShapes Go.ChangeAt Go.RowKit
set_option linter.unusedVariables false

def putL (c : List Value) : Nat → List Value → List Value
  | _, [] => c
  | o, v :: vs => putL (c.set o v) (o + 1) vs
theorem setCells_row {T : TypeId} {g : Nat} : ∀ (vs : List Value) (o : Nat) {w : World} {c : List Value}, w.heap[g]? = some (.cells c.toArray T (0, 0)) → (w.setCells g o vs).heap[g]? = some (.cells (putL c o vs).toArray T (0, 0))
  | [], _, _, _, h => h
  | v :: vs, o, w, c, h => by
    have h1 : (w.setCell ⟨g, o, none⟩ v).heap[g]? = some (.cells (c.set o v).toArray T (0, 0)) := by
      rw [setCell_row h]; exact setRow_heap _ _ _ _ _ _ h
    exact setCells_row vs (o + 1) h1
theorem there_row {w : World} {g i n : Nat} {c : List Value} {T : TypeId} (h : w.heap[g]? = some (.cells c.toArray T (0, 0))) (hl : i + n ≤ c.length) : w.there g i n := fun j hj => by
  refine ⟨?_, by simp [World.frozen?, h]⟩
  rw [cell_of_row w g (i + j) _ _ (0, 0) h]
  simp; omega
theorem FB.put {w W W' : World} {b : Nat} {s : ByteArray} {T : TypeId} {zc cur c : List Value} {p e : Nat} (h : FB w b s T zc W cur p e) (hk : Kept (fun k => k = w.heap.size + 1) W W') (hb : W'.heap[w.heap.size + 1]? = some (.cells c.toArray T (0, 0))) : FB w b s T zc W' c p e :=
  ⟨h.old, h.rd.keep hk (by have := h.old; omega), Kept.trans' h.kept hk (fun k hk1 hs => by have hs' : k = w.heap.size + 1 := hs; omega), by rw [hk.block _ (lt_of_block h.res) (by omega)]; exact h.res, hb⟩
theorem ftexts_of {s : ByteArray} {pos e q e' : Nat} {xs : List ByteArray} (g : (listF (textF 4096)).get s.data.toList pos e = (xs, q, e')) : ∀ (W : World) (b p : Nat), FAt W b s p e → (e = 0 → p = pos) →
    Calls Tryz.prog 70 #[.pointer (some ⟨b, 0, none⟩)] W (FLPost textE 1 W b s xs q e') := fun W b p hF hp => reftake_texts W b s p pos e hF hp g

set_option maxRecDepth 100000 in
set_option maxHeartbeats 1600000 in
theorem reftake_ans (w : World) (b : Nat) (s : ByteArray) (p pos e : Nat) (hF : FAt w b s p e) (hp : e = 0 → p = pos) {x : Ans} {q e' : Nat} (h : ansF.get s.data.toList pos e = (x, q, e')) :
    Calls Tryz.prog 78 #[.pointer (some ⟨b, 0, none⟩)] w (FGPost ansE 17 [16] w b s x q e') := by
  have HSZ := Lib.hid (show (Tryz.prog.info? 78).map (·.size) = some 17 by kernel_rfl)
  have HS_int := Lib.hid (show (Tryz.prog.info? 3).map (·.size) = some 1 by kernel_rfl)
  have HS_string := Lib.hid (show (Tryz.prog.info? 9).map (·.size) = some 1 by kernel_rfl)
  have HS_acls := Lib.hid (show (Tryz.prog.info? 24).map (·.size) = some 1 by kernel_rfl)
  have HS_texts := Lib.hid (show (Tryz.prog.info? 29).map (·.size) = some 1 by kernel_rfl)
  have HS_stat := Lib.hid (show (Tryz.prog.info? 75).map (·.size) = some 9 by kernel_rfl)
  have HS_errno := Lib.hid (show (Tryz.prog.info? 33).map (·.size) = some 1 by kernel_rfl)
  obtain ⟨v0, q0, e0, g0⟩ : ∃ aa qq ee, numF.get s.data.toList pos e = (aa, qq, ee) := ⟨_, _, _, eta3 _⟩
  obtain ⟨v1, q1, e1, g1⟩ : ∃ aa qq ee, numF.get s.data.toList q0 e0 = (aa, qq, ee) := ⟨_, _, _, eta3 _⟩
  obtain ⟨v2, q2, e2, g2⟩ : ∃ aa qq ee, numF.get s.data.toList q1 e1 = (aa, qq, ee) := ⟨_, _, _, eta3 _⟩
  obtain ⟨v3, q3, e3, g3⟩ : ∃ aa qq ee, (textF 4096).get s.data.toList q2 e2 = (aa, qq, ee) := ⟨_, _, _, eta3 _⟩
  obtain ⟨v4, q4, e4, g4⟩ : ∃ aa qq ee, (textF 4096).get s.data.toList q3 e3 = (aa, qq, ee) := ⟨_, _, _, eta3 _⟩
  obtain ⟨v5, q5, e5, g5⟩ : ∃ aa qq ee, numF.get s.data.toList q4 e4 = (aa, qq, ee) := ⟨_, _, _, eta3 _⟩
  obtain ⟨v6, q6, e6, g6⟩ : ∃ aa qq ee, numF.get s.data.toList q5 e5 = (aa, qq, ee) := ⟨_, _, _, eta3 _⟩
  obtain ⟨v7, q7, e7, g7⟩ : ∃ aa qq ee, numF.get s.data.toList q6 e6 = (aa, qq, ee) := ⟨_, _, _, eta3 _⟩
  obtain ⟨v8, q8, e8, g8⟩ : ∃ aa qq ee, numF.get s.data.toList q7 e7 = (aa, qq, ee) := ⟨_, _, _, eta3 _⟩
  obtain ⟨v9, q9, e9, g9⟩ : ∃ aa qq ee, numF.get s.data.toList q8 e8 = (aa, qq, ee) := ⟨_, _, _, eta3 _⟩
  obtain ⟨v10, q10, e10, g10⟩ : ∃ aa qq ee, numF.get s.data.toList q9 e9 = (aa, qq, ee) := ⟨_, _, _, eta3 _⟩
  obtain ⟨v11, q11, e11, g11⟩ : ∃ aa qq ee, numF.get s.data.toList q10 e10 = (aa, qq, ee) := ⟨_, _, _, eta3 _⟩
  obtain ⟨v12, q12, e12, g12⟩ : ∃ aa qq ee, numF.get s.data.toList q11 e11 = (aa, qq, ee) := ⟨_, _, _, eta3 _⟩
  obtain ⟨v13, q13, e13, g13⟩ : ∃ aa qq ee, numF.get s.data.toList q12 e12 = (aa, qq, ee) := ⟨_, _, _, eta3 _⟩
  obtain ⟨v14, q14, e14, g14⟩ : ∃ aa qq ee, (listF aclF).get s.data.toList q13 e13 = (aa, qq, ee) := ⟨_, _, _, eta3 _⟩
  obtain ⟨v15, q15, e15, g15⟩ : ∃ aa qq ee, (listF (textF 4096)).get s.data.toList q14 e14 = (aa, qq, ee) := ⟨_, _, _, eta3 _⟩
  have hget : ansF.get s.data.toList pos e = (⟨v0, v1, v2, v3, v4, ⟨v5, v6, v7, v8, v9, v10, v11, v12, v13⟩, v14, v15⟩, q15, e15) := by simp only [ansF, statF, isoF, seqF, g0, g1, g2, g3, g4, g5, g6, g7, g8, g9, g10, g11, g12, g13, g14, g15]
  rw [hget] at h
  simp only [Prod.mk.injEq] at h
  obtain ⟨rfl, rfl, rfl⟩ := h
  have i0 : I64 v0 := num_fit g0
  have i1 : I64 v1 := num_fit g1
  have i2 : I64 v2 := num_fit g2
  have i3 : Str v3 := text_fit (by decide) g3
  have i4 : Str v4 := text_fit (by decide) g4
  have i5 : I64 v5 := num_fit g5
  have i6 : I64 v6 := num_fit g6
  have i7 : I64 v7 := num_fit g7
  have i8 : I64 v8 := num_fit g8
  have i9 : I64 v9 := num_fit g9
  have i10 : I64 v10 := num_fit g10
  have i11 : I64 v11 := num_fit g11
  have i12 : I64 v12 := num_fit g12
  have i13 : I64 v13 := num_fit g13
  have HZ := Lib.hid (show e15 = 0 → e14 = 0 from fun h0 => (back0 (listF_ok (textF_ok (by decide))) g15 h0))
  have hn0 : numsN 3 s.data.toList pos e = ([v0, v1, v2], q2, e2) := by simp only [numsN, getN, g0, g1, g2]
  have K0 := Lib.hid (ftake_of (by decide) hn0)
  clear hn0
  have K1 := Lib.hid (ftext_of (by decide) g3)
  have K2 := Lib.hid (ftext_of (by decide) g4)
  have hn3 : numsN 9 s.data.toList q4 e4 = ([v5, v6, v7, v8, v9, v10, v11, v12, v13], q13, e13) := by simp only [numsN, getN, g5, g6, g7, g8, g9, g10, g11, g12, g13]
  have K3 := Lib.hid (ftake_of (by decide) hn3)
  clear hn3
  have K4 := Lib.hid (facls_of g14)
  have K5 := Lib.hid (ftexts_of g15)
  clear hget g0 g1 g2 g3 g4 g5 g6 g7 g8 g9 g10 g11 g12 g13 g14 g15
  have S0 := FB.start hF 78 [.int .i64 0, .int .i64 0, .int .i64 0, .string ⟨#[]⟩, .string ⟨#[]⟩, .int .i64 0, .int .i64 0, .int .i64 0, .int .i64 0, .int .i64 0, .int .i64 0, .int .i64 0, .int .i64 0, .int .i64 0, .slice none 0 0, .slice none 0 0, .slice none 0 0] [.int .i64 0, .int .i64 0, .int .i64 0, .string ⟨#[]⟩, .string ⟨#[]⟩, .int .i64 0, .int .i64 0, .int .i64 0, .int .i64 0, .int .i64 0, .int .i64 0, .int .i64 0, .int .i64 0, .int .i64 0, .slice none 0 0, .slice none 0 0, .slice none 0 0]
  have HP0 := Lib.hid hp; clear hp hF
  go_enter Tryz.func78, Tryz.ntmps78
  go_wp2_with fail
  refine (K0.out _ _ _ S0.rd HP0.out).mono ?_
  rintro en w0_ ⟨t0, pp0, rfl, hblk, hgt, hF, hp, hk⟩
  have HP1 := Lib.hid hp; clear hp
  have TB0 : TB w w0_ t0 [v0, v1, v2] := ⟨hblk, Nat.le_trans S0.size hgt⟩
  clear hblk hgt
  have S := S0.call hF hk
  clear hF hk K0 HP0 S0
  have S1 := S; clear S
  have HB0 := Lib.hid S1.box
  have d0 := TB0.cell 0 v0 rfl
  obtain ⟨x0_0, hx⟩ : ∃ u, World.setRow w0_ (w.heap.size + 1) ([(.int .i64 v0), (.int .i64 0), (.int .i64 0), (.string ⟨#[]⟩), (.string ⟨#[]⟩), (.int .i64 0), (.int .i64 0), (.int .i64 0), (.int .i64 0), (.int .i64 0), (.int .i64 0), (.int .i64 0), (.int .i64 0), (.int .i64 0), (.slice none 0 0), (.slice none 0 0), (.slice none 0 0)] : List Value).toArray = u := ⟨_, rfl⟩
  have S2 := S1.set [(.int .i64 v0), (.int .i64 0), (.int .i64 0), (.string ⟨#[]⟩), (.string ⟨#[]⟩), (.int .i64 0), (.int .i64 0), (.int .i64 0), (.int .i64 0), (.int .i64 0), (.int .i64 0), (.int .i64 0), (.int .i64 0), (.int .i64 0), (.slice none 0 0), (.slice none 0 0), (.slice none 0 0)]
  replace TB0 := TB0.set ([(.int .i64 v0), (.int .i64 0), (.int .i64 0), (.string ⟨#[]⟩), (.string ⟨#[]⟩), (.int .i64 0), (.int .i64 0), (.int .i64 0), (.int .i64 0), (.int .i64 0), (.int .i64 0), (.int .i64 0), (.int .i64 0), (.int .i64 0), (.slice none 0 0), (.slice none 0 0), (.slice none 0 0)] : List Value).toArray
  rw [hx] at S2 TB0
  have HX0 := Lib.hid hx; clear hx
  clear S1
  have HB1 := Lib.hid S2.box
  have d1 := TB0.cell 1 v1 rfl
  obtain ⟨x0_1, hx⟩ : ∃ u, World.setRow x0_0 (w.heap.size + 1) ([(.int .i64 v0), (.int .i64 v1), (.int .i64 0), (.string ⟨#[]⟩), (.string ⟨#[]⟩), (.int .i64 0), (.int .i64 0), (.int .i64 0), (.int .i64 0), (.int .i64 0), (.int .i64 0), (.int .i64 0), (.int .i64 0), (.int .i64 0), (.slice none 0 0), (.slice none 0 0), (.slice none 0 0)] : List Value).toArray = u := ⟨_, rfl⟩
  have S3 := S2.set [(.int .i64 v0), (.int .i64 v1), (.int .i64 0), (.string ⟨#[]⟩), (.string ⟨#[]⟩), (.int .i64 0), (.int .i64 0), (.int .i64 0), (.int .i64 0), (.int .i64 0), (.int .i64 0), (.int .i64 0), (.int .i64 0), (.int .i64 0), (.slice none 0 0), (.slice none 0 0), (.slice none 0 0)]
  replace TB0 := TB0.set ([(.int .i64 v0), (.int .i64 v1), (.int .i64 0), (.string ⟨#[]⟩), (.string ⟨#[]⟩), (.int .i64 0), (.int .i64 0), (.int .i64 0), (.int .i64 0), (.int .i64 0), (.int .i64 0), (.int .i64 0), (.int .i64 0), (.int .i64 0), (.slice none 0 0), (.slice none 0 0), (.slice none 0 0)] : List Value).toArray
  rw [hx] at S3 TB0
  have HX1 := Lib.hid hx; clear hx
  clear S2
  have HB2 := Lib.hid S3.box
  have d2 := TB0.cell 2 v2 rfl
  obtain ⟨x0_2, hx⟩ : ∃ u, World.setRow x0_1 (w.heap.size + 1) ([(.int .i64 v0), (.int .i64 v1), (.int .i64 v2), (.string ⟨#[]⟩), (.string ⟨#[]⟩), (.int .i64 0), (.int .i64 0), (.int .i64 0), (.int .i64 0), (.int .i64 0), (.int .i64 0), (.int .i64 0), (.int .i64 0), (.int .i64 0), (.slice none 0 0), (.slice none 0 0), (.slice none 0 0)] : List Value).toArray = u := ⟨_, rfl⟩
  have S4 := S3.set [(.int .i64 v0), (.int .i64 v1), (.int .i64 v2), (.string ⟨#[]⟩), (.string ⟨#[]⟩), (.int .i64 0), (.int .i64 0), (.int .i64 0), (.int .i64 0), (.int .i64 0), (.int .i64 0), (.int .i64 0), (.int .i64 0), (.int .i64 0), (.slice none 0 0), (.slice none 0 0), (.slice none 0 0)]
  replace TB0 := TB0.set ([(.int .i64 v0), (.int .i64 v1), (.int .i64 v2), (.string ⟨#[]⟩), (.string ⟨#[]⟩), (.int .i64 0), (.int .i64 0), (.int .i64 0), (.int .i64 0), (.int .i64 0), (.int .i64 0), (.int .i64 0), (.int .i64 0), (.int .i64 0), (.slice none 0 0), (.slice none 0 0), (.slice none 0 0)] : List Value).toArray
  rw [hx] at S4 TB0
  have HX2 := Lib.hid hx; clear hx
  clear S3
  go_wp2_with (first | (refine wpList_store_to rfl 3 (.tmp 11) (.tmp 10) rfl (w.heap.size + 1) 0 (.int .i64 v0) rfl rfl rfl [(.int .i64 0), (.int .i64 0), (.int .i64 0), (.string ⟨#[]⟩), (.string ⟨#[]⟩), (.int .i64 0), (.int .i64 0), (.int .i64 0), (.int .i64 0), (.int .i64 0), (.int .i64 0), (.int .i64 0), (.int .i64 0), (.int .i64 0), (.slice none 0 0), (.slice none 0 0), (.slice none 0 0)] 78 HB0.out (by show 0 < 17; decide) HS_int.out [(.int .i64 v0), (.int .i64 0), (.int .i64 0), (.string ⟨#[]⟩), (.string ⟨#[]⟩), (.int .i64 0), (.int .i64 0), (.int .i64 0), (.int .i64 0), (.int .i64 0), (.int .i64 0), (.int .i64 0), (.int .i64 0), (.int .i64 0), (.slice none 0 0), (.slice none 0 0), (.slice none 0 0)] rfl x0_0 HX0.out ?_) | (refine wpList_store_to rfl 3 (.tmp 15) (.tmp 14) rfl (w.heap.size + 1) 1 (.int .i64 v1) rfl rfl rfl [(.int .i64 v0), (.int .i64 0), (.int .i64 0), (.string ⟨#[]⟩), (.string ⟨#[]⟩), (.int .i64 0), (.int .i64 0), (.int .i64 0), (.int .i64 0), (.int .i64 0), (.int .i64 0), (.int .i64 0), (.int .i64 0), (.int .i64 0), (.slice none 0 0), (.slice none 0 0), (.slice none 0 0)] 78 HB1.out (by show 1 < 17; decide) HS_int.out [(.int .i64 v0), (.int .i64 v1), (.int .i64 0), (.string ⟨#[]⟩), (.string ⟨#[]⟩), (.int .i64 0), (.int .i64 0), (.int .i64 0), (.int .i64 0), (.int .i64 0), (.int .i64 0), (.int .i64 0), (.int .i64 0), (.int .i64 0), (.slice none 0 0), (.slice none 0 0), (.slice none 0 0)] rfl x0_1 HX1.out ?_) | (refine wpList_store_to rfl 33 (.tmp 19) (.tmp 18) rfl (w.heap.size + 1) 2 (.int .i64 v2) rfl rfl rfl [(.int .i64 v0), (.int .i64 v1), (.int .i64 0), (.string ⟨#[]⟩), (.string ⟨#[]⟩), (.int .i64 0), (.int .i64 0), (.int .i64 0), (.int .i64 0), (.int .i64 0), (.int .i64 0), (.int .i64 0), (.int .i64 0), (.int .i64 0), (.slice none 0 0), (.slice none 0 0), (.slice none 0 0)] 78 HB2.out (by show 2 < 17; decide) HS_errno.out [(.int .i64 v0), (.int .i64 v1), (.int .i64 v2), (.string ⟨#[]⟩), (.string ⟨#[]⟩), (.int .i64 0), (.int .i64 0), (.int .i64 0), (.int .i64 0), (.int .i64 0), (.int .i64 0), (.int .i64 0), (.int .i64 0), (.int .i64 0), (.slice none 0 0), (.slice none 0 0), (.slice none 0 0)] rfl x0_2 HX2.out ?_))
  clear TB0 d0 d1 d2
  refine (K1.out _ _ _ S4.rd HP1.out).mono ?_
  rintro en w1_ ⟨pp1, rfl, hF, hp, hk⟩
  have HP2 := Lib.hid hp; clear hp
  have S := S4.call hF hk
  clear hF hk K1 HP1 S4
  have S5 := S; clear S
  have HB0 := Lib.hid S5.box
  obtain ⟨x1_0, hx⟩ : ∃ u, World.setRow w1_ (w.heap.size + 1) ([(.int .i64 v0), (.int .i64 v1), (.int .i64 v2), (.string v3), (.string ⟨#[]⟩), (.int .i64 0), (.int .i64 0), (.int .i64 0), (.int .i64 0), (.int .i64 0), (.int .i64 0), (.int .i64 0), (.int .i64 0), (.int .i64 0), (.slice none 0 0), (.slice none 0 0), (.slice none 0 0)] : List Value).toArray = u := ⟨_, rfl⟩
  have S6 := S5.set [(.int .i64 v0), (.int .i64 v1), (.int .i64 v2), (.string v3), (.string ⟨#[]⟩), (.int .i64 0), (.int .i64 0), (.int .i64 0), (.int .i64 0), (.int .i64 0), (.int .i64 0), (.int .i64 0), (.int .i64 0), (.int .i64 0), (.slice none 0 0), (.slice none 0 0), (.slice none 0 0)]
  rw [hx] at S6
  have HX0 := Lib.hid hx; clear hx
  clear S5
  go_wp2_with (refine wpList_store_to rfl 9 (.tmp 22) (.tmp 21) rfl (w.heap.size + 1) 3 (.string v3) rfl rfl rfl [(.int .i64 v0), (.int .i64 v1), (.int .i64 v2), (.string ⟨#[]⟩), (.string ⟨#[]⟩), (.int .i64 0), (.int .i64 0), (.int .i64 0), (.int .i64 0), (.int .i64 0), (.int .i64 0), (.int .i64 0), (.int .i64 0), (.int .i64 0), (.slice none 0 0), (.slice none 0 0), (.slice none 0 0)] 78 HB0.out (by show 3 < 17; decide) HS_string.out [(.int .i64 v0), (.int .i64 v1), (.int .i64 v2), (.string v3), (.string ⟨#[]⟩), (.int .i64 0), (.int .i64 0), (.int .i64 0), (.int .i64 0), (.int .i64 0), (.int .i64 0), (.int .i64 0), (.int .i64 0), (.int .i64 0), (.slice none 0 0), (.slice none 0 0), (.slice none 0 0)] rfl x1_0 HX0.out ?_)
  refine (K2.out _ _ _ S6.rd HP2.out).mono ?_
  rintro en w2_ ⟨pp2, rfl, hF, hp, hk⟩
  have HP3 := Lib.hid hp; clear hp
  have S := S6.call hF hk
  clear hF hk K2 HP2 S6
  have S7 := S; clear S
  have HB0 := Lib.hid S7.box
  obtain ⟨x2_0, hx⟩ : ∃ u, World.setRow w2_ (w.heap.size + 1) ([(.int .i64 v0), (.int .i64 v1), (.int .i64 v2), (.string v3), (.string v4), (.int .i64 0), (.int .i64 0), (.int .i64 0), (.int .i64 0), (.int .i64 0), (.int .i64 0), (.int .i64 0), (.int .i64 0), (.int .i64 0), (.slice none 0 0), (.slice none 0 0), (.slice none 0 0)] : List Value).toArray = u := ⟨_, rfl⟩
  have S8 := S7.set [(.int .i64 v0), (.int .i64 v1), (.int .i64 v2), (.string v3), (.string v4), (.int .i64 0), (.int .i64 0), (.int .i64 0), (.int .i64 0), (.int .i64 0), (.int .i64 0), (.int .i64 0), (.int .i64 0), (.int .i64 0), (.slice none 0 0), (.slice none 0 0), (.slice none 0 0)]
  rw [hx] at S8
  have HX0 := Lib.hid hx; clear hx
  clear S7
  go_wp2_with (refine wpList_store_to rfl 9 (.tmp 25) (.tmp 24) rfl (w.heap.size + 1) 4 (.string v4) rfl rfl rfl [(.int .i64 v0), (.int .i64 v1), (.int .i64 v2), (.string v3), (.string ⟨#[]⟩), (.int .i64 0), (.int .i64 0), (.int .i64 0), (.int .i64 0), (.int .i64 0), (.int .i64 0), (.int .i64 0), (.int .i64 0), (.int .i64 0), (.slice none 0 0), (.slice none 0 0), (.slice none 0 0)] 78 HB0.out (by show 4 < 17; decide) HS_string.out [(.int .i64 v0), (.int .i64 v1), (.int .i64 v2), (.string v3), (.string v4), (.int .i64 0), (.int .i64 0), (.int .i64 0), (.int .i64 0), (.int .i64 0), (.int .i64 0), (.int .i64 0), (.int .i64 0), (.int .i64 0), (.slice none 0 0), (.slice none 0 0), (.slice none 0 0)] rfl x2_0 HX0.out ?_)
  refine (K3.out _ _ _ S8.rd HP3.out).mono ?_
  rintro en w3_ ⟨t3, pp3, rfl, hblk, hgt, hF, hp, hk⟩
  have HP4 := Lib.hid hp; clear hp
  have TB3 : TB w w3_ t3 [v5, v6, v7, v8, v9, v10, v11, v12, v13] := ⟨hblk, Nat.le_trans S8.size hgt⟩
  clear hblk hgt
  have S := S8.call hF hk
  clear hF hk K3 HP3 S8
  have S9 := S; clear S
  have d0 := TB3.cell 0 v5 rfl
  have d1 := TB3.cell 1 v6 rfl
  have d2 := TB3.cell 2 v7 rfl
  have d3 := TB3.cell 3 v8 rfl
  have d4 := TB3.cell 4 v9 rfl
  have d5 := TB3.cell 5 v10 rfl
  have d6 := TB3.cell 6 v11 rfl
  have d7 := TB3.cell 7 v12 rfl
  have d8 := TB3.cell 8 v13 rfl
  clear TB3
  have HSS := Lib.hid S9; clear S9
  go_upto_region 9 with fail
  go_still_tail 29, (by kernel_rfl)
  change wpList _ _ _ _ _ w3_.drew
  have SY : FB w b s 78 [.int .i64 0, .int .i64 0, .int .i64 0, .string ⟨#[]⟩, .string ⟨#[]⟩, .int .i64 0, .int .i64 0, .int .i64 0, .int .i64 0, .int .i64 0, .int .i64 0, .int .i64 0, .int .i64 0, .int .i64 0, .slice none 0 0, .slice none 0 0, .slice none 0 0] w3_.drew [(.int .i64 v0), (.int .i64 v1), (.int .i64 v2), (.string v3), (.string v4), (.int .i64 0), (.int .i64 0), (.int .i64 0), (.int .i64 0), (.int .i64 0), (.int .i64 0), (.int .i64 0), (.int .i64 0), (.int .i64 0), (.slice none 0 0), (.slice none 0 0), (.slice none 0 0)] _ _ := HSS.out.call (HSS.out.rd.drewN 1) ((Kept.refl _ _).drewN 1)
  clear HSS d0 d1 d2 d3 d4 d5 d6 d7 d8
  generalize w3_.drew = wy at SY ⊢
  obtain ⟨xs_, hx⟩ : ∃ u, World.setCells wy (w.heap.size + 1) 5 [.int .i64 v5, .int .i64 v6, .int .i64 v7, .int .i64 v8, .int .i64 v9, .int .i64 v10, .int .i64 v11, .int .i64 v12, .int .i64 v13] = u := ⟨_, rfl⟩
  have S10 : FB w b s 78 [.int .i64 0, .int .i64 0, .int .i64 0, .string ⟨#[]⟩, .string ⟨#[]⟩, .int .i64 0, .int .i64 0, .int .i64 0, .int .i64 0, .int .i64 0, .int .i64 0, .int .i64 0, .int .i64 0, .int .i64 0, .slice none 0 0, .slice none 0 0, .slice none 0 0] xs_ [(.int .i64 v0), (.int .i64 v1), (.int .i64 v2), (.string v3), (.string v4), (.int .i64 v5), (.int .i64 v6), (.int .i64 v7), (.int .i64 v8), (.int .i64 v9), (.int .i64 v10), (.int .i64 v11), (.int .i64 v12), (.int .i64 v13), (.slice none 0 0), (.slice none 0 0), (.slice none 0 0)] _ _ := SY.put (by rw [← hx]; exact setCells_kept _ _ _ _) (by rw [← hx]; exact setCells_row (c := [(.int .i64 v0), (.int .i64 v1), (.int .i64 v2), (.string v3), (.string v4), (.int .i64 0), (.int .i64 0), (.int .i64 0), (.int .i64 0), (.int .i64 0), (.int .i64 0), (.int .i64 0), (.int .i64 0), (.int .i64 0), (.slice none 0 0), (.slice none 0 0), (.slice none 0 0)]) _ _ SY.box)
  have HTH := Lib.hid (there_row (i := 5) (n := 9) SY.box (by show 14 ≤ 17; decide))
  have HX0 := Lib.hid hx; clear hx SY
  have HONE := Lib.hid (show ∀ v ∈ ([.int .i64 v5, .int .i64 v6, .int .i64 v7, .int .i64 v8, .int .i64 v9, .int .i64 v10, .int .i64 v11, .int .i64 v12, .int .i64 v13] : List Value), v.oneCell' = true by simp [Value.oneCell'])
  go_wp2_with (refine wpList_store_over rfl 75 (.tmp 56) (.tmp 55) rfl (w.heap.size + 1) 5 [.int .i64 v5, .int .i64 v6, .int .i64 v7, .int .i64 v8, .int .i64 v9, .int .i64 v10, .int .i64 v11, .int .i64 v12, .int .i64 v13] 9 rfl rfl HTH.out rfl HS_stat.out HONE.out xs_ HX0.out ?_)
  refine (K4.out _ _ _ S10.rd HP4.out).mono ?_
  rintro en w4_ ⟨sv, pp4, rfl, hsl, hls, hF, hp, hk⟩
  have HP5 := Lib.hid hp; clear hp
  have LL : LB aclE w w4_ 2 sv v14 e14 := LB.mk' aclE_ok S10 hsl hls
  obtain ⟨sa, sn, sc, rfl⟩ := hsl
  clear hls
  have S := S10.call hF hk
  clear hF hk K4 HP4 S10
  have S11 := S; clear S
  have HB0 := Lib.hid S11.box
  obtain ⟨x4_0, hx⟩ : ∃ u, World.setRow w4_ (w.heap.size + 1) ([(.int .i64 v0), (.int .i64 v1), (.int .i64 v2), (.string v3), (.string v4), (.int .i64 v5), (.int .i64 v6), (.int .i64 v7), (.int .i64 v8), (.int .i64 v9), (.int .i64 v10), (.int .i64 v11), (.int .i64 v12), (.int .i64 v13), (.slice sa sn sc), (.slice none 0 0), (.slice none 0 0)] : List Value).toArray = u := ⟨_, rfl⟩
  have S12 := S11.set [(.int .i64 v0), (.int .i64 v1), (.int .i64 v2), (.string v3), (.string v4), (.int .i64 v5), (.int .i64 v6), (.int .i64 v7), (.int .i64 v8), (.int .i64 v9), (.int .i64 v10), (.int .i64 v11), (.int .i64 v12), (.int .i64 v13), (.slice sa sn sc), (.slice none 0 0), (.slice none 0 0)]
  replace LL := LL.set aclE_ok ([(.int .i64 v0), (.int .i64 v1), (.int .i64 v2), (.string v3), (.string v4), (.int .i64 v5), (.int .i64 v6), (.int .i64 v7), (.int .i64 v8), (.int .i64 v9), (.int .i64 v10), (.int .i64 v11), (.int .i64 v12), (.int .i64 v13), (.slice sa sn sc), (.slice none 0 0), (.slice none 0 0)] : List Value).toArray
  rw [hx] at S12 LL
  have HX0 := Lib.hid hx; clear hx
  clear S11
  go_wp2_with (refine wpList_store_to rfl 24 (.tmp 59) (.tmp 58) rfl (w.heap.size + 1) 14 (.slice sa sn sc) rfl rfl rfl [(.int .i64 v0), (.int .i64 v1), (.int .i64 v2), (.string v3), (.string v4), (.int .i64 v5), (.int .i64 v6), (.int .i64 v7), (.int .i64 v8), (.int .i64 v9), (.int .i64 v10), (.int .i64 v11), (.int .i64 v12), (.int .i64 v13), (.slice none 0 0), (.slice none 0 0), (.slice none 0 0)] 78 HB0.out (by show 14 < 17; decide) HS_acls.out [(.int .i64 v0), (.int .i64 v1), (.int .i64 v2), (.string v3), (.string v4), (.int .i64 v5), (.int .i64 v6), (.int .i64 v7), (.int .i64 v8), (.int .i64 v9), (.int .i64 v10), (.int .i64 v11), (.int .i64 v12), (.int .i64 v13), (.slice sa sn sc), (.slice none 0 0), (.slice none 0 0)] rfl x4_0 HX0.out ?_)
  refine (K5.out _ _ _ S12.rd HP5.out).mono ?_
  rintro en w5_ ⟨sv, pp5, rfl, hsl, hls, hF, hp, hk⟩
  have HP6 := Lib.hid hp; clear hp
  replace LL := LL.call aclE_ok S12.old hk
  have LT : LB textE w w5_ 1 sv v15 e15 := LB.mk' textE_ok S12 hsl hls
  obtain ⟨ta, tn, tc, rfl⟩ := hsl
  clear hls
  have S := S12.call hF hk
  clear hF hk K5 HP5 S12
  have S13 := S; clear S
  have HB0 := Lib.hid S13.box
  obtain ⟨x5_0, hx⟩ : ∃ u, World.setRow w5_ (w.heap.size + 1) ([(.int .i64 v0), (.int .i64 v1), (.int .i64 v2), (.string v3), (.string v4), (.int .i64 v5), (.int .i64 v6), (.int .i64 v7), (.int .i64 v8), (.int .i64 v9), (.int .i64 v10), (.int .i64 v11), (.int .i64 v12), (.int .i64 v13), (.slice sa sn sc), (.slice ta tn tc), (.slice none 0 0)] : List Value).toArray = u := ⟨_, rfl⟩
  have S14 := S13.set [(.int .i64 v0), (.int .i64 v1), (.int .i64 v2), (.string v3), (.string v4), (.int .i64 v5), (.int .i64 v6), (.int .i64 v7), (.int .i64 v8), (.int .i64 v9), (.int .i64 v10), (.int .i64 v11), (.int .i64 v12), (.int .i64 v13), (.slice sa sn sc), (.slice ta tn tc), (.slice none 0 0)]
  replace LL := LL.set aclE_ok ([(.int .i64 v0), (.int .i64 v1), (.int .i64 v2), (.string v3), (.string v4), (.int .i64 v5), (.int .i64 v6), (.int .i64 v7), (.int .i64 v8), (.int .i64 v9), (.int .i64 v10), (.int .i64 v11), (.int .i64 v12), (.int .i64 v13), (.slice sa sn sc), (.slice ta tn tc), (.slice none 0 0)] : List Value).toArray
  replace LT := LT.set textE_ok ([(.int .i64 v0), (.int .i64 v1), (.int .i64 v2), (.string v3), (.string v4), (.int .i64 v5), (.int .i64 v6), (.int .i64 v7), (.int .i64 v8), (.int .i64 v9), (.int .i64 v10), (.int .i64 v11), (.int .i64 v12), (.int .i64 v13), (.slice sa sn sc), (.slice ta tn tc), (.slice none 0 0)] : List Value).toArray
  rw [hx] at S14 LL LT
  have HX0 := Lib.hid hx; clear hx
  clear S13
  have HRG := Lib.hid (range_row S14.box)
  have HRES := Lib.hid S14.res
  have HSF := Lib.hid S14; clear S14
  have HLL := Lib.hid LL; clear LL
  have HLT := Lib.hid LT; clear LT
  go_wp2_with (first | (refine wpList_store_to rfl 29 (.tmp 62) (.tmp 61) rfl (w.heap.size + 1) 15 (.slice ta tn tc) rfl rfl rfl [(.int .i64 v0), (.int .i64 v1), (.int .i64 v2), (.string v3), (.string v4), (.int .i64 v5), (.int .i64 v6), (.int .i64 v7), (.int .i64 v8), (.int .i64 v9), (.int .i64 v10), (.int .i64 v11), (.int .i64 v12), (.int .i64 v13), (.slice sa sn sc), (.slice none 0 0), (.slice none 0 0)] 78 HB0.out (by show 15 < 17; decide) HS_texts.out [(.int .i64 v0), (.int .i64 v1), (.int .i64 v2), (.string v3), (.string v4), (.int .i64 v5), (.int .i64 v6), (.int .i64 v7), (.int .i64 v8), (.int .i64 v9), (.int .i64 v10), (.int .i64 v11), (.int .i64 v12), (.int .i64 v13), (.slice sa sn sc), (.slice ta tn tc), (.slice none 0 0)] rfl x5_0 HX0.out ?_) | (refine wpList_load_mid rfl 78 (.tmp 3) rfl (w.heap.size + 1) 0 rfl [(.int .i64 v0), (.int .i64 v1), (.int .i64 v2), (.string v3), (.string v4), (.int .i64 v5), (.int .i64 v6), (.int .i64 v7), (.int .i64 v8), (.int .i64 v9), (.int .i64 v10), (.int .i64 v11), (.int .i64 v12), (.int .i64 v13), (.slice sa sn sc), (.slice ta tn tc), (.slice none 0 0)] _ HRG.out Tryz.underlying78 rfl HSZ.out ?_) | (refine wpList_store_row _ rfl 78 (.tmp 2) (.tmp 63) rfl w.heap.size _ [(.int .i64 v0), (.int .i64 v1), (.int .i64 v2), (.string v3), (.string v4), (.int .i64 v5), (.int .i64 v6), (.int .i64 v7), (.int .i64 v8), (.int .i64 v9), (.int .i64 v10), (.int .i64 v11), (.int .i64 v12), (.int .i64 v13), (.slice sa sn sc), (.slice ta tn tc), (.slice none 0 0)] rfl rfl HRES.out HSZ.out rfl (by simp [Value.oneCell']) ?_))
  have hrow := setRow_heap _ w.heap.size _ ([(.int .i64 v0), (.int .i64 v1), (.int .i64 v2), (.string v3), (.string v4), (.int .i64 v5), (.int .i64 v6), (.int .i64 v7), (.int .i64 v8), (.int .i64 v9), (.int .i64 v10), (.int .i64 v11), (.int .i64 v12), (.int .i64 v13), (.slice sa sn sc), (.slice ta tn tc), (.slice none 0 0)] : List Value).toArray _ _ HRES.out
  have hload := run_loadVar_row (P := Tryz.prog) _ w.heap.size 78 78 _ (0, 0) _ hrow Tryz.underlying78 rfl HSZ.out
  have hb := HSF.out.old
  exact ret_cell 2 78 w.heap.size _ Tryz.results78 rfl hload rfl ⟨[(.int .i64 v0), (.int .i64 v1), (.int .i64 v2), (.string v3), (.string v4), (.int .i64 v5), (.int .i64 v6), (.int .i64 v7), (.int .i64 v8), (.int .i64 v9), (.int .i64 v10), (.int .i64 v11), (.int .i64 v12), (.int .i64 v13), (.slice sa sn sc), (.slice ta tn tc), (.slice none 0 0)], _, rfl, ⟨rfl, by simp [Value.oneCell']⟩, by simp, fun h0 => ⟨.slice none 0 0, .slice sa sn sc, .slice ta tn tc, rfl, HLL.out.fin aclE_ok _ (HZ.out h0), HLT.out.fin textE_ok _ h0, i0, i1, i2, i3, i4, i5, i6, i7, i8, i9, i10, i11, i12, i13, ⟨_, _, _, rfl⟩⟩, HSF.out.rd.keep (setRow_kept _ _ _) (fun hs => by omega), HP6.out, Kept.trans' HSF.out.kept (setRow_kept _ _ _) (fun k hk hs => by omega)⟩
end Go.Proofs.YtpmemcpfoapjmaaGreat
