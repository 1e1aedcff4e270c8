/- The document's own answers of layer 2: op, taken up. Ops and armed, taken up. -/
import Derived.Test.YtpmemcpfoapjmaaGreatV10
import Derived.Outline
import Derived.Test.YtpmemcpfoapjmaaGreatV04
namespace Go.Proofs.YtpmemcpfoapjmaaGreat
open Go.ChangeShapes Go.WideShapes Go.ChangeAt Go.RowKit
set_option linter.unusedVariables false

set_option maxRecDepth 100000 in
set_option maxHeartbeats 1600000 in
theorem reftake_op (w : World) (b : Nat) (s : ByteArray) (p pos e : Nat) (hF : FAt w b s p e) (hp : e = 0 → p = pos) {x : Oper1} {q e' : Nat} (h : oper1F.get s.data.toList pos e = (x, q, e')) :
    Calls Tryz.prog 107 #[.pointer (some ⟨b, 0, none⟩)] w (FGPost oper1E 10 [8, 9] w b s x q e') := by
  have HSZ := Lib.hid (show (Tryz.prog.info? 28).map (·.size) = some 10 by kernel_rfl)
  have HS_int := Lib.hid (show (Tryz.prog.info? 3).map (·.size) = some 1 by kernel_rfl)
  have HS_string := Lib.hid (show (Tryz.prog.info? 9).map (·.size) = some 1 by kernel_rfl)
  have HS_acls := Lib.hid (show (Tryz.prog.info? 24).map (·.size) = some 1 by kernel_rfl)
  have HS_bool := Lib.hid (show (Tryz.prog.info? 4).map (·.size) = some 1 by kernel_rfl)
  obtain ⟨v0, q0, e0, g0⟩ : ∃ aa qq ee, numF.get s.data.toList pos e = (aa, qq, ee) := ⟨_, _, _, eta3 _⟩
  obtain ⟨v1, q1, e1, g1⟩ : ∃ aa qq ee, numF.get s.data.toList q0 e0 = (aa, qq, ee) := ⟨_, _, _, eta3 _⟩
  obtain ⟨v2, q2, e2, g2⟩ : ∃ aa qq ee, (textF 4096).get s.data.toList q1 e1 = (aa, qq, ee) := ⟨_, _, _, eta3 _⟩
  obtain ⟨v3, q3, e3, g3⟩ : ∃ aa qq ee, (textF 4096).get s.data.toList q2 e2 = (aa, qq, ee) := ⟨_, _, _, eta3 _⟩
  obtain ⟨v4, q4, e4, g4⟩ : ∃ aa qq ee, (listF aclF).get s.data.toList q3 e3 = (aa, qq, ee) := ⟨_, _, _, eta3 _⟩
  obtain ⟨v5, q5, e5, g5⟩ : ∃ aa qq ee, numF.get s.data.toList q4 e4 = (aa, qq, ee) := ⟨_, _, _, eta3 _⟩
  obtain ⟨v6, q6, e6, g6⟩ : ∃ aa qq ee, numF.get s.data.toList q5 e5 = (aa, qq, ee) := ⟨_, _, _, eta3 _⟩
  obtain ⟨v7, q7, e7, g7⟩ : ∃ aa qq ee, flagF.get s.data.toList q6 e6 = (aa, qq, ee) := ⟨_, _, _, eta3 _⟩
  have hget : oper1F.get s.data.toList pos e = (⟨v0, v1, v2, v3, v4, v5, v6, v7⟩, q7, e7) := by simp only [oper1F, isoF, seqF, g0, g1, g2, g3, g4, g5, g6, g7]
  rw [hget] at h
  simp only [Prod.mk.injEq] at h
  obtain ⟨rfl, rfl, rfl⟩ := h
  have i0 : I64 v0 := num_fit g0
  have i1 : I64 v1 := num_fit g1
  have i2 : Str v2 := text_fit (by decide) g2
  have i3 : Str v3 := text_fit (by decide) g3
  have i5 : I64 v5 := num_fit g5
  have i6 : I64 v6 := num_fit g6
  have HZ := Lib.hid (show e7 = 0 → e4 = 0 from fun h0 => (back0 numF_ok g5 (back0 numF_ok g6 (back0 flagF_ok g7 h0))))
  have hn0 : numsN 2 s.data.toList pos e = ([v0, v1], q1, e1) := by simp only [numsN, getN, g0, g1]
  have K0 := Lib.hid (ftake_of (by decide) hn0)
  clear hn0
  have K1 := Lib.hid (ftext_of (by decide) g2)
  have K2 := Lib.hid (ftext_of (by decide) g3)
  have K3 := Lib.hid (facls_of g4)
  have hn4 : numsN 2 s.data.toList q4 e4 = ([v5, v6], q6, e6) := by simp only [numsN, getN, g5, g6]
  have K4 := Lib.hid (ftake_of (by decide) hn4)
  clear hn4
  have K5 := Lib.hid (fflag_of g7)
  clear hget g0 g1 g2 g3 g4 g5 g6 g7
  have S0 := FB.start hF 28 [.int .i64 0, .int .i64 0, .string ⟨#[]⟩, .string ⟨#[]⟩, .slice none 0 0, .int .i64 0, .int .i64 0, .bool false, .slice none 0 0, .slice none 0 0] [.int .i64 0, .int .i64 0, .string ⟨#[]⟩, .string ⟨#[]⟩, .slice none 0 0, .int .i64 0, .int .i64 0, .bool false, .slice none 0 0, .slice none 0 0]
  have HP0 := Lib.hid hp; clear hp hF
  go_enter Tryz.func107, Tryz.ntmps107
  go_wp2_with fail
  refine (K0.out _ _ _ S0.rd HP0.out).mono ?_
  rintro en w0_ ⟨t0, pp0, rfl, hblk, hgt, hF, hp, hk⟩
  have HP1 := Lib.hid hp; clear hp
  have TB0 : TB w w0_ t0 [v0, v1] := ⟨hblk, Nat.le_trans S0.size hgt⟩
  clear hblk hgt
  have S := S0.call hF hk
  clear hF hk K0 HP0 S0
  have S1 := S; clear S
  have HB0 := Lib.hid S1.box
  have d0 := TB0.cell 0 v0 rfl
  obtain ⟨x0_0, hx⟩ : ∃ u, World.setRow w0_ (w.heap.size + 1) ([(.int .i64 v0), (.int .i64 0), (.string ⟨#[]⟩), (.string ⟨#[]⟩), (.slice none 0 0), (.int .i64 0), (.int .i64 0), (.bool false), (.slice none 0 0), (.slice none 0 0)] : List Value).toArray = u := ⟨_, rfl⟩
  have S2 := S1.set [(.int .i64 v0), (.int .i64 0), (.string ⟨#[]⟩), (.string ⟨#[]⟩), (.slice none 0 0), (.int .i64 0), (.int .i64 0), (.bool false), (.slice none 0 0), (.slice none 0 0)]
  replace TB0 := TB0.set ([(.int .i64 v0), (.int .i64 0), (.string ⟨#[]⟩), (.string ⟨#[]⟩), (.slice none 0 0), (.int .i64 0), (.int .i64 0), (.bool false), (.slice none 0 0), (.slice none 0 0)] : List Value).toArray
  rw [hx] at S2 TB0
  have HX0 := Lib.hid hx; clear hx
  clear S1
  have HB1 := Lib.hid S2.box
  have d1 := TB0.cell 1 v1 rfl
  obtain ⟨x0_1, hx⟩ : ∃ u, World.setRow x0_0 (w.heap.size + 1) ([(.int .i64 v0), (.int .i64 v1), (.string ⟨#[]⟩), (.string ⟨#[]⟩), (.slice none 0 0), (.int .i64 0), (.int .i64 0), (.bool false), (.slice none 0 0), (.slice none 0 0)] : List Value).toArray = u := ⟨_, rfl⟩
  have S3 := S2.set [(.int .i64 v0), (.int .i64 v1), (.string ⟨#[]⟩), (.string ⟨#[]⟩), (.slice none 0 0), (.int .i64 0), (.int .i64 0), (.bool false), (.slice none 0 0), (.slice none 0 0)]
  replace TB0 := TB0.set ([(.int .i64 v0), (.int .i64 v1), (.string ⟨#[]⟩), (.string ⟨#[]⟩), (.slice none 0 0), (.int .i64 0), (.int .i64 0), (.bool false), (.slice none 0 0), (.slice none 0 0)] : List Value).toArray
  rw [hx] at S3 TB0
  have HX1 := Lib.hid hx; clear hx
  clear S2
  go_wp2_with (first | (refine wpList_store_to rfl 3 (.tmp 11) (.tmp 10) rfl (w.heap.size + 1) 0 (.int .i64 v0) rfl rfl rfl [(.int .i64 0), (.int .i64 0), (.string ⟨#[]⟩), (.string ⟨#[]⟩), (.slice none 0 0), (.int .i64 0), (.int .i64 0), (.bool false), (.slice none 0 0), (.slice none 0 0)] 28 HB0.out (by show 0 < 10; decide) HS_int.out [(.int .i64 v0), (.int .i64 0), (.string ⟨#[]⟩), (.string ⟨#[]⟩), (.slice none 0 0), (.int .i64 0), (.int .i64 0), (.bool false), (.slice none 0 0), (.slice none 0 0)] rfl x0_0 HX0.out ?_) | (refine wpList_store_to rfl 3 (.tmp 15) (.tmp 14) rfl (w.heap.size + 1) 1 (.int .i64 v1) rfl rfl rfl [(.int .i64 v0), (.int .i64 0), (.string ⟨#[]⟩), (.string ⟨#[]⟩), (.slice none 0 0), (.int .i64 0), (.int .i64 0), (.bool false), (.slice none 0 0), (.slice none 0 0)] 28 HB1.out (by show 1 < 10; decide) HS_int.out [(.int .i64 v0), (.int .i64 v1), (.string ⟨#[]⟩), (.string ⟨#[]⟩), (.slice none 0 0), (.int .i64 0), (.int .i64 0), (.bool false), (.slice none 0 0), (.slice none 0 0)] rfl x0_1 HX1.out ?_))
  clear TB0 d0 d1
  refine (K1.out _ _ _ S3.rd HP1.out).mono ?_
  rintro en w1_ ⟨pp1, rfl, hF, hp, hk⟩
  have HP2 := Lib.hid hp; clear hp
  have S := S3.call hF hk
  clear hF hk K1 HP1 S3
  have S4 := S; clear S
  have HB0 := Lib.hid S4.box
  obtain ⟨x1_0, hx⟩ : ∃ u, World.setRow w1_ (w.heap.size + 1) ([(.int .i64 v0), (.int .i64 v1), (.string v2), (.string ⟨#[]⟩), (.slice none 0 0), (.int .i64 0), (.int .i64 0), (.bool false), (.slice none 0 0), (.slice none 0 0)] : List Value).toArray = u := ⟨_, rfl⟩
  have S5 := S4.set [(.int .i64 v0), (.int .i64 v1), (.string v2), (.string ⟨#[]⟩), (.slice none 0 0), (.int .i64 0), (.int .i64 0), (.bool false), (.slice none 0 0), (.slice none 0 0)]
  rw [hx] at S5
  have HX0 := Lib.hid hx; clear hx
  clear S4
  go_wp2_with (refine wpList_store_to rfl 9 (.tmp 18) (.tmp 17) rfl (w.heap.size + 1) 2 (.string v2) rfl rfl rfl [(.int .i64 v0), (.int .i64 v1), (.string ⟨#[]⟩), (.string ⟨#[]⟩), (.slice none 0 0), (.int .i64 0), (.int .i64 0), (.bool false), (.slice none 0 0), (.slice none 0 0)] 28 HB0.out (by show 2 < 10; decide) HS_string.out [(.int .i64 v0), (.int .i64 v1), (.string v2), (.string ⟨#[]⟩), (.slice none 0 0), (.int .i64 0), (.int .i64 0), (.bool false), (.slice none 0 0), (.slice none 0 0)] rfl x1_0 HX0.out ?_)
  refine (K2.out _ _ _ S5.rd HP2.out).mono ?_
  rintro en w2_ ⟨pp2, rfl, hF, hp, hk⟩
  have HP3 := Lib.hid hp; clear hp
  have S := S5.call hF hk
  clear hF hk K2 HP2 S5
  have S6 := S; clear S
  have HB0 := Lib.hid S6.box
  obtain ⟨x2_0, hx⟩ : ∃ u, World.setRow w2_ (w.heap.size + 1) ([(.int .i64 v0), (.int .i64 v1), (.string v2), (.string v3), (.slice none 0 0), (.int .i64 0), (.int .i64 0), (.bool false), (.slice none 0 0), (.slice none 0 0)] : List Value).toArray = u := ⟨_, rfl⟩
  have S7 := S6.set [(.int .i64 v0), (.int .i64 v1), (.string v2), (.string v3), (.slice none 0 0), (.int .i64 0), (.int .i64 0), (.bool false), (.slice none 0 0), (.slice none 0 0)]
  rw [hx] at S7
  have HX0 := Lib.hid hx; clear hx
  clear S6
  go_wp2_with (refine wpList_store_to rfl 9 (.tmp 21) (.tmp 20) rfl (w.heap.size + 1) 3 (.string v3) rfl rfl rfl [(.int .i64 v0), (.int .i64 v1), (.string v2), (.string ⟨#[]⟩), (.slice none 0 0), (.int .i64 0), (.int .i64 0), (.bool false), (.slice none 0 0), (.slice none 0 0)] 28 HB0.out (by show 3 < 10; decide) HS_string.out [(.int .i64 v0), (.int .i64 v1), (.string v2), (.string v3), (.slice none 0 0), (.int .i64 0), (.int .i64 0), (.bool false), (.slice none 0 0), (.slice none 0 0)] rfl x2_0 HX0.out ?_)
  refine (K3.out _ _ _ S7.rd HP3.out).mono ?_
  rintro en w3_ ⟨sv, pp3, rfl, hsl, hls, hF, hp, hk⟩
  have HP4 := Lib.hid hp; clear hp
  have LL : LB aclE w w3_ 2 sv v4 e4 := LB.mk' aclE_ok S7 hsl hls
  have HSL := Lib.hid hsl
  obtain ⟨sa, sn, sc, rfl⟩ := hsl
  clear hls
  have S := S7.call hF hk
  clear hF hk K3 HP3 S7
  have S8 := S; clear S
  have HB0 := Lib.hid S8.box
  obtain ⟨x3_0, hx⟩ : ∃ u, World.setRow w3_ (w.heap.size + 1) ([(.int .i64 v0), (.int .i64 v1), (.string v2), (.string v3), (.slice sa sn sc), (.int .i64 0), (.int .i64 0), (.bool false), (.slice none 0 0), (.slice none 0 0)] : List Value).toArray = u := ⟨_, rfl⟩
  have S9 := S8.set [(.int .i64 v0), (.int .i64 v1), (.string v2), (.string v3), (.slice sa sn sc), (.int .i64 0), (.int .i64 0), (.bool false), (.slice none 0 0), (.slice none 0 0)]
  replace LL := LL.set aclE_ok ([(.int .i64 v0), (.int .i64 v1), (.string v2), (.string v3), (.slice sa sn sc), (.int .i64 0), (.int .i64 0), (.bool false), (.slice none 0 0), (.slice none 0 0)] : List Value).toArray
  rw [hx] at S9 LL
  have HX0 := Lib.hid hx; clear hx
  clear S8
  go_wp2_with (refine wpList_store_to rfl 24 (.tmp 24) (.tmp 23) rfl (w.heap.size + 1) 4 (.slice sa sn sc) rfl rfl rfl [(.int .i64 v0), (.int .i64 v1), (.string v2), (.string v3), (.slice none 0 0), (.int .i64 0), (.int .i64 0), (.bool false), (.slice none 0 0), (.slice none 0 0)] 28 HB0.out (by show 4 < 10; decide) HS_acls.out [(.int .i64 v0), (.int .i64 v1), (.string v2), (.string v3), (.slice sa sn sc), (.int .i64 0), (.int .i64 0), (.bool false), (.slice none 0 0), (.slice none 0 0)] rfl x3_0 HX0.out ?_)
  refine (K4.out _ _ _ S9.rd HP4.out).mono ?_
  rintro en w4_ ⟨t4, pp4, rfl, hblk, hgt, hF, hp, hk⟩
  have HP5 := Lib.hid hp; clear hp
  have TB4 : TB w w4_ t4 [v5, v6] := ⟨hblk, Nat.le_trans S9.size hgt⟩
  clear hblk hgt
  replace LL := LL.call aclE_ok S9.old hk
  have S := S9.call hF hk
  clear hF hk K4 HP4 S9
  have S10 := S; clear S
  have HB0 := Lib.hid S10.box
  have d0 := TB4.cell 0 v5 rfl
  obtain ⟨x4_0, hx⟩ : ∃ u, World.setRow w4_ (w.heap.size + 1) ([(.int .i64 v0), (.int .i64 v1), (.string v2), (.string v3), (.slice sa sn sc), (.int .i64 v5), (.int .i64 0), (.bool false), (.slice none 0 0), (.slice none 0 0)] : List Value).toArray = u := ⟨_, rfl⟩
  have S11 := S10.set [(.int .i64 v0), (.int .i64 v1), (.string v2), (.string v3), (.slice sa sn sc), (.int .i64 v5), (.int .i64 0), (.bool false), (.slice none 0 0), (.slice none 0 0)]
  replace LL := LL.set aclE_ok ([(.int .i64 v0), (.int .i64 v1), (.string v2), (.string v3), (.slice sa sn sc), (.int .i64 v5), (.int .i64 0), (.bool false), (.slice none 0 0), (.slice none 0 0)] : List Value).toArray
  replace TB4 := TB4.set ([(.int .i64 v0), (.int .i64 v1), (.string v2), (.string v3), (.slice sa sn sc), (.int .i64 v5), (.int .i64 0), (.bool false), (.slice none 0 0), (.slice none 0 0)] : List Value).toArray
  rw [hx] at S11 LL TB4
  have HX0 := Lib.hid hx; clear hx
  clear S10
  have HB1 := Lib.hid S11.box
  have d1 := TB4.cell 1 v6 rfl
  obtain ⟨x4_1, hx⟩ : ∃ u, World.setRow x4_0 (w.heap.size + 1) ([(.int .i64 v0), (.int .i64 v1), (.string v2), (.string v3), (.slice sa sn sc), (.int .i64 v5), (.int .i64 v6), (.bool false), (.slice none 0 0), (.slice none 0 0)] : List Value).toArray = u := ⟨_, rfl⟩
  have S12 := S11.set [(.int .i64 v0), (.int .i64 v1), (.string v2), (.string v3), (.slice sa sn sc), (.int .i64 v5), (.int .i64 v6), (.bool false), (.slice none 0 0), (.slice none 0 0)]
  replace LL := LL.set aclE_ok ([(.int .i64 v0), (.int .i64 v1), (.string v2), (.string v3), (.slice sa sn sc), (.int .i64 v5), (.int .i64 v6), (.bool false), (.slice none 0 0), (.slice none 0 0)] : List Value).toArray
  replace TB4 := TB4.set ([(.int .i64 v0), (.int .i64 v1), (.string v2), (.string v3), (.slice sa sn sc), (.int .i64 v5), (.int .i64 v6), (.bool false), (.slice none 0 0), (.slice none 0 0)] : List Value).toArray
  rw [hx] at S12 LL TB4
  have HX1 := Lib.hid hx; clear hx
  clear S11
  go_wp2_with (first | (refine wpList_store_to rfl 3 (.tmp 30) (.tmp 29) rfl (w.heap.size + 1) 5 (.int .i64 v5) rfl rfl rfl [(.int .i64 v0), (.int .i64 v1), (.string v2), (.string v3), (.slice sa sn sc), (.int .i64 0), (.int .i64 0), (.bool false), (.slice none 0 0), (.slice none 0 0)] 28 HB0.out (by show 5 < 10; decide) HS_int.out [(.int .i64 v0), (.int .i64 v1), (.string v2), (.string v3), (.slice sa sn sc), (.int .i64 v5), (.int .i64 0), (.bool false), (.slice none 0 0), (.slice none 0 0)] rfl x4_0 HX0.out ?_) | (refine wpList_store_to rfl 3 (.tmp 34) (.tmp 33) rfl (w.heap.size + 1) 6 (.int .i64 v6) rfl rfl rfl [(.int .i64 v0), (.int .i64 v1), (.string v2), (.string v3), (.slice sa sn sc), (.int .i64 v5), (.int .i64 0), (.bool false), (.slice none 0 0), (.slice none 0 0)] 28 HB1.out (by show 6 < 10; decide) HS_int.out [(.int .i64 v0), (.int .i64 v1), (.string v2), (.string v3), (.slice sa sn sc), (.int .i64 v5), (.int .i64 v6), (.bool false), (.slice none 0 0), (.slice none 0 0)] rfl x4_1 HX1.out ?_))
  clear TB4 d0 d1
  refine (K5.out _ _ _ S12.rd HP5.out).mono ?_
  rintro en w5_ ⟨pp5, rfl, hF, hp, hk⟩
  have HP6 := Lib.hid hp; clear hp
  replace LL := LL.call aclE_ok S12.old hk
  have S := S12.call hF hk
  clear hF hk K5 HP5 S12
  have S13 := S; clear S
  have HB0 := Lib.hid S13.box
  obtain ⟨x5_0, hx⟩ : ∃ u, World.setRow w5_ (w.heap.size + 1) ([(.int .i64 v0), (.int .i64 v1), (.string v2), (.string v3), (.slice sa sn sc), (.int .i64 v5), (.int .i64 v6), (.bool v7), (.slice none 0 0), (.slice none 0 0)] : List Value).toArray = u := ⟨_, rfl⟩
  have S14 := S13.set [(.int .i64 v0), (.int .i64 v1), (.string v2), (.string v3), (.slice sa sn sc), (.int .i64 v5), (.int .i64 v6), (.bool v7), (.slice none 0 0), (.slice none 0 0)]
  replace LL := LL.set aclE_ok ([(.int .i64 v0), (.int .i64 v1), (.string v2), (.string v3), (.slice sa sn sc), (.int .i64 v5), (.int .i64 v6), (.bool v7), (.slice none 0 0), (.slice none 0 0)] : List Value).toArray
  rw [hx] at S14 LL
  have HX0 := Lib.hid hx; clear hx
  clear S13
  have HRG := Lib.hid (range_row S14.box)
  have HRES := Lib.hid S14.res
  have HSF := Lib.hid S14; clear S14
  have HLL := Lib.hid LL; clear LL
  go_wp2_with (first | (refine wpList_store_to rfl 4 (.tmp 37) (.tmp 36) rfl (w.heap.size + 1) 7 (.bool v7) rfl rfl rfl [(.int .i64 v0), (.int .i64 v1), (.string v2), (.string v3), (.slice sa sn sc), (.int .i64 v5), (.int .i64 v6), (.bool false), (.slice none 0 0), (.slice none 0 0)] 28 HB0.out (by show 7 < 10; decide) HS_bool.out [(.int .i64 v0), (.int .i64 v1), (.string v2), (.string v3), (.slice sa sn sc), (.int .i64 v5), (.int .i64 v6), (.bool v7), (.slice none 0 0), (.slice none 0 0)] rfl x5_0 HX0.out ?_) | (refine wpList_load_mid rfl 28 (.tmp 3) rfl (w.heap.size + 1) 0 rfl [(.int .i64 v0), (.int .i64 v1), (.string v2), (.string v3), (.slice sa sn sc), (.int .i64 v5), (.int .i64 v6), (.bool v7), (.slice none 0 0), (.slice none 0 0)] _ HRG.out Tryz.underlying28 rfl HSZ.out ?_) | (refine wpList_store_row _ rfl 28 (.tmp 2) (.tmp 38) rfl w.heap.size _ [(.int .i64 v0), (.int .i64 v1), (.string v2), (.string v3), (.slice sa sn sc), (.int .i64 v5), (.int .i64 v6), (.bool v7), (.slice none 0 0), (.slice none 0 0)] rfl rfl HRES.out HSZ.out rfl (by simp [Value.oneCell']) ?_))
  have hrow := setRow_heap _ w.heap.size _ ([(.int .i64 v0), (.int .i64 v1), (.string v2), (.string v3), (.slice sa sn sc), (.int .i64 v5), (.int .i64 v6), (.bool v7), (.slice none 0 0), (.slice none 0 0)] : List Value).toArray _ _ HRES.out
  have hload := run_loadVar_row (P := Tryz.prog) _ w.heap.size 28 28 _ (0, 0) _ hrow Tryz.underlying28 rfl HSZ.out
  have hb := HSF.out.old
  exact ret_cell 2 28 w.heap.size _ Tryz.results107 rfl hload rfl ⟨[(.int .i64 v0), (.int .i64 v1), (.string v2), (.string v3), (.slice sa sn sc), (.int .i64 v5), (.int .i64 v6), (.bool v7), (.slice none 0 0), (.slice none 0 0)], _, rfl, ⟨rfl, by simp [Value.oneCell']⟩, by simp, fun h0 => ⟨.slice none 0 0, .slice none 0 0, .slice sa sn sc, rfl, HLL.out.fin aclE_ok _ (HZ.out h0), i0, i1, i2, i3, i5, i6, ⟨_, _, _, rfl⟩, ⟨_, _, _, rfl⟩⟩, HSF.out.rd.keep (setRow_kept _ _ _) (fun hs => by omega), HP6.out, Kept.trans' HSF.out.kept (setRow_kept _ _ _) (fun k hk hs => by omega)⟩
end Go.Proofs.YtpmemcpfoapjmaaGreat

namespace Go.Proofs.YtpmemcpfoapjmaaGreat
open Go.ChangeShapes Go.WideShapes Go.ChangeAt Go.RowKit
set_option linter.unusedVariables false

set_option maxRecDepth 100000 in
set_option maxHeartbeats 600000 in
theorem get_oper1 (w : World) (b : Nat) (v : Value) (l : List UInt8) (p e : Nat) (hR : RAt w b v l p e) {x : Oper1} {q e' : Nat} (h : oper1F.get l p e = (x, q, e')) :
    Calls Tryz.prog 114 #[.pointer (some ⟨b, 0, none⟩)] w (GPost oper1E w b v l x q e') := by
  rcases h1 : numF.get l p e with ⟨x1, p1, e1⟩
  have hi1 : I64 x1 := by have := numF_i64 (l := l) (p := p) (e := e); rw [h1] at this; exact this
  rcases h2 : numF.get l p1 e1 with ⟨x2, p2, e2⟩
  have hi2 : I64 x2 := by have := numF_i64 (l := l) (p := p1) (e := e1); rw [h2] at this; exact this
  rcases h3 : (textF 4096).get l p2 e2 with ⟨x3, p3, e3⟩
  have hi3 : Str x3 := by have := textF_str (most := 4096) (by omega) (l := l) (p := p2) (e := e2); rw [h3] at this; exact this
  rcases h4 : (textF 4096).get l p3 e3 with ⟨x4, p4, e4⟩
  have hi4 : Str x4 := by have := textF_str (most := 4096) (by omega) (l := l) (p := p3) (e := e3); rw [h4] at this; exact this
  rcases h5 : (listF aclF).get l p4 e4 with ⟨x5, p5, e5⟩
  rcases h6 : numF.get l p5 e5 with ⟨x6, p6, e6⟩
  have hi6 : I64 x6 := by have := numF_i64 (l := l) (p := p5) (e := e5); rw [h6] at this; exact this
  rcases h7 : numF.get l p6 e6 with ⟨x7, p7, e7⟩
  have hi7 : I64 x7 := by have := numF_i64 (l := l) (p := p6) (e := e6); rw [h7] at this; exact this
  rcases h8 : flagF.get l p7 e7 with ⟨x8, p8, e8⟩
  have hf : oper1F.get l p e = (⟨x1, x2, x3, x4, x5, x6, x7, x8⟩, p8, e8) := by simp only [oper1F, isoF, seqF, h1, h2, h3, h4, h5, h6, h7, h8]
  rw [hf] at h
  simp only [Prod.mk.injEq] at h
  obtain ⟨rfl, rfl, rfl⟩ := h
  have H1 := Lib.hid h1; clear h1
  have H2 := Lib.hid h2; clear h2
  have H3 := Lib.hid h3; clear h3
  have H4 := Lib.hid h4; clear h4
  have H5 := Lib.hid h5; clear h5
  have H6 := Lib.hid h6; clear h6
  have H7 := Lib.hid h7; clear h7
  have H8 := Lib.hid h8; clear h8
  clear hf
  have S0 := RSt.start (hR.alloc (.cells #[.int .i64 0, .int .i64 0, .string ⟨#[]⟩, .string ⟨#[]⟩, .slice none 0 0, .int .i64 0, .int .i64 0, .bool false, .slice none 0 0, .slice none 0 0] 28))
  have hbk := heap_alloc_new w (.cells #[.int .i64 0, .int .i64 0, .string ⟨#[]⟩, .string ⟨#[]⟩, .slice none 0 0, .int .i64 0, .int .i64 0, .bool false, .slice none 0 0, .slice none 0 0] 28)
  have hnb := rbox_new hR
  have hz0 : w.heap.size + 1 ≤ (w.alloc (.cells #[.int .i64 0, .int .i64 0, .string ⟨#[]⟩, .string ⟨#[]⟩, .slice none 0 0, .int .i64 0, .int .i64 0, .bool false, .slice none 0 0, .slice none 0 0] 28)).heap.size := by simp
  go_enter Tryz.func114, Tryz.ntmps114
  go_wp2_with fail
  refine (gnum_any _ b v l _ _ S0.at_ H1.out).mono ?_
  rintro en w1 ⟨rfl, hR1, hk1⟩
  have S1 : RSt (w.alloc (.cells #[.int .i64 0, .int .i64 0, .string ⟨#[]⟩, .string ⟨#[]⟩, .slice none 0 0, .int .i64 0, .int .i64 0, .bool false, .slice none 0 0, .slice none 0 0] 28)) b v l w1 p1 e1 := ⟨hR1, S0.kept.trans hk1⟩
  clear S0 hR1 hk1
  go_wp2_with fail
  refine (gnum_any _ b v l _ _ S1.at_ H2.out).mono ?_
  rintro en w2 ⟨rfl, hR2, hk2⟩
  have S2 : RSt (w.alloc (.cells #[.int .i64 0, .int .i64 0, .string ⟨#[]⟩, .string ⟨#[]⟩, .slice none 0 0, .int .i64 0, .int .i64 0, .bool false, .slice none 0 0, .slice none 0 0] 28)) b v l w2 p2 e2 := ⟨hR2, S1.kept.trans hk2⟩
  clear S1 hR2 hk2
  go_wp2_with fail
  refine (getText_any _ b v l _ _ S2.at_ H3.out).mono ?_
  rintro en w3 ⟨rfl, hR3, hk3⟩
  have S3 : RSt (w.alloc (.cells #[.int .i64 0, .int .i64 0, .string ⟨#[]⟩, .string ⟨#[]⟩, .slice none 0 0, .int .i64 0, .int .i64 0, .bool false, .slice none 0 0, .slice none 0 0] 28)) b v l w3 p3 e3 := ⟨hR3, S2.kept.trans hk3⟩
  clear S2 hR3 hk3
  go_wp2_with fail
  refine (getText_any _ b v l _ _ S3.at_ H4.out).mono ?_
  rintro en w4 ⟨rfl, hR4, hk4⟩
  have S4 : RSt (w.alloc (.cells #[.int .i64 0, .int .i64 0, .string ⟨#[]⟩, .string ⟨#[]⟩, .slice none 0 0, .int .i64 0, .int .i64 0, .bool false, .slice none 0 0, .slice none 0 0] 28)) b v l w4 p4 e4 := ⟨hR4, S3.kept.trans hk4⟩
  clear S3 hR4 hk4
  go_wp2_with fail
  refine (getList_acl _ b v l _ _ S4.at_ H5.out).mono ?_
  rintro en w5 ⟨sv5, rfl, hL5, hR5, hk5⟩
  obtain ⟨A5, n5, c5, rfl⟩ := hL5.shape
  have hd5 := new_rs S4.at_
  have hz5 : w.heap.size + 1 ≤ w4.heap.size := Nat.le_trans hz0 S4.kept.size
  have S5 : RSt (w.alloc (.cells #[.int .i64 0, .int .i64 0, .string ⟨#[]⟩, .string ⟨#[]⟩, .slice none 0 0, .int .i64 0, .int .i64 0, .bool false, .slice none 0 0, .slice none 0 0] 28)) b v l w5 p5 e5 := ⟨hR5, S4.kept.trans hk5⟩
  clear S4 hR5 hk5
  go_wp2_with fail
  refine (gnum_any _ b v l _ _ S5.at_ H6.out).mono ?_
  rintro en w6 ⟨rfl, hR6, hk6⟩
  replace hL5 := hL5.keep aclE_ok hk6 hd5
  have S6 : RSt (w.alloc (.cells #[.int .i64 0, .int .i64 0, .string ⟨#[]⟩, .string ⟨#[]⟩, .slice none 0 0, .int .i64 0, .int .i64 0, .bool false, .slice none 0 0, .slice none 0 0] 28)) b v l w6 p6 e6 := ⟨hR6, S5.kept.trans hk6⟩
  clear S5 hR6 hk6
  go_wp2_with fail
  refine (gnum_any _ b v l _ _ S6.at_ H7.out).mono ?_
  rintro en w7 ⟨rfl, hR7, hk7⟩
  replace hL5 := hL5.keep aclE_ok hk7 hd5
  have S7 : RSt (w.alloc (.cells #[.int .i64 0, .int .i64 0, .string ⟨#[]⟩, .string ⟨#[]⟩, .slice none 0 0, .int .i64 0, .int .i64 0, .bool false, .slice none 0 0, .slice none 0 0] 28)) b v l w7 p7 e7 := ⟨hR7, S6.kept.trans hk7⟩
  clear S6 hR7 hk7
  go_wp2_with fail
  refine (gflag_any _ b v l _ _ S7.at_ H8.out).mono ?_
  rintro en w8 ⟨rfl, hR8, hk8⟩
  replace hL5 := hL5.keep aclE_ok hk8 hd5
  have S8 : RSt (w.alloc (.cells #[.int .i64 0, .int .i64 0, .string ⟨#[]⟩, .string ⟨#[]⟩, .slice none 0 0, .int .i64 0, .int .i64 0, .bool false, .slice none 0 0, .slice none 0 0] 28)) b v l w8 p8 e8 := ⟨hR8, S7.kept.trans hk8⟩
  clear S7 hR8 hk8
  have hb := S8.blk hbk hnb
  have hsz : (Tryz.prog.info? 28).map (·.size) = some 10 := by kernel_rfl
  have HSZ := Lib.hid hsz; clear hsz
  have HB := Lib.hid hb; clear hb
  go_wp2_with (refine wpList_store_row _ rfl 28 _ _ rfl w.heap.size _ [.int .i64 x1, .int .i64 x2, .string x3, .string x4, .slice A5 n5 c5, .int .i64 x6, .int .i64 x7, .bool x8, .slice none 0 0, .slice none 0 0] rfl rfl HB.out HSZ.out rfl (by simp [Value.oneCell']) ?_)
  have hrow := setRow_heap w8 w.heap.size _ ([.int .i64 x1, .int .i64 x2, .string x3, .string x4, .slice A5 n5 c5, .int .i64 x6, .int .i64 x7, .bool x8, .slice none 0 0, .slice none 0 0] : List Value).toArray _ _ HB.out
  have hload := run_loadVar_row (P := Tryz.prog) _ w.heap.size 28 28 _ (0, 0) _ hrow Tryz.underlying28 rfl HSZ.out
  exact ret_cell 2 28 w.heap.size _ Tryz.results114 rfl hload rfl ⟨_, rfl, ⟨_, _, _, rfl, fin_list aclE_ok hL5 hz5 _, hi1, hi2, hi3, hi4, hi6, hi7, ⟨_, _, _, rfl⟩, ⟨_, _, _, rfl⟩⟩, fin_R hR S8.at_ _, fin_K hR S8.kept _⟩

theorem info_oper1 : (Tryz.prog.info? 28).map (fun i => (i.zero, i.size, i.bytes)) = some (some (.agg #[.int .i64 0, .int .i64 0, .string ⟨#[]⟩, .string ⟨#[]⟩, .slice none 0 0, .int .i64 0, .int .i64 0, .bool false, .slice none 0 0, .slice none 0 0]), 10, 144) := by kernel_rfl

set_option maxRecDepth 100000 in
set_option maxHeartbeats 600000 in
theorem getList_oper1 (w : World) (b : Nat) (v : Value) (l : List UInt8) (p e : Nat) (hR : RAt w b v l p e) {xs : List Oper1} {q e' : Nat} (h : (listF oper1F).get l p e = (xs, q, e')) :
    Calls Tryz.prog 115 #[.pointer (some ⟨b, 0, none⟩), .func (.func 114) #[] #[]] w (LPost oper1E 10 w b v l xs q e') := by
  obtain ⟨i0, hi, hz0, hz1, hz2⟩ := info_parts info_oper1
  have hcl := rCount_le l 256 p e
  have hcc := rcount_any 256 w b v l p e hR (by omega) (by omega)
  rcases h1 : rCount l 256 p e with ⟨n, p1, e1⟩
  rw [h1] at hcl hcc
  simp only [listF, h1] at h hcl hcc
  have HH := Lib.hid h; clear h
  have HZ1 := Lib.hid hz1; clear hz1
  have HZ2 := Lib.hid hz2; clear hz2
  have HZ0 := Lib.hid hz0; clear hz0
  have HI := Lib.hid hi; clear hi
  clear h1
  have hn : n ≤ 256 := by omega
  clear hcl
  have HCC := Lib.hid hcc; clear hcc
  go_enter Tryz.func115, Tryz.ntmps115
  go_wp2_with fail
  refine HCC.out.mono ?_
  rintro en w0 ⟨rfl, hR0, hk0⟩
  go_wp2_with fail
  go_loopw [5, 8] (fun acc iv wr => GetRel oper1E oper1F w b v l 28 10 n p1 e1 acc iv wr) (fun _ iv _ => n - (intOf iv).toNat)
  case atStart => exact ⟨0, rfl, Nat.zero_le _, AccR.nil _ _ _ _ _, hR0, hk0⟩
  case round =>
    obtain ⟨k, rfl, hkn, hacc, hRk, hK⟩ := hrel.ex
    clear hrel HCC hR0 hk0
    by_cases hlt : k < n
    · have hkl : (k : Int) < (n : Int) := by omega
      go_wp2_with fail
      refine (get_oper1 wr b v l _ _ hRk (eta3 _)).mono ?_
      rintro en w1 ⟨cs, rfl, hE1, hR1, hk1⟩
      have hfl := oper1E_flat hE1
      have hacc1 := hacc.keep oper1E_ok hk1 (new_rs hR)
      have hown := hacc.own
      have hE2 : oper1E w1 (fun g => w.heap.size ≤ g ∧ some g ≠ u5.ownBlock) _ _ := oper1E_ok.mono hE1 (fun g _ hg => ⟨Nat.le_trans hK.size hg, fun e => by have := (hown g e.symm).2; have hg' : wr.heap.size ≤ g := hg; omega⟩)
      have hsn := getN_snoc (oper1F).get k l p1 e1
      have hlen := getN_len (oper1F).get k l p1 e1
      have hwl : w.heap.size ≤ w1.heap.size := Nat.le_trans hK.size hk1.size
      have HSN := Lib.hid hsn; clear hsn
      have HLEN := Lib.hid hlen; clear hlen
      have hK1 := hK.trans hk1
      clear hacc hown hE1 hRk hK hk1
      go_wp2_with (first | (refine wpList_one rfl 25 28 (.tmp 13) rfl (.agg cs.toArray) cs rfl rfl i0 _ Tryz.underlying25 HI.out HZ0.out (by rw [HZ1.out, hfl.1]) (by rw [hfl.1]; omega) (by rw [hfl.1]; omega) ?_) | (at_builtin; go_loud (refine wpList_push oper1E_ok w w1 rfl (.tmp 10) (.tmp 14) 25 rfl 28 i0 _ 10 144 Tryz.underlying25 HI.out HZ0.out HZ1.out HZ2.out rfl (by decide) u5 _ hacc1 cs _ hE2 hfl rfl rfl (by rw [HLEN.out]; omega) (by decide) hwl ?_); intro v' w' hacc' hk'))
      go_roundw
      case rel => exact ⟨k + 1, by go_num, hlt, by rw [HSN.out]; dsimp only; exact hacc', by rw [HSN.out]; dsimp only; exact hR1.keep hk' (fun g hg hs => by have := hR.inn g hg; have hs' : w.heap.size ≤ g := hs; omega), Kept.trans' hK1 hk' (fun g hg hs => by have hs' : w.heap.size ≤ g := hs; omega)⟩
      case measure => simp [intOf]; omega
    · have hkl : ¬ (k : Int) < (n : Int) := by omega
      obtain rfl : k = n := by omega
      have hlist := hacc.list oper1E_ok
      rw [HH.out] at hlist hRk
      have HL := Lib.hid hlist
      have HR := Lib.hid hRk
      clear hacc hlist hRk
      go_wp2_with fail
      go_ret
      exact ⟨_, rfl, HL.out, HR.out, hK⟩

set_option maxRecDepth 100000 in
set_option maxHeartbeats 600000 in
theorem get_armed (w : World) (b : Nat) (v : Value) (l : List UInt8) (p e : Nat) (hR : RAt w b v l p e) {x : Armed} {q e' : Nat} (h : armedF.get l p e = (x, q, e')) :
    Calls Tryz.prog 117 #[.pointer (some ⟨b, 0, none⟩)] w (GPost armedE w b v l x q e') := by
  rcases h1 : numF.get l p e with ⟨x1, p1, e1⟩
  have hi1 : I64 x1 := by have := numF_i64 (l := l) (p := p) (e := e); rw [h1] at this; exact this
  rcases h2 : (textF 4096).get l p1 e1 with ⟨x2, p2, e2⟩
  have hi2 : Str x2 := by have := textF_str (most := 4096) (by omega) (l := l) (p := p1) (e := e1); rw [h2] at this; exact this
  rcases h3 : numF.get l p2 e2 with ⟨x3, p3, e3⟩
  have hi3 : I64 x3 := by have := numF_i64 (l := l) (p := p2) (e := e2); rw [h3] at this; exact this
  rcases h4 : numF.get l p3 e3 with ⟨x4, p4, e4⟩
  have hi4 : I64 x4 := by have := numF_i64 (l := l) (p := p3) (e := e3); rw [h4] at this; exact this
  rcases h5 : numF.get l p4 e4 with ⟨x5, p5, e5⟩
  have hi5 : I64 x5 := by have := numF_i64 (l := l) (p := p4) (e := e4); rw [h5] at this; exact this
  have hf : armedF.get l p e = (⟨x1, x2, x3, x4, x5⟩, p5, e5) := by simp only [armedF, isoF, seqF, h1, h2, h3, h4, h5]
  rw [hf] at h
  simp only [Prod.mk.injEq] at h
  obtain ⟨rfl, rfl, rfl⟩ := h
  have H1 := Lib.hid h1; clear h1
  have H2 := Lib.hid h2; clear h2
  have H3 := Lib.hid h3; clear h3
  have H4 := Lib.hid h4; clear h4
  have H5 := Lib.hid h5; clear h5
  clear hf
  have S0 := RSt.start (hR.alloc (.cells #[.int .i64 0, .string ⟨#[]⟩, .int .i64 0, .int .i64 0, .int .i64 0] 73))
  have hbk := heap_alloc_new w (.cells #[.int .i64 0, .string ⟨#[]⟩, .int .i64 0, .int .i64 0, .int .i64 0] 73)
  have hnb := rbox_new hR
  have hz0 : w.heap.size + 1 ≤ (w.alloc (.cells #[.int .i64 0, .string ⟨#[]⟩, .int .i64 0, .int .i64 0, .int .i64 0] 73)).heap.size := by simp
  go_enter Tryz.func117, Tryz.ntmps117
  go_wp2_with fail
  refine (gnum_any _ b v l _ _ S0.at_ H1.out).mono ?_
  rintro en w1 ⟨rfl, hR1, hk1⟩
  have S1 : RSt (w.alloc (.cells #[.int .i64 0, .string ⟨#[]⟩, .int .i64 0, .int .i64 0, .int .i64 0] 73)) b v l w1 p1 e1 := ⟨hR1, S0.kept.trans hk1⟩
  clear S0 hR1 hk1
  go_wp2_with fail
  refine (getText_any _ b v l _ _ S1.at_ H2.out).mono ?_
  rintro en w2 ⟨rfl, hR2, hk2⟩
  have S2 : RSt (w.alloc (.cells #[.int .i64 0, .string ⟨#[]⟩, .int .i64 0, .int .i64 0, .int .i64 0] 73)) b v l w2 p2 e2 := ⟨hR2, S1.kept.trans hk2⟩
  clear S1 hR2 hk2
  go_wp2_with fail
  refine (gnum_any _ b v l _ _ S2.at_ H3.out).mono ?_
  rintro en w3 ⟨rfl, hR3, hk3⟩
  have S3 : RSt (w.alloc (.cells #[.int .i64 0, .string ⟨#[]⟩, .int .i64 0, .int .i64 0, .int .i64 0] 73)) b v l w3 p3 e3 := ⟨hR3, S2.kept.trans hk3⟩
  clear S2 hR3 hk3
  go_wp2_with fail
  refine (gnum_any _ b v l _ _ S3.at_ H4.out).mono ?_
  rintro en w4 ⟨rfl, hR4, hk4⟩
  have S4 : RSt (w.alloc (.cells #[.int .i64 0, .string ⟨#[]⟩, .int .i64 0, .int .i64 0, .int .i64 0] 73)) b v l w4 p4 e4 := ⟨hR4, S3.kept.trans hk4⟩
  clear S3 hR4 hk4
  go_wp2_with fail
  refine (gnum_any _ b v l _ _ S4.at_ H5.out).mono ?_
  rintro en w5 ⟨rfl, hR5, hk5⟩
  have S5 : RSt (w.alloc (.cells #[.int .i64 0, .string ⟨#[]⟩, .int .i64 0, .int .i64 0, .int .i64 0] 73)) b v l w5 p5 e5 := ⟨hR5, S4.kept.trans hk5⟩
  clear S4 hR5 hk5
  have hb := S5.blk hbk hnb
  have hsz : (Tryz.prog.info? 73).map (·.size) = some 5 := by kernel_rfl
  have HSZ := Lib.hid hsz; clear hsz
  have HB := Lib.hid hb; clear hb
  go_wp2_with (refine wpList_store_row _ rfl 73 _ _ rfl w.heap.size _ [.int .i64 x1, .string x2, .int .i64 x3, .int .i64 x4, .int .i64 x5] rfl rfl HB.out HSZ.out rfl (by simp [Value.oneCell']) ?_)
  have hrow := setRow_heap w5 w.heap.size _ ([.int .i64 x1, .string x2, .int .i64 x3, .int .i64 x4, .int .i64 x5] : List Value).toArray _ _ HB.out
  have hload := run_loadVar_row (P := Tryz.prog) _ w.heap.size 73 73 _ (0, 0) _ hrow Tryz.underlying73 rfl HSZ.out
  exact ret_cell 2 73 w.heap.size _ Tryz.results117 rfl hload rfl ⟨_, rfl, ⟨rfl, hi1, hi2, hi3, hi4, hi5⟩, fin_R hR S5.at_ _, fin_K hR S5.kept _⟩

theorem info_armed : (Tryz.prog.info? 73).map (fun i => (i.zero, i.size, i.bytes)) = some (some (.agg #[.int .i64 0, .string ⟨#[]⟩, .int .i64 0, .int .i64 0, .int .i64 0]), 5, 48) := by kernel_rfl

set_option maxRecDepth 100000 in
set_option maxHeartbeats 600000 in
theorem getList_armed (w : World) (b : Nat) (v : Value) (l : List UInt8) (p e : Nat) (hR : RAt w b v l p e) {xs : List Armed} {q e' : Nat} (h : (listF armedF).get l p e = (xs, q, e')) :
    Calls Tryz.prog 116 #[.pointer (some ⟨b, 0, none⟩), .func (.func 117) #[] #[]] w (LPost armedE 5 w b v l xs q e') := by
  obtain ⟨i0, hi, hz0, hz1, hz2⟩ := info_parts info_armed
  have hcl := rCount_le l 256 p e
  have hcc := rcount_any 256 w b v l p e hR (by omega) (by omega)
  rcases h1 : rCount l 256 p e with ⟨n, p1, e1⟩
  rw [h1] at hcl hcc
  simp only [listF, h1] at h hcl hcc
  have HH := Lib.hid h; clear h
  have HZ1 := Lib.hid hz1; clear hz1
  have HZ2 := Lib.hid hz2; clear hz2
  have HZ0 := Lib.hid hz0; clear hz0
  have HI := Lib.hid hi; clear hi
  clear h1
  have hn : n ≤ 256 := by omega
  clear hcl
  have HCC := Lib.hid hcc; clear hcc
  go_enter Tryz.func116, Tryz.ntmps116
  go_wp2_with fail
  refine HCC.out.mono ?_
  rintro en w0 ⟨rfl, hR0, hk0⟩
  go_wp2_with fail
  go_loopw [5, 8] (fun acc iv wr => GetRel armedE armedF w b v l 73 5 n p1 e1 acc iv wr) (fun _ iv _ => n - (intOf iv).toNat)
  case atStart => exact ⟨0, rfl, Nat.zero_le _, AccR.nil _ _ _ _ _, hR0, hk0⟩
  case round =>
    obtain ⟨k, rfl, hkn, hacc, hRk, hK⟩ := hrel.ex
    clear hrel HCC hR0 hk0
    by_cases hlt : k < n
    · have hkl : (k : Int) < (n : Int) := by omega
      go_wp2_with fail
      refine (get_armed wr b v l _ _ hRk (eta3 _)).mono ?_
      rintro en w1 ⟨cs, rfl, hE1, hR1, hk1⟩
      have hfl := armedE_flat hE1
      have hacc1 := hacc.keep armedE_ok hk1 (new_rs hR)
      have hown := hacc.own
      have hE2 : armedE w1 (fun g => w.heap.size ≤ g ∧ some g ≠ u5.ownBlock) _ _ := armedE_ok.mono hE1 (fun g _ hg => ⟨Nat.le_trans hK.size hg, fun e => by have := (hown g e.symm).2; have hg' : wr.heap.size ≤ g := hg; omega⟩)
      have hsn := getN_snoc (armedF).get k l p1 e1
      have hlen := getN_len (armedF).get k l p1 e1
      have hwl : w.heap.size ≤ w1.heap.size := Nat.le_trans hK.size hk1.size
      have HSN := Lib.hid hsn; clear hsn
      have HLEN := Lib.hid hlen; clear hlen
      have hK1 := hK.trans hk1
      clear hacc hown hE1 hRk hK hk1
      go_wp2_with (first | (refine wpList_one rfl 26 73 (.tmp 13) rfl (.agg cs.toArray) cs rfl rfl i0 _ Tryz.underlying26 HI.out HZ0.out (by rw [HZ1.out, hfl.1]) (by rw [hfl.1]; omega) (by rw [hfl.1]; omega) ?_) | (at_builtin; go_loud (refine wpList_push armedE_ok w w1 rfl (.tmp 10) (.tmp 14) 26 rfl 73 i0 _ 5 48 Tryz.underlying26 HI.out HZ0.out HZ1.out HZ2.out rfl (by decide) u5 _ hacc1 cs _ hE2 hfl rfl rfl (by rw [HLEN.out]; omega) (by decide) hwl ?_); intro v' w' hacc' hk'))
      go_roundw
      case rel => exact ⟨k + 1, by go_num, hlt, by rw [HSN.out]; dsimp only; exact hacc', by rw [HSN.out]; dsimp only; exact hR1.keep hk' (fun g hg hs => by have := hR.inn g hg; have hs' : w.heap.size ≤ g := hs; omega), Kept.trans' hK1 hk' (fun g hg hs => by have hs' : w.heap.size ≤ g := hs; omega)⟩
      case measure => simp [intOf]; omega
    · have hkl : ¬ (k : Int) < (n : Int) := by omega
      obtain rfl : k = n := by omega
      have hlist := hacc.list armedE_ok
      rw [HH.out] at hlist hRk
      have HL := Lib.hid hlist
      have HR := Lib.hid hRk
      clear hacc hlist hRk
      go_wp2_with fail
      go_ret
      exact ⟨_, rfl, HL.out, HR.out, hK⟩

end Go.Proofs.YtpmemcpfoapjmaaGreat
