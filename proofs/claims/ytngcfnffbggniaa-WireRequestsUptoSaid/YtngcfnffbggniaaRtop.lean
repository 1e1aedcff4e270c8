/- The document's own answers of layer 2: op, taken up. -/
import Derived.Test.YtngcfnffbggniaaRbox
import Derived.Outline
namespace Go.Proofs.Ytngcfnffbggniaa
open Go.ChangeShapes Go.WideShapes Go.ChangeAt Go.RowKit
set_option linter.unusedVariables false

set_option maxRecDepth 100000 in
set_option maxHeartbeats 1600000 in
theorem reftake_op (w : World) (b : Nat) (s : ByteArray) (p pos e : Nat) (hF : FAt w b s p e) (hp : e = 0 → p = pos) {x : Oper1} {q e' : Nat} (h : oper1F.get s.data.toList pos e = (x, q, e')) :
    Calls Try.prog 129 #[.pointer (some ⟨b, 0, none⟩)] w (FGPost oper1E 10 [8, 9] w b s x q e') := by
  have HSZ := Lib.hid (show (Try.prog.info? 38).map (·.size) = some 10 by kernel_rfl)
  have HS_int := Lib.hid (show (Try.prog.info? 3).map (·.size) = some 1 by kernel_rfl)
  have HS_string := Lib.hid (show (Try.prog.info? 9).map (·.size) = some 1 by kernel_rfl)
  have HS_acls := Lib.hid (show (Try.prog.info? 22).map (·.size) = some 1 by kernel_rfl)
  have HS_bool := Lib.hid (show (Try.prog.info? 4).map (·.size) = some 1 by kernel_rfl)
  obtain ⟨v0, q0, e0, g0⟩ : ∃ aa qq ee, numF.get s.data.toList pos e = (aa, qq, ee) := ⟨_, _, _, eta3 _⟩
  obtain ⟨v1, q1, e1, g1⟩ : ∃ aa qq ee, numF.get s.data.toList q0 e0 = (aa, qq, ee) := ⟨_, _, _, eta3 _⟩
  obtain ⟨v2, q2, e2, g2⟩ : ∃ aa qq ee, (textF 4096).get s.data.toList q1 e1 = (aa, qq, ee) := ⟨_, _, _, eta3 _⟩
  obtain ⟨v3, q3, e3, g3⟩ : ∃ aa qq ee, (textF 4096).get s.data.toList q2 e2 = (aa, qq, ee) := ⟨_, _, _, eta3 _⟩
  obtain ⟨v4, q4, e4, g4⟩ : ∃ aa qq ee, (listF aclF).get s.data.toList q3 e3 = (aa, qq, ee) := ⟨_, _, _, eta3 _⟩
  obtain ⟨v5, q5, e5, g5⟩ : ∃ aa qq ee, numF.get s.data.toList q4 e4 = (aa, qq, ee) := ⟨_, _, _, eta3 _⟩
  obtain ⟨v6, q6, e6, g6⟩ : ∃ aa qq ee, numF.get s.data.toList q5 e5 = (aa, qq, ee) := ⟨_, _, _, eta3 _⟩
  obtain ⟨v7, q7, e7, g7⟩ : ∃ aa qq ee, flagF.get s.data.toList q6 e6 = (aa, qq, ee) := ⟨_, _, _, eta3 _⟩
  have hget : oper1F.get s.data.toList pos e = (⟨v0, v1, v2, v3, v4, v5, v6, v7⟩, q7, e7) := by simp only [oper1F, isoF, seqF, g0, g1, g2, g3, g4, g5, g6, g7]
  rw [hget] at h
  simp only [Prod.mk.injEq] at h
  obtain ⟨rfl, rfl, rfl⟩ := h
  have i0 : I64 v0 := num_fit g0
  have i1 : I64 v1 := num_fit g1
  have i2 : Str v2 := text_fit (by decide) g2
  have i3 : Str v3 := text_fit (by decide) g3
  have i5 : I64 v5 := num_fit g5
  have i6 : I64 v6 := num_fit g6
  have HZ := Lib.hid (show e7 = 0 → e4 = 0 from fun h0 => (back0 numF_ok g5 (back0 numF_ok g6 (back0 flagF_ok g7 h0))))
  have hn0 : numsN 2 s.data.toList pos e = ([v0, v1], q1, e1) := by simp only [numsN, getN, g0, g1]
  have K0 := Lib.hid (ftake_of (by decide) hn0)
  clear hn0
  have K1 := Lib.hid (ftext_of (by decide) g2)
  have K2 := Lib.hid (ftext_of (by decide) g3)
  have K3 := Lib.hid (facls_of g4)
  have hn4 : numsN 2 s.data.toList q4 e4 = ([v5, v6], q6, e6) := by simp only [numsN, getN, g5, g6]
  have K4 := Lib.hid (ftake_of (by decide) hn4)
  clear hn4
  have K5 := Lib.hid (fflag_of g7)
  clear hget g0 g1 g2 g3 g4 g5 g6 g7
  have S0 := FB.start hF 38 [.int .i64 0, .int .i64 0, .string ⟨#[]⟩, .string ⟨#[]⟩, .slice none 0 0, .int .i64 0, .int .i64 0, .bool false, .slice none 0 0, .slice none 0 0] [.int .i64 0, .int .i64 0, .string ⟨#[]⟩, .string ⟨#[]⟩, .slice none 0 0, .int .i64 0, .int .i64 0, .bool false, .slice none 0 0, .slice none 0 0]
  have HP0 := Lib.hid hp; clear hp hF
  go_enter Try.func129, Try.ntmps129
  go_wp2_with fail
  refine (K0.out _ _ _ S0.rd HP0.out).mono ?_
  rintro en w0_ ⟨t0, pp0, rfl, hblk, hgt, hF, hp, hk⟩
  have HP1 := Lib.hid hp; clear hp
  have TB0 : TB w w0_ t0 [v0, v1] := ⟨hblk, Nat.le_trans S0.size hgt⟩
  clear hblk hgt
  have S := S0.call hF hk
  clear hF hk K0 HP0 S0
  have S1 := S; clear S
  have HB0 := Lib.hid S1.box
  have d0 := TB0.cell 0 v0 rfl
  obtain ⟨x0_0, hx⟩ : ∃ u, World.setRow w0_ (w.heap.size + 1) ([(.int .i64 v0), (.int .i64 0), (.string ⟨#[]⟩), (.string ⟨#[]⟩), (.slice none 0 0), (.int .i64 0), (.int .i64 0), (.bool false), (.slice none 0 0), (.slice none 0 0)] : List Value).toArray = u := ⟨_, rfl⟩
  have S2 := S1.set [(.int .i64 v0), (.int .i64 0), (.string ⟨#[]⟩), (.string ⟨#[]⟩), (.slice none 0 0), (.int .i64 0), (.int .i64 0), (.bool false), (.slice none 0 0), (.slice none 0 0)]
  replace TB0 := TB0.set ([(.int .i64 v0), (.int .i64 0), (.string ⟨#[]⟩), (.string ⟨#[]⟩), (.slice none 0 0), (.int .i64 0), (.int .i64 0), (.bool false), (.slice none 0 0), (.slice none 0 0)] : List Value).toArray
  rw [hx] at S2 TB0
  have HX0 := Lib.hid hx; clear hx
  clear S1
  have HB1 := Lib.hid S2.box
  have d1 := TB0.cell 1 v1 rfl
  obtain ⟨x0_1, hx⟩ : ∃ u, World.setRow x0_0 (w.heap.size + 1) ([(.int .i64 v0), (.int .i64 v1), (.string ⟨#[]⟩), (.string ⟨#[]⟩), (.slice none 0 0), (.int .i64 0), (.int .i64 0), (.bool false), (.slice none 0 0), (.slice none 0 0)] : List Value).toArray = u := ⟨_, rfl⟩
  have S3 := S2.set [(.int .i64 v0), (.int .i64 v1), (.string ⟨#[]⟩), (.string ⟨#[]⟩), (.slice none 0 0), (.int .i64 0), (.int .i64 0), (.bool false), (.slice none 0 0), (.slice none 0 0)]
  replace TB0 := TB0.set ([(.int .i64 v0), (.int .i64 v1), (.string ⟨#[]⟩), (.string ⟨#[]⟩), (.slice none 0 0), (.int .i64 0), (.int .i64 0), (.bool false), (.slice none 0 0), (.slice none 0 0)] : List Value).toArray
  rw [hx] at S3 TB0
  have HX1 := Lib.hid hx; clear hx
  clear S2
  go_wp2_with (first | (refine wpList_store_to rfl 3 (.tmp 11) (.tmp 10) rfl (w.heap.size + 1) 0 (.int .i64 v0) rfl rfl rfl [(.int .i64 0), (.int .i64 0), (.string ⟨#[]⟩), (.string ⟨#[]⟩), (.slice none 0 0), (.int .i64 0), (.int .i64 0), (.bool false), (.slice none 0 0), (.slice none 0 0)] 38 HB0.out (by show 0 < 10; decide) HS_int.out [(.int .i64 v0), (.int .i64 0), (.string ⟨#[]⟩), (.string ⟨#[]⟩), (.slice none 0 0), (.int .i64 0), (.int .i64 0), (.bool false), (.slice none 0 0), (.slice none 0 0)] rfl x0_0 HX0.out ?_) | (refine wpList_store_to rfl 3 (.tmp 15) (.tmp 14) rfl (w.heap.size + 1) 1 (.int .i64 v1) rfl rfl rfl [(.int .i64 v0), (.int .i64 0), (.string ⟨#[]⟩), (.string ⟨#[]⟩), (.slice none 0 0), (.int .i64 0), (.int .i64 0), (.bool false), (.slice none 0 0), (.slice none 0 0)] 38 HB1.out (by show 1 < 10; decide) HS_int.out [(.int .i64 v0), (.int .i64 v1), (.string ⟨#[]⟩), (.string ⟨#[]⟩), (.slice none 0 0), (.int .i64 0), (.int .i64 0), (.bool false), (.slice none 0 0), (.slice none 0 0)] rfl x0_1 HX1.out ?_))
  clear TB0 d0 d1
  refine (K1.out _ _ _ S3.rd HP1.out).mono ?_
  rintro en w1_ ⟨pp1, rfl, hF, hp, hk⟩
  have HP2 := Lib.hid hp; clear hp
  have S := S3.call hF hk
  clear hF hk K1 HP1 S3
  have S4 := S; clear S
  have HB0 := Lib.hid S4.box
  obtain ⟨x1_0, hx⟩ : ∃ u, World.setRow w1_ (w.heap.size + 1) ([(.int .i64 v0), (.int .i64 v1), (.string v2), (.string ⟨#[]⟩), (.slice none 0 0), (.int .i64 0), (.int .i64 0), (.bool false), (.slice none 0 0), (.slice none 0 0)] : List Value).toArray = u := ⟨_, rfl⟩
  have S5 := S4.set [(.int .i64 v0), (.int .i64 v1), (.string v2), (.string ⟨#[]⟩), (.slice none 0 0), (.int .i64 0), (.int .i64 0), (.bool false), (.slice none 0 0), (.slice none 0 0)]
  rw [hx] at S5
  have HX0 := Lib.hid hx; clear hx
  clear S4
  go_wp2_with (refine wpList_store_to rfl 9 (.tmp 18) (.tmp 17) rfl (w.heap.size + 1) 2 (.string v2) rfl rfl rfl [(.int .i64 v0), (.int .i64 v1), (.string ⟨#[]⟩), (.string ⟨#[]⟩), (.slice none 0 0), (.int .i64 0), (.int .i64 0), (.bool false), (.slice none 0 0), (.slice none 0 0)] 38 HB0.out (by show 2 < 10; decide) HS_string.out [(.int .i64 v0), (.int .i64 v1), (.string v2), (.string ⟨#[]⟩), (.slice none 0 0), (.int .i64 0), (.int .i64 0), (.bool false), (.slice none 0 0), (.slice none 0 0)] rfl x1_0 HX0.out ?_)
  refine (K2.out _ _ _ S5.rd HP2.out).mono ?_
  rintro en w2_ ⟨pp2, rfl, hF, hp, hk⟩
  have HP3 := Lib.hid hp; clear hp
  have S := S5.call hF hk
  clear hF hk K2 HP2 S5
  have S6 := S; clear S
  have HB0 := Lib.hid S6.box
  obtain ⟨x2_0, hx⟩ : ∃ u, World.setRow w2_ (w.heap.size + 1) ([(.int .i64 v0), (.int .i64 v1), (.string v2), (.string v3), (.slice none 0 0), (.int .i64 0), (.int .i64 0), (.bool false), (.slice none 0 0), (.slice none 0 0)] : List Value).toArray = u := ⟨_, rfl⟩
  have S7 := S6.set [(.int .i64 v0), (.int .i64 v1), (.string v2), (.string v3), (.slice none 0 0), (.int .i64 0), (.int .i64 0), (.bool false), (.slice none 0 0), (.slice none 0 0)]
  rw [hx] at S7
  have HX0 := Lib.hid hx; clear hx
  clear S6
  go_wp2_with (refine wpList_store_to rfl 9 (.tmp 21) (.tmp 20) rfl (w.heap.size + 1) 3 (.string v3) rfl rfl rfl [(.int .i64 v0), (.int .i64 v1), (.string v2), (.string ⟨#[]⟩), (.slice none 0 0), (.int .i64 0), (.int .i64 0), (.bool false), (.slice none 0 0), (.slice none 0 0)] 38 HB0.out (by show 3 < 10; decide) HS_string.out [(.int .i64 v0), (.int .i64 v1), (.string v2), (.string v3), (.slice none 0 0), (.int .i64 0), (.int .i64 0), (.bool false), (.slice none 0 0), (.slice none 0 0)] rfl x2_0 HX0.out ?_)
  refine (K3.out _ _ _ S7.rd HP3.out).mono ?_
  rintro en w3_ ⟨sv, pp3, rfl, hsl, hls, hF, hp, hk⟩
  have HP4 := Lib.hid hp; clear hp
  have LL : LB aclE w w3_ 2 sv v4 e4 := LB.mk' aclE_ok S7 hsl hls
  have HSL := Lib.hid hsl
  obtain ⟨sa, sn, sc, rfl⟩ := hsl
  clear hls
  have S := S7.call hF hk
  clear hF hk K3 HP3 S7
  have S8 := S; clear S
  have HB0 := Lib.hid S8.box
  obtain ⟨x3_0, hx⟩ : ∃ u, World.setRow w3_ (w.heap.size + 1) ([(.int .i64 v0), (.int .i64 v1), (.string v2), (.string v3), (.slice sa sn sc), (.int .i64 0), (.int .i64 0), (.bool false), (.slice none 0 0), (.slice none 0 0)] : List Value).toArray = u := ⟨_, rfl⟩
  have S9 := S8.set [(.int .i64 v0), (.int .i64 v1), (.string v2), (.string v3), (.slice sa sn sc), (.int .i64 0), (.int .i64 0), (.bool false), (.slice none 0 0), (.slice none 0 0)]
  replace LL := LL.set aclE_ok ([(.int .i64 v0), (.int .i64 v1), (.string v2), (.string v3), (.slice sa sn sc), (.int .i64 0), (.int .i64 0), (.bool false), (.slice none 0 0), (.slice none 0 0)] : List Value).toArray
  rw [hx] at S9 LL
  have HX0 := Lib.hid hx; clear hx
  clear S8
  go_wp2_with (refine wpList_store_to rfl 22 (.tmp 24) (.tmp 23) rfl (w.heap.size + 1) 4 (.slice sa sn sc) rfl rfl rfl [(.int .i64 v0), (.int .i64 v1), (.string v2), (.string v3), (.slice none 0 0), (.int .i64 0), (.int .i64 0), (.bool false), (.slice none 0 0), (.slice none 0 0)] 38 HB0.out (by show 4 < 10; decide) HS_acls.out [(.int .i64 v0), (.int .i64 v1), (.string v2), (.string v3), (.slice sa sn sc), (.int .i64 0), (.int .i64 0), (.bool false), (.slice none 0 0), (.slice none 0 0)] rfl x3_0 HX0.out ?_)
  refine (K4.out _ _ _ S9.rd HP4.out).mono ?_
  rintro en w4_ ⟨t4, pp4, rfl, hblk, hgt, hF, hp, hk⟩
  have HP5 := Lib.hid hp; clear hp
  have TB4 : TB w w4_ t4 [v5, v6] := ⟨hblk, Nat.le_trans S9.size hgt⟩
  clear hblk hgt
  replace LL := LL.call aclE_ok S9.old hk
  have S := S9.call hF hk
  clear hF hk K4 HP4 S9
  have S10 := S; clear S
  have HB0 := Lib.hid S10.box
  have d0 := TB4.cell 0 v5 rfl
  obtain ⟨x4_0, hx⟩ : ∃ u, World.setRow w4_ (w.heap.size + 1) ([(.int .i64 v0), (.int .i64 v1), (.string v2), (.string v3), (.slice sa sn sc), (.int .i64 v5), (.int .i64 0), (.bool false), (.slice none 0 0), (.slice none 0 0)] : List Value).toArray = u := ⟨_, rfl⟩
  have S11 := S10.set [(.int .i64 v0), (.int .i64 v1), (.string v2), (.string v3), (.slice sa sn sc), (.int .i64 v5), (.int .i64 0), (.bool false), (.slice none 0 0), (.slice none 0 0)]
  replace LL := LL.set aclE_ok ([(.int .i64 v0), (.int .i64 v1), (.string v2), (.string v3), (.slice sa sn sc), (.int .i64 v5), (.int .i64 0), (.bool false), (.slice none 0 0), (.slice none 0 0)] : List Value).toArray
  replace TB4 := TB4.set ([(.int .i64 v0), (.int .i64 v1), (.string v2), (.string v3), (.slice sa sn sc), (.int .i64 v5), (.int .i64 0), (.bool false), (.slice none 0 0), (.slice none 0 0)] : List Value).toArray
  rw [hx] at S11 LL TB4
  have HX0 := Lib.hid hx; clear hx
  clear S10
  have HB1 := Lib.hid S11.box
  have d1 := TB4.cell 1 v6 rfl
  obtain ⟨x4_1, hx⟩ : ∃ u, World.setRow x4_0 (w.heap.size + 1) ([(.int .i64 v0), (.int .i64 v1), (.string v2), (.string v3), (.slice sa sn sc), (.int .i64 v5), (.int .i64 v6), (.bool false), (.slice none 0 0), (.slice none 0 0)] : List Value).toArray = u := ⟨_, rfl⟩
  have S12 := S11.set [(.int .i64 v0), (.int .i64 v1), (.string v2), (.string v3), (.slice sa sn sc), (.int .i64 v5), (.int .i64 v6), (.bool false), (.slice none 0 0), (.slice none 0 0)]
  replace LL := LL.set aclE_ok ([(.int .i64 v0), (.int .i64 v1), (.string v2), (.string v3), (.slice sa sn sc), (.int .i64 v5), (.int .i64 v6), (.bool false), (.slice none 0 0), (.slice none 0 0)] : List Value).toArray
  replace TB4 := TB4.set ([(.int .i64 v0), (.int .i64 v1), (.string v2), (.string v3), (.slice sa sn sc), (.int .i64 v5), (.int .i64 v6), (.bool false), (.slice none 0 0), (.slice none 0 0)] : List Value).toArray
  rw [hx] at S12 LL TB4
  have HX1 := Lib.hid hx; clear hx
  clear S11
  go_wp2_with (first | (refine wpList_store_to rfl 3 (.tmp 30) (.tmp 29) rfl (w.heap.size + 1) 5 (.int .i64 v5) rfl rfl rfl [(.int .i64 v0), (.int .i64 v1), (.string v2), (.string v3), (.slice sa sn sc), (.int .i64 0), (.int .i64 0), (.bool false), (.slice none 0 0), (.slice none 0 0)] 38 HB0.out (by show 5 < 10; decide) HS_int.out [(.int .i64 v0), (.int .i64 v1), (.string v2), (.string v3), (.slice sa sn sc), (.int .i64 v5), (.int .i64 0), (.bool false), (.slice none 0 0), (.slice none 0 0)] rfl x4_0 HX0.out ?_) | (refine wpList_store_to rfl 3 (.tmp 34) (.tmp 33) rfl (w.heap.size + 1) 6 (.int .i64 v6) rfl rfl rfl [(.int .i64 v0), (.int .i64 v1), (.string v2), (.string v3), (.slice sa sn sc), (.int .i64 v5), (.int .i64 0), (.bool false), (.slice none 0 0), (.slice none 0 0)] 38 HB1.out (by show 6 < 10; decide) HS_int.out [(.int .i64 v0), (.int .i64 v1), (.string v2), (.string v3), (.slice sa sn sc), (.int .i64 v5), (.int .i64 v6), (.bool false), (.slice none 0 0), (.slice none 0 0)] rfl x4_1 HX1.out ?_))
  clear TB4 d0 d1
  refine (K5.out _ _ _ S12.rd HP5.out).mono ?_
  rintro en w5_ ⟨pp5, rfl, hF, hp, hk⟩
  have HP6 := Lib.hid hp; clear hp
  replace LL := LL.call aclE_ok S12.old hk
  have S := S12.call hF hk
  clear hF hk K5 HP5 S12
  have S13 := S; clear S
  have HB0 := Lib.hid S13.box
  obtain ⟨x5_0, hx⟩ : ∃ u, World.setRow w5_ (w.heap.size + 1) ([(.int .i64 v0), (.int .i64 v1), (.string v2), (.string v3), (.slice sa sn sc), (.int .i64 v5), (.int .i64 v6), (.bool v7), (.slice none 0 0), (.slice none 0 0)] : List Value).toArray = u := ⟨_, rfl⟩
  have S14 := S13.set [(.int .i64 v0), (.int .i64 v1), (.string v2), (.string v3), (.slice sa sn sc), (.int .i64 v5), (.int .i64 v6), (.bool v7), (.slice none 0 0), (.slice none 0 0)]
  replace LL := LL.set aclE_ok ([(.int .i64 v0), (.int .i64 v1), (.string v2), (.string v3), (.slice sa sn sc), (.int .i64 v5), (.int .i64 v6), (.bool v7), (.slice none 0 0), (.slice none 0 0)] : List Value).toArray
  rw [hx] at S14 LL
  have HX0 := Lib.hid hx; clear hx
  clear S13
  have HRG := Lib.hid (range_row S14.box)
  have HRES := Lib.hid S14.res
  have HSF := Lib.hid S14; clear S14
  have HLL := Lib.hid LL; clear LL
  go_wp2_with (first | (refine wpList_store_to rfl 4 (.tmp 37) (.tmp 36) rfl (w.heap.size + 1) 7 (.bool v7) rfl rfl rfl [(.int .i64 v0), (.int .i64 v1), (.string v2), (.string v3), (.slice sa sn sc), (.int .i64 v5), (.int .i64 v6), (.bool false), (.slice none 0 0), (.slice none 0 0)] 38 HB0.out (by show 7 < 10; decide) HS_bool.out [(.int .i64 v0), (.int .i64 v1), (.string v2), (.string v3), (.slice sa sn sc), (.int .i64 v5), (.int .i64 v6), (.bool v7), (.slice none 0 0), (.slice none 0 0)] rfl x5_0 HX0.out ?_) | (refine wpList_load_mid rfl 38 (.tmp 3) rfl (w.heap.size + 1) 0 rfl [(.int .i64 v0), (.int .i64 v1), (.string v2), (.string v3), (.slice sa sn sc), (.int .i64 v5), (.int .i64 v6), (.bool v7), (.slice none 0 0), (.slice none 0 0)] _ HRG.out Try.underlying38 rfl HSZ.out ?_) | (refine wpList_store_row _ rfl 38 (.tmp 2) (.tmp 38) rfl w.heap.size _ [(.int .i64 v0), (.int .i64 v1), (.string v2), (.string v3), (.slice sa sn sc), (.int .i64 v5), (.int .i64 v6), (.bool v7), (.slice none 0 0), (.slice none 0 0)] rfl rfl HRES.out HSZ.out rfl (by simp [Value.oneCell']) ?_))
  have hrow := setRow_heap _ w.heap.size _ ([(.int .i64 v0), (.int .i64 v1), (.string v2), (.string v3), (.slice sa sn sc), (.int .i64 v5), (.int .i64 v6), (.bool v7), (.slice none 0 0), (.slice none 0 0)] : List Value).toArray _ _ HRES.out
  have hload := run_loadVar_row (P := Try.prog) _ w.heap.size 38 38 _ (0, 0) _ hrow Try.underlying38 rfl HSZ.out
  have hb := HSF.out.old
  exact ret_cell 2 38 w.heap.size _ Try.results129 rfl hload rfl ⟨[(.int .i64 v0), (.int .i64 v1), (.string v2), (.string v3), (.slice sa sn sc), (.int .i64 v5), (.int .i64 v6), (.bool v7), (.slice none 0 0), (.slice none 0 0)], _, rfl, ⟨rfl, by simp [Value.oneCell']⟩, by simp, fun h0 => ⟨.slice none 0 0, .slice none 0 0, .slice sa sn sc, rfl, HLL.out.fin aclE_ok _ (HZ.out h0), i0, i1, i2, i3, i5, i6, ⟨_, _, _, rfl⟩, ⟨_, _, _, rfl⟩⟩, HSF.out.rd.keep (setRow_kept _ _ _) (fun hs => by omega), HP6.out, Kept.trans' HSF.out.kept (setRow_kept _ _ _) (fun k hk hs => by omega)⟩
end Go.Proofs.Ytngcfnffbggniaa
