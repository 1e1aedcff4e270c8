/- The document's own answers of layer 2: part, taken up. The document's own answers of layer 2: a transaction, taken up. The document's own answers of layer 2: an entry, taken up. Lists of rows, laid. A part, and lists of them, laid. A transaction, an entry, lists of entries, laid. -/
import Derived.Test.YtpmemcpfoapjmaaQ09
import Derived.Outline
import Derived.Test.YtpmemcpfoapjmaaQ07
import Derived.Deep.DeepCutAuto
import Derived.WalkSpells
import Derived.StillTailTactics
import Derived.Test.YtpmemcpfoapjmaaQ08
namespace Go.Proofs.Ytpmemcpfoapjmaa
open Go.ChangeShapes Go.WideShapes Go.ChangeAt Go.RowKit
set_option linter.unusedVariables false

set_option maxRecDepth 100000 in
set_option maxHeartbeats 1600000 in
theorem reftake_part (w : World) (b : Nat) (s : ByteArray) (p pos e : Nat) (hF : FAt w b s p e) (hp : e = 0 → p = pos) {x : Part} {q e' : Nat} (h : partF.get s.data.toList pos e = (x, q, e')) :
    Calls Try.prog 69 #[.pointer (some ⟨b, 0, none⟩)] w (FGPost partE 8 [7] w b s x q e') := by
  have HSZ := Lib.hid (show (Try.prog.info? 26).map (·.size) = some 8 by kernel_rfl)
  have HS_int := Lib.hid (show (Try.prog.info? 3).map (·.size) = some 1 by kernel_rfl)
  have HS_string := Lib.hid (show (Try.prog.info? 9).map (·.size) = some 1 by kernel_rfl)
  have HS_acls := Lib.hid (show (Try.prog.info? 22).map (·.size) = some 1 by kernel_rfl)
  have HS_errno := Lib.hid (show (Try.prog.info? 23).map (·.size) = some 1 by kernel_rfl)
  obtain ⟨v0, q0, e0, g0⟩ : ∃ aa qq ee, numF.get s.data.toList pos e = (aa, qq, ee) := ⟨_, _, _, eta3 _⟩
  obtain ⟨v1, q1, e1, g1⟩ : ∃ aa qq ee, (textF 4096).get s.data.toList q0 e0 = (aa, qq, ee) := ⟨_, _, _, eta3 _⟩
  obtain ⟨v2, q2, e2, g2⟩ : ∃ aa qq ee, (textF 4096).get s.data.toList q1 e1 = (aa, qq, ee) := ⟨_, _, _, eta3 _⟩
  obtain ⟨v3, q3, e3, g3⟩ : ∃ aa qq ee, (listF aclF).get s.data.toList q2 e2 = (aa, qq, ee) := ⟨_, _, _, eta3 _⟩
  obtain ⟨v4, q4, e4, g4⟩ : ∃ aa qq ee, numF.get s.data.toList q3 e3 = (aa, qq, ee) := ⟨_, _, _, eta3 _⟩
  obtain ⟨v5, q5, e5, g5⟩ : ∃ aa qq ee, numF.get s.data.toList q4 e4 = (aa, qq, ee) := ⟨_, _, _, eta3 _⟩
  obtain ⟨v6, q6, e6, g6⟩ : ∃ aa qq ee, numF.get s.data.toList q5 e5 = (aa, qq, ee) := ⟨_, _, _, eta3 _⟩
  have hget : partF.get s.data.toList pos e = (⟨v0, v1, v2, v3, v4, v5, v6⟩, q6, e6) := by simp only [partF, isoF, seqF, g0, g1, g2, g3, g4, g5, g6]
  rw [hget] at h
  simp only [Prod.mk.injEq] at h
  obtain ⟨rfl, rfl, rfl⟩ := h
  have i0 : I64 v0 := num_fit g0
  have i1 : Str v1 := text_fit (by decide) g1
  have i2 : Str v2 := text_fit (by decide) g2
  have i4 : I64 v4 := num_fit g4
  have i5 : I64 v5 := num_fit g5
  have i6 : I64 v6 := num_fit g6
  have HZ := Lib.hid (show e6 = 0 → e3 = 0 from fun h0 => (back0 numF_ok g4 (back0 numF_ok g5 (back0 numF_ok g6 h0))))
  have K0 := Lib.hid (fnum_of g0)
  have K1 := Lib.hid (ftext_of (by decide) g1)
  have K2 := Lib.hid (ftext_of (by decide) g2)
  have K3 := Lib.hid (facls_of g3)
  have hn4 : numsN 3 s.data.toList q3 e3 = ([v4, v5, v6], q6, e6) := by simp only [numsN, getN, g4, g5, g6]
  have K4 := Lib.hid (ftake_of (by decide) hn4)
  clear hn4
  clear hget g0 g1 g2 g3 g4 g5 g6
  have S0 := FB.start hF 26 [.int .i64 0, .string ⟨#[]⟩, .string ⟨#[]⟩, .slice none 0 0, .int .i64 0, .int .i64 0, .int .i64 0, .slice none 0 0] [.int .i64 0, .string ⟨#[]⟩, .string ⟨#[]⟩, .slice none 0 0, .int .i64 0, .int .i64 0, .int .i64 0, .slice none 0 0]
  have HP0 := Lib.hid hp; clear hp hF
  go_enter Try.func69, Try.ntmps69
  go_wp2_with fail
  refine (K0.out _ _ _ S0.rd HP0.out).mono ?_
  rintro en w0_ ⟨pp0, rfl, hF, hp, hk⟩
  have HP1 := Lib.hid hp; clear hp
  have S := S0.call hF hk
  clear hF hk K0 HP0 S0
  have S1 := S; clear S
  have HB0 := Lib.hid S1.box
  obtain ⟨x0_0, hx⟩ : ∃ u, World.setRow w0_ (w.heap.size + 1) ([(.int .i64 v0), (.string ⟨#[]⟩), (.string ⟨#[]⟩), (.slice none 0 0), (.int .i64 0), (.int .i64 0), (.int .i64 0), (.slice none 0 0)] : List Value).toArray = u := ⟨_, rfl⟩
  have S2 := S1.set [(.int .i64 v0), (.string ⟨#[]⟩), (.string ⟨#[]⟩), (.slice none 0 0), (.int .i64 0), (.int .i64 0), (.int .i64 0), (.slice none 0 0)]
  rw [hx] at S2
  have HX0 := Lib.hid hx; clear hx
  clear S1
  go_wp2_with (refine wpList_store_to rfl 3 (.tmp 8) (.tmp 7) rfl (w.heap.size + 1) 0 (.int .i64 v0) rfl rfl rfl [(.int .i64 0), (.string ⟨#[]⟩), (.string ⟨#[]⟩), (.slice none 0 0), (.int .i64 0), (.int .i64 0), (.int .i64 0), (.slice none 0 0)] 26 HB0.out (by show 0 < 8; decide) HS_int.out [(.int .i64 v0), (.string ⟨#[]⟩), (.string ⟨#[]⟩), (.slice none 0 0), (.int .i64 0), (.int .i64 0), (.int .i64 0), (.slice none 0 0)] rfl x0_0 HX0.out ?_)
  refine (K1.out _ _ _ S2.rd HP1.out).mono ?_
  rintro en w1_ ⟨pp1, rfl, hF, hp, hk⟩
  have HP2 := Lib.hid hp; clear hp
  have S := S2.call hF hk
  clear hF hk K1 HP1 S2
  have S3 := S; clear S
  have HB0 := Lib.hid S3.box
  obtain ⟨x1_0, hx⟩ : ∃ u, World.setRow w1_ (w.heap.size + 1) ([(.int .i64 v0), (.string v1), (.string ⟨#[]⟩), (.slice none 0 0), (.int .i64 0), (.int .i64 0), (.int .i64 0), (.slice none 0 0)] : List Value).toArray = u := ⟨_, rfl⟩
  have S4 := S3.set [(.int .i64 v0), (.string v1), (.string ⟨#[]⟩), (.slice none 0 0), (.int .i64 0), (.int .i64 0), (.int .i64 0), (.slice none 0 0)]
  rw [hx] at S4
  have HX0 := Lib.hid hx; clear hx
  clear S3
  go_wp2_with (refine wpList_store_to rfl 9 (.tmp 11) (.tmp 10) rfl (w.heap.size + 1) 1 (.string v1) rfl rfl rfl [(.int .i64 v0), (.string ⟨#[]⟩), (.string ⟨#[]⟩), (.slice none 0 0), (.int .i64 0), (.int .i64 0), (.int .i64 0), (.slice none 0 0)] 26 HB0.out (by show 1 < 8; decide) HS_string.out [(.int .i64 v0), (.string v1), (.string ⟨#[]⟩), (.slice none 0 0), (.int .i64 0), (.int .i64 0), (.int .i64 0), (.slice none 0 0)] rfl x1_0 HX0.out ?_)
  refine (K2.out _ _ _ S4.rd HP2.out).mono ?_
  rintro en w2_ ⟨pp2, rfl, hF, hp, hk⟩
  have HP3 := Lib.hid hp; clear hp
  have S := S4.call hF hk
  clear hF hk K2 HP2 S4
  have S5 := S; clear S
  have HB0 := Lib.hid S5.box
  obtain ⟨x2_0, hx⟩ : ∃ u, World.setRow w2_ (w.heap.size + 1) ([(.int .i64 v0), (.string v1), (.string v2), (.slice none 0 0), (.int .i64 0), (.int .i64 0), (.int .i64 0), (.slice none 0 0)] : List Value).toArray = u := ⟨_, rfl⟩
  have S6 := S5.set [(.int .i64 v0), (.string v1), (.string v2), (.slice none 0 0), (.int .i64 0), (.int .i64 0), (.int .i64 0), (.slice none 0 0)]
  rw [hx] at S6
  have HX0 := Lib.hid hx; clear hx
  clear S5
  go_wp2_with (refine wpList_store_to rfl 9 (.tmp 14) (.tmp 13) rfl (w.heap.size + 1) 2 (.string v2) rfl rfl rfl [(.int .i64 v0), (.string v1), (.string ⟨#[]⟩), (.slice none 0 0), (.int .i64 0), (.int .i64 0), (.int .i64 0), (.slice none 0 0)] 26 HB0.out (by show 2 < 8; decide) HS_string.out [(.int .i64 v0), (.string v1), (.string v2), (.slice none 0 0), (.int .i64 0), (.int .i64 0), (.int .i64 0), (.slice none 0 0)] rfl x2_0 HX0.out ?_)
  refine (K3.out _ _ _ S6.rd HP3.out).mono ?_
  rintro en w3_ ⟨sv, pp3, rfl, hsl, hls, hF, hp, hk⟩
  have HP4 := Lib.hid hp; clear hp
  have LL : LB aclE w w3_ 2 sv v3 e3 := LB.mk' aclE_ok S6 hsl hls
  have HSL := Lib.hid hsl
  obtain ⟨sa, sn, sc, rfl⟩ := hsl
  clear hls
  have S := S6.call hF hk
  clear hF hk K3 HP3 S6
  have S7 := S; clear S
  have HB0 := Lib.hid S7.box
  obtain ⟨x3_0, hx⟩ : ∃ u, World.setRow w3_ (w.heap.size + 1) ([(.int .i64 v0), (.string v1), (.string v2), (.slice sa sn sc), (.int .i64 0), (.int .i64 0), (.int .i64 0), (.slice none 0 0)] : List Value).toArray = u := ⟨_, rfl⟩
  have S8 := S7.set [(.int .i64 v0), (.string v1), (.string v2), (.slice sa sn sc), (.int .i64 0), (.int .i64 0), (.int .i64 0), (.slice none 0 0)]
  replace LL := LL.set aclE_ok ([(.int .i64 v0), (.string v1), (.string v2), (.slice sa sn sc), (.int .i64 0), (.int .i64 0), (.int .i64 0), (.slice none 0 0)] : List Value).toArray
  rw [hx] at S8 LL
  have HX0 := Lib.hid hx; clear hx
  clear S7
  go_wp2_with (refine wpList_store_to rfl 22 (.tmp 17) (.tmp 16) rfl (w.heap.size + 1) 3 (.slice sa sn sc) rfl rfl rfl [(.int .i64 v0), (.string v1), (.string v2), (.slice none 0 0), (.int .i64 0), (.int .i64 0), (.int .i64 0), (.slice none 0 0)] 26 HB0.out (by show 3 < 8; decide) HS_acls.out [(.int .i64 v0), (.string v1), (.string v2), (.slice sa sn sc), (.int .i64 0), (.int .i64 0), (.int .i64 0), (.slice none 0 0)] rfl x3_0 HX0.out ?_)
  refine (K4.out _ _ _ S8.rd HP4.out).mono ?_
  rintro en w4_ ⟨t4, pp4, rfl, hblk, hgt, hF, hp, hk⟩
  have HP5 := Lib.hid hp; clear hp
  have TB4 : TB w w4_ t4 [v4, v5, v6] := ⟨hblk, Nat.le_trans S8.size hgt⟩
  clear hblk hgt
  replace LL := LL.call aclE_ok S8.old hk
  have S := S8.call hF hk
  clear hF hk K4 HP4 S8
  have S9 := S; clear S
  have HB0 := Lib.hid S9.box
  have d0 := TB4.cell 0 v4 rfl
  obtain ⟨x4_0, hx⟩ : ∃ u, World.setRow w4_ (w.heap.size + 1) ([(.int .i64 v0), (.string v1), (.string v2), (.slice sa sn sc), (.int .i64 v4), (.int .i64 0), (.int .i64 0), (.slice none 0 0)] : List Value).toArray = u := ⟨_, rfl⟩
  have S10 := S9.set [(.int .i64 v0), (.string v1), (.string v2), (.slice sa sn sc), (.int .i64 v4), (.int .i64 0), (.int .i64 0), (.slice none 0 0)]
  replace LL := LL.set aclE_ok ([(.int .i64 v0), (.string v1), (.string v2), (.slice sa sn sc), (.int .i64 v4), (.int .i64 0), (.int .i64 0), (.slice none 0 0)] : List Value).toArray
  replace TB4 := TB4.set ([(.int .i64 v0), (.string v1), (.string v2), (.slice sa sn sc), (.int .i64 v4), (.int .i64 0), (.int .i64 0), (.slice none 0 0)] : List Value).toArray
  rw [hx] at S10 LL TB4
  have HX0 := Lib.hid hx; clear hx
  clear S9
  have HB1 := Lib.hid S10.box
  have d1 := TB4.cell 1 v5 rfl
  obtain ⟨x4_1, hx⟩ : ∃ u, World.setRow x4_0 (w.heap.size + 1) ([(.int .i64 v0), (.string v1), (.string v2), (.slice sa sn sc), (.int .i64 v4), (.int .i64 v5), (.int .i64 0), (.slice none 0 0)] : List Value).toArray = u := ⟨_, rfl⟩
  have S11 := S10.set [(.int .i64 v0), (.string v1), (.string v2), (.slice sa sn sc), (.int .i64 v4), (.int .i64 v5), (.int .i64 0), (.slice none 0 0)]
  replace LL := LL.set aclE_ok ([(.int .i64 v0), (.string v1), (.string v2), (.slice sa sn sc), (.int .i64 v4), (.int .i64 v5), (.int .i64 0), (.slice none 0 0)] : List Value).toArray
  replace TB4 := TB4.set ([(.int .i64 v0), (.string v1), (.string v2), (.slice sa sn sc), (.int .i64 v4), (.int .i64 v5), (.int .i64 0), (.slice none 0 0)] : List Value).toArray
  rw [hx] at S11 LL TB4
  have HX1 := Lib.hid hx; clear hx
  clear S10
  have HB2 := Lib.hid S11.box
  have d2 := TB4.cell 2 v6 rfl
  obtain ⟨x4_2, hx⟩ : ∃ u, World.setRow x4_1 (w.heap.size + 1) ([(.int .i64 v0), (.string v1), (.string v2), (.slice sa sn sc), (.int .i64 v4), (.int .i64 v5), (.int .i64 v6), (.slice none 0 0)] : List Value).toArray = u := ⟨_, rfl⟩
  have S12 := S11.set [(.int .i64 v0), (.string v1), (.string v2), (.slice sa sn sc), (.int .i64 v4), (.int .i64 v5), (.int .i64 v6), (.slice none 0 0)]
  replace LL := LL.set aclE_ok ([(.int .i64 v0), (.string v1), (.string v2), (.slice sa sn sc), (.int .i64 v4), (.int .i64 v5), (.int .i64 v6), (.slice none 0 0)] : List Value).toArray
  replace TB4 := TB4.set ([(.int .i64 v0), (.string v1), (.string v2), (.slice sa sn sc), (.int .i64 v4), (.int .i64 v5), (.int .i64 v6), (.slice none 0 0)] : List Value).toArray
  rw [hx] at S12 LL TB4
  have HX2 := Lib.hid hx; clear hx
  clear S11
  have HRG := Lib.hid (range_row S12.box)
  have HRES := Lib.hid S12.res
  have HSF := Lib.hid S12; clear S12
  have HLL := Lib.hid LL; clear LL
  go_wp2_with (first | (refine wpList_store_to rfl 3 (.tmp 23) (.tmp 22) rfl (w.heap.size + 1) 4 (.int .i64 v4) rfl rfl rfl [(.int .i64 v0), (.string v1), (.string v2), (.slice sa sn sc), (.int .i64 0), (.int .i64 0), (.int .i64 0), (.slice none 0 0)] 26 HB0.out (by show 4 < 8; decide) HS_int.out [(.int .i64 v0), (.string v1), (.string v2), (.slice sa sn sc), (.int .i64 v4), (.int .i64 0), (.int .i64 0), (.slice none 0 0)] rfl x4_0 HX0.out ?_) | (refine wpList_store_to rfl 3 (.tmp 27) (.tmp 26) rfl (w.heap.size + 1) 5 (.int .i64 v5) rfl rfl rfl [(.int .i64 v0), (.string v1), (.string v2), (.slice sa sn sc), (.int .i64 v4), (.int .i64 0), (.int .i64 0), (.slice none 0 0)] 26 HB1.out (by show 5 < 8; decide) HS_int.out [(.int .i64 v0), (.string v1), (.string v2), (.slice sa sn sc), (.int .i64 v4), (.int .i64 v5), (.int .i64 0), (.slice none 0 0)] rfl x4_1 HX1.out ?_) | (refine wpList_store_to rfl 23 (.tmp 31) (.tmp 30) rfl (w.heap.size + 1) 6 (.int .i64 v6) rfl rfl rfl [(.int .i64 v0), (.string v1), (.string v2), (.slice sa sn sc), (.int .i64 v4), (.int .i64 v5), (.int .i64 0), (.slice none 0 0)] 26 HB2.out (by show 6 < 8; decide) HS_errno.out [(.int .i64 v0), (.string v1), (.string v2), (.slice sa sn sc), (.int .i64 v4), (.int .i64 v5), (.int .i64 v6), (.slice none 0 0)] rfl x4_2 HX2.out ?_) | (refine wpList_load_mid rfl 26 (.tmp 3) rfl (w.heap.size + 1) 0 rfl [(.int .i64 v0), (.string v1), (.string v2), (.slice sa sn sc), (.int .i64 v4), (.int .i64 v5), (.int .i64 v6), (.slice none 0 0)] _ HRG.out Try.underlying26 rfl HSZ.out ?_) | (refine wpList_store_row _ rfl 26 (.tmp 2) (.tmp 32) rfl w.heap.size _ [(.int .i64 v0), (.string v1), (.string v2), (.slice sa sn sc), (.int .i64 v4), (.int .i64 v5), (.int .i64 v6), (.slice none 0 0)] rfl rfl HRES.out HSZ.out rfl (by simp [Value.oneCell']) ?_))
  have hrow := setRow_heap _ w.heap.size _ ([(.int .i64 v0), (.string v1), (.string v2), (.slice sa sn sc), (.int .i64 v4), (.int .i64 v5), (.int .i64 v6), (.slice none 0 0)] : List Value).toArray _ _ HRES.out
  have hload := run_loadVar_row (P := Try.prog) _ w.heap.size 26 26 _ (0, 0) _ hrow Try.underlying26 rfl HSZ.out
  have hb := HSF.out.old
  exact ret_cell 2 26 w.heap.size _ Try.results69 rfl hload rfl ⟨[(.int .i64 v0), (.string v1), (.string v2), (.slice sa sn sc), (.int .i64 v4), (.int .i64 v5), (.int .i64 v6), (.slice none 0 0)], _, rfl, ⟨rfl, by simp [Value.oneCell']⟩, by simp, fun h0 => ⟨.slice none 0 0, .slice sa sn sc, rfl, HLL.out.fin aclE_ok _ (HZ.out h0), i0, i1, i2, i4, i5, i6, ⟨_, _, _, rfl⟩⟩, HSF.out.rd.keep (setRow_kept _ _ _) (fun hs => by omega), HP5.out, Kept.trans' HSF.out.kept (setRow_kept _ _ _) (fun k hk hs => by omega)⟩
end Go.Proofs.Ytpmemcpfoapjmaa

namespace Go.Proofs.Ytpmemcpfoapjmaa
open Go.ChangeShapes Go.WideShapes Go.ChangeAt Go.RowKit
set_option linter.unusedVariables false

set_option maxRecDepth 100000 in
set_option maxHeartbeats 1600000 in
theorem reftake_txn (w : World) (b : Nat) (s : ByteArray) (p pos e : Nat) (hF : FAt w b s p e) (hp : e = 0 → p = pos) {x : Txn} {q e' : Nat} (h : txnF.get s.data.toList pos e = (x, q, e')) :
    Calls Try.prog 55 #[.pointer (some ⟨b, 0, none⟩)] w (FGPost txnE 8 [] w b s x q e') := by
  have HSE := Lib.hid (show (Try.prog.info? 26).map (·.size) = some 8 by kernel_rfl)
  have HSS := Lib.hid (show (Try.prog.info? 24).map (·.size) = some 1 by kernel_rfl)
  obtain ⟨i, hi, hz0, hz1, hz2⟩ := info_parts info_part
  have HI := Lib.hid (And.intro hi (And.intro hz0 (And.intro hz1 hz2)))
  clear hi hz0 hz1 hz2
  obtain ⟨x1, q1, e0, g1⟩ : ∃ aa qq ee, partF.get s.data.toList pos e = (aa, qq, ee) := ⟨_, _, _, eta3 _⟩
  have hcl := rCount_le s.data.toList 256 q1 e0
  rcases g2 : rCount s.data.toList 256 q1 e0 with ⟨n, p1, e1⟩
  rw [g2] at hcl
  obtain ⟨xs, q3, e3, g3⟩ : ∃ aa qq ee, getN partF.get n s.data.toList p1 e1 = (aa, qq, ee) := ⟨_, _, _, eta3 _⟩
  have hget : txnF.get s.data.toList pos e = (⟨x1, xs⟩, q3, e3) := by simp only [txnF, isoF, seqF, listF, g1, g2, g3]
  rw [hget] at h
  simp only [Prod.mk.injEq] at h
  obtain ⟨rfl, rfl, rfl⟩ := h
  have hlist : (listF partF).get s.data.toList q1 e0 = (xs, q3, e3) := by simp only [listF, g2, g3]
  have HZ := Lib.hid (show e3 = 0 → e0 = 0 from fun h0 => back0 (listF_ok partF_ok) hlist h0)
  have K1 := Lib.hid (reftake_part w b s p pos e hF hp g1)
  have KC := Lib.hid (fun (W : World) (p : Nat) (hF : FAt W b s p e0) (hp : e0 = 0 → p = q1) => refcnt_any W b s p q1 e0 hF hp g2)
  have HH := Lib.hid g3
  have hn : n ≤ 256 := by have h := hcl; simp only at h; omega
  have hbw := lt_of_block hF.at_
  have hK0 : Kept (RS b) w (w.alloc (.cells ([.int .i64 0, .string ⟨#[]⟩, .string ⟨#[]⟩, .slice none 0 0, .int .i64 0, .int .i64 0, .int .i64 0, .slice none 0 0] : List Value).toArray 26)) := (Kept.refl _ w).alloc _
  have hF0 : FAt (w.alloc (.cells ([.int .i64 0, .string ⟨#[]⟩, .string ⟨#[]⟩, .slice none 0 0, .int .i64 0, .int .i64 0, .int .i64 0, .slice none 0 0] : List Value).toArray 26)) b s p e := hF.keep ((Kept.refl (fun _ => False) w).alloc _) id
  have hres0 := heap_alloc_new w (.cells ([.int .i64 0, .string ⟨#[]⟩, .string ⟨#[]⟩, .slice none 0 0, .int .i64 0, .int .i64 0, .int .i64 0, .slice none 0 0] : List Value).toArray 26)
  have K1 := Lib.hid (reftake_part (w.alloc (.cells ([.int .i64 0, .string ⟨#[]⟩, .string ⟨#[]⟩, .slice none 0 0, .int .i64 0, .int .i64 0, .int .i64 0, .slice none 0 0] : List Value).toArray 26)) b s p pos e hF0 hp g1)
  have HK0 := Lib.hid hK0
  have HRES0 := Lib.hid hres0
  clear hget g1 g2 g3 hlist hcl hF hF0 hp hK0 hres0
  go_enter Try.func55, Try.ntmps55
  go_wp2_with fail
  refine K1.out.mono ?_
  rintro en w0 ⟨cs, p0, rfl, hfl, hnl, hE0, hF0, hp0, hk0⟩
  have hA : Kept (fun _ => False) w0 (w0.alloc (.cells cs.toArray 26)) := (Kept.refl _ w0).alloc _
  have hK1 : Kept (RS b) w (w0.alloc (.cells cs.toArray 26)) := Kept.trans' (HK0.out.trans hk0) hA (fun j _ hj => hj.elim)
  have hgz : w.heap.size + 1 ≤ w0.heap.size := by have := hk0.size; simp at this; omega
  have hres1 : (w0.alloc (.cells cs.toArray 26)).heap[w.heap.size]? = some (.cells ([.int .i64 0, .string ⟨#[]⟩, .string ⟨#[]⟩, .slice none 0 0, .int .i64 0, .int .i64 0, .int .i64 0, .slice none 0 0] : List Value).toArray 26 (0, 0)) :=
    (hA.block _ (by omega) id).trans ((hk0.block _ (by simp) (fun hs => by have hs' : w.heap.size = b := hs; omega)).trans HRES0.out)
  have hbox1 := heap_alloc_new w0 (.cells cs.toArray 26)
  have hF1 := hF0.keep hA id
  have hE1 : WkE e0 partE (w0.alloc (.cells cs.toArray 26)) (fun j => w.heap.size + 1 ≤ j ∧ j ≠ w0.heap.size) cs x1 :=
    (WkE_ok partE_ok).keep ((WkE_ok partE_ok).mono hE0 (fun j hj hj' => ⟨by have h2 : (w.alloc (.cells ([.int .i64 0, .string ⟨#[]⟩, .string ⟨#[]⟩, .slice none 0 0, .int .i64 0, .int .i64 0, .int .i64 0, .slice none 0 0] : List Value).toArray 26)).heap.size ≤ j := hj'; simpa using h2, by omega⟩)) hA (disj_none _)
  have HP0 := Lib.hid hp0
  have HFL0 := Lib.hid hfl
  have HCL := Lib.hid hfl.1
  have hw1z : w0.heap.size < (w0.alloc (.cells cs.toArray 26)).heap.size := by simp
  have hnil : cs[7]? = some (.slice none 0 0) := hnl 7 (by simp)
  have HNIL := Lib.hid hnil
  clear hk0 hF0 hp0 hE0 hfl hnl hA K1 HK0 HRES0 hnil
  obtain ⟨g, hg⟩ : ∃ g, w0.heap.size = g := ⟨_, rfl⟩
  rw [hg] at hgz hbox1 hE1 hw1z
  have HG0 := Lib.hid hg; clear hg
  have HFL := HFL0
  go_wp2_with (refine wpList_store_new w0 rfl 26 _ _ rfl _ cs rfl rfl (by rw [HFL.out.1]; exact HSE.out) HFL.out.1.symm HFL.out.2 ?_)
  generalize hw1 : w0.alloc (.cells cs.toArray 26) = w1 at hK1 hres1 hbox1 hF1 hE1 hw1z
  rw [HG0.out]
  clear hw1 HG0
  have HBOX1 := Lib.hid hbox1
  have HRES1 := Lib.hid hres1
  have HE1 := Lib.hid hE1
  have HK1 := Lib.hid hK1
  clear hbox1 hres1 hE1 hK1 HFL
  refine (KC.out _ _ hF1 HP0.out).mono ?_
  rintro en wl ⟨pl, rfl, hFl, hpl, hkl⟩
  have hzl : w1.heap.size ≤ wl.heap.size := hkl.size
  have hbl : b < wl.heap.size := by omega
  have hgl : g < wl.heap.size := by omega
  have hbg : b ≠ g := by omega
  have HB := Lib.hid hbl; clear hbl
  have HG := Lib.hid hgl; clear hgl
  have HBG := Lib.hid hbg
  have hboxl : wl.heap[g]? = some (.cells cs.toArray 26 (0, 0)) := (hkl.block _ hw1z (fun hs => by have hs' : g = b := hs; omega)).trans HBOX1.out
  have HRESL := Lib.hid ((hkl.block _ (by omega) (fun hs => by have hs' : w.heap.size = b := hs; omega)).trans HRES1.out)
  have HEL := Lib.hid ((WkE_ok partE_ok).keep HE1.out hkl (fun j hj hj' => by have h2 : j = b := hj'; have h1 := hj.1; omega))
  have HKL := Lib.hid (HK1.out.trans hkl)
  have HSTART := Lib.hid (SubRel.start (E := partE) (f := partF) (Te := 26) (sz := 8) (n := n) hFl hpl hboxl HNIL.out)
  clear hFl hpl hboxl HNIL hkl hF1 HP0 HE1 HK1 HRES1 HBOX1 KC hbg
  go_wp2_with fail
  go_loopw [5] (fun iv wr => SubRel partE partF b s 26 g cs 7 wl 26 8 n p1 e1 iv wr) (fun iv _ => n - (intOf iv).toNat)
  case atStart => exact HSTART.out
  case round =>
    obtain ⟨k, pk, acc, rfl, hkn, hacc, hFk, hpk, hbox, hK⟩ := hrel.ex
    clear hrel HSTART
    have hkz : wl.heap.size ≤ wr.heap.size := hK.size
    by_cases hgo : k < n ∧ (getN partF.get k s.data.toList p1 e1).2.2 = 0
    · obtain ⟨hlt, hz⟩ := hgo
      have hkl : (k : Int) < (n : Int) := by omega
      rcases hgn : getN partF.get k s.data.toList p1 e1 with ⟨ys, qk, ek⟩
      have hlen := getN_len (partF).get k s.data.toList p1 e1
      have hsn := getN_snoc (partF).get k s.data.toList p1 e1
      rw [hgn] at hacc hFk hpk hz hlen hsn
      simp only at hacc hFk hpk hz hlen hsn
      subst hz
      obtain ⟨y, qb, eb, gy⟩ : ∃ aa qq ee, partF.get s.data.toList qk 0 = (aa, qq, ee) := ⟨_, _, _, eta3 _⟩
      rw [gy] at hsn
      simp only at hsn
      have KY := Lib.hid (fun (W : World) (p : Nat) (hF : FAt W b s p 0) (hp : 0 = 0 → p = qk) => reftake_part W b s p qk 0 hF hp gy)
      have HSN := Lib.hid hsn
      have c2 := hFk.c2
      have HPK := Lib.hid hpk
      clear hgn gy hsn hpk
      go_wp2_with fail
      refine (KY.out _ _ hFk HPK.out).mono ?_
      rintro en w1 ⟨cy, pb, rfl, hfl, _, hEy, hFb, hpb, hkb⟩
      have HPB := Lib.hid hpb
      have hacc1 : AccR (WkE eb partE) wl w1 26 8 acc ys := sub_call partE_ok HB.out HBG.out hacc hkb
      have hE1 := sub_elem (c := cy) (y := y) partE_ok hacc hkz hEy
      have hwb : w1.heap[g]? = some (.cells (cs.set 7 acc).toArray 26 (0, 0)) := (hkb.block _ (lt_of_block hbox) (fun hs => by have hs' : g = b := hs; have := HBG.out; omega)).trans hbox
      have hK1 : Kept (BG b g) wl w1 := Kept.trans' hK hkb (fun j _ hj => Or.inl hj)
      have hA : Kept (fun _ => False) w1 (w1.alloc (.cells cy.toArray 26)) := (Kept.refl _ w1).alloc _
      have hacc2 := hacc1.keep (WkE_ok partE_ok) hA (disj_none _)
      have hE2 := (WkE_ok partE_ok).keep hE1 hA (disj_none _)
      have hbox2 := (hA.block _ (lt_of_block hwb) id).trans hwb
      have hF2 := hFb.keep hA id
      have hK2 : Kept (BG b g) wl (w1.alloc (.cells cy.toArray 26)) := Kept.trans' hK1 hA (fun j _ hj => hj.elim)
      have hnew := heap_alloc_new w1 (.cells cy.toArray 26)
      have hwl : wl.heap.size ≤ (w1.alloc (.cells cy.toArray 26)).heap.size := hK2.size
      have hg7 : (cs.set 7 acc)[7]? = some acc := by rw [List.getElem?_set_self (by rw [HCL.out]; decide)]
      have HFL := Lib.hid hfl
      clear hacc hE1 hacc1 hEy hbox hwb hA hK1 hkb hpb hK hFk hFb hfl c2 HPK KY
      generalize hw2 : w1.alloc (.cells cy.toArray 26) = w2 at hacc2 hE2 hbox2 hF2 hK2 hnew hwl
      have c7 : w2.cell? ⟨g, 7, none⟩ = some acc := cell_of_heap hbox2 hg7
      have HRY := Lib.hid (range_row hnew)
      have HBOX := Lib.hid hbox2
      have HW2 := Lib.hid hw2
      have HBZ := Lib.hid (lt_of_block hbox2)
      have hsl := hacc2.isSl
      clear hw2 hnew hbox2 hg7
      go_upto_region 7 with (refine wpList_store_new w1 rfl 26 _ _ rfl _ cy rfl rfl (by rw [HFL.out.1]; exact HSE.out) HFL.out.1.symm HFL.out.2 ?_)
      rw [HW2.out]
      obtain ⟨an0, an1, an2, rfl⟩ := hsl
      go_wp2_with (first
        | (refine wpList_load_mid rfl 26 (.tmp 6) rfl w1.heap.size 0 rfl cy _ HRY.out Try.underlying26 rfl (by rw [HFL.out.1]; exact HSE.out) ?_)
        | (refine wpList_one rfl 24 26 (.tmp 27) rfl (.agg cy.toArray) cy rfl rfl i _ Try.underlying24 HI.out.1 HI.out.2.1 (by rw [HI.out.2.2.1, HFL.out.1]) (by rw [HFL.out.1]; decide) (by rw [HFL.out.1]; decide) ?_)
        | (at_builtin; go_loud (refine wpList_push (WkE_ok partE_ok) wl w2 rfl (.tmp 26) (.tmp 28) 24 rfl 26 i _ 8 112 Try.underlying24 HI.out.1 HI.out.2.1 HI.out.2.2.1 HI.out.2.2.2 rfl (by decide) (.slice an0 an1 an2) _ hacc2 cy _ hE2 HFL.out rfl rfl (by omega) (by decide) hwl ?_); intro v' w' hacc' hk'; have hslv := hacc'.isSl; obtain ⟨bn0, bn1, bn2, rfl⟩ := hslv; have HBOX' := Lib.hid ((hk'.block _ HBZ.out (fun hs => by have hs' : wl.heap.size ≤ g := hs; have := HG.out; omega)).trans HBOX.out))
        | (refine wpList_store_to rfl 24 (.tmp 30) (.tmp 29) rfl g 7 (.slice bn0 bn1 bn2) rfl rfl rfl (cs.set 7 (.slice an0 an1 an2)) 26 HBOX'.out (by rw [List.length_set, HCL.out]; decide) HSS.out _ rfl _ rfl ?_))
      go_roundw
      case rel => exact SubRel.step partE_ok HB.out HG.out HBG.out hlt HSN.out hacc' (hF2.keep hk' (fun hs => by have hs' : wl.heap.size ≤ b := hs; have := HB.out; omega)) HPB.out HBOX'.out (Kept.trans' hK2 hk' (fun j hj hs => by have hs' : wl.heap.size ≤ j := hs; omega))
      case measure => simp [intOf]; omega
    · obtain ⟨hend, hee⟩ := SubRel.out (cs := cs) (T := 26) (g := g) (idx := 7) partE_ok partF_ok hgo hkn HH.out hacc hFk hpk hbox hK
      have hex : ¬ k < n ∨ (k < n ∧ e3 ≠ 0) := by rw [hee] at hgo; omega
      have HEX := Lib.hid hex
      have HEND := Lib.hid hend
      have c2 := hend.rd.c2
      clear hgo hee hex hacc hFk hpk hbox hK hend hkz
      go_upto_region 4 with fail
      go_cut [20] (fun v wx => v = .bool false ∧ wx = wr)
      case first =>
        rcases HEX.out with hlt | ⟨hlt, hne⟩
        · have hkl : ¬ (k : Int) < (n : Int) := by omega
          go_wp2_with fail
          go_meet
          exact ⟨rfl, rfl⟩
        · have hkl : (k : Int) < (n : Int) := by omega
          have hneb : (((e3 : Nat) : Int) == 0) = false := by simpa using hne
          go_wp2_with fail
          go_meet
          exact ⟨rfl, rfl⟩
      case rest =>
      obtain ⟨rfl, rfl⟩ := hcut
      clear c2 HEX
      have HBX := Lib.hid HEND.out.box
      have HRG := Lib.hid (range_row HBX.out)
      have HRES := Lib.hid ((HEND.out.kept.block _ (by have := HB.out; omega) (fun hs => by rcases hs with hs | hs <;> omega)).trans HRESL.out)
      obtain ⟨sa, sn, sc, rfl⟩ := HEND.out.shape
      have hfs : Flat 8 (cs.set 7 (.slice sa sn sc)) := flat_set HFL0.out 7 rfl
      have HFS := Lib.hid hfs; clear hfs
      have HSE2 := Lib.hid (info_len HSE.out HFS.out.1)
      go_wp2_with (first
        | (refine wpList_load_mid rfl 26 (.tmp 3) rfl g 0 rfl (cs.set 7 (.slice sa sn sc)) _ HRG.out Try.underlying26 rfl HSE2.out ?_)
        | (refine wpList_store_row _ rfl 26 (.tmp 2) (.tmp 31) rfl w.heap.size _ (cs.set 7 (.slice sa sn sc)) rfl rfl HRES.out HSE2.out HFS.out.1.symm HFS.out.2 ?_))
      have hrow := setRow_heap _ w.heap.size _ (cs.set 7 (.slice sa sn sc)).toArray _ _ HRES.out
      have hload := run_loadVar_row (P := Try.prog) _ w.heap.size 26 26 _ (0, 0) _ hrow Try.underlying26 rfl (by rw [List.size_toArray]; exact HSE2.out)
      have hKf : Kept (RS b) w wc := Kept.trans' HKL.out HEND.out.kept (fun j hj hs => by rcases hs with hs | hs; exact hs; omega)
      refine ret_cell 2 26 w.heap.size _ Try.results55 rfl hload rfl ⟨_, pk, rfl, HFS.out, by simp, fun h0 => ?_, HEND.out.rd.keep (setRow_kept _ _ _) (fun hs => by omega), HEND.out.pos, Kept.trans' hKf (setRow_kept _ _ _) (fun k hk hs => by omega)⟩
      have hp1 := HEL.out (HZ.out h0)
      have hp2 := partE_ok.keep hp1 HEND.out.kept (fun j hj hs => by rcases hs with hs | hs; (have := hj.1; omega); exact hj.2 hs)
      have hp3 := partE_ok.mono (partE_ok.keep hp2 (setRow_kept wc w.heap.size (cs.set 7 (.slice sa sn sc)).toArray) (fun j hj hs => by have := hj.1; have hs' : j = w.heap.size := hs; omega)) (ok' := New w) (fun j _ hj => by have := hj.1; unfold New; omega)
      have hl3 := ((HEND.out.list h0).keep partE_ok (setRow_kept wc w.heap.size (cs.set 7 (.slice sa sn sc)).toArray) (fun j hj hs => by have h1 : wl.heap.size ≤ j := hj; have hs' : j = w.heap.size := hs; omega)).mono partE_ok (ok' := New w) (fun j _ hj => by have h1 : wl.heap.size ≤ j := hj; unfold New; omega)
      exact ⟨_, partQ_set hp3 ⟨_, _, _, rfl⟩, hl3⟩
end Go.Proofs.Ytpmemcpfoapjmaa

namespace Go.Proofs.Ytpmemcpfoapjmaa
open Go.ChangeShapes Go.WideShapes Go.ChangeAt Go.RowKit
set_option linter.unusedVariables false

theorem split8 {l : List Value} (h : l.length = 8) : ∃ v0 v1 v2 v3 v4 v5 v6 v7, l = [v0, v1, v2, v3, v4, v5, v6, v7] := by
  match l, h with
  | [v0, v1, v2, v3, v4, v5, v6, v7], _ => exact ⟨v0, v1, v2, v3, v4, v5, v6, v7, rfl⟩

set_option maxRecDepth 100000 in
set_option maxHeartbeats 3200000 in
theorem reftake_entry (w : World) (b : Nat) (s : ByteArray) (p pos e : Nat) (hF : FAt w b s p e) (hp : e = 0 → p = pos) {x : Entry} {q e' : Nat} (h : entryF.get s.data.toList pos e = (x, q, e')) :
    Calls Try.prog 36 #[.pointer (some ⟨b, 0, none⟩)] w (FGPost entryE 11 [] w b s x q e') := by
  have HSZ := Lib.hid (show (Try.prog.info? 28).map (·.size) = some 11 by kernel_rfl)
  have HST := Lib.hid (show (Try.prog.info? 26).map (·.size) = some 8 by kernel_rfl)
  obtain ⟨v0, q0, e0, g0⟩ : ∃ aa qq ee, numF.get s.data.toList pos e = (aa, qq, ee) := ⟨_, _, _, eta3 _⟩
  obtain ⟨v1, q1, e1, g1⟩ : ∃ aa qq ee, numF.get s.data.toList q0 e0 = (aa, qq, ee) := ⟨_, _, _, eta3 _⟩
  obtain ⟨v2, q2, e2, g2⟩ : ∃ aa qq ee, numF.get s.data.toList q1 e1 = (aa, qq, ee) := ⟨_, _, _, eta3 _⟩
  obtain ⟨t, q3, e3, g3⟩ : ∃ aa qq ee, txnF.get s.data.toList q2 e2 = (aa, qq, ee) := ⟨_, _, _, eta3 _⟩
  have hget : entryF.get s.data.toList pos e = (⟨v0, v1, v2, t⟩, q3, e3) := by simp only [entryF, isoF, seqF, g0, g1, g2, g3]
  rw [hget] at h
  simp only [Prod.mk.injEq] at h
  obtain ⟨rfl, rfl, rfl⟩ := h
  have i0 : I64 v0 := num_fit g0
  have i1 : I64 v1 := num_fit g1
  have i2 : I64 v2 := num_fit g2
  have hn3 : numsN 3 s.data.toList pos e = ([v0, v1, v2], q2, e2) := by simp only [numsN, getN, g0, g1, g2]
  have K0 := Lib.hid (ftake_of (by decide) hn3)
  have K1 := Lib.hid (fun (W : World) (p : Nat) (hF : FAt W b s p e2) (hp : e2 = 0 → p = q2) => reftake_txn W b s p q2 e2 hF hp g3)
  have hbw := lt_of_block hF.at_
  have hF0 : FAt (w.alloc (.cells ([.int .i64 0, .int .i64 0, .int .i64 0, .int .i64 0, .string ⟨#[]⟩, .string ⟨#[]⟩, .slice none 0 0, .int .i64 0, .int .i64 0, .int .i64 0, .slice none 0 0] : List Value).toArray 28)) b s p e := hF.keep ((Kept.refl (fun _ => False) w).alloc _) id
  have HRES0 := Lib.hid (heap_alloc_new w (.cells ([.int .i64 0, .int .i64 0, .int .i64 0, .int .i64 0, .string ⟨#[]⟩, .string ⟨#[]⟩, .slice none 0 0, .int .i64 0, .int .i64 0, .int .i64 0, .slice none 0 0] : List Value).toArray 28))
  have HP := Lib.hid hp
  clear hget g0 g1 g2 g3 hn3 hF hp
  go_enter Try.func36, Try.ntmps36
  go_wp2_with fail
  refine (K0.out _ _ _ hF0 HP.out).mono ?_
  rintro en w0 ⟨tk, p0, rfl, hblk, hgt, hF1, hp1, hk0⟩
  have hz0 : w.heap.size + 1 ≤ w0.heap.size := by have := hk0.size; simpa using this
  have hgt1 : w.heap.size + 1 ≤ tk := by simpa using hgt
  clear hgt
  have HP1 := Lib.hid hp1
  have HRES1 := Lib.hid ((hk0.block _ (by simp) (fun hs => by have hs' : w.heap.size = b := hs; omega)).trans HRES0.out)
  have HBLK := Lib.hid hblk
  have HK0 := Lib.hid (Kept.trans' ((Kept.refl (RS b) w).alloc _) hk0 (fun _ _ h => h))
  clear hblk hp1 hk0 hF0 HRES0 HP K0
  go_wp2_with fail
  refine (K1.out _ _ hF1 HP1.out).mono ?_
  rintro en w1 ⟨cs, p2, rfl, hfl, hnl, hE1, hF2, hp2, hk1⟩
  have hz1 := hk1.size
  obtain ⟨a0, a1, a2, a3, a4, a5, a6, a7, rfl⟩ := split8 hfl.1
  have hone := hfl.2
  have HP2 := Lib.hid hp2
  have HRES2 := Lib.hid ((hk1.block _ (lt_of_block HRES1.out) (fun hs => by have hs' : w.heap.size = b := hs; omega)).trans HRES1.out)
  have hblk2 := (hk1.block _ (lt_of_block HBLK.out) (fun hs => by have hs' : tk = b := hs; omega)).trans HBLK.out
  have hbox := heap_alloc_new w1 (.cells ([a0, a1, a2, a3, a4, a5, a6, a7] : List Value).toArray 26)
  have hA : Kept (fun _ => False) w1 (w1.alloc (.cells ([a0, a1, a2, a3, a4, a5, a6, a7] : List Value).toArray 26)) := (Kept.refl _ w1).alloc _
  have HONE := Lib.hid hone
  have HFL := Lib.hid hfl
  have hblk3 := (hA.block _ (lt_of_block hblk2) id).trans hblk2
  have hres3 := (hA.block _ (lt_of_block HRES2.out) id).trans HRES2.out
  have hE3 := (WkE_ok txnE_ok).keep hE1 hA (disj_none _)
  have hF3 := hF2.keep hA id
  have hK3 := Kept.trans' (HK0.out.trans hk1) hA (fun _ _ h => h.elim)
  clear hfl hnl hE1 hF2 hk1 hone HRES1 HBLK HK0 hF1 HP1 K1 hp2 hblk2 HRES2
  go_upto_region 3 with (refine wpList_store_new w1 rfl 26 _ _ rfl _ [a0, a1, a2, a3, a4, a5, a6, a7] rfl rfl HST.out rfl HONE.out ?_)
  generalize w1.alloc (.cells ([a0, a1, a2, a3, a4, a5, a6, a7] : List Value).toArray 26) = w2 at hbox hblk3 hres3 hE3 hF3 hK3 hA
  have d0 : w2.cell? ⟨tk, 0, none⟩ = some (.int .i64 v0) := cell_of_heap hblk3 rfl
  have d1 : w2.cell? ⟨tk, 1, none⟩ = some (.int .i64 v1) := cell_of_heap hblk3 rfl
  have d2 : w2.cell? ⟨tk, 2, none⟩ = some (.int .i64 v2) := cell_of_heap hblk3 rfl
  have hcc := fun i v hv => cell_of_heap (i := i) (v := v) hbox hv
  have b0 := hcc 0 _ rfl
  have b1 := hcc 1 _ rfl
  have b2 := hcc 2 _ rfl
  have b3 := hcc 3 _ rfl
  have b4 := hcc 4 _ rfl
  have b5 := hcc 5 _ rfl
  have b6 := hcc 6 _ rfl
  have b7 := hcc 7 _ rfl
  have HRES3 := Lib.hid hres3
  have HE3 := Lib.hid hE3
  have HF3 := Lib.hid hF3
  have HK3 := Lib.hid hK3
  have HI := Lib.hid (And.intro i0 (And.intro i1 i2))
  clear hcc hbox hblk3 hres3 hE3 hF3 hK3 hA i0 i1 i2
  go_still_tail 11, (by kernel_rfl)
  change wpList _ _ _ _ _ w2.drew
  have HRY : Hid (w2.drew.heap[w.heap.size]? = _) := HRES3
  have HFY := Lib.hid (show FAt w2.drew b s p2 e3 from HF3.out.drewN 1)
  have HKY := Lib.hid (show Kept (RS b) w w2.drew from HK3.out.drewN 1)
  have HEY := Lib.hid (show WkE e3 txnE w2.drew (New w0) [a0, a1, a2, a3, a4, a5, a6, a7] t from (WkE_ok txnE_ok).keep HE3.out ((Kept.refl (fun _ => False) w2).drewN 1) (disj_none _))
  generalize w2.drew = wy at HRY HFY HKY HEY ⊢
  have hone : ∀ v ∈ [Value.int .i64 v0, .int .i64 v1, .int .i64 v2, a0, a1, a2, a3, a4, a5, a6, a7], v.oneCell' = true := fun v hv => by
    simp only [List.mem_cons, List.not_mem_nil, or_false] at hv
    rcases hv with rfl | rfl | rfl | hv
    · rfl
    · rfl
    · rfl
    · exact HONE.out v (by simpa using hv)
  have HONE2 := Lib.hid hone; clear hone
  clear d0 d1 d2 b0 b1 b2 b3 b4 b5 b6 b7
  go_wp2_with (refine wpList_store_row _ rfl 28 (.tmp 2) (.tmp 19) rfl w.heap.size _ [.int .i64 v0, .int .i64 v1, .int .i64 v2, a0, a1, a2, a3, a4, a5, a6, a7] rfl rfl HRY.out HSZ.out rfl HONE2.out ?_)
  have hrow := setRow_heap wy w.heap.size _ ([.int .i64 v0, .int .i64 v1, .int .i64 v2, a0, a1, a2, a3, a4, a5, a6, a7] : List Value).toArray _ _ HRY.out
  have hload := run_loadVar_row (P := Try.prog) _ w.heap.size 28 28 _ (0, 0) _ hrow Try.underlying28 rfl (by rw [List.size_toArray]; exact HSZ.out)
  refine ret_cell 2 28 w.heap.size _ Try.results36 rfl hload rfl ⟨_, p2, rfl, ⟨rfl, HONE2.out⟩, by simp, fun h0 => ?_, HFY.out.keep (setRow_kept _ _ _) (fun hs => by omega), HP2.out, Kept.trans' HKY.out (setRow_kept _ _ _) (fun k hk hs => by omega)⟩
  have ht := txnE_ok.mono (txnE_ok.keep (HEY.out h0) (setRow_kept wy w.heap.size ([.int .i64 v0, .int .i64 v1, .int .i64 v2, a0, a1, a2, a3, a4, a5, a6, a7] : List Value).toArray) (fun j hj hs => by have h1 : w0.heap.size ≤ j := hj; have hs' : j = w.heap.size := hs; omega)) (ok' := New w) (fun j _ hj => by have h1 : w0.heap.size ≤ j := hj; unfold New; omega)
  exact ⟨[a0, a1, a2, a3, a4, a5, a6, a7], rfl, ht, HI.out.1, HI.out.2.1, HI.out.2.2⟩
end Go.Proofs.Ytpmemcpfoapjmaa

namespace Go.Proofs.Ytpmemcpfoapjmaa
open Go.ChangeShapes Go.WideShapes Go.ChangeAt Go.RowKit
set_option linter.unusedVariables false

theorem put_acl (x : Acl) (cs : List Value) (ok : Nat → Prop) (w : World) (b : Nat) (v : Value) (l : List UInt8) (hW : WAt w b v l) (hE : aclE w ok cs x) (hd : Disj ok (WS b v)) (hi : In w ok) (hl : l.length + (aclF.lay x).length ≤ 144900000000000) :
    Calls Try.prog 66 #[.pointer (some ⟨b, 0, none⟩), .agg cs.toArray] w (WPost w b v (l ++ aclF.lay x)) := by
  obtain ⟨rfl, h1, h2⟩ := hE
  exact putAcl_any x w b v l hW h1 h2 hl

set_option maxRecDepth 100000 in
theorem putList_acl (xs : List Acl) (sv : Value) (ok : Nat → Prop) (w : World) (b : Nat) (v : Value) (l : List UInt8) (hW : WAt w b v l) (hL : ListR aclE w ok 2 sv xs) (hd : Disj ok (WS b v)) (hi : In w ok) (hl : l.length + ((listF aclF).lay xs).length ≤ 144900000000000) :
    Calls Try.prog 65 #[.pointer (some ⟨b, 0, none⟩), sv, .func (.func 66) #[] #[]] w (WPost w b v (l ++ (listF aclF).lay xs)) := by
  obtain ⟨rows, ⟨A, c, rfl, hlc, hm, hat⟩, hlen, hel⟩ := hL
  unfold maxLen at hm
  have hlen1 : rows.length ≤ xs.length := by omega
  have hlen2 : xs.length ≤ rows.length := by omega
  have hfin := (show (listF aclF).lay xs = sev xs.length ++ layN aclF xs from rfl)
  rw [hfin] at hl ⊢
  rw [← hlen] at hl ⊢
  clear hfin hlen
  rw [List.length_append] at hl
  go_enter Try.func65, Try.ntmps65
  go_wp2_with fail
  refine (wcount_wide rows.length _ b v l hW (by omega) (by omega)).mono ?_
  rintro e w0 h0
  obtain ⟨v0, rfl, S0⟩ := (WSt.start hW).step h0
  clear h0
  go_wp2_with fail
  go_loopw [14] (fun iv wr => PutRelL w b v (l ++ sev rows.length) xs.length (fun k => layN aclF (xs.take k)) iv wr) (fun iv _ => xs.length - (intOf iv).toNat)
  case atStart => exact ⟨0, v0, rfl, Nat.zero_le _, by simpa [layN] using S0⟩
  case round =>
    obtain ⟨k, v1, rfl, hk, S1⟩ := hrel.ex
    clear hrel S0
    by_cases hlt : k < xs.length
    · have hkr : k < rows.length := by omega
      rcases hat with h0 | ⟨g, off, rfl, hok, hg, hc⟩
      · simp [h0.1] at hkr
      have hE := aclE_ok.keep (hel k hlt hkr) S1.kept hd
      have hcell : ∀ j (hj : j < rows[k].length), wr.cell? ⟨g, off + k * 2 + j, none⟩ = some rows[k][j] := fun j hj => by
        rw [← (hc k hkr).2 j hj]; exact World.cell?_of_block (S1.kept.block g hg (hd g hok.1))
      have hle := layN_le (f := aclF) hlt
      have HTK := Lib.hid (layN_take (f := aclF) hlt)
      generalize rows[k] = cs at hcell hE
      generalize xs[k] = x at hle hE HTK
      clear hc hel
      obtain ⟨rfl, _⟩ := id hE
      have c0 : wr.cell? ⟨g, off + k * 2, none⟩ = some (.int .i64 x.perms) := hcell 0 (by simp)
      have c1 : wr.cell? ⟨g, off + k * 2 + 1, none⟩ = some (.string x.id) := hcell 1 (by simp)
      clear hcell
      have hkl : (k : Int) < (rows.length : Int) := by omega
      have hd1 := (hd.symm.sep hi S1.sep).symm
      have hi1 : In wr ok := hi.kept S1.kept
      have hll : (l ++ sev rows.length ++ layN aclF (xs.take k)).length + (aclF.lay x).length ≤ 144900000000000 := by simp only [List.length_append]; omega
      have hcall : ∀ (o : Obj), Calls Try.prog 66 #[.pointer (some ⟨b, 0, none⟩), .agg #[.int .i64 x.perms, .string x.id]] (wr.alloc o) (WPost (wr.alloc o) b v1 (l ++ sev rows.length ++ layN aclF (xs.take k) ++ aclF.lay x)) := fun o =>
        put_acl x _ ok _ b v1 _ (S1.alloc o).at_ (aclE_ok.keep hE ((Kept.refl (fun _ => False) wr).alloc o) (disj_none ok)) hd1 (hi1.kept ((Kept.refl (fun _ => False) wr).alloc o)) hll
      have HCALL := Lib.hid hcall
      have HS := Lib.hid (fun (o : Obj) => S1.alloc o)
      clear hcall hE S1 hd1 hi1 hll
      go_wp2_with fail
      refine (HCALL.out _).mono ?_
      rintro e w2 h2
      obtain ⟨v2, rfl, S2⟩ := (HS.out _).step h2
      clear h2 HCALL HS
      go_wp2_with fail
      go_roundw
      case rel => exact ⟨k + 1, v2, rfl, hlt, by rw [HTK.out, ← List.append_assoc]; exact S2⟩
      case measure => simp [intOf]; omega
    · have hkl : ¬ (k : Int) < (rows.length : Int) := by omega
      obtain rfl : k = xs.length := by omega
      go_wp2_with fail
      go_end0
      exact S1.fin (by rw [List.take_length, List.append_assoc])
end Go.Proofs.Ytpmemcpfoapjmaa

namespace Go.Proofs.Ytpmemcpfoapjmaa
open Go.ChangeShapes Go.WideShapes Go.ChangeAt Go.RowKit
set_option linter.unusedVariables false

set_option maxRecDepth 100000 in
set_option maxHeartbeats 600000 in
theorem put_part (x : Part) (cs : List Value) (ok : Nat → Prop) (w : World) (b : Nat) (v : Value) (l : List UInt8) (hW : WAt w b v l) (hE : partE w ok cs x) (hd : Disj ok (WS b v)) (hi : In w ok) (hl : l.length + (partF.lay x).length ≤ 144900000000000) :
    Calls Try.prog 48 #[.pointer (some ⟨b, 0, none⟩), .agg cs.toArray] w (WPost w b v (l ++ partF.lay x)) := by
  obtain ⟨vsubs, vacl, rfl, hacl, hn_kind, hs_path, hs_data, hn_owner, hn_number, hn_err, gsubs⟩ := hE
  obtain ⟨A_acl, n_acl, c_acl, rfl⟩ := hacl.shape
  obtain ⟨A_subs, n_subs, c_subs, rfl⟩ := gsubs
  have S0 := WSt.box hW (.cells #[.int .i64 x.kind, .string x.path, .string x.data, .slice A_acl n_acl c_acl, .int .i64 x.owner, .int .i64 x.number, .int .i64 x.err, .slice A_subs n_subs c_subs] 26)
  have hnb := box_new hW
  have hbk := heap_alloc_new w (.cells #[.int .i64 x.kind, .string x.path, .string x.data, .slice A_acl n_acl c_acl, .int .i64 x.owner, .int .i64 x.number, .int .i64 x.err, .slice A_subs n_subs c_subs] 26)
  replace hacl := hacl.keep aclE_ok ((Kept.refl (fun _ => False) w).alloc (.cells #[.int .i64 x.kind, .string x.path, .string x.data, .slice A_acl n_acl c_acl, .int .i64 x.owner, .int .i64 x.number, .int .i64 x.err, .slice A_subs n_subs c_subs] 26)) (disj_none ok)
  replace hi := hi.kept ((Kept.refl (fun _ => False) w).alloc (.cells #[.int .i64 x.kind, .string x.path, .string x.data, .slice A_acl n_acl c_acl, .int .i64 x.owner, .int .i64 x.number, .int .i64 x.err, .slice A_subs n_subs c_subs] 26))
  have hlen : (partF.lay x).length = (sev (zz x.kind)).length + ((sev x.path.size).length + x.path.size) + ((sev x.data.size).length + x.data.size) + ((listF aclF).lay x.acl).length + (sev (zz x.owner)).length + (sev (zz x.number)).length + (sev (zz x.err)).length := by simp only [partF, isoF, seqF, numF, textF, List.length_append, str_len] <;> omega
  have hl1 : l.length + ((sev (zz x.kind)).length + ((sev x.path.size).length + x.path.size) + ((sev x.data.size).length + x.data.size) + ((listF aclF).lay x.acl).length + (sev (zz x.owner)).length + (sev (zz x.number)).length + (sev (zz x.err)).length) ≤ 144900000000000 := by rw [← hlen]; exact hl
  clear hlen
  clear hl
  go_enter Try.func48, Try.ntmps48
  go_wp2_with fail
  refine (wnum_wide x.kind _ b _ _ S0.at_ hn_kind.1 hn_kind.2 (by omega)).mono ?_
  rintro e w1 h1
  obtain ⟨v1, rfl, S1⟩ := S0.step h1
  clear S0 h1
  have hb1 := S1.blk hbk hnb
  have c1_1 : w1.cell? ⟨w.heap.size, 1, none⟩ = some (.string x.path) := by simp [World.cell?, hb1]
  clear hb1
  go_wp2_with fail
  refine (wtext_wide x.path _ b _ _ S1.at_ hs_path (by simp only [List.length_append]; omega)).mono ?_
  rintro e w2 h2
  obtain ⟨v2, rfl, S2⟩ := S1.step h2
  clear S1 h2
  have hb2 := S2.blk hbk hnb
  have c2_2 : w2.cell? ⟨w.heap.size, 2, none⟩ = some (.string x.data) := by simp [World.cell?, hb2]
  clear hb2
  go_wp2_with fail
  refine (wtext_wide x.data _ b _ _ S2.at_ hs_data (by simp only [List.length_append, str_len]; omega)).mono ?_
  rintro e w3 h3
  obtain ⟨v3, rfl, S3⟩ := S2.step h3
  clear S2 h3
  have hb3 := S3.blk hbk hnb
  have c3_3 : w3.cell? ⟨w.heap.size, 3, none⟩ = some (.slice A_acl n_acl c_acl) := by simp [World.cell?, hb3]
  clear hb3
  go_wp2_with fail
  refine (putList_acl x.acl _ ok _ b _ _ S3.at_ (hacl.keep aclE_ok S3.kept hd) (hd.symm.sep hi S3.sep).symm (hi.kept S3.kept) (by simp only [List.length_append, str_len]; omega)).mono ?_
  rintro e w4 h4
  obtain ⟨v4, rfl, S4⟩ := S3.step h4
  clear S3 h4
  have hb4 := S4.blk hbk hnb
  have c4_4 : w4.cell? ⟨w.heap.size, 4, none⟩ = some (.int .i64 x.owner) := by simp [World.cell?, hb4]
  have c4_5 : w4.cell? ⟨w.heap.size, 5, none⟩ = some (.int .i64 x.number) := by simp [World.cell?, hb4]
  clear hb4
  go_wp2_with fail
  have hcall4 : Calls Try.prog 31 #[.pointer (some ⟨b, 0, none⟩), .slice (some ⟨w4.heap.size, 0, none⟩) 2 2] (w4.alloc (.cells #[.int .i64 x.owner, .int .i64 x.number] 3)) (WPost (w4.alloc (.cells #[.int .i64 x.owner, .int .i64 x.number] 3)) b v4 (l ++ sev (zz x.kind) ++ (sev x.path.size ++ x.path.data.toList) ++ (sev x.data.size ++ x.data.data.toList) ++ (listF aclF).lay x.acl ++ layN numF [x.owner, x.number])) :=
    nums_call [x.owner, x.number] _ _ (by simp) b _ _ S4.at_ (by simp only [List.mem_cons, List.not_mem_nil, or_false, forall_eq_or_imp, forall_eq]; exact ⟨hn_owner, hn_number⟩) (by unfold maxLen; simp only [List.length_cons, List.length_nil]; omega) (by simp only [List.length_append, layN, List.flatMap_cons, List.flatMap_nil, List.append_nil, numF_lay, str_len]; omega)
  have HC4 := Lib.hid hcall4; clear hcall4
  refine HC4.out.mono ?_
  rintro e w5 h5
  obtain ⟨v5, rfl, S5⟩ := (S4.alloc _).step h5
  clear S4 h5 HC4
  have hb5 := S5.blk hbk hnb
  have c5_6 : w5.cell? ⟨w.heap.size, 6, none⟩ = some (.int .i64 x.err) := by simp [World.cell?, hb5]
  clear hb5
  go_wp2_with fail
  refine (putErr_any x.err _ b _ _ S5.at_ hn_err (by simp only [List.length_append, layN, List.flatMap_cons, List.flatMap_nil, List.append_nil, numF_lay, str_len]; omega)).mono ?_
  rintro e w6 h6
  obtain ⟨v6, rfl, S6⟩ := S5.step h6
  clear S5 h6
  go_wp2_with fail
  go_end0
  exact S6.unbox (by simp only [partF, isoF, seqF, numF, textF, layN, List.flatMap_cons, List.flatMap_nil, List.append_nil, List.append_assoc])

set_option maxRecDepth 100000 in
theorem putList_part (xs : List Part) (sv : Value) (ok : Nat → Prop) (w : World) (b : Nat) (v : Value) (l : List UInt8) (hW : WAt w b v l) (hL : ListR partE w ok 8 sv xs) (hd : Disj ok (WS b v)) (hi : In w ok) (hl : l.length + ((listF partF).lay xs).length ≤ 144900000000000) :
    Calls Try.prog 49 #[.pointer (some ⟨b, 0, none⟩), sv, .func (.func 48) #[] #[]] w (WPost w b v (l ++ (listF partF).lay xs)) := by
  obtain ⟨rows, ⟨A, c, rfl, hlc, hm, hat⟩, hlen, hel⟩ := hL
  unfold maxLen at hm
  have hlen1 : rows.length ≤ xs.length := by omega
  have hlen2 : xs.length ≤ rows.length := by omega
  have hfin := (show (listF partF).lay xs = sev xs.length ++ layN partF xs from rfl)
  rw [hfin] at hl ⊢
  rw [← hlen] at hl ⊢
  clear hfin hlen
  rw [List.length_append] at hl
  go_enter Try.func49, Try.ntmps49
  go_wp2_with fail
  refine (wcount_wide rows.length _ b v l hW (by omega) (by omega)).mono ?_
  rintro e w0 h0
  obtain ⟨v0, rfl, S0⟩ := (WSt.start hW).step h0
  clear h0
  go_wp2_with fail
  go_loopw [14] (fun iv wr => PutRelL w b v (l ++ sev rows.length) xs.length (fun k => layN partF (xs.take k)) iv wr) (fun iv _ => xs.length - (intOf iv).toNat)
  case atStart => exact ⟨0, v0, rfl, Nat.zero_le _, by simpa [layN] using S0⟩
  case round =>
    obtain ⟨k, v1, rfl, hk, S1⟩ := hrel.ex
    clear hrel S0
    by_cases hlt : k < xs.length
    · have hkr : k < rows.length := by omega
      rcases hat with h0 | ⟨g, off, rfl, hok, hg, hc⟩
      · simp [h0.1] at hkr
      have hE := partE_ok.keep (hel k hlt hkr) S1.kept hd
      have hcell : ∀ j (hj : j < rows[k].length), wr.cell? ⟨g, off + k * 8 + j, none⟩ = some rows[k][j] := fun j hj => by
        rw [← (hc k hkr).2 j hj]; exact World.cell?_of_block (S1.kept.block g hg (hd g hok.1))
      have hle := layN_le (f := partF) hlt
      have HTK := Lib.hid (layN_take (f := partF) hlt)
      generalize rows[k] = cs at hcell hE
      generalize xs[k] = x at hle hE HTK
      clear hc hel
      obtain ⟨A_acl, n_acl, c_acl, A_subs, n_subs, c_subs, rfl⟩ := partE_cells hE
      have c0 : wr.cell? ⟨g, off + k * 8, none⟩ = some (.int .i64 x.kind) := hcell 0 (by simp)
      have c1 : wr.cell? ⟨g, off + k * 8 + 1, none⟩ = some (.string x.path) := hcell 1 (by simp)
      have c2 : wr.cell? ⟨g, off + k * 8 + 2, none⟩ = some (.string x.data) := hcell 2 (by simp)
      have c3 : wr.cell? ⟨g, off + k * 8 + 3, none⟩ = some (.slice A_acl n_acl c_acl) := hcell 3 (by simp)
      have c4 : wr.cell? ⟨g, off + k * 8 + 4, none⟩ = some (.int .i64 x.owner) := hcell 4 (by simp)
      have c5 : wr.cell? ⟨g, off + k * 8 + 5, none⟩ = some (.int .i64 x.number) := hcell 5 (by simp)
      have c6 : wr.cell? ⟨g, off + k * 8 + 6, none⟩ = some (.int .i64 x.err) := hcell 6 (by simp)
      have c7 : wr.cell? ⟨g, off + k * 8 + 7, none⟩ = some (.slice A_subs n_subs c_subs) := hcell 7 (by simp)
      clear hcell
      have hkl : (k : Int) < (rows.length : Int) := by omega
      have hd1 := (hd.symm.sep hi S1.sep).symm
      have hi1 : In wr ok := hi.kept S1.kept
      have hll : (l ++ sev rows.length ++ layN partF (xs.take k)).length + (partF.lay x).length ≤ 144900000000000 := by simp only [List.length_append]; omega
      have hcall : ∀ (o : Obj), Calls Try.prog 48 #[.pointer (some ⟨b, 0, none⟩), .agg #[.int .i64 x.kind, .string x.path, .string x.data, .slice A_acl n_acl c_acl, .int .i64 x.owner, .int .i64 x.number, .int .i64 x.err, .slice A_subs n_subs c_subs]] (wr.alloc o) (WPost (wr.alloc o) b v1 (l ++ sev rows.length ++ layN partF (xs.take k) ++ partF.lay x)) := fun o =>
        put_part x _ ok _ b v1 _ (S1.alloc o).at_ (partE_ok.keep hE ((Kept.refl (fun _ => False) wr).alloc o) (disj_none ok)) hd1 (hi1.kept ((Kept.refl (fun _ => False) wr).alloc o)) hll
      have HCALL := Lib.hid hcall
      have HS := Lib.hid (fun (o : Obj) => S1.alloc o)
      clear hcall hE S1 hd1 hi1 hll
      go_wp2_with fail
      refine (HCALL.out _).mono ?_
      rintro e w2 h2
      obtain ⟨v2, rfl, S2⟩ := (HS.out _).step h2
      clear h2 HCALL HS
      go_wp2_with fail
      go_roundw
      case rel => exact ⟨k + 1, v2, rfl, hlt, by rw [HTK.out, ← List.append_assoc]; exact S2⟩
      case measure => simp [intOf]; omega
    · have hkl : ¬ (k : Int) < (rows.length : Int) := by omega
      obtain rfl : k = xs.length := by omega
      go_wp2_with fail
      go_end0
      exact S1.fin (by rw [List.take_length, List.append_assoc])
end Go.Proofs.Ytpmemcpfoapjmaa

namespace Go.Proofs.Ytpmemcpfoapjmaa
open Go.ChangeShapes Go.WideShapes Go.ChangeAt Go.RowKit
set_option linter.unusedVariables false

set_option maxRecDepth 100000 in
set_option maxHeartbeats 600000 in
theorem put_txn (x : Txn) (cs : List Value) (ok : Nat → Prop) (w : World) (b : Nat) (v : Value) (l : List UInt8) (hW : WAt w b v l) (hE : txnE w ok cs x) (hd : Disj ok (WS b v)) (hi : In w ok) (hl : l.length + (txnF.lay x).length ≤ 144900000000000) :
    Calls Try.prog 32 #[.pointer (some ⟨b, 0, none⟩), .agg cs.toArray] w (WPost w b v (l ++ txnF.lay x)) := by
  obtain ⟨vsubs, hq, hsubs⟩ := hE
  have hpart : partE w ok cs x.part := ⟨vsubs, hq⟩
  obtain ⟨vacl, rfl, hacl, _⟩ := hq
  obtain ⟨A_acl, n_acl, c_acl, rfl⟩ := hacl.shape
  obtain ⟨A_subs, n_subs, c_subs, rfl⟩ := hsubs.shape
  have S0 := WSt.box hW (.cells #[.int .i64 x.part.kind, .string x.part.path, .string x.part.data, .slice A_acl n_acl c_acl, .int .i64 x.part.owner, .int .i64 x.part.number, .int .i64 x.part.err, .slice A_subs n_subs c_subs] 26)
  have hnb := box_new hW
  have hbk := heap_alloc_new w (.cells #[.int .i64 x.part.kind, .string x.part.path, .string x.part.data, .slice A_acl n_acl c_acl, .int .i64 x.part.owner, .int .i64 x.part.number, .int .i64 x.part.err, .slice A_subs n_subs c_subs] 26)
  replace hpart := partE_ok.keep hpart ((Kept.refl (fun _ => False) w).alloc (.cells #[.int .i64 x.part.kind, .string x.part.path, .string x.part.data, .slice A_acl n_acl c_acl, .int .i64 x.part.owner, .int .i64 x.part.number, .int .i64 x.part.err, .slice A_subs n_subs c_subs] 26)) (disj_none ok)
  replace hsubs := hsubs.keep partE_ok ((Kept.refl (fun _ => False) w).alloc (.cells #[.int .i64 x.part.kind, .string x.part.path, .string x.part.data, .slice A_acl n_acl c_acl, .int .i64 x.part.owner, .int .i64 x.part.number, .int .i64 x.part.err, .slice A_subs n_subs c_subs] 26)) (disj_none ok)
  replace hi := hi.kept ((Kept.refl (fun _ => False) w).alloc (.cells #[.int .i64 x.part.kind, .string x.part.path, .string x.part.data, .slice A_acl n_acl c_acl, .int .i64 x.part.owner, .int .i64 x.part.number, .int .i64 x.part.err, .slice A_subs n_subs c_subs] 26))
  have hlen : (txnF.lay x).length = (partF.lay x.part).length + ((listF partF).lay x.subs).length := by simp only [txnF, isoF, seqF, List.length_append] <;> omega
  have hl1 : l.length + ((partF.lay x.part).length + ((listF partF).lay x.subs).length) ≤ 144900000000000 := by rw [← hlen]; exact hl
  clear hlen
  clear hl
  go_enter Try.func32, Try.ntmps32
  go_wp2_with fail
  refine (put_part x.part _ ok _ b _ _ S0.at_ (partE_ok.keep hpart S0.kept hd) (hd.symm.sep hi S0.sep).symm (hi.kept S0.kept) (by omega)).mono ?_
  rintro e w1 h1
  obtain ⟨v1, rfl, S1⟩ := S0.step h1
  clear S0 h1
  have hb1 := S1.blk hbk hnb
  have c1_7 : w1.cell? ⟨w.heap.size, 7, none⟩ = some (.slice A_subs n_subs c_subs) := by simp [World.cell?, hb1]
  clear hb1
  go_wp2_with fail
  refine (putList_part x.subs _ ok _ b _ _ S1.at_ (hsubs.keep partE_ok S1.kept hd) (hd.symm.sep hi S1.sep).symm (hi.kept S1.kept) (by simp only [List.length_append]; omega)).mono ?_
  rintro e w2 h2
  obtain ⟨v2, rfl, S2⟩ := S1.step h2
  clear S1 h2
  go_wp2_with fail
  go_end0
  exact S2.unbox (by simp only [txnF, isoF, seqF, List.append_assoc])

set_option maxRecDepth 100000 in
set_option maxHeartbeats 600000 in
theorem put_entry (x : Entry) (cs : List Value) (ok : Nat → Prop) (w : World) (b : Nat) (v : Value) (l : List UInt8) (hW : WAt w b v l) (hE : entryE w ok cs x) (hd : Disj ok (WS b v)) (hi : In w ok) (hl : l.length + (entryF.lay x).length ≤ 144900000000000) :
    Calls Try.prog 15 #[.pointer (some ⟨b, 0, none⟩), .agg cs.toArray] w (WPost w b v (l ++ entryF.lay x)) := by
  obtain ⟨ct, rfl, htxn, hn_zxid, hn_session, hn_xid⟩ := hE
  obtain ⟨A_acl, n_acl, c_acl, A_subs, n_subs, c_subs, rfl⟩ := txnE_cells htxn
  have S0 := WSt.box hW (.cells #[.int .i64 x.zxid, .int .i64 x.session, .int .i64 x.xid, .int .i64 x.txn.part.kind, .string x.txn.part.path, .string x.txn.part.data, .slice A_acl n_acl c_acl, .int .i64 x.txn.part.owner, .int .i64 x.txn.part.number, .int .i64 x.txn.part.err, .slice A_subs n_subs c_subs] 28)
  have hnb := box_new hW
  have hbk := heap_alloc_new w (.cells #[.int .i64 x.zxid, .int .i64 x.session, .int .i64 x.xid, .int .i64 x.txn.part.kind, .string x.txn.part.path, .string x.txn.part.data, .slice A_acl n_acl c_acl, .int .i64 x.txn.part.owner, .int .i64 x.txn.part.number, .int .i64 x.txn.part.err, .slice A_subs n_subs c_subs] 28)
  replace htxn := txnE_ok.keep htxn ((Kept.refl (fun _ => False) w).alloc (.cells #[.int .i64 x.zxid, .int .i64 x.session, .int .i64 x.xid, .int .i64 x.txn.part.kind, .string x.txn.part.path, .string x.txn.part.data, .slice A_acl n_acl c_acl, .int .i64 x.txn.part.owner, .int .i64 x.txn.part.number, .int .i64 x.txn.part.err, .slice A_subs n_subs c_subs] 28)) (disj_none ok)
  replace hi := hi.kept ((Kept.refl (fun _ => False) w).alloc (.cells #[.int .i64 x.zxid, .int .i64 x.session, .int .i64 x.xid, .int .i64 x.txn.part.kind, .string x.txn.part.path, .string x.txn.part.data, .slice A_acl n_acl c_acl, .int .i64 x.txn.part.owner, .int .i64 x.txn.part.number, .int .i64 x.txn.part.err, .slice A_subs n_subs c_subs] 28))
  have hlen : (entryF.lay x).length = (sev (zz x.zxid)).length + (sev (zz x.session)).length + (sev (zz x.xid)).length + (txnF.lay x.txn).length := by simp only [entryF, isoF, seqF, numF, List.length_append] <;> omega
  have hl1 : l.length + ((sev (zz x.zxid)).length + (sev (zz x.session)).length + (sev (zz x.xid)).length + (txnF.lay x.txn).length) ≤ 144900000000000 := by rw [← hlen]; exact hl
  clear hlen
  clear hl
  go_enter Try.func15, Try.ntmps15
  go_wp2_with fail
  have hcall0 : Calls Try.prog 31 #[.pointer (some ⟨b, 0, none⟩), .slice (some ⟨w.heap.size + 1, 0, none⟩) 3 3] ((w.alloc (.cells #[.int .i64 x.zxid, .int .i64 x.session, .int .i64 x.xid, .int .i64 x.txn.part.kind, .string x.txn.part.path, .string x.txn.part.data, .slice A_acl n_acl c_acl, .int .i64 x.txn.part.owner, .int .i64 x.txn.part.number, .int .i64 x.txn.part.err, .slice A_subs n_subs c_subs] 28)).alloc (.cells #[.int .i64 x.zxid, .int .i64 x.session, .int .i64 x.xid] 3)) (WPost ((w.alloc (.cells #[.int .i64 x.zxid, .int .i64 x.session, .int .i64 x.xid, .int .i64 x.txn.part.kind, .string x.txn.part.path, .string x.txn.part.data, .slice A_acl n_acl c_acl, .int .i64 x.txn.part.owner, .int .i64 x.txn.part.number, .int .i64 x.txn.part.err, .slice A_subs n_subs c_subs] 28)).alloc (.cells #[.int .i64 x.zxid, .int .i64 x.session, .int .i64 x.xid] 3)) b v (l ++ layN numF [x.zxid, x.session, x.xid])) :=
    nums_call [x.zxid, x.session, x.xid] _ _ (by simp) b _ _ S0.at_ (by simp only [List.mem_cons, List.not_mem_nil, or_false, forall_eq_or_imp, forall_eq]; exact ⟨hn_zxid, hn_session, hn_xid⟩) (by unfold maxLen; simp only [List.length_cons, List.length_nil]; omega) (by simp only [List.length_append, layN, List.flatMap_cons, List.flatMap_nil, List.append_nil, numF_lay]; omega)
  have HC0 := Lib.hid hcall0; clear hcall0
  refine HC0.out.mono ?_
  rintro e w1 h1
  obtain ⟨v1, rfl, S1⟩ := (S0.alloc _).step h1
  clear S0 h1 HC0
  have hb1 := S1.blk hbk hnb
  have c1_3 : w1.cell? ⟨w.heap.size, 3, none⟩ = some (.int .i64 x.txn.part.kind) := by simp [World.cell?, hb1]
  have c1_4 : w1.cell? ⟨w.heap.size, 4, none⟩ = some (.string x.txn.part.path) := by simp [World.cell?, hb1]
  have c1_5 : w1.cell? ⟨w.heap.size, 5, none⟩ = some (.string x.txn.part.data) := by simp [World.cell?, hb1]
  have c1_6 : w1.cell? ⟨w.heap.size, 6, none⟩ = some (.slice A_acl n_acl c_acl) := by simp [World.cell?, hb1]
  have c1_7 : w1.cell? ⟨w.heap.size, 7, none⟩ = some (.int .i64 x.txn.part.owner) := by simp [World.cell?, hb1]
  have c1_8 : w1.cell? ⟨w.heap.size, 8, none⟩ = some (.int .i64 x.txn.part.number) := by simp [World.cell?, hb1]
  have c1_9 : w1.cell? ⟨w.heap.size, 9, none⟩ = some (.int .i64 x.txn.part.err) := by simp [World.cell?, hb1]
  have c1_10 : w1.cell? ⟨w.heap.size, 10, none⟩ = some (.slice A_subs n_subs c_subs) := by simp [World.cell?, hb1]
  clear hb1
  go_wp2_with fail
  refine (put_txn x.txn _ ok _ b _ _ S1.at_ (txnE_ok.keep htxn S1.kept hd) (hd.symm.sep hi S1.sep).symm (hi.kept S1.kept) (by simp only [List.length_append, layN, List.flatMap_cons, List.flatMap_nil, List.append_nil, numF_lay]; omega)).mono ?_
  rintro e w2 h2
  obtain ⟨v2, rfl, S2⟩ := S1.step h2
  clear S1 h2
  go_wp2_with fail
  go_end0
  exact S2.unbox (by simp only [entryF, isoF, seqF, numF, layN, List.flatMap_cons, List.flatMap_nil, List.append_nil, List.append_assoc])

end Go.Proofs.Ytpmemcpfoapjmaa
