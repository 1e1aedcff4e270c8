/- The document's own answers of layer 2: an event, a hello, a note, laid; several numbers. The document's own answers of layer 2: take, several numbers. An event, a hello, a note, laid. An event, a hello, a note, taken up. -/
import Derived.Test.YtpmemcpfoapjmaaGreatV07
import Derived.Deep.RegionHeld3
import Derived.Deep.DeepCutAuto
import Derived.Test.YtpmemcpfoapjmaaGreatV06
import Derived.Test.YtpmemcpfoapjmaaGreatV04
namespace Go.Proofs.YtpmemcpfoapjmaaGreat
open Go.ChangeShapes Go.WideShapes Go.ChangeAt Go.RowKit
set_option linter.unusedVariables false

theorem Old.cell {w w' : World} (h : Old w w') {a : Addr} {v : Value} (hc : w.cell? a = some v) : w'.cell? a = some v := by
  obtain ⟨b, o, sp⟩ := a
  have hlt := World.block_lt_of_cell? w _ hc
  rw [← hc]
  exact World.cell?_of_block (h.block b hlt id)
theorem Old.drew {w w' : World} (h : Old w w') : Old w w'.drew := ⟨h.os, h.tape, h.output, h.size, h.block⟩
theorem Old.of_drew {w w' : World} (h : Old w.drew w') : Old w w' := ⟨h.os, h.tape, h.output, h.size, h.block⟩
theorem Old.make {w w' : World} (h : Old w w') (o : Obj) : Old w (w'.alloc o) := Kept.alloc h o
theorem lay_num (n : Int) : numF.lay n = sev (zz n) := rfl
theorem lay_text (m : Nat) (s : ByteArray) : (textF m).lay s = sev s.size ++ s.data.toList := rfl
theorem lay_flag (x : Bool) : flagF.lay x = [if x then 1 else 0] := rfl
theorem num_len {n : Int} (h : I64 n) : (sev (zz n)).length ≤ 10 := sev_length_u64 (zz_le h.1 h.2)

theorem nums_at (ns : List Int) (g : Nat) (w : World) (hb : w.heap[g]? = some (.cells (ns.map (Value.int .i64)).toArray 3 (0, 0))) (h : ∀ n ∈ ns, I64 n) (hm : ns.length ≤ maxLen) :
    ListR intE w (fun k => k = g) 1 (.slice (some ⟨g, 0, none⟩) ns.length ns.length) ns := by
  refine ⟨ns.map fun n => [Value.int .i64 n], ⟨_, _, by rw [List.length_map], by rw [List.length_map]; exact Nat.le_refl _, hm, Or.inr ⟨g, 0, rfl, ⟨rfl, fun k _ => by simp [World.frozen?, hb], fun _ => ⟨rfl, _, _, hb, by simp, by unfold TyOf; decide⟩⟩, lt_of_block hb, fun i hi => ⟨by simp, fun j hj => ?_⟩⟩⟩, by simp, fun i hi hi' => ?_⟩
  · have hj0 : j = 0 := by simpa using hj
    subst hj0
    have hi2 : i < ns.length := by simpa using hi
    have hc := cell_of_row _ g i _ _ (0, 0) hb
    rw [show 0 + i * 1 + 0 = i from by omega, hc]
    simp [List.getElem?_eq_getElem hi2]
  · simp only [List.getElem_map]
    exact ⟨rfl, h _ (List.getElem_mem _)⟩

theorem refnums2 (a0 a1 : Int) (g : Nat) (w : World) (hb : w.heap[g]? = some (.cells #[.int .i64 a0, .int .i64 a1] 3 (0, 0))) (h0 : I64 a0) (h1 : I64 a1) :
    Calls Tryz.prog 22 #[.slice (some ⟨g, 0, none⟩) 2 2] w (OldStr w (sev (zz a0) ++ sev (zz a1))) := by
  have h := refnums_any [a0, a1] _ _ _ (nums_at [a0, a1] g w hb (by simp only [List.mem_cons, List.not_mem_nil, or_false, forall_eq_or_imp, forall_eq]; exact ⟨h0, h1⟩) (by unfold maxLen; simp only [List.length_cons, List.length_nil]; omega)) (by
    simp only [layN, List.flatMap_cons, List.flatMap_nil, List.append_nil, lay_num, List.length_append]
    have := num_len h0; have := num_len h1
    omega)
  have e : layN numF [a0, a1] = sev (zz a0) ++ sev (zz a1) := by simp only [layN, List.flatMap_cons, List.flatMap_nil, List.append_nil, lay_num]
  rw [e] at h
  exact h

theorem refnums3 (a0 a1 a2 : Int) (g : Nat) (w : World) (hb : w.heap[g]? = some (.cells #[.int .i64 a0, .int .i64 a1, .int .i64 a2] 3 (0, 0))) (h0 : I64 a0) (h1 : I64 a1) (h2 : I64 a2) :
    Calls Tryz.prog 22 #[.slice (some ⟨g, 0, none⟩) 3 3] w (OldStr w (sev (zz a0) ++ (sev (zz a1) ++ sev (zz a2)))) := by
  have h := refnums_any [a0, a1, a2] _ _ _ (nums_at [a0, a1, a2] g w hb (by simp only [List.mem_cons, List.not_mem_nil, or_false, forall_eq_or_imp, forall_eq]; exact ⟨h0, h1, h2⟩) (by unfold maxLen; simp only [List.length_cons, List.length_nil]; omega)) (by
    simp only [layN, List.flatMap_cons, List.flatMap_nil, List.append_nil, lay_num, List.length_append]
    have := num_len h0; have := num_len h1; have := num_len h2
    omega)
  have e : layN numF [a0, a1, a2] = sev (zz a0) ++ (sev (zz a1) ++ sev (zz a2)) := by simp only [layN, List.flatMap_cons, List.flatMap_nil, List.append_nil, lay_num]
  rw [e] at h
  exact h

theorem refnums5 (a0 a1 a2 a3 a4 : Int) (g : Nat) (w : World) (hb : w.heap[g]? = some (.cells #[.int .i64 a0, .int .i64 a1, .int .i64 a2, .int .i64 a3, .int .i64 a4] 3 (0, 0))) (h0 : I64 a0) (h1 : I64 a1) (h2 : I64 a2) (h3 : I64 a3) (h4 : I64 a4) :
    Calls Tryz.prog 22 #[.slice (some ⟨g, 0, none⟩) 5 5] w (OldStr w (sev (zz a0) ++ (sev (zz a1) ++ (sev (zz a2) ++ (sev (zz a3) ++ sev (zz a4)))))) := by
  have h := refnums_any [a0, a1, a2, a3, a4] _ _ _ (nums_at [a0, a1, a2, a3, a4] g w hb (by simp only [List.mem_cons, List.not_mem_nil, or_false, forall_eq_or_imp, forall_eq]; exact ⟨h0, h1, h2, h3, h4⟩) (by unfold maxLen; simp only [List.length_cons, List.length_nil]; omega)) (by
    simp only [layN, List.flatMap_cons, List.flatMap_nil, List.append_nil, lay_num, List.length_append]
    have := num_len h0; have := num_len h1; have := num_len h2; have := num_len h3; have := num_len h4
    omega)
  have e : layN numF [a0, a1, a2, a3, a4] = sev (zz a0) ++ (sev (zz a1) ++ (sev (zz a2) ++ (sev (zz a3) ++ sev (zz a4)))) := by simp only [layN, List.flatMap_cons, List.flatMap_nil, List.append_nil, lay_num]
  rw [e] at h
  exact h

theorem refnums6 (a0 a1 a2 a3 a4 a5 : Int) (g : Nat) (w : World) (hb : w.heap[g]? = some (.cells #[.int .i64 a0, .int .i64 a1, .int .i64 a2, .int .i64 a3, .int .i64 a4, .int .i64 a5] 3 (0, 0))) (h0 : I64 a0) (h1 : I64 a1) (h2 : I64 a2) (h3 : I64 a3) (h4 : I64 a4) (h5 : I64 a5) :
    Calls Tryz.prog 22 #[.slice (some ⟨g, 0, none⟩) 6 6] w (OldStr w (sev (zz a0) ++ (sev (zz a1) ++ (sev (zz a2) ++ (sev (zz a3) ++ (sev (zz a4) ++ sev (zz a5))))))) := by
  have h := refnums_any [a0, a1, a2, a3, a4, a5] _ _ _ (nums_at [a0, a1, a2, a3, a4, a5] g w hb (by simp only [List.mem_cons, List.not_mem_nil, or_false, forall_eq_or_imp, forall_eq]; exact ⟨h0, h1, h2, h3, h4, h5⟩) (by unfold maxLen; simp only [List.length_cons, List.length_nil]; omega)) (by
    simp only [layN, List.flatMap_cons, List.flatMap_nil, List.append_nil, lay_num, List.length_append]
    have := num_len h0; have := num_len h1; have := num_len h2; have := num_len h3; have := num_len h4; have := num_len h5
    omega)
  have e : layN numF [a0, a1, a2, a3, a4, a5] = sev (zz a0) ++ (sev (zz a1) ++ (sev (zz a2) ++ (sev (zz a3) ++ (sev (zz a4) ++ sev (zz a5))))) := by simp only [layN, List.flatMap_cons, List.flatMap_nil, List.append_nil, lay_num]
  rw [e] at h
  exact h

theorem refnums9 (a0 a1 a2 a3 a4 a5 a6 a7 a8 : Int) (g : Nat) (w : World) (hb : w.heap[g]? = some (.cells #[.int .i64 a0, .int .i64 a1, .int .i64 a2, .int .i64 a3, .int .i64 a4, .int .i64 a5, .int .i64 a6, .int .i64 a7, .int .i64 a8] 3 (0, 0))) (h0 : I64 a0) (h1 : I64 a1) (h2 : I64 a2) (h3 : I64 a3) (h4 : I64 a4) (h5 : I64 a5) (h6 : I64 a6) (h7 : I64 a7) (h8 : I64 a8) :
    Calls Tryz.prog 22 #[.slice (some ⟨g, 0, none⟩) 9 9] w (OldStr w (sev (zz a0) ++ (sev (zz a1) ++ (sev (zz a2) ++ (sev (zz a3) ++ (sev (zz a4) ++ (sev (zz a5) ++ (sev (zz a6) ++ (sev (zz a7) ++ sev (zz a8)))))))))) := by
  have h := refnums_any [a0, a1, a2, a3, a4, a5, a6, a7, a8] _ _ _ (nums_at [a0, a1, a2, a3, a4, a5, a6, a7, a8] g w hb (by simp only [List.mem_cons, List.not_mem_nil, or_false, forall_eq_or_imp, forall_eq]; exact ⟨h0, h1, h2, h3, h4, h5, h6, h7, h8⟩) (by unfold maxLen; simp only [List.length_cons, List.length_nil]; omega)) (by
    simp only [layN, List.flatMap_cons, List.flatMap_nil, List.append_nil, lay_num, List.length_append]
    have := num_len h0; have := num_len h1; have := num_len h2; have := num_len h3; have := num_len h4; have := num_len h5; have := num_len h6; have := num_len h7; have := num_len h8
    omega)
  have e : layN numF [a0, a1, a2, a3, a4, a5, a6, a7, a8] = sev (zz a0) ++ (sev (zz a1) ++ (sev (zz a2) ++ (sev (zz a3) ++ (sev (zz a4) ++ (sev (zz a5) ++ (sev (zz a6) ++ (sev (zz a7) ++ sev (zz a8)))))))) := by simp only [layN, List.flatMap_cons, List.flatMap_nil, List.append_nil, lay_num]
  rw [e] at h
  exact h

end Go.Proofs.YtpmemcpfoapjmaaGreat

namespace Go.Proofs.YtpmemcpfoapjmaaGreat
open Go.ChangeShapes Go.WideShapes Go.ChangeAt Go.RowKit
set_option linter.unusedVariables false

def intsOf (l : List Int) : List Value := l.map (Value.int .i64)
def numsN (n : Nat) (l : List UInt8) (p e : Nat) : List Int × Nat × Nat := getN numF.get n l p e

structure RTakeRel (w : World) (b : Nat) (s : ByteArray) (n pos e : Nat) (iv : Value) (wr : World) : Prop where
  ex : ∃ k p', iv = .int .i64 (k : Nat) ∧ k ≤ n ∧ wr.heap[w.heap.size]? = some (.cells (intsOf (numsN k s.data.toList pos e).1 ++ List.replicate (n - k) (Value.int .i64 0)).toArray 3 (0, 0)) ∧
    FAt wr b s p' (numsN k s.data.toList pos e).2.2 ∧ ((numsN k s.data.toList pos e).2.2 = 0 → p' = (numsN k s.data.toList pos e).2.1) ∧ Kept (RS b) w wr

def TkPost (w : World) (b : Nat) (s : ByteArray) (n pos e : Nat) (en : Ending) (w' : World) : Prop :=
  ∃ g p', en = .returned (.slice (some ⟨g, 0, none⟩) n n) ∧ w'.heap[g]? = some (.cells (intsOf (numsN n s.data.toList pos e).1).toArray 3 (0, 0)) ∧ w.heap.size ≤ g ∧
    FAt w' b s p' (numsN n s.data.toList pos e).2.2 ∧ ((numsN n s.data.toList pos e).2.2 = 0 → p' = (numsN n s.data.toList pos e).2.1) ∧ Kept (RS b) w w'

theorem set_next {α : Type} (A : List α) (n k : Nat) (z v : α) (hA : A.length = k) (hk : k < n) : (A ++ List.replicate (n - k) z).set k v = (A ++ [v]) ++ List.replicate (n - (k + 1)) z := by
  subst hA
  rw [show n - A.length = (n - (A.length + 1)) + 1 from by omega, List.replicate_succ]
  simp

theorem info_int : (Tryz.prog.info? 3).map (fun i => (i.zero, i.size, i.bytes)) = some (some (.int .i64 0), 1, 8) := by kernel_rfl
theorem made_ints (n : Nat) : madeCells #[Value.int .i64 0] n = (List.replicate n (Value.int .i64 0)).toArray := by
  unfold madeCells
  apply Array.ext
  · simp
  · intro i h1 h2
    simp [Nat.mod_one]

set_option maxRecDepth 100000 in
theorem reftake_any (n : Nat) (hn : n ≤ 100000) (w : World) (b : Nat) (s : ByteArray) (p pos e : Nat) (hF : FAt w b s p e) (hp : e = 0 → p = pos) :
    Calls Tryz.prog 65 #[.pointer (some ⟨b, 0, none⟩), .int .i64 n] w (TkPost w b s n pos e) := by
  obtain ⟨i0, hi, hz0, hz1, hz2⟩ := info_parts info_int
  have hmk : ∀ u : World, (Instr.makeSlice 22 (.int .i64 (n : Int)) (.int .i64 (n : Int))).run Tryz.prog u =
      .ok (.slice (some ⟨u.heap.size, 0, none⟩) n n) (u.alloc (.cells (List.replicate n (Value.int .i64 0)).toArray 3)) := fun u => by
    have h := run_make (P := Tryz.prog) u 22 3 i0 (.int .i64 0) Tryz.underlying22 hi hz0 .i64 .i64 (n : Int) (n : Int) (by omega) (Int.le_refl _) (by rw [hz2]; omega) (by omega)
    rw [← made_ints]
    simpa [hz1, Value.cells] using h
  have hb := lt_of_block hF.at_
  have hst : RTakeRel w b s n pos e (.int .i64 0) (w.alloc (.cells (List.replicate n (Value.int .i64 0)).toArray 3)) :=
    ⟨0, p, rfl, Nat.zero_le _, heap_alloc_new w _, hF.keep ((Kept.refl (fun _ => False) w).alloc _) id, hp, (Kept.refl _ w).alloc _⟩
  have HST := Lib.hid hst; clear hst
  have HSZ := Lib.hid (show (Tryz.prog.info? 3).map (·.size) = some 1 by kernel_rfl)
  clear hi hz0 hz1 hz2 hp
  go_enter Tryz.func65, Tryz.ntmps65
  go_wp2_with fail
  go_loopw [6] (fun i wr => RTakeRel w b s n pos e i wr) (fun i _ => n - (intOf i).toNat)
  case atStart => exact HST.out
  case round =>
    obtain ⟨k, p', rfl, hk, hblk, hF', hp', hK⟩ := hrel.ex
    clear hrel
    by_cases hlt : k < n
    · have HB := Lib.hid hblk
      have HK := Lib.hid hK
      have HP := Lib.hid hp'
      have hlen : (intsOf (numsN k s.data.toList pos e).1).length = k := by simp [intsOf, numsN, getN_len]
      have HN := Lib.hid (getN_snoc numF.get k s.data.toList pos e)
      have HSET := Lib.hid (fun v => set_next (intsOf (numsN k s.data.toList pos e).1) n k (Value.int .i64 0) v hlen hlt)
      have HLEN := Lib.hid (show k < (intsOf (numsN k s.data.toList pos e).1 ++ List.replicate (n - k) (Value.int .i64 0)).length by simp [hlen]; omega)
      clear hblk hK hp' hlen
      go_wp2_with (first
        | (go_at_call 86; refine (fnum_any _ b s p' _ _ hF' HP.out).mono ?_; rintro en w1 ⟨p1, rfl, hF1, hp1, hk1⟩
           have HB1 := Lib.hid ((hk1.block _ (lt_of_block HB.out) (fun h => by have h' : w.heap.size = b := h; omega)).trans HB.out))
        | (refine wpList_store_at rfl 3 _ _ rfl w.heap.size k _ rfl rfl rfl _ 3 HB1.out HLEN.out HSZ.out ?_))
      go_roundw
      case rel =>
        refine ⟨k + 1, p1, by go_num, hlt, ?_, ?_, ?_, ?_⟩
        · rw [setRow_heap _ _ _ _ _ _ HB1.out, HSET.out]
          have hn1 : numsN (k + 1) s.data.toList pos e = _ := HN.out
          rw [hn1]
          simp only [intsOf, List.map_append, List.map_cons, List.map_nil]
          rfl
        · have hn1 : numsN (k + 1) s.data.toList pos e = _ := HN.out
          rw [hn1]
          exact hF1.keep (setRow_kept _ _ _) (fun h => by omega)
        · have hn1 : numsN (k + 1) s.data.toList pos e = _ := HN.out
          rw [hn1]
          exact hp1
        · exact Kept.trans' (Kept.trans' HK.out hk1 (fun _ _ h => h)) (setRow_kept _ _ _) (fun k hk h => by omega)
      case measure => simp [intOf]; omega
    · obtain rfl : k = n := by omega
      have HB := Lib.hid hblk
      clear hblk
      go_wp2_with fail
      go_ret
      refine ⟨w.heap.size, p', rfl, ?_, Nat.le_refl _, hF', hp', hK⟩
      rw [HB.out, Nat.sub_self, List.replicate_zero, List.append_nil]
end Go.Proofs.YtpmemcpfoapjmaaGreat

namespace Go.Proofs.YtpmemcpfoapjmaaGreat
open Go.ChangeShapes Go.WideShapes Go.ChangeAt Go.RowKit
set_option linter.unusedVariables false

set_option maxRecDepth 100000 in
set_option maxHeartbeats 600000 in
theorem put_event (x : Event) (cs : List Value) (ok : Nat → Prop) (w : World) (b : Nat) (v : Value) (l : List UInt8) (hW : WAt w b v l) (hE : eventE w ok cs x) (hd : Disj ok (WS b v)) (hi : In w ok) (hl : l.length + (eventF.lay x).length ≤ 144900000000000) :
    Calls Tryz.prog 43 #[.pointer (some ⟨b, 0, none⟩), .agg cs.toArray] w (WPost w b v (l ++ eventF.lay x)) := by
  obtain ⟨rfl, hn_kind, hs_path, hn_zxid⟩ := hE
  have S0 := WSt.box hW (.cells #[.int .i64 x.kind, .string x.path, .int .i64 x.zxid] 46)
  have hnb := box_new hW
  have hbk := heap_alloc_new w (.cells #[.int .i64 x.kind, .string x.path, .int .i64 x.zxid] 46)
  replace hi := hi.kept ((Kept.refl (fun _ => False) w).alloc (.cells #[.int .i64 x.kind, .string x.path, .int .i64 x.zxid] 46))
  have hlen : (eventF.lay x).length = (sev (zz x.kind)).length + ((sev x.path.size).length + x.path.size) + (sev (zz x.zxid)).length := by simp only [eventF, isoF, seqF, numF, textF, List.length_append, str_len] <;> omega
  have hl1 : l.length + ((sev (zz x.kind)).length + ((sev x.path.size).length + x.path.size) + (sev (zz x.zxid)).length) ≤ 144900000000000 := by rw [← hlen]; exact hl
  clear hlen
  clear hl
  go_enter Tryz.func43, Tryz.ntmps43
  go_wp2_with fail
  refine (wnum_wide x.kind _ b _ _ S0.at_ hn_kind.1 hn_kind.2 (by omega)).mono ?_
  rintro e w1 h1
  obtain ⟨v1, rfl, S1⟩ := S0.step h1
  clear S0 h1
  have hb1 := S1.blk hbk hnb
  have c1_1 : w1.cell? ⟨w.heap.size, 1, none⟩ = some (.string x.path) := by simp [World.cell?, hb1]
  clear hb1
  go_wp2_with fail
  refine (wtext_wide x.path _ b _ _ S1.at_ hs_path (by simp only [List.length_append]; omega)).mono ?_
  rintro e w2 h2
  obtain ⟨v2, rfl, S2⟩ := S1.step h2
  clear S1 h2
  have hb2 := S2.blk hbk hnb
  have c2_2 : w2.cell? ⟨w.heap.size, 2, none⟩ = some (.int .i64 x.zxid) := by simp [World.cell?, hb2]
  clear hb2
  go_wp2_with fail
  refine (wnum_wide x.zxid _ b _ _ S2.at_ hn_zxid.1 hn_zxid.2 (by simp only [List.length_append, str_len]; omega)).mono ?_
  rintro e w3 h3
  obtain ⟨v3, rfl, S3⟩ := S2.step h3
  clear S2 h3
  go_wp2_with fail
  go_end0
  exact S3.unbox (by simp only [eventF, isoF, seqF, numF, textF, List.append_assoc])

set_option maxRecDepth 100000 in
set_option maxHeartbeats 600000 in
theorem put_hello (x : Hello) (cs : List Value) (ok : Nat → Prop) (w : World) (b : Nat) (v : Value) (l : List UInt8) (hW : WAt w b v l) (hE : helloE w ok cs x) (hd : Disj ok (WS b v)) (hi : In w ok) (hl : l.length + (helloF.lay x).length ≤ 144900000000000) :
    Calls Tryz.prog 47 #[.pointer (some ⟨b, 0, none⟩), .agg cs.toArray] w (WPost w b v (l ++ helloF.lay x)) := by
  obtain ⟨rfl, hn_session, hn_zxid, hn_timeout, hs_secret⟩ := hE
  have S0 := WSt.box hW (.cells #[.int .i64 x.session, .int .i64 x.zxid, .int .i64 x.timeout, .string x.secret] 51)
  have hnb := box_new hW
  have hbk := heap_alloc_new w (.cells #[.int .i64 x.session, .int .i64 x.zxid, .int .i64 x.timeout, .string x.secret] 51)
  replace hi := hi.kept ((Kept.refl (fun _ => False) w).alloc (.cells #[.int .i64 x.session, .int .i64 x.zxid, .int .i64 x.timeout, .string x.secret] 51))
  have hlen : (helloF.lay x).length = (sev (zz x.session)).length + (sev (zz x.zxid)).length + (sev (zz x.timeout)).length + ((sev x.secret.size).length + x.secret.size) := by simp only [helloF, isoF, seqF, numF, textF, List.length_append, str_len] <;> omega
  have hl1 : l.length + ((sev (zz x.session)).length + (sev (zz x.zxid)).length + (sev (zz x.timeout)).length + ((sev x.secret.size).length + x.secret.size)) ≤ 144900000000000 := by rw [← hlen]; exact hl
  clear hlen
  clear hl
  go_enter Tryz.func47, Tryz.ntmps47
  go_wp2_with fail
  have hcall0 : Calls Tryz.prog 52 #[.pointer (some ⟨b, 0, none⟩), .slice (some ⟨w.heap.size + 1, 0, none⟩) 3 3] ((w.alloc (.cells #[.int .i64 x.session, .int .i64 x.zxid, .int .i64 x.timeout, .string x.secret] 51)).alloc (.cells #[.int .i64 x.session, .int .i64 x.zxid, .int .i64 x.timeout] 3)) (WPost ((w.alloc (.cells #[.int .i64 x.session, .int .i64 x.zxid, .int .i64 x.timeout, .string x.secret] 51)).alloc (.cells #[.int .i64 x.session, .int .i64 x.zxid, .int .i64 x.timeout] 3)) b v (l ++ layN numF [x.session, x.zxid, x.timeout])) :=
    nums_call [x.session, x.zxid, x.timeout] _ _ (by simp) b _ _ S0.at_ (by simp only [List.mem_cons, List.not_mem_nil, or_false, forall_eq_or_imp, forall_eq]; exact ⟨hn_session, hn_zxid, hn_timeout⟩) (by unfold maxLen; simp only [List.length_cons, List.length_nil]; omega) (by simp only [List.length_append, layN, List.flatMap_cons, List.flatMap_nil, List.append_nil, numF_lay]; omega)
  have HC0 := Lib.hid hcall0; clear hcall0
  refine HC0.out.mono ?_
  rintro e w1 h1
  obtain ⟨v1, rfl, S1⟩ := (S0.alloc _).step h1
  clear S0 h1 HC0
  have hb1 := S1.blk hbk hnb
  have c1_3 : w1.cell? ⟨w.heap.size, 3, none⟩ = some (.string x.secret) := by simp [World.cell?, hb1]
  clear hb1
  go_wp2_with fail
  refine (wtext_wide x.secret _ b _ _ S1.at_ hs_secret (by simp only [List.length_append, layN, List.flatMap_cons, List.flatMap_nil, List.append_nil, numF_lay]; omega)).mono ?_
  rintro e w2 h2
  obtain ⟨v2, rfl, S2⟩ := S1.step h2
  clear S1 h2
  go_wp2_with fail
  go_end0
  exact S2.unbox (by simp only [helloF, isoF, seqF, numF, textF, layN, List.flatMap_cons, List.flatMap_nil, List.append_nil, List.append_assoc])

set_option maxRecDepth 100000 in
set_option maxHeartbeats 600000 in
theorem put_note (x : Note) (cs : List Value) (ok : Nat → Prop) (w : World) (b : Nat) (v : Value) (l : List UInt8) (hW : WAt w b v l) (hE : noteE w ok cs x) (hd : Disj ok (WS b v)) (hi : In w ok) (hl : l.length + (noteF.lay x).length ≤ 144900000000000) :
    Calls Tryz.prog 49 #[.pointer (some ⟨b, 0, none⟩), .agg cs.toArray] w (WPost w b v (l ++ noteF.lay x)) := by
  obtain ⟨rfl, hn_from_, hn_state, hn_round, hn_leader, hn_epoch, hn_zxid⟩ := hE
  have S0 := WSt.box hW (.cells #[.int .i64 x.from_, .int .i64 x.state, .int .i64 x.round, .int .i64 x.leader, .int .i64 x.epoch, .int .i64 x.zxid] 54)
  have hnb := box_new hW
  have hbk := heap_alloc_new w (.cells #[.int .i64 x.from_, .int .i64 x.state, .int .i64 x.round, .int .i64 x.leader, .int .i64 x.epoch, .int .i64 x.zxid] 54)
  replace hi := hi.kept ((Kept.refl (fun _ => False) w).alloc (.cells #[.int .i64 x.from_, .int .i64 x.state, .int .i64 x.round, .int .i64 x.leader, .int .i64 x.epoch, .int .i64 x.zxid] 54))
  have hlen : (noteF.lay x).length = (sev (zz x.from_)).length + (sev (zz x.state)).length + (sev (zz x.round)).length + (sev (zz x.leader)).length + (sev (zz x.epoch)).length + (sev (zz x.zxid)).length := by simp only [noteF, isoF, seqF, numF, List.length_append] <;> omega
  have hl1 : l.length + ((sev (zz x.from_)).length + (sev (zz x.state)).length + (sev (zz x.round)).length + (sev (zz x.leader)).length + (sev (zz x.epoch)).length + (sev (zz x.zxid)).length) ≤ 144900000000000 := by rw [← hlen]; exact hl
  clear hlen
  clear hl
  go_enter Tryz.func49, Tryz.ntmps49
  go_wp2_with fail
  have hcall0 : Calls Tryz.prog 52 #[.pointer (some ⟨b, 0, none⟩), .slice (some ⟨w.heap.size + 1, 0, none⟩) 6 6] ((w.alloc (.cells #[.int .i64 x.from_, .int .i64 x.state, .int .i64 x.round, .int .i64 x.leader, .int .i64 x.epoch, .int .i64 x.zxid] 54)).alloc (.cells #[.int .i64 x.from_, .int .i64 x.state, .int .i64 x.round, .int .i64 x.leader, .int .i64 x.epoch, .int .i64 x.zxid] 3)) (WPost ((w.alloc (.cells #[.int .i64 x.from_, .int .i64 x.state, .int .i64 x.round, .int .i64 x.leader, .int .i64 x.epoch, .int .i64 x.zxid] 54)).alloc (.cells #[.int .i64 x.from_, .int .i64 x.state, .int .i64 x.round, .int .i64 x.leader, .int .i64 x.epoch, .int .i64 x.zxid] 3)) b v (l ++ layN numF [x.from_, x.state, x.round, x.leader, x.epoch, x.zxid])) :=
    nums_call [x.from_, x.state, x.round, x.leader, x.epoch, x.zxid] _ _ (by simp) b _ _ S0.at_ (by simp only [List.mem_cons, List.not_mem_nil, or_false, forall_eq_or_imp, forall_eq]; exact ⟨hn_from_, hn_state, hn_round, hn_leader, hn_epoch, hn_zxid⟩) (by unfold maxLen; simp only [List.length_cons, List.length_nil]; omega) (by simp only [List.length_append, layN, List.flatMap_cons, List.flatMap_nil, List.append_nil, numF_lay]; omega)
  have HC0 := Lib.hid hcall0; clear hcall0
  refine HC0.out.mono ?_
  rintro e w1 h1
  obtain ⟨v1, rfl, S1⟩ := (S0.alloc _).step h1
  clear S0 h1 HC0
  go_wp2_with fail
  go_end0
  exact S1.unbox (by simp only [noteF, isoF, seqF, numF, layN, List.flatMap_cons, List.flatMap_nil, List.append_nil])

end Go.Proofs.YtpmemcpfoapjmaaGreat

namespace Go.Proofs.YtpmemcpfoapjmaaGreat
open Go.ChangeShapes Go.WideShapes Go.ChangeAt Go.RowKit
set_option linter.unusedVariables false

set_option maxRecDepth 100000 in
set_option maxHeartbeats 600000 in
theorem get_event (w : World) (b : Nat) (v : Value) (l : List UInt8) (p e : Nat) (hR : RAt w b v l p e) {x : Event} {q e' : Nat} (h : eventF.get l p e = (x, q, e')) :
    Calls Tryz.prog 45 #[.pointer (some ⟨b, 0, none⟩)] w (GPost eventE w b v l x q e') := by
  rcases h1 : numF.get l p e with ⟨x1, p1, e1⟩
  have hi1 : I64 x1 := by have := numF_i64 (l := l) (p := p) (e := e); rw [h1] at this; exact this
  rcases h2 : (textF 4096).get l p1 e1 with ⟨x2, p2, e2⟩
  have hi2 : Str x2 := by have := textF_str (most := 4096) (by omega) (l := l) (p := p1) (e := e1); rw [h2] at this; exact this
  rcases h3 : numF.get l p2 e2 with ⟨x3, p3, e3⟩
  have hi3 : I64 x3 := by have := numF_i64 (l := l) (p := p2) (e := e2); rw [h3] at this; exact this
  have hf : eventF.get l p e = (⟨x1, x2, x3⟩, p3, e3) := by simp only [eventF, isoF, seqF, h1, h2, h3]
  rw [hf] at h
  simp only [Prod.mk.injEq] at h
  obtain ⟨rfl, rfl, rfl⟩ := h
  have H1 := Lib.hid h1; clear h1
  have H2 := Lib.hid h2; clear h2
  have H3 := Lib.hid h3; clear h3
  clear hf
  have S0 := RSt.start (hR.alloc (.cells #[.int .i64 0, .string ⟨#[]⟩, .int .i64 0] 46))
  have hbk := heap_alloc_new w (.cells #[.int .i64 0, .string ⟨#[]⟩, .int .i64 0] 46)
  have hnb := rbox_new hR
  have hz0 : w.heap.size + 1 ≤ (w.alloc (.cells #[.int .i64 0, .string ⟨#[]⟩, .int .i64 0] 46)).heap.size := by simp
  go_enter Tryz.func45, Tryz.ntmps45
  go_wp2_with fail
  refine (gnum_any _ b v l _ _ S0.at_ H1.out).mono ?_
  rintro en w1 ⟨rfl, hR1, hk1⟩
  have S1 : RSt (w.alloc (.cells #[.int .i64 0, .string ⟨#[]⟩, .int .i64 0] 46)) b v l w1 p1 e1 := ⟨hR1, S0.kept.trans hk1⟩
  clear S0 hR1 hk1
  go_wp2_with fail
  refine (getText_any _ b v l _ _ S1.at_ H2.out).mono ?_
  rintro en w2 ⟨rfl, hR2, hk2⟩
  have S2 : RSt (w.alloc (.cells #[.int .i64 0, .string ⟨#[]⟩, .int .i64 0] 46)) b v l w2 p2 e2 := ⟨hR2, S1.kept.trans hk2⟩
  clear S1 hR2 hk2
  go_wp2_with fail
  refine (gnum_any _ b v l _ _ S2.at_ H3.out).mono ?_
  rintro en w3 ⟨rfl, hR3, hk3⟩
  have S3 : RSt (w.alloc (.cells #[.int .i64 0, .string ⟨#[]⟩, .int .i64 0] 46)) b v l w3 p3 e3 := ⟨hR3, S2.kept.trans hk3⟩
  clear S2 hR3 hk3
  have hb := S3.blk hbk hnb
  have hsz : (Tryz.prog.info? 46).map (·.size) = some 3 := by kernel_rfl
  have HSZ := Lib.hid hsz; clear hsz
  have HB := Lib.hid hb; clear hb
  go_wp2_with (refine wpList_store_row _ rfl 46 _ _ rfl w.heap.size _ [.int .i64 x1, .string x2, .int .i64 x3] rfl rfl HB.out HSZ.out rfl (by simp [Value.oneCell']) ?_)
  have hrow := setRow_heap w3 w.heap.size _ ([.int .i64 x1, .string x2, .int .i64 x3] : List Value).toArray _ _ HB.out
  have hload := run_loadVar_row (P := Tryz.prog) _ w.heap.size 46 46 _ (0, 0) _ hrow Tryz.underlying46 rfl HSZ.out
  exact ret_cell 2 46 w.heap.size _ Tryz.results45 rfl hload rfl ⟨_, rfl, ⟨rfl, hi1, hi2, hi3⟩, fin_R hR S3.at_ _, fin_K hR S3.kept _⟩

set_option maxRecDepth 100000 in
set_option maxHeartbeats 600000 in
theorem get_hello (w : World) (b : Nat) (v : Value) (l : List UInt8) (p e : Nat) (hR : RAt w b v l p e) {x : Hello} {q e' : Nat} (h : helloF.get l p e = (x, q, e')) :
    Calls Tryz.prog 83 #[.pointer (some ⟨b, 0, none⟩)] w (GPost helloE w b v l x q e') := by
  rcases h1 : numF.get l p e with ⟨x1, p1, e1⟩
  have hi1 : I64 x1 := by have := numF_i64 (l := l) (p := p) (e := e); rw [h1] at this; exact this
  rcases h2 : numF.get l p1 e1 with ⟨x2, p2, e2⟩
  have hi2 : I64 x2 := by have := numF_i64 (l := l) (p := p1) (e := e1); rw [h2] at this; exact this
  rcases h3 : numF.get l p2 e2 with ⟨x3, p3, e3⟩
  have hi3 : I64 x3 := by have := numF_i64 (l := l) (p := p2) (e := e2); rw [h3] at this; exact this
  rcases h4 : (textF 4096).get l p3 e3 with ⟨x4, p4, e4⟩
  have hi4 : Str x4 := by have := textF_str (most := 4096) (by omega) (l := l) (p := p3) (e := e3); rw [h4] at this; exact this
  have hf : helloF.get l p e = (⟨x1, x2, x3, x4⟩, p4, e4) := by simp only [helloF, isoF, seqF, h1, h2, h3, h4]
  rw [hf] at h
  simp only [Prod.mk.injEq] at h
  obtain ⟨rfl, rfl, rfl⟩ := h
  have H1 := Lib.hid h1; clear h1
  have H2 := Lib.hid h2; clear h2
  have H3 := Lib.hid h3; clear h3
  have H4 := Lib.hid h4; clear h4
  clear hf
  have S0 := RSt.start (hR.alloc (.cells #[.int .i64 0, .int .i64 0, .int .i64 0, .string ⟨#[]⟩] 51))
  have hbk := heap_alloc_new w (.cells #[.int .i64 0, .int .i64 0, .int .i64 0, .string ⟨#[]⟩] 51)
  have hnb := rbox_new hR
  have hz0 : w.heap.size + 1 ≤ (w.alloc (.cells #[.int .i64 0, .int .i64 0, .int .i64 0, .string ⟨#[]⟩] 51)).heap.size := by simp
  go_enter Tryz.func83, Tryz.ntmps83
  go_wp2_with fail
  refine (gnum_any _ b v l _ _ S0.at_ H1.out).mono ?_
  rintro en w1 ⟨rfl, hR1, hk1⟩
  have S1 : RSt (w.alloc (.cells #[.int .i64 0, .int .i64 0, .int .i64 0, .string ⟨#[]⟩] 51)) b v l w1 p1 e1 := ⟨hR1, S0.kept.trans hk1⟩
  clear S0 hR1 hk1
  go_wp2_with fail
  refine (gnum_any _ b v l _ _ S1.at_ H2.out).mono ?_
  rintro en w2 ⟨rfl, hR2, hk2⟩
  have S2 : RSt (w.alloc (.cells #[.int .i64 0, .int .i64 0, .int .i64 0, .string ⟨#[]⟩] 51)) b v l w2 p2 e2 := ⟨hR2, S1.kept.trans hk2⟩
  clear S1 hR2 hk2
  go_wp2_with fail
  refine (gnum_any _ b v l _ _ S2.at_ H3.out).mono ?_
  rintro en w3 ⟨rfl, hR3, hk3⟩
  have S3 : RSt (w.alloc (.cells #[.int .i64 0, .int .i64 0, .int .i64 0, .string ⟨#[]⟩] 51)) b v l w3 p3 e3 := ⟨hR3, S2.kept.trans hk3⟩
  clear S2 hR3 hk3
  go_wp2_with fail
  refine (getText_any _ b v l _ _ S3.at_ H4.out).mono ?_
  rintro en w4 ⟨rfl, hR4, hk4⟩
  have S4 : RSt (w.alloc (.cells #[.int .i64 0, .int .i64 0, .int .i64 0, .string ⟨#[]⟩] 51)) b v l w4 p4 e4 := ⟨hR4, S3.kept.trans hk4⟩
  clear S3 hR4 hk4
  have hb := S4.blk hbk hnb
  have hsz : (Tryz.prog.info? 51).map (·.size) = some 4 := by kernel_rfl
  have HSZ := Lib.hid hsz; clear hsz
  have HB := Lib.hid hb; clear hb
  go_wp2_with (refine wpList_store_row _ rfl 51 _ _ rfl w.heap.size _ [.int .i64 x1, .int .i64 x2, .int .i64 x3, .string x4] rfl rfl HB.out HSZ.out rfl (by simp [Value.oneCell']) ?_)
  have hrow := setRow_heap w4 w.heap.size _ ([.int .i64 x1, .int .i64 x2, .int .i64 x3, .string x4] : List Value).toArray _ _ HB.out
  have hload := run_loadVar_row (P := Tryz.prog) _ w.heap.size 51 51 _ (0, 0) _ hrow Tryz.underlying51 rfl HSZ.out
  exact ret_cell 2 51 w.heap.size _ Tryz.results83 rfl hload rfl ⟨_, rfl, ⟨rfl, hi1, hi2, hi3, hi4⟩, fin_R hR S4.at_ _, fin_K hR S4.kept _⟩

set_option maxRecDepth 100000 in
set_option maxHeartbeats 600000 in
theorem get_note (w : World) (b : Nat) (v : Value) (l : List UInt8) (p e : Nat) (hR : RAt w b v l p e) {x : Note} {q e' : Nat} (h : noteF.get l p e = (x, q, e')) :
    Calls Tryz.prog 85 #[.pointer (some ⟨b, 0, none⟩)] w (GPost noteE w b v l x q e') := by
  rcases h1 : numF.get l p e with ⟨x1, p1, e1⟩
  have hi1 : I64 x1 := by have := numF_i64 (l := l) (p := p) (e := e); rw [h1] at this; exact this
  rcases h2 : numF.get l p1 e1 with ⟨x2, p2, e2⟩
  have hi2 : I64 x2 := by have := numF_i64 (l := l) (p := p1) (e := e1); rw [h2] at this; exact this
  rcases h3 : numF.get l p2 e2 with ⟨x3, p3, e3⟩
  have hi3 : I64 x3 := by have := numF_i64 (l := l) (p := p2) (e := e2); rw [h3] at this; exact this
  rcases h4 : numF.get l p3 e3 with ⟨x4, p4, e4⟩
  have hi4 : I64 x4 := by have := numF_i64 (l := l) (p := p3) (e := e3); rw [h4] at this; exact this
  rcases h5 : numF.get l p4 e4 with ⟨x5, p5, e5⟩
  have hi5 : I64 x5 := by have := numF_i64 (l := l) (p := p4) (e := e4); rw [h5] at this; exact this
  rcases h6 : numF.get l p5 e5 with ⟨x6, p6, e6⟩
  have hi6 : I64 x6 := by have := numF_i64 (l := l) (p := p5) (e := e5); rw [h6] at this; exact this
  have hf : noteF.get l p e = (⟨x1, x2, x3, x4, x5, x6⟩, p6, e6) := by simp only [noteF, isoF, seqF, h1, h2, h3, h4, h5, h6]
  rw [hf] at h
  simp only [Prod.mk.injEq] at h
  obtain ⟨rfl, rfl, rfl⟩ := h
  have H1 := Lib.hid h1; clear h1
  have H2 := Lib.hid h2; clear h2
  have H3 := Lib.hid h3; clear h3
  have H4 := Lib.hid h4; clear h4
  have H5 := Lib.hid h5; clear h5
  have H6 := Lib.hid h6; clear h6
  clear hf
  have S0 := RSt.start (hR.alloc (.cells #[.int .i64 0, .int .i64 0, .int .i64 0, .int .i64 0, .int .i64 0, .int .i64 0] 54))
  have hbk := heap_alloc_new w (.cells #[.int .i64 0, .int .i64 0, .int .i64 0, .int .i64 0, .int .i64 0, .int .i64 0] 54)
  have hnb := rbox_new hR
  have hz0 : w.heap.size + 1 ≤ (w.alloc (.cells #[.int .i64 0, .int .i64 0, .int .i64 0, .int .i64 0, .int .i64 0, .int .i64 0] 54)).heap.size := by simp
  go_enter Tryz.func85, Tryz.ntmps85
  go_wp2_with fail
  refine (gnum_any _ b v l _ _ S0.at_ H1.out).mono ?_
  rintro en w1 ⟨rfl, hR1, hk1⟩
  have S1 : RSt (w.alloc (.cells #[.int .i64 0, .int .i64 0, .int .i64 0, .int .i64 0, .int .i64 0, .int .i64 0] 54)) b v l w1 p1 e1 := ⟨hR1, S0.kept.trans hk1⟩
  clear S0 hR1 hk1
  go_wp2_with fail
  refine (gnum_any _ b v l _ _ S1.at_ H2.out).mono ?_
  rintro en w2 ⟨rfl, hR2, hk2⟩
  have S2 : RSt (w.alloc (.cells #[.int .i64 0, .int .i64 0, .int .i64 0, .int .i64 0, .int .i64 0, .int .i64 0] 54)) b v l w2 p2 e2 := ⟨hR2, S1.kept.trans hk2⟩
  clear S1 hR2 hk2
  go_wp2_with fail
  refine (gnum_any _ b v l _ _ S2.at_ H3.out).mono ?_
  rintro en w3 ⟨rfl, hR3, hk3⟩
  have S3 : RSt (w.alloc (.cells #[.int .i64 0, .int .i64 0, .int .i64 0, .int .i64 0, .int .i64 0, .int .i64 0] 54)) b v l w3 p3 e3 := ⟨hR3, S2.kept.trans hk3⟩
  clear S2 hR3 hk3
  go_wp2_with fail
  refine (gnum_any _ b v l _ _ S3.at_ H4.out).mono ?_
  rintro en w4 ⟨rfl, hR4, hk4⟩
  have S4 : RSt (w.alloc (.cells #[.int .i64 0, .int .i64 0, .int .i64 0, .int .i64 0, .int .i64 0, .int .i64 0] 54)) b v l w4 p4 e4 := ⟨hR4, S3.kept.trans hk4⟩
  clear S3 hR4 hk4
  go_wp2_with fail
  refine (gnum_any _ b v l _ _ S4.at_ H5.out).mono ?_
  rintro en w5 ⟨rfl, hR5, hk5⟩
  have S5 : RSt (w.alloc (.cells #[.int .i64 0, .int .i64 0, .int .i64 0, .int .i64 0, .int .i64 0, .int .i64 0] 54)) b v l w5 p5 e5 := ⟨hR5, S4.kept.trans hk5⟩
  clear S4 hR5 hk5
  go_wp2_with fail
  refine (gnum_any _ b v l _ _ S5.at_ H6.out).mono ?_
  rintro en w6 ⟨rfl, hR6, hk6⟩
  have S6 : RSt (w.alloc (.cells #[.int .i64 0, .int .i64 0, .int .i64 0, .int .i64 0, .int .i64 0, .int .i64 0] 54)) b v l w6 p6 e6 := ⟨hR6, S5.kept.trans hk6⟩
  clear S5 hR6 hk6
  have hb := S6.blk hbk hnb
  have hsz : (Tryz.prog.info? 54).map (·.size) = some 6 := by kernel_rfl
  have HSZ := Lib.hid hsz; clear hsz
  have HB := Lib.hid hb; clear hb
  go_wp2_with (refine wpList_store_row _ rfl 54 _ _ rfl w.heap.size _ [.int .i64 x1, .int .i64 x2, .int .i64 x3, .int .i64 x4, .int .i64 x5, .int .i64 x6] rfl rfl HB.out HSZ.out rfl (by simp [Value.oneCell']) ?_)
  have hrow := setRow_heap w6 w.heap.size _ ([.int .i64 x1, .int .i64 x2, .int .i64 x3, .int .i64 x4, .int .i64 x5, .int .i64 x6] : List Value).toArray _ _ HB.out
  have hload := run_loadVar_row (P := Tryz.prog) _ w.heap.size 54 54 _ (0, 0) _ hrow Tryz.underlying54 rfl HSZ.out
  exact ret_cell 2 54 w.heap.size _ Tryz.results85 rfl hload rfl ⟨_, rfl, ⟨rfl, hi1, hi2, hi3, hi4, hi5, hi6⟩, fin_R hR S6.at_ _, fin_K hR S6.kept _⟩

end Go.Proofs.YtpmemcpfoapjmaaGreat
