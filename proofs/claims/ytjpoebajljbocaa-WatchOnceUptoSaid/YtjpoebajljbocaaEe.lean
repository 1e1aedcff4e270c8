/- slices.Sort; meet. -/
import Derived.Test.YtjpoebajljbocaaEd
import Derived.Test.YtjpoebajljbocaaShelw
import Derived.Shelf.SortM.Plain
import Derived.Shelf.SortM.SortNone
import Derived.Lib.SlKeysI
namespace Go.Proofs.Ytjpoebajljbocaa
open Go.ChangeShapes Go.WideShapes Go.ChangeAt Go.RowKit Go.Maps Go.Sort Go.Shelf Go.Proofs
set_option linter.unusedVariables false
set_option linter.unusedSimpArgs false
theorem tyI : RowTy Try.prog 51 3 1 8 := RowTy.of (z := .int .i64 0) Try.underlying51 (by kernel_rfl) rfl (by omega)
section
variable {w w' : World} {q : WQ} {L : WL} {D : DV} {E : Int → DV}
theorem sortW_call {B : Nat} {W : World} {v : Value} {l : List Int} (h : IRow B W v l) (hl : l.length ≤ 3000000000000) :
    Calls Try.prog 82 #[v] W fun e w' => e = .returned (.tuple #[]) ∧ IRow B w' v (l.mergeSort leI) ∧ W.grownBy w' v.ownBlock := by
  rcases h.2 with ⟨rfl, hz⟩ | ⟨gb, cap, cur, rfl, hbase, hgb, r1, r2, r3, r4⟩
  · have hss : l = [] := List.eq_nil_of_length_eq_zero hz
    subst hss
    refine (AnyM.slices_Sort_int_none Try.sortA none 0 W).mono ?_
    rintro e w' ⟨rfl, rfl⟩
    exact ⟨rfl, by simpa using h, World.grownBy.refl _ _⟩
  · have hH : Holds encZ W gb 0 l.toArray := holds_of_block_i hgb (by simpa using r4)
    have hgl : gb < W.heap.size := (Array.getElem?_eq_some_iff.1 hgb).1
    refine (AnyM.slices_Sort_int Try.sortA gb 0 cap l W hH hgl (by omega)).mono ?_
    rintro e w' ⟨rfl, nn, os, rfl⟩
    refine ⟨rfl, ?_, grownBy_sorted_i _⟩
    have := ownsRow_sorted_i (w := W) (n := nn) (os := os) (ss := l) (ts := l.mergeSort leI) (e := 3) (List.length_mergeSort ..) hbase hgb r1 r2 r3
    unfold IRow
    rw [List.length_mergeSort]
    exact this
theorem sorted_eq {l m : List Int} (hn : l.Nodup) (hm : m.Pairwise (fun a b => a < b)) (h : ∀ x, x ∈ l ↔ x ∈ m) : l.mergeSort leI = m := by
  have h2 : l.Perm m := (List.perm_ext_iff_of_nodup hn (hm.imp (fun h => by omega))).2 h
  rw [mergeSort_of_perm_i h2]
  have tr : ∀ a b c : Int, leI a b = true → leI b c = true → leI a c = true := fun a b c h1 h2 => by simp only [leI, decide_eq_true_eq] at *; exact Int.le_trans h1 h2
  have tot : ∀ a b : Int, (leI a b || leI b a) = true := fun a b => by simp only [leI, Bool.or_eq_true, decide_eq_true_eq]; exact Int.le_total a b
  refine List.Perm.eq_of_pairwise (le := fun a b => leI a b = true) (fun a b _ _ h1 h2 => ?_) (List.pairwise_mergeSort tr tot _) (hm.imp (fun h => by simp only [leI, decide_eq_true_eq]; omega)) (List.mergeSort_perm _ leI)
  simp only [leI, decide_eq_true_eq] at h1 h2
  exact Int.le_antisymm h1 h2
theorem kinds_fit (k : Int) : (∀ x ∈ kindsOf k, I64 x) ∧ (kindsOf k).length ≤ 100 := by
  unfold kindsOf I64
  split
  · simp
  · split
    · simp
    · split
      · simp
      · split <;> simp
theorem hits_few {L : WL} (hL : WlOk L) {ks : List Int} {p : ByteArray} {l : List Int} (hn : l.Nodup) (h : ∀ x ∈ l, (listW L x).any (hitB ks p) = true) : l.length ≤ L.length := by
  have := sub_len l (L.map Ws.id) hn (fun x hx => by
    have h1 := h x hx
    unfold listW at h1
    cases hg : getW L x with
    | none => rw [hg] at h1; simp at h1
    | some s => exact List.mem_map.2 ⟨s, getW_mem hg, getW_id hg⟩)
  simpa using this
structure MtRel (w0 : World) (q : WQ) (L : WL) (ks : List Int) (p : ByteArray) (r n : Nat) (v5 : Value) (wr : World) : Prop where
  ex : ∃ (q' : WQ) (D' : DV) (E' : Int → DV) (left : Lit → Bool) (cnt : Nat) (l : List Int), WD wr q' (partF (fun a => !left (.int .i64 a)) ks p L) D' E' ∧ wr.ranges Try.prog 3 tok q.m r n D' left cnt ∧ q'.t = q.t ∧ q'.m = q.m ∧
    (∀ a j, q'.B a = some j → q.B a = some j) ∧ Kept (fun j => WQs q j ∨ j = r) w0 wr ∧ IRow (r + 1) wr v5 l ∧ l.Nodup ∧ (∀ x, x ∈ l ↔ left (.int .i64 x) = false ∧ (listW L x).any (hitB ks p) = true)
def MeetPost (w : World) (q : WQ) (L : WL) (k : Int) (p : ByteArray) (e : Ending) (w' : World) : Prop := ∃ v, e = .returned v ∧ IRow w.heap.size w' v (toldL k p L) ∧ ∃ q', WAt w' q' (fireL k p L) ∧ q'.t = q.t ∧ (∀ j, WQs q' j → WQs q j) ∧ Kept (WQs q) w w'
def EvO (k : Int) (p : ByteArray) (z : Int) : Obj := .cells #[.int .i64 k, .string p, .int .i64 z] 70
theorem ev_cells {b : Nat} {k : Int} {p : ByteArray} {z : Int} (h : w.heap[b]? = some (EvO k p z)) : w.cell? ⟨b, 0, none⟩ = some (.int .i64 k) ∧ w.cell? ⟨b, 1, none⟩ = some (.string p) ∧ w.cell? ⟨b, 2, none⟩ = some (.int .i64 z) := by
  unfold EvO at h
  refine ⟨?_, ?_, ?_⟩ <;> simp [World.cell?, h]
theorem part_none (L : WL) (hL : WlOk L) (ks : List Int) (p : ByteArray) : partF (fun _ => false) ks p L = L :=
  wl_ext2 (hL.part _ _ _) hL fun i => by rw [getW_part hL]; simp
set_option maxRecDepth 100000 in
set_option maxHeartbeats 2000000 in
theorem meet_any (h : WAt w q L) (k : Int) (p : ByteArray) (z : Int) (hp : p.size ≤ 140737488355328) (hLl : L.length ≤ 3000000000000) :
    Calls Try.prog 57 #[.pointer (some ⟨q.t, 0, none⟩), .agg #[.int .i64 k, .string p, .int .i64 z]] w (MeetPost w q L k p) := by
  obtain ⟨D, E, h⟩ := h
  have hA : Kept (fun _ => False) w (w.alloc (EvO k p z)) := (Kept.refl _ w).alloc _
  have hbx := heap_alloc_new w (EvO k p z)
  have HM := Lib.hid (met_any k (w.alloc (EvO k p z)))
  have HA := Lib.hid hA
  have HBX := Lib.hid hbx
  have HD := Lib.hid h
  have hlt := h.lt _ (.inl rfl)
  have hltm := h.lt _ (.inr (.inl rfl))
  have HLT := Lib.hid h.lt
  have hmt := h.mt
  have hsz1 : (w.alloc (EvO k p z)).heap.size = w.heap.size + 1 := by simp
  have HSZ1 := Lib.hid hsz1
  have x0 : (w.alloc (EvO k p z)).cell? ⟨w.heap.size, 0, none⟩ = some (.int .i64 k) := (ev_cells hbx).1
  clear h hA hbx hsz1
  unfold EvO at *
  go_enter Try.func57, Try.ntmps57
  go_wp2_with (first
    | (go_at_call 80; refine HM.out.mono ?_; rintro e w2 ⟨v6, rfl, hv6, hk2⟩
       have HK2 := Lib.hid (HA.out.trans hk2)
       have HV6 := Lib.hid hv6
       have HBX2 := Lib.hid ((hk2.block w.heap.size (by rw [HSZ1.out]; omega) (fun f => f)).trans HBX.out)
       have hD2 := HD.out.kept0 HK2.out
       have hown2 := hD2.m
       obtain ⟨c0, f0⟩ := hD2.two
       have HD2 := Lib.hid hD2
       clear hk2 hv6 hD2)
    | (at_range; refine wpList_range_own _ rfl _ 118 rfl 3 127 keyI Try.underlying118 _ q.m _ _ rfl hown2 ?_; intro w0 hrg0 hg0 hs0)
    | fail)
  go_frame
  have hw2 : w.heap.size + 1 ≤ w2.heap.size := by have := HK2.out.size; have h9 := (HV6.out); have := HSZ1.out; have := lt_of_block HBX2.out; omega
  have hk0 : Kept (fun _ => False) w2 w0 := (Kept.of_grownBy hg0).mono (fun k _ e => by simp at e)
  have HK0 := Lib.hid (HK2.out.trans hk0)
  have HV0 := Lib.hid (irow_kept HV6.out hk0 (fun _ _ f => f))
  have HB0 := Lib.hid ((hk0.block w.heap.size (lt_of_block HBX2.out) (fun f => f)).trans HBX2.out)
  have HVB : Hid (∀ j, v6.ownBlock = some j → w.heap.size < j ∧ j < w2.heap.size) := Lib.hid (fun j hj => by
    have h1 := own_lo HV6.out hj
    have := HSZ1.out
    exact ⟨by omega, h1.2.1⟩)
  have hk00 := hk0
  have HKK := Lib.hid hk00
  have HRG0 := Lib.hid hrg0
  have HS0 := Lib.hid hs0
  clear hk0 hk00 hs0 hg0 hrg0
  obtain ⟨ks, hks⟩ : ∃ ks, kindsOf k = ks := ⟨_, rfl⟩
  have HKF := Lib.hid (kinds_fit k)
  have HKS := Lib.hid hks
  rw [hks] at HV0 HKF
  clear hks
  go_loopw [5] (fun v5 wr => MtRel w0 q L ks p w2.heap.size (Maps.size D) v5 wr) (fun _ wr => wr.rangeLeft q.m w2.heap.size)
  case atStart =>
    refine ⟨q, D, E, _, _, [], ?_, HRG0.out, rfl, rfl, fun a j h => h, Kept.refl _ _, World.ownsRow_nil _ _ _ _, List.nodup_nil, fun x => ?_⟩
    · have : partF (fun a => !has D (.int .i64 a)) ks p L = L := wl_ext2 (HD.out.ok.part _ _ _) HD.out.ok fun i => by
        rw [getW_part HD.out.ok]
        cases hh : has D (.int .i64 i) with
        | true => simp
        | false =>
          have : q.B i = none := by
            have h1 := lookV_isSome D (.int .i64 i)
            rw [HD.out.D, Option.isSome_map, hh] at h1
            cases hb : q.B i with
            | none => rfl
            | some k => rw [hb] at h1; cases h1
          rw [HD.out.noneB.1 this]; simp [strikeW]
      rw [this]
      exact HD2.out.kept0 HKK.out
    · constructor
      · intro hx; cases hx
      · rintro ⟨h1, h2⟩
        have : q.B x = none := by
          have h3 := lookV_isSome D (.int .i64 x)
          rw [HD.out.D, Option.isSome_map, h1] at h3
          cases hb : q.B x with
          | none => rfl
          | some k => rw [hb] at h3; cases h3
        rw [HD.out.noneB.1 this] at h2; simp at h2
  case round =>
    obtain ⟨q', D', E', left, cnt, l, hD', hrg, hqt, hqm, hqB, hkw, hrow, hnd, hI⟩ := hrel.ex
    clear hrel
    have HD' := Lib.hid hD'
    have HQ := Lib.hid (And.intro hqt hqm)
    have HQB := Lib.hid hqB
    have HKW := Lib.hid hkw
    have HKA : Hid (Kept (WQs q) w wr) := Lib.hid (HK0.out.mono (T := WQs q) (fun _ _ f => f.elim) |>.trans' hkw (fun j hj e => e.elim id (fun e => by omega)))
    have HRW := Lib.hid hrow
    have HND := Lib.hid hnd
    have HI := Lib.hid hI
    have hlr := hrg.lt
    have HFW := Lib.hid (hits_few HD.out.ok hnd (fun x hx => ((hI x).1 hx).2))
    clear hD' hqt hqm hqB hkw hrow hnd hI
    go_wp2_with (first
      | (at_next; refine wpList_next_ranges _ rfl _ rfl 3 keyI tok (fun x : Int => Value.int .i64 x) id (fun key kl hkey => by obtain ⟨x, rfl, _⟩ := keyOf_int_inv Try.underlying3 hkey; exact ⟨x, rfl⟩) (fun v _ _ => ⟨v, rfl⟩) q.m w2.heap.size _ _ _ _ rfl hrg ?_ ?_)
      | fail)
    · intro _ hl0
      have hmem : ∀ x, x ∈ l ↔ x ∈ toldL k p L := fun x => by
        rw [HI.out x, mem_told HD.out.ok, HKS.out, hl0]; simp
      have HS := Lib.hid (sorted_eq HND.out (told_rising HD.out.ok) hmem)
      have HFI : Hid (WD wr q' (fireL k p L) D' E') := Lib.hid (by
        have := HD'.out
        rw [show (fun a => !left (.int .i64 a)) = (fun _ => true) by funext a; rw [hl0]; rfl] at this
        unfold fireL; rw [HKS.out]; exact this)
      clear hmem hl0
      go_wp2_with (first
        | (go_at_call 82; refine (sortW_call HRW.out (by have := HFW.out; omega)).mono ?_; rintro e w5 ⟨rfl, hr5, hg5⟩; have HR5 := Lib.hid hr5; have HG5 := Lib.hid hg5; clear hr5 hg5)
        | fail)
      go_ret
      have hr := HR5.out
      rw [HS.out] at hr
      have hk5 : Kept (fun j => w2.heap.size < j) wr w5 := (Kept.of_grownBy HG5.out).mono (fun j _ e => by have := own_lo HRW.out e.symm; omega)
      have hqlt : ∀ j, WQs q' j → j < w.heap.size := fun j hj => by
        rcases hj with e | e | ⟨a, ha⟩
        · rw [e, HQ.out.1]; exact hlt
        · rw [e, HQ.out.2]; exact hltm
        · exact HLT.out j (.inr (.inr ⟨a, HQB.out a j ha⟩))
      refine ⟨_, rfl, ⟨hr.1, hr.2.imp id (fun ⟨g, cap, cur, e1, e2, e3⟩ => ⟨g, cap, cur, e1, by omega, e3⟩)⟩, q', ⟨_, _, HFI.out.kept hk5 (fun j hj e => by have := hqlt j hj; have e : w2.heap.size < j := e; omega)⟩, HQ.out.1, fun j hj => ?_, HKA.out.trans' hk5 (fun j hj e => by have e : w2.heap.size < j := e; omega)⟩
      rcases hj with e | e | ⟨a, ha⟩
      · exact .inl (e.trans HQ.out.1)
      · exact .inr (.inl (e.trans HQ.out.2))
      · exact .inr (.inr ⟨a, HQB.out a j ha⟩)
    · intro x v kl yd yp w3 cnt3 hkey hlx hv hat hrg3 hlt3 hg3 hs3 hen
      obtain ⟨x', ex, rfl, hx⟩ := keyOf_int_inv Try.underlying3 hkey
      cases ex
      obtain ⟨rfl, rfl⟩ := tok_inj hv
      have hlook := lookV_some hat
      rw [HD'.out.D] at hlook
      obtain ⟨kb, hkb, rfl⟩ : ∃ kb, q'.B x = some kb ∧ v = .map (some kb) := by
        cases hb : q'.B x with
        | none => rw [hb] at hlook; cases hlook
        | some kb => rw [hb] at hlook; injection hlook with e; exact ⟨kb, rfl, e.symm⟩
      have hkr : Kept (fun j => j = w2.heap.size) wr w3 := (Kept.of_grownBy hg3).mono (fun j _ e => by injection e)
      have hqlt : ∀ j, WQs q' j → j < w.heap.size := fun j hj => by
        rcases hj with e | e | ⟨a, ha⟩
        · rw [e, HQ.out.1]; exact hlt
        · rw [e, HQ.out.2]; exact hltm
        · exact HLT.out j (.inr (.inr ⟨a, HQB.out a j ha⟩))
      have hkblt := hqlt kb (.inr (.inr ⟨x, hkb⟩))
      have hD3 := HD'.out.kept hkr (fun j hj e => by have := hqlt j hj; have e : j = w2.heap.size := e; omega)
      have hx64 : I64 x := by
        simp [Lit.wf, IntKind.min, IntKind.max, IntKind.bits, IntKind.signed] at hx
        unfold I64; omega
      have hk03 : Kept (fun j => WQs q j ∨ j = w2.heap.size) w0 w3 := HKW.out.trans (hkr.mono (fun j _ e => .inr e))
      have hv3 : IRow (w.heap.size + 1) w3 v6 ks := by
        have h1 := HV0.out
        rw [HSZ1.out] at h1
        exact irow_kept h1 hk03 (fun j hj e => by
          have h2 := HVB.out j hj
          rcases e with e | e
          · have := HLT.out j e; omega
          · omega)
      have hx1 := (ev_cells ((hk03.block w.heap.size (lt_of_block HB0.out) (by
        rintro (e | e)
        · have := HLT.out _ e; omega
        · omega)).trans HB0.out)).2.1
      have hlL : listW (partF (fun a => !left (.int .i64 a)) ks p L) x = listW L x := by
        rw [getW_part HD.out.ok, hlx]; simp
      have HTK := Lib.hid (take_any hD3 hkb hx64 hp HKF.out.1 HKF.out.2 hv3 (fun j hj e => by have := HVB.out j hj; omega) (by rw [HQ.out.2]; exact hrg3) (by omega : w2.heap.size ≠ kb))
      rw [hlL, HQ.out.1] at HTK
      have HLX := Lib.hid hlx
      have HLT3 := Lib.hid hlt3
      have HK03 := Lib.hid hk03
      have HR3 := Lib.hid (irow_kept HRW.out hkr (fun j hj e => by have := own_lo HRW.out hj; omega))
      have HKB := Lib.hid hkblt
      have HX : Hid ((Lit.int .i64 x).sameKey (.int .i64 x) = true) := Lib.hid (WideAt.sameKey_self (by simp [WideAt.IsKeyLit]))
      have hs3' : w2.heap.size < w3.heap.size := by rw [hs3]; exact hlr
      have HX64 := Lib.hid hx64
      have HQM := Lib.hid HQ.out.2
      obtain ⟨bb, hbb⟩ : ∃ bb, decide ((strikeW ks p (listW L x)).length < (listW L x).length) = bb := ⟨_, rfl⟩
      have HBB : Hid (bb = (listW L x).any (hitB ks p)) := Lib.hid (by
        rw [← hbb, Bool.eq_iff_iff, ← strike_any]; simp)
      rw [hbb] at HTK
      have HEND : Hid (∀ w4, TakeW w3 q' (partF (fun a => !left (.int .i64 a)) ks p L) x kb (strikeW ks p (listW L x)) w2.heap.size (Maps.size D) (fun z => left z && !z.sameKey (.int .i64 x)) cnt3 w4 →
          ∃ (q'' : WQ) (D'' : DV) (E'' : Int → DV) (left' : Lit → Bool) (cnt' : Nat), WD w4 q'' (partF (fun a => !left' (.int .i64 a)) ks p L) D'' E'' ∧ w4.ranges Try.prog 3 tok q.m w2.heap.size (Maps.size D) D'' left' cnt' ∧ cnt' < cnt ∧ q''.t = q.t ∧ q''.m = q.m ∧
            (∀ a j, q''.B a = some j → q.B a = some j) ∧ Kept (fun j => WQs q j ∨ j = w2.heap.size) w0 w4 ∧ (∀ y, left' (.int .i64 y) = false ↔ y = x ∨ left (.int .i64 y) = false) ∧ Kept (fun j => WQs q j) w3 w4) := Lib.hid (fun w4 hT => by
        obtain ⟨q'', D'', E'', left', cnt', g1, g2, g3, g4, g5, g6, g7, g8, g9⟩ := hT.ex
        have hkw4 : Kept (fun j => WQs q j) w3 w4 := g9.mono (fun j _ e => by
          rcases e with e | e
          · exact .inr (.inl (e.trans HQM.out))
          · exact .inr (.inr ⟨x, HQB.out x j (e ▸ hkb)⟩))
        have hlf : ∀ y, left' (.int .i64 y) = false ↔ y = x ∨ left (.int .i64 y) = false := fun y => by
          by_cases e : y = x
          · subst e
            simp only [true_or, iff_true]
            cases hh : left' (.int .i64 y) with
            | false => rfl
            | true =>
              have := g4 _ hh
              rw [HX.out] at this; simp at this
          · rw [g5 y e]
            have : (Lit.int .i64 y).sameKey (.int .i64 x) = false := by
              cases hh : (Lit.int .i64 y).sameKey (.int .i64 x) with
              | false => rfl
              | true => have := WideAt.sameKey_eq hh; injection this with _ e'; exact absurd e' e
            rw [this]; simp [e]
        have hL : setW (partF (fun a => !left (.int .i64 a)) ks p L) x (strikeW ks p (listW L x)) = partF (fun a => !left' (.int .i64 a)) ks p L := by
          refine wl_ext2 g1.ok (HD.out.ok.part _ _ _) fun i => ?_
          rw [listW_set (HD.out.ok.part _ _ _).up, getW_part HD.out.ok, getW_part HD.out.ok]
          by_cases e : x = i
          · subst e
            rw [if_pos rfl, (hlf x).2 (.inl rfl)]; simp
          · rw [if_neg e]
            have : left' (.int .i64 i) = left (.int .i64 i) := by
              rw [Bool.eq_iff_iff]
              have := hlf i
              cases h1 : left' (.int .i64 i) <;> cases h2 : left (.int .i64 i) <;> rw [h1, h2] at this <;> simp at this ⊢
              exact e this.symm
            rw [this]
        rw [hL] at g1
        refine ⟨q'', D'', E'', left', cnt', g1, by rw [HQM.out] at g2; exact g2, by have := HLT3.out; omega, g6.trans HQ.out.1, g7.trans HQ.out.2, fun a j ha => HQB.out a j (g8 a j ha), HK03.out.trans (hkw4.mono (fun j _ e => .inl e)), hlf, hkw4⟩)
      clear hlook hkr hD3 hv3 hk03 hlL hlx hlt3 hbb hs3 hx64 hrg3 hx hat
      have hxx := hx1
      cases bb
      · go_wp2_with (first
          | (go_at_call 81; refine HTK.out.mono ?_; rintro e w4 ⟨rfl, hT⟩)
          | fail)
        obtain ⟨q'', D'', E'', left', cnt', g1, g2, g3, g4, g5, g6, g7, g8, g9⟩ := HEND.out w4 hT
        go_roundw
        case rel =>
          refine ⟨q'', D'', E'', left', cnt', l, g1, g2, g4, g5, g6, g7, irow_kept HR3.out g9 (fun j hj e => by have := own_lo HRW.out hj; have := HLT.out j e; omega), HND.out, fun y => ?_⟩
          rw [HI.out y, g8]
          constructor
          · rintro ⟨h1, h2⟩; exact ⟨.inr h1, h2⟩
          · rintro ⟨h1 | h1, h2⟩
            · subst h1; rw [← HBB.out] at h2; cases h2
            · exact ⟨h1, h2⟩
        case measure => rw [g2.left_eq, hrg.left_eq]; exact g3
      · have hfw : l.length ≤ 3000000000000 := by have := HFW.out; omega
        have hrow4 : ∀ w4, Kept (fun j => WQs q j) w3 w4 → IRow (w2.heap.size + 1) w4 u5 l := fun w4 g9 => irow_kept HR3.out g9 (fun j hj e => by have := own_lo HRW.out hj; have := HLT.out j e; omega)
        have HR4 := Lib.hid hrow4
        clear hrow4
        go_wp2_with (first
          | (go_at_call 81; refine HTK.out.mono ?_; rintro e w4 ⟨rfl, hT⟩
             obtain ⟨q'', D'', E'', left', cnt', g1, g2, g3, g4, g5, g6, g7, g8, g9⟩ := HEND.out w4 hT
             have G := Lib.hid (And.intro g1 (And.intro g2 (And.intro g3 (And.intro g4 (And.intro g5 (And.intro g6 (And.intro g7 (And.intro g8 g9))))))))
             have HR5 := Lib.hid (HR4.out w4 g9)
             have hbase : w2.heap.size + 1 ≤ w4.heap.size := Nat.le_trans hs3' g9.size
             obtain ⟨a5, c5, rfl⟩ := own_shape HR5.out
             clear g1 g2 g3 g4 g5 g6 g7 g8 g9 hT)
          | (at_builtin; refine wpList_row1 tyI rfl _ _ rfl rfl HR5.out [.int .i64 x] rfl rfl (by simp [Value.oneCell']) (by omega) (by unfold maxLen; omega) hbase ?_; intro v6' w6 hown6 hg6)
          | fail)
        obtain ⟨g1, g2, g3, g4, g5, g6, g7, g8, g9⟩ := G.out
        have hk46 : Kept (fun j => w2.heap.size < j) w4 w6 := ((Kept.refl (fun j => w2.heap.size < j) w4).alloc _).trans' (Kept.of_grownBy hg6) (fun j hj e => by have := own_lo HR5.out e.symm; omega)
        have hqlt : ∀ j, WQs q'' j → j < w.heap.size := fun j hj => by
          rcases hj with e | e | ⟨a, ha⟩
          · rw [e, g4]; exact hlt
          · rw [e, g5]; exact hltm
          · exact HLT.out j (.inr (.inr ⟨a, g6 a j ha⟩))
        go_roundw
        case rel =>
          refine ⟨q'', D'', E'', left', cnt', l ++ [x], g1.kept hk46 (fun j hj e => by have := hqlt j hj; have e : w2.heap.size < j := e; omega), ranges_kept g2 hk46 (fun e => by have e : w2.heap.size < q.m := e; omega) (fun e => by have e : w2.heap.size < w2.heap.size := e; omega), g4, g5, g6, g7.trans' hk46 (fun j hj e => by have e : w2.heap.size < j := e; have := HS0.out; omega), ?_, ?_, fun y => ?_⟩
          · unfold IRow; rw [List.length_append, List.map_append]; exact hown6
          · refine List.nodup_append.2 ⟨HND.out, by simp, fun a ha b hb e => ?_⟩
            simp at hb; subst e; subst hb
            have := ((HI.out a).1 ha).1
            rw [HLX.out] at this; cases this
          · rw [List.mem_append, HI.out y, g8]
            constructor
            · rintro (⟨h1, h2⟩ | h1)
              · exact ⟨.inr h1, h2⟩
              · simp at h1; subst h1; exact ⟨.inl rfl, HBB.out.symm⟩
            · rintro ⟨h1 | h1, h2⟩
              · right; simp [h1]
              · left; exact ⟨h1, h2⟩
        case measure => rw [(ranges_kept g2 hk46 (fun e => by have e : w2.heap.size < q.m := e; omega) (fun e => by have e : w2.heap.size < w2.heap.size := e; omega)).left_eq, hrg.left_eq]; exact g3
end
end Go.Proofs.Ytjpoebajljbocaa
