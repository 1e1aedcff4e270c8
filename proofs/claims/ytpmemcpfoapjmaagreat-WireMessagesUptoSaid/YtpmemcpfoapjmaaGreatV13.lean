/- OverEntry: an entry that came out is written over, and its lists are grown: every block keeps its type and size, the rows their lists; nothing else turns. The lists of a message that came out: they may be written over. The document's own answers of layer 2: part, taken up. The document's own answers of layer 2: a transaction, taken up. -/
import Derived.Test.YtpmemcpfoapjmaaGreatV07
import Derived.Test.YtpmemcpfoapjmaaGreatV06
import Derived.Test.YtpmemcpfoapjmaaGreatV10
import Derived.Test.YtpmemcpfoapjmaaGreatV04
import Derived.Deep.DeepCutAuto
import Derived.WalkSpells
import Derived.Outline
namespace Go.Proofs.YtpmemcpfoapjmaaGreat
open Go.ChangeShapes Go.WideShapes Go.ChangeAt Go.RowKit
set_option linter.unusedVariables false

theorem ListR.size_le {α : Type} {E : CellsOf α} {w : World} {ok : Nat → Prop} {sz : Nat} {A : Option Addr} {n c : Nat} {l : List α} (h : ListR E w ok sz (.slice A n c) l) : n = l.length := by
  obtain ⟨rows, ⟨A', c', hv, _⟩, hlen, _⟩ := h
  simp only [Value.slice.injEq] at hv
  rw [hv.2.1, hlen]

/-- lists that OverEntry may have -/
structure OvOk (w : World) (base top : Nat) (vs va : Value) : Prop where
  subs : OwnL w base top 36 8 vs
  acl : OwnL w base top 56 2 va
  rows : RowsOwn w base top vs 0
theorem OvOk.soft {w0 w : World} {base top : Nat} {vs va : Value} (h : OvOk w0 base top vs va) (hs : Soft base top w0 w) : OvOk w base top vs va := ⟨h.subs.soft hs, h.acl.soft hs, h.rows.soft h.subs hs⟩

theorem int_txn : 3 ≠ (36 : Nat) := by decide
theorem acl_txn : 56 ≠ (36 : Nat) := by decide
theorem acl_entry : 56 ≠ (38 : Nat) := by decide

set_option maxRecDepth 100000 in
set_option maxHeartbeats 1600000 in
theorem over_cells (v0 v1 v2 v3 v4 v5 v7 v8 v9 : Value) (Aa : Option Addr) (na ca : Nat) (As : Option Addr) (ns c : Nat) (base top : Nat) (w : World) (hok : OvOk w base top (.slice As ns c) (.slice Aa na ca)) (htop : top ≤ w.heap.size) (hn1 : na ≤ 256) (hn2 : ns ≤ 256) :
    Calls Tryz.prog 29 #[.agg ([v0, v1, v2, v3, v4, v5, .slice Aa na ca, v7, v8, v9, .slice As ns c] : List Value).toArray] w fun e w' => e = .returned (.tuple #[]) ∧ Soft base top w w' := by
  have HSA := Lib.hid (show (Tryz.prog.info? 56).map (·.size) = some 2 by kernel_rfl)
  have HST := Lib.hid (show (Tryz.prog.info? 36).map (·.size) = some 8 by kernel_rfl)
  have HSI := Lib.hid (show (Tryz.prog.info? 3).map (·.size) = some 1 by kernel_rfl)
  have hbk := heap_alloc_new w (.cells ([v0, v1, v2, v3, v4, v5, .slice Aa na ca, v7, v8, v9, .slice As ns c] : List Value).toArray 38)
  have hk0 : Old w (w.alloc (.cells ([v0, v1, v2, v3, v4, v5, .slice Aa na ca, v7, v8, v9, .slice As ns c] : List Value).toArray 38)) := (Kept.refl _ w).alloc _
  have hs0 : Soft base top w (w.alloc (.cells ([v0, v1, v2, v3, v4, v5, .slice Aa na ca, v7, v8, v9, .slice As ns c] : List Value).toArray 38)) := (Soft.refl base top w).old hk0
  have HBK := Lib.hid (show ∀ wq, Soft base top (w.alloc (.cells ([v0, v1, v2, v3, v4, v5, .slice Aa na ca, v7, v8, v9, .slice As ns c] : List Value).toArray 38)) wq → wq.heap[w.heap.size]? = some (.cells ([v0, v1, v2, v3, v4, v5, .slice Aa na ca, v7, v8, v9, .slice As ns c] : List Value).toArray 38 (0, 0)) from fun wq h => (h.entry _ _ hbk).trans hbk)
  have HOK := Lib.hid (hok.soft hs0)
  have HFIN := Lib.hid (show ∀ wq, Soft base top (w.alloc (.cells ([v0, v1, v2, v3, v4, v5, .slice Aa na ca, v7, v8, v9, .slice As ns c] : List Value).toArray 38)) wq → Soft base top w wq from fun wq h => hs0.trans_ h)
  have hz1 : w.heap.size < (w.alloc (.cells ([v0, v1, v2, v3, v4, v5, .slice Aa na ca, v7, v8, v9, .slice As ns c] : List Value).toArray 38)).heap.size := by simp
  clear hs0 hbk hk0 hok
  go_enter Tryz.func29, Tryz.ntmps29
  go_wp2_with fail
  generalize w.alloc (.cells _ 38) = w1 at HBK HOK HFIN hz1 ⊢
  go_loopw [2] (fun iv wq => ∃ i : Nat, iv = .int .i64 (i : Nat) ∧ i ≤ ns ∧ Soft base top w1 wq) (fun iv _ => ns - (intOf iv).toNat)
  case atStart => exact ⟨0, rfl, Nat.zero_le _, Soft.refl _ _ _⟩
  case round =>
    obtain ⟨i, rfl, hi, hst⟩ := hrel
    have hoq := HOK.out.soft hst
    have c10 := cell_of_heap (i := 10) (HBK.out _ hst) rfl
    have hln := hoq.subs.len
    unfold maxLen at hln
    by_cases hlt : i < ns
    · have hkl : (i : Int) < (ns : Int) := by omega
      obtain ⟨gs, rfl, hgb, hgt, _, _⟩ := hoq.subs.at_ hlt
      obtain ⟨vl, hvl, hol⟩ := hoq.rows gs ns c rfl i (Nat.zero_le _) hlt
      obtain ⟨Al, nl, cl, rfl⟩ := hol.shape
      have HST0 := Lib.hid hst
      have HOL := Lib.hid hol
      clear hst hol hoq
      go_wp2_with fail
      clear c10 hvl
      go_loopw [4] (fun kv wq => ∃ k : Nat, kv = .int .i64 (k : Nat) ∧ k ≤ nl ∧ Soft base top w1 wq ∧ OwnL wq base top 56 2 (.slice Al nl cl)) (fun kv _ => nl - (intOf kv).toNat)
      case atStart => exact ⟨0, rfl, Nat.zero_le _, HST0.out, HOL.out⟩
      case round =>
        obtain ⟨k, rfl, hk, hst, hol⟩ := hrel
        have hln2 := hol.len
        unfold maxLen at hln2
        by_cases hlk : k < nl
        · have hkl2 : (k : Int) < (nl : Int) := by omega
          obtain ⟨gl, rfl, hlb, hlt2, hth, cur, hcur⟩ := hol.at_ hlk
          have HT := Lib.hid hth
          have HLK := Lib.hid hlk
          obtain ⟨wn, hwn⟩ : ∃ u, World.setCells wr gl (k * 2) [.int .i64 (-3), .string ⟨#[]⟩] = u := ⟨_, rfl⟩
          have HWN := Lib.hid hwn; clear hwn
          have HONE := Lib.hid (show ∀ v ∈ ([.int .i64 (-3), .string ⟨#[]⟩] : List Value), v.oneCell' = true by simp [Value.oneCell'])
          have HST1 := Lib.hid (hst.misc hcur acl_txn acl_entry hlb hlt2 (k * 2) [.int .i64 (-3), .string ⟨#[]⟩])
          have HOL1 := Lib.hid (hol.set gl (k * 2) [.int .i64 (-3), .string ⟨#[]⟩])
          clear hst hol hth hcur
          go_wp2_with (refine wpList_store_over rfl 56 (.tmp 32) (.tmp 31) rfl gl (k * 2) [.int .i64 (-3), .string ⟨#[]⟩] 2 rfl rfl HT.out rfl HSA.out HONE.out wn HWN.out ?_)
          go_roundw
          case rel => rw [← HWN.out]; exact ⟨k + 1, by go_num, HLK.out, HST1.out, HOL1.out⟩
          case measure => have h := HLK.out; simp [intOf]; omega
        · have hkl2 : ¬ (k : Int) < (nl : Int) := by omega
          have c10 := cell_of_heap (i := 10) (HBK.out _ hst) rfl
          obtain ⟨g', hg', _, _, hth, cur, hcur⟩ := (HOK.out.soft hst).subs.at_ hlt
          simp only [Option.some.injEq, Addr.mk.injEq, and_true] at hg'
          subst hg'
          have HT := Lib.hid hth
          have HLT := Lib.hid hlt
          obtain ⟨wn, hwn⟩ : ∃ u, World.setCells wr gs (i * 8) [.int .i64 (-3), .string ⟨#[]⟩, .string ⟨#[]⟩, .slice none 0 0, .int .i64 0, .int .i64 0, .int .i64 0, .slice none 0 0] = u := ⟨_, rfl⟩
          have HWN := Lib.hid hwn; clear hwn
          have HONE := Lib.hid (show ∀ v ∈ ([.int .i64 (-3), .string ⟨#[]⟩, .string ⟨#[]⟩, .slice none 0 0, .int .i64 0, .int .i64 0, .int .i64 0, .slice none 0 0] : List Value), v.oneCell' = true by simp [Value.oneCell'])
          have HST1 := Lib.hid (hst.row hcur hgb hgt [.int .i64 (-3), .string ⟨#[]⟩, .string ⟨#[]⟩, .slice none 0 0, .int .i64 0, .int .i64 0, .int .i64 0, .slice none 0 0] hth rfl rfl)
          clear hst hol hth hcur
          go_wp2_with (refine wpList_store_over rfl 36 (.tmp 38) (.tmp 37) rfl gs (i * 8) [.int .i64 (-3), .string ⟨#[]⟩, .string ⟨#[]⟩, .slice none 0 0, .int .i64 0, .int .i64 0, .int .i64 0, .slice none 0 0] 8 rfl rfl HT.out rfl HST.out HONE.out wn HWN.out ?_)
          go_roundw
          case rel => rw [← HWN.out]; exact ⟨i + 1, by go_num, HLT.out, HST1.out⟩
          case measure => have h := HLT.out; simp [intOf]; omega
    · have hkl : ¬ (i : Int) < (ns : Int) := by omega
      have HST0 := Lib.hid hst; clear hst hoq
      go_wp2_with fail
      clear c10
      go_loopw [5] (fun kv wq => ∃ k : Nat, kv = .int .i64 (k : Nat) ∧ k ≤ na ∧ Soft base top w1 wq) (fun kv _ => na - (intOf kv).toNat)
      case atStart => exact ⟨0, rfl, Nat.zero_le _, HST0.out⟩
      case round =>
        obtain ⟨k, rfl, hk, hst⟩ := hrel
        have hoq := HOK.out.soft hst
        have c6 := cell_of_heap (i := 6) (HBK.out _ hst) rfl
        have hln2 := hoq.acl.len
        unfold maxLen at hln2
        by_cases hlk : k < na
        · have hkl2 : (k : Int) < (na : Int) := by omega
          obtain ⟨gl, rfl, hlb, hlt2, hth, cur, hcur⟩ := hoq.acl.at_ hlk
          have HT := Lib.hid hth
          have HLK := Lib.hid hlk
          obtain ⟨wn, hwn⟩ : ∃ u, World.setCells wr gl (k * 2) [.int .i64 (-3), .string ⟨#[111, 118, 101, 114]⟩] = u := ⟨_, rfl⟩
          have HWN := Lib.hid hwn; clear hwn
          have HONE := Lib.hid (show ∀ v ∈ ([.int .i64 (-3), .string ⟨#[111, 118, 101, 114]⟩] : List Value), v.oneCell' = true by simp [Value.oneCell'])
          have HST1 := Lib.hid (hst.misc hcur acl_txn acl_entry hlb hlt2 (k * 2) [.int .i64 (-3), .string ⟨#[111, 118, 101, 114]⟩])
          clear hst hth hcur hoq
          go_wp2_with (refine wpList_store_over rfl 56 (.tmp 52) (.tmp 51) rfl gl (k * 2) [.int .i64 (-3), .string ⟨#[111, 118, 101, 114]⟩] 2 rfl rfl HT.out rfl HSA.out HONE.out wn HWN.out ?_)
          go_roundw
          case rel => rw [← HWN.out]; exact ⟨k + 1, by go_num, HLK.out, HST1.out⟩
          case measure => have h := HLK.out; simp [intOf]; omega
        · have hkl2 : ¬ (k : Int) < (na : Int) := by omega
          obtain ⟨it, hti, htz, htz1, htz2⟩ := info_parts info_part
          obtain ⟨ia, hai, haz, haz1, haz2⟩ := info_parts info_acl
          have c10 := cell_of_heap (i := 10) (HBK.out _ hst) rfl
          have hkA : Old wr (wr.alloc (.cells ([.int .i64 (-4), .string ⟨#[]⟩, .string ⟨#[]⟩, .slice none 0 0, .int .i64 0, .int .i64 0, .int .i64 0, .slice none 0 0] : List Value).toArray 36)) := (Kept.refl _ wr).alloc _
          have hzr : w1.heap.size ≤ wr.heap.size := hst.kept.size
          obtain ⟨g1, c1, w2, hr1, hc1, hm1, hth1, ⟨cur1, hb1⟩, hway1⟩ := run_append_soft (P := Tryz.prog) (hoq.subs.keep hkA (fun _ _ _ f => f)) (range_new wr [.int .i64 (-4), .string ⟨#[]⟩, .string ⟨#[]⟩, .slice none 0 0, .int .i64 0, .int .i64 0, .int .i64 0, .slice none 0 0] 36) ⟨rfl, by simp [Value.oneCell']⟩ (c1 := 1) 34 34 it _ Tryz.underlying34 hti htz htz1 htz2 rfl (by decide) (by omega) (by decide)
          have hstA := hst.old hkA
          have hzA : wr.heap.size ≤ (wr.alloc (.cells ([.int .i64 (-4), .string ⟨#[]⟩, .string ⟨#[]⟩, .slice none 0 0, .int .i64 0, .int .i64 0, .int .i64 0, .slice none 0 0] : List Value).toArray 36)).heap.size := hkA.size
          have hst2 : Soft base top w1 w2 := by
            rcases hway1 with ⟨_, h2⟩ | ⟨h1, h2, ⟨cu, h3⟩, h4, h5⟩
            · exact hstA.old h2
            · rw [h5]; exact hstA.row h3 h1 h2 _ h4 rfl rfl
          have hz2 : wr.heap.size ≤ w2.heap.size := by
            rcases hway1 with ⟨_, h2⟩ | ⟨h1, h2, ⟨cu, h3⟩, h4, h5⟩
            · exact Nat.le_trans hzA h2.size
            · rw [h5]; exact Nat.le_trans hzA (setCells_kept _ _ _ _).size
          have hacl2 := (HOK.out.soft hst2).acl
          have hkA2 : Old w2 (w2.alloc (.cells ([.int .i64 (-4), .string ⟨#[]⟩] : List Value).toArray 56)) := (Kept.refl _ w2).alloc _
          have hzA2 : w2.heap.size ≤ (w2.alloc (.cells ([.int .i64 (-4), .string ⟨#[]⟩] : List Value).toArray 56)).heap.size := hkA2.size
          obtain ⟨g2, c2, w3, hr2, hc2, hm2, hth2, ⟨cur2, hb2⟩, hway2⟩ := run_append_soft (P := Tryz.prog) (hacl2.keep hkA2 (fun _ _ _ f => f)) (range_new w2 [.int .i64 (-4), .string ⟨#[]⟩] 56) ⟨rfl, by simp [Value.oneCell']⟩ (c1 := 1) 24 24 ia _ Tryz.underlying24 hai haz haz1 haz2 rfl (by decide) (by omega) (by decide)
          have hst3 : Soft base top w1 w3 := by
            rcases hway2 with ⟨_, h2⟩ | ⟨h1, h2, ⟨cu, h3⟩, h4, h5⟩
            · exact (hst2.old hkA2).old h2
            · rw [h5]; exact (hst2.old hkA2).misc h3 acl_txn acl_entry h1 h2 _ _
          have hz3 : w2.heap.size ≤ w3.heap.size := by
            rcases hway2 with ⟨_, h2⟩ | ⟨h1, h2, ⟨cu, h3⟩, h4, h5⟩
            · exact Nat.le_trans hzA2 h2.size
            · rw [h5]; exact Nat.le_trans hzA2 (setCells_kept _ _ _ _).size
          have hg1 : w3.heap[g1]? = w2.heap[g1]? := by
            have hlt1 := lt_of_block hb1
            rcases hway2 with ⟨_, h2⟩ | ⟨h1, h2, ⟨cu, h3⟩, h4, h5⟩
            · exact (h2.block g1 (by omega) id).trans (hkA2.block g1 hlt1 id)
            · have hb1' := (hkA2.block g1 hlt1 id).trans hb1
              rw [h5, heap_setCells _ _ _ _ (types_apart hb1' h3)]
              exact hkA2.block g1 hlt1 id
          have hth3 : w3.there g1 (ns * 8 + 4) 1 := fun j hj => by
            have h := hth1 (4 + j) (by omega)
            rw [World.cell?_of_block (w := w2) hg1, World.frozen?_of_block (w := w2) hg1]
            rwa [← Nat.add_assoc] at h
          have hth4 : (w3.setCells g1 (ns * 8 + 4) [.int .i64 1]).there g2 (na * 2) 1 := World.there_setCells (fun j hj => hth2 j (by omega)) _ _ _
          have hst4 : Soft base top w1 (w3.setCells g1 (ns * 8 + 4) [.int .i64 1]) := by
            rcases hway1 with ⟨h1, _⟩ | ⟨h1, h2, _, _, _⟩
            · exact hst3.newer (by omega) _ _
            · exact hst3.cell4 (hg1.trans hb1) h1 h2 _
          have hst5 : Soft base top w1 ((w3.setCells g1 (ns * 8 + 4) [.int .i64 1]).setCells g2 (na * 2) [.int .i64 1]) := by
            obtain ⟨cur3, hb3, _⟩ := setCells_block w3 g1 (ns * 8 + 4) [.int .i64 1] hb2
            rcases hway2 with ⟨h1, _⟩ | ⟨h1, h2, _, _, _⟩
            · exact hst4.newer (by omega) _ _
            · exact hst4.misc hb3 acl_txn acl_entry h1 h2 _ _
          obtain ⟨w4, hw4⟩ : ∃ u, w3.setCells g1 (ns * 8 + 4) [.int .i64 1] = u := ⟨_, rfl⟩
          rw [hw4] at hth4 hst5
          obtain ⟨w5, hw5⟩ : ∃ u, w4.setCells g2 (na * 2) [.int .i64 1] = u := ⟨_, rfl⟩
          rw [hw5] at hst5
          have c6b := cell_of_heap (i := 6) (HBK.out _ hst2) rfl
          have HR1 := Lib.hid hr1
          have HR2 := Lib.hid hr2
          have HTH3 := Lib.hid hth3
          have HTH4 := Lib.hid hth4
          have HW4 := Lib.hid hw4
          have HW5 := Lib.hid hw5
          have HK5 := Lib.hid (HFIN.out _ hst5)
          have HTI := Lib.hid (And.intro hti (And.intro htz htz1))
          have HAI := Lib.hid (And.intro hai (And.intro haz haz1))
          unfold maxLen at hm1 hm2
          clear hst hoq hr1 hr2 hth1 hth2 hth3 hth4 hw4 hw5 hst2 hst3 hst4 hst5 hstA hacl2 hkA hkA2 hb1 hb2 hg1 hway1 hway2 hti htz htz1 htz2 hai haz haz1 haz2 hzr hzA hz2 hzA2 hz3
          go_wp2_with (first
            | (refine wpList_one rfl 34 36 (.tmp 56) rfl (.agg ([.int .i64 (-4), .string ⟨#[]⟩, .string ⟨#[]⟩, .slice none 0 0, .int .i64 0, .int .i64 0, .int .i64 0, .slice none 0 0] : List Value).toArray) [.int .i64 (-4), .string ⟨#[]⟩, .string ⟨#[]⟩, .slice none 0 0, .int .i64 0, .int .i64 0, .int .i64 0, .slice none 0 0] rfl rfl it _ Tryz.underlying34 HTI.out.1 HTI.out.2.1 HTI.out.2.2 (by decide) (by decide) ?_)
            | (refine wpList_append_run rfl (.tmp 55) (.tmp 57) 34 rfl (.slice As ns c) (.slice (some ⟨wr.heap.size, 0, none⟩) 1 1) (by rfl) (by rfl) (.slice (some ⟨g1, 0, none⟩) (ns + 1) c1) w2 HR1.out ?_)
            | (refine wpList_one rfl 24 56 (.tmp 62) rfl (.agg ([.int .i64 (-4), .string ⟨#[]⟩] : List Value).toArray) [.int .i64 (-4), .string ⟨#[]⟩] rfl rfl ia _ Tryz.underlying24 HAI.out.1 HAI.out.2.1 HAI.out.2.2 (by decide) (by decide) ?_)
            | (refine wpList_append_run rfl (.tmp 61) (.tmp 63) 24 rfl (.slice Aa na ca) (.slice (some ⟨w2.heap.size, 0, none⟩) 1 1) (by rfl) (by rfl) (.slice (some ⟨g2, 0, none⟩) (na + 1) c2) w3 HR2.out ?_)
            | (refine wpList_store_cell rfl 3 (.tmp 70) _ rfl g1 (ns * 8 + 4) (.int .i64 1) rfl rfl rfl HTH3.out HSI.out w4 HW4.out ?_)
            | (refine wpList_store_cell rfl 3 (.tmp 76) _ rfl g2 (na * 2) (.int .i64 1) rfl rfl rfl HTH4.out HSI.out w5 HW5.out ?_))
          go_end0
          exact ⟨rfl, HK5.out⟩

/-- the lists of an entry that came out -/
theorem over_ok {x : Entry} {cs : List Value} {ok : Nat → Prop} {base : Nat} {w : World} (hE : entryE w ok cs x) (h0 : ¬ ok 0) (hb : ∀ k, ok k → base ≤ k) :
    ∃ Aa ca As c, cs = [.int .i64 x.zxid, .int .i64 x.session, .int .i64 x.xid, .int .i64 x.txn.part.kind, .string x.txn.part.path, .string x.txn.part.data, .slice Aa x.txn.part.acl.length ca, .int .i64 x.txn.part.owner, .int .i64 x.txn.part.number, .int .i64 x.txn.part.err, .slice As x.txn.subs.length c] ∧
      OvOk w base w.heap.size (.slice As x.txn.subs.length c) (.slice Aa x.txn.part.acl.length ca) := by
  obtain ⟨ct, rfl, ⟨vs, ⟨va, rfl, hA, hp⟩, hS⟩, hi⟩ := hE
  have oA := hA.owns (fun T' h => h.1 rfl) h0 hb
  have oS := hS.owns (fun T' h => h.2.1 rfl) h0 hb
  have rS := rows_own hS h0 hb
  obtain ⟨Aa, na, ca, rfl⟩ := hA.shape
  obtain ⟨As, ns, c, rfl⟩ := hS.shape
  obtain rfl := hA.size_le
  obtain rfl := hS.size_le
  exact ⟨Aa, ca, As, c, rfl, oS, oA, rS⟩
theorem over_entry (x : Entry) (cs : List Value) (ok : Nat → Prop) (base : Nat) (w : World) (hE : entryE w ok cs x) (h0 : ¬ ok 0) (hb : ∀ k, ok k → base ≤ k) (hbw : base ≤ w.heap.size) (hn1 : x.txn.part.acl.length ≤ 256) (hn2 : x.txn.subs.length ≤ 256) :
    Calls Tryz.prog 29 #[.agg cs.toArray] w fun e w' => e = .returned (.tuple #[]) ∧ Kept (Mid base w.heap.size) w w' := by
  obtain ⟨Aa, ca, As, c, rfl, hok⟩ := over_ok hE h0 hb
  exact (over_cells _ _ _ _ _ _ _ _ _ Aa _ ca As _ c base w.heap.size w hok (Nat.le_refl _) hn1 hn2).mono fun e w' h => ⟨h.1, h.2.kept⟩
end Go.Proofs.YtpmemcpfoapjmaaGreat

namespace Go.Proofs.YtpmemcpfoapjmaaGreat
open Go.ChangeShapes Go.WideShapes Go.ChangeAt Go.RowKit
set_option linter.unusedVariables false

/-- a list of numbers or of texts in a block of its own -/
def OwnX (w : World) (base top : Nat) (v : Value) : Prop := ∃ T : TypeId, T ≠ 36 ∧ T ≠ 38 ∧ OwnL w base top T 1 v
theorem str_txn : 9 ≠ (36 : Nat) := by decide
theorem str_entry : 9 ≠ (38 : Nat) := by decide
theorem int_entry : 3 ≠ (38 : Nat) := by decide
theorem entry_txn : 38 ≠ (36 : Nat) := by decide
theorem ListR.ownsX {α : Type} {E : CellsOf α} {w : World} {ok : Nat → Prop} {v : Value} {l : List α} (h : ListR E w ok 1 v l) (h0 : ¬ ok 0) {base : Nat} (hb : ∀ k, ok k → base ≤ k) : OwnX w base w.heap.size v := by
  obtain ⟨rows, ⟨A, c, rfl, hc, hm, hat⟩, hlen, hel⟩ := h
  rcases hat with ⟨_, h1 | h1⟩ | ⟨g, off, hA, hok, hg, hcell⟩
  · exact ⟨3, int_txn, int_entry, A, rows.length, c, rfl, hc, hm, Or.inl h1⟩
  · exact absurd h1.1 h0
  · obtain ⟨rfl, cur, T', h2, h3, h4⟩ := hok.2.2 h0
    have hT : T' ≠ 36 ∧ T' ≠ 38 := by
      rcases h4.2.2.2 rfl with rfl | rfl
      · exact ⟨int_txn, int_entry⟩
      · exact ⟨str_txn, str_entry⟩
    exact ⟨T', hT.1, hT.2, A, rows.length, c, rfl, hc, hm, Or.inr ⟨g, cur, hA, hb g hok.1, hg, h2, h3⟩⟩
section
variable {w w' : World} {base top : Nat} {v : Value}
theorem OwnX.soft (h : OwnX w base top v) (hs : Soft base top w w') : OwnX w' base top v := by
  obtain ⟨T, h1, h2, h3⟩ := h
  exact ⟨T, h1, h2, h3.soft hs⟩
theorem OwnX.old (h : OwnX w base top v) (hk : Old w w') : OwnX w' base top v := by
  obtain ⟨T, h1, h2, h3⟩ := h
  exact ⟨T, h1, h2, h3.keep hk (fun _ _ _ f => f)⟩
theorem OwnX.set (h : OwnX w base top v) (b o : Nat) (vs : List Value) : OwnX (w.setCells b o vs) base top v := by
  obtain ⟨T, h1, h2, h3⟩ := h
  exact ⟨T, h1, h2, h3.set b o vs⟩
theorem OwnX.len {A : Option Addr} {n c : Nat} (h : OwnX w base top (.slice A n c)) : n ≤ c ∧ c ≤ maxLen := by
  obtain ⟨T, h1, h2, h3⟩ := h
  exact h3.len
theorem OwnX.at_ {A : Option Addr} {n c : Nat} (h : OwnX w base top (.slice A n c)) {i : Nat} (hi : i < n) : ∃ g, A = some ⟨g, 0, none⟩ ∧ w.there g i 1 ∧ ∀ vs, Soft base top w (w.setCells g i vs) := by
  obtain ⟨T, h1, h2, h3⟩ := h
  obtain ⟨g, hA, hb, ht, hth, cur, hcur⟩ := h3.at_ hi
  rw [Nat.mul_one] at hth
  exact ⟨g, hA, hth, fun vs => (Soft.refl base top w).misc hcur h1 h2 hb ht i vs⟩

theorem OvOk.old {vs va : Value} (h : OvOk w base top vs va) (hk : Old w w') : OvOk w' base top vs va := ⟨h.subs.keep hk (fun _ _ _ f => f), h.acl.keep hk (fun _ _ _ f => f), h.rows.keep h.subs hk (fun _ _ _ f => f)⟩
theorem OvOk.entry_set {vs va : Value} (h : OvOk w base top vs va) {g : Nat} {cur : Array Value} (hg : w.heap[g]? = some (.cells cur 38 (0, 0))) (o : Nat) (cs : List Value) : OvOk (w.setCells g o cs) base top vs va := by
  refine ⟨h.subs.set _ _ _, h.acl.set _ _ _, fun gs n c hv j hij hj => ?_⟩
  obtain ⟨u, hc, ho⟩ := h.rows gs n c hv j hij hj
  have hs := h.subs
  rw [hv] at hs
  obtain ⟨_, _, cur', hb'⟩ := hs.block (by omega)
  have hne : gs ≠ g := fun e => by
    rw [e, hg] at hb'
    simp only [Option.some.injEq, Obj.cells.injEq] at hb'
    exact entry_txn hb'.2.1
  exact ⟨u, by rw [World.cell?_of_block (heap_setCells w g o cs hne)]; exact hc, ho.set _ _ _⟩
end

/-- of the entries from i on, the lists may be written over -/
def RowsE (w : World) (base top : Nat) (ve : Value) (i : Nat) : Prop :=
  ∀ ge n c, ve = .slice (some ⟨ge, 0, none⟩) n c → ∀ j, i ≤ j → j < n → ∃ (v0 v1 v2 v3 v4 v5 : Value) (Aa : Option Addr) (na ca : Nat) (v7 v8 v9 : Value) (As : Option Addr) (ns c' : Nat),
    w.rangeAt ge (j * 11) [v0, v1, v2, v3, v4, v5, .slice Aa na ca, v7, v8, v9, .slice As ns c'] ∧ OvOk w base top (.slice As ns c') (.slice Aa na ca) ∧ na ≤ 256 ∧ ns ≤ 256

theorem rows_e {w : World} {ok : Nat → Prop} {ve : Value} {l : List Entry} (h : ListR entryE w ok 11 ve l) (h0 : ¬ ok 0) {base : Nat} (hb : ∀ k, ok k → base ≤ k) (hl : ∀ x ∈ l, x.txn.part.acl.length ≤ 256 ∧ x.txn.subs.length ≤ 256) : RowsE w base w.heap.size ve 0 := by
  obtain ⟨rows, ⟨A, c, rfl, hc, hm, hat⟩, hlen, hel⟩ := h
  intro ge n c' hv j _ hj
  simp only [Value.slice.injEq] at hv
  obtain ⟨rfl, rfl, rfl⟩ := hv
  rcases hat with ⟨h1, _⟩ | ⟨g, off, hA, hok, hg, hcell⟩
  · rw [h1] at hj; simp at hj
  · obtain ⟨hoff, _⟩ := hok.2.2 h0
    subst hoff
    simp only [Option.some.injEq, Addr.mk.injEq, and_true] at hA
    subst hA
    have hjl : j < l.length := by omega
    obtain ⟨Aa, ca, As, c', hrow, hov⟩ := over_ok (hel j hjl hj) h0 hb
    have hx := hl _ (List.getElem_mem hjl)
    refine ⟨.int .i64 l[j].zxid, .int .i64 l[j].session, .int .i64 l[j].xid, .int .i64 l[j].txn.part.kind, .string l[j].txn.part.path, .string l[j].txn.part.data, Aa, _, ca, .int .i64 l[j].txn.part.owner, .int .i64 l[j].txn.part.number, .int .i64 l[j].txn.part.err, As, _, c', ?_, hov, hx.1, hx.2⟩
    rw [← hrow]
    intro k u hu
    obtain ⟨hk1, hk2⟩ := List.getElem?_eq_some_iff.1 hu
    rw [← hk2, ← (hcell j hj).2 k hk1, Nat.zero_add]

section
variable {w w' : World} {base top : Nat} {ve : Value} {i : Nat}
theorem range_block {g o : Nat} {cs : List Value} (h : w.rangeAt g o cs) (hb : w'.heap[g]? = w.heap[g]?) : w'.rangeAt g o cs := fun j v hv => by rw [World.cell?_of_block hb]; exact h j v hv
theorem RowsE.soft (h : RowsE w base top ve i) (ho : OwnL w base top 38 11 ve) (hs : Soft base top w w') : RowsE w' base top ve i := by
  intro ge n c hv j hij hj
  obtain ⟨v0, v1, v2, v3, v4, v5, Aa, na, ca, v7, v8, v9, As, ns, c', hr, hov, h1, h2⟩ := h ge n c hv j hij hj
  rw [hv] at ho
  obtain ⟨_, _, cur, hh⟩ := ho.block (by omega)
  exact ⟨v0, v1, v2, v3, v4, v5, Aa, na, ca, v7, v8, v9, As, ns, c', range_block hr (hs.entry ge cur hh), hov.soft hs, h1, h2⟩
theorem RowsE.old (h : RowsE w base top ve i) (ho : OwnL w base top 38 11 ve) (hk : Old w w') : RowsE w' base top ve i := by
  intro ge n c hv j hij hj
  obtain ⟨v0, v1, v2, v3, v4, v5, Aa, na, ca, v7, v8, v9, As, ns, c', hr, hov, h1, h2⟩ := h ge n c hv j hij hj
  rw [hv] at ho
  obtain ⟨_, _, cur, hh⟩ := ho.block (by omega)
  exact ⟨v0, v1, v2, v3, v4, v5, Aa, na, ca, v7, v8, v9, As, ns, c', range_block hr (hk.block ge (lt_of_block hh) id), hov.old hk, h1, h2⟩
theorem RowsE.row_set {ge n c : Nat} (h : RowsE w base top (.slice (some ⟨ge, 0, none⟩) n c) i) {cur : Array Value} (hg : w.heap[ge]? = some (.cells cur 38 (0, 0))) (cs : List Value) (hl : cs.length = 11) : RowsE (w.setCells ge (i * 11) cs) base top (.slice (some ⟨ge, 0, none⟩) n c) (i + 1) := by
  intro ge' n' c' hv j hij hj
  obtain ⟨v0, v1, v2, v3, v4, v5, Aa, na, ca, v7, v8, v9, As, ns, c2, hr, hov, h1, h2⟩ := h ge' n' c' hv j (by omega) hj
  simp only [Value.slice.injEq, Option.some.injEq, Addr.mk.injEq, and_true] at hv
  obtain ⟨rfl, rfl, rfl⟩ := hv
  refine ⟨v0, v1, v2, v3, v4, v5, Aa, na, ca, v7, v8, v9, As, ns, c2, fun k u hu => ?_, hov.entry_set hg _ _, h1, h2⟩
  rw [World.cell?_setCells_out ge cs (i * 11) w _ (fun _ _ => Or.inr (by simp only [hl]; omega))]
  exact hr k u hu
end

/-- the lists of a message, the entries from i on -/
structure MsgOk (w : World) (base top : Nat) (vm ve vi : Value) (i : Nat) : Prop where
  marks : OwnX w base top vm
  ents : OwnL w base top 38 11 ve
  rows : RowsE w base top ve i
  ids : OwnX w base top vi
section
variable {w w' : World} {base top : Nat} {vm ve vi : Value} {i : Nat}
theorem MsgOk.soft (h : MsgOk w base top vm ve vi i) (hs : Soft base top w w') : MsgOk w' base top vm ve vi i := ⟨h.marks.soft hs, h.ents.soft hs, h.rows.soft h.ents hs, h.ids.soft hs⟩
theorem MsgOk.old (h : MsgOk w base top vm ve vi i) (hk : Old w w') : MsgOk w' base top vm ve vi i := ⟨h.marks.old hk, h.ents.keep hk (fun _ _ _ f => f), h.rows.old h.ents hk, h.ids.old hk⟩
theorem MsgOk.row {ge n c : Nat} (h : MsgOk w base top vm (.slice (some ⟨ge, 0, none⟩) n c) vi i) {cur : Array Value} (hg : w.heap[ge]? = some (.cells cur 38 (0, 0))) (cs : List Value) (hl : cs.length = 11) : MsgOk (w.setCells ge (i * 11) cs) base top vm (.slice (some ⟨ge, 0, none⟩) n c) vi (i + 1) :=
  ⟨h.marks.set _ _ _, h.ents.set _ _ _, h.rows.row_set hg cs hl, h.ids.set _ _ _⟩
end
/-- a message that came out -/
theorem msg_ok {x : Message} {cs : List Value} {ok : Nat → Prop} {base : Nat} {w : World} (hE : messageE w ok cs x) (h0 : ¬ ok 0) (hb : ∀ k, ok k → base ≤ k) (hl : ∀ e ∈ x.entries, e.txn.part.acl.length ≤ 256 ∧ e.txn.subs.length ≤ 256) :
    ∃ vm ve vi, cs[5]? = some vm ∧ cs[7]? = some ve ∧ cs[18]? = some vi ∧ MsgOk w base w.heap.size vm ve vi 0 := by
  obtain ⟨vm, ve, cr, vi, rfl, hM, hEn, hR, hI, _⟩ := hE
  have hcr : cr.length = 10 := (reqE_flat hR).1
  match cr, hcr with
  | [r0, r1, r2, r3, r4, r5, r6, r7, r8, r9], _ =>
    exact ⟨vm, ve, vi, rfl, rfl, rfl, hM.ownsX h0 hb, hEn.owns (fun T' h => h.2.2.1 rfl) h0 hb, rows_e hEn h0 hb hl, hI.ownsX h0 hb⟩
end Go.Proofs.YtpmemcpfoapjmaaGreat

namespace Go.Proofs.YtpmemcpfoapjmaaGreat
open Go.ChangeShapes Go.WideShapes Go.ChangeAt Go.RowKit
set_option linter.unusedVariables false

set_option maxRecDepth 100000 in
set_option maxHeartbeats 1600000 in
theorem reftake_part (w : World) (b : Nat) (s : ByteArray) (p pos e : Nat) (hF : FAt w b s p e) (hp : e = 0 → p = pos) {x : Part} {q e' : Nat} (h : partF.get s.data.toList pos e = (x, q, e')) :
    Calls Tryz.prog 133 #[.pointer (some ⟨b, 0, none⟩)] w (FGPost partE 8 [7] w b s x q e') := by
  have HSZ := Lib.hid (show (Tryz.prog.info? 36).map (·.size) = some 8 by kernel_rfl)
  have HS_int := Lib.hid (show (Tryz.prog.info? 3).map (·.size) = some 1 by kernel_rfl)
  have HS_string := Lib.hid (show (Tryz.prog.info? 9).map (·.size) = some 1 by kernel_rfl)
  have HS_acls := Lib.hid (show (Tryz.prog.info? 24).map (·.size) = some 1 by kernel_rfl)
  have HS_errno := Lib.hid (show (Tryz.prog.info? 33).map (·.size) = some 1 by kernel_rfl)
  obtain ⟨v0, q0, e0, g0⟩ : ∃ aa qq ee, numF.get s.data.toList pos e = (aa, qq, ee) := ⟨_, _, _, eta3 _⟩
  obtain ⟨v1, q1, e1, g1⟩ : ∃ aa qq ee, (textF 4096).get s.data.toList q0 e0 = (aa, qq, ee) := ⟨_, _, _, eta3 _⟩
  obtain ⟨v2, q2, e2, g2⟩ : ∃ aa qq ee, (textF 4096).get s.data.toList q1 e1 = (aa, qq, ee) := ⟨_, _, _, eta3 _⟩
  obtain ⟨v3, q3, e3, g3⟩ : ∃ aa qq ee, (listF aclF).get s.data.toList q2 e2 = (aa, qq, ee) := ⟨_, _, _, eta3 _⟩
  obtain ⟨v4, q4, e4, g4⟩ : ∃ aa qq ee, numF.get s.data.toList q3 e3 = (aa, qq, ee) := ⟨_, _, _, eta3 _⟩
  obtain ⟨v5, q5, e5, g5⟩ : ∃ aa qq ee, numF.get s.data.toList q4 e4 = (aa, qq, ee) := ⟨_, _, _, eta3 _⟩
  obtain ⟨v6, q6, e6, g6⟩ : ∃ aa qq ee, numF.get s.data.toList q5 e5 = (aa, qq, ee) := ⟨_, _, _, eta3 _⟩
  have hget : partF.get s.data.toList pos e = (⟨v0, v1, v2, v3, v4, v5, v6⟩, q6, e6) := by simp only [partF, isoF, seqF, g0, g1, g2, g3, g4, g5, g6]
  rw [hget] at h
  simp only [Prod.mk.injEq] at h
  obtain ⟨rfl, rfl, rfl⟩ := h
  have i0 : I64 v0 := num_fit g0
  have i1 : Str v1 := text_fit (by decide) g1
  have i2 : Str v2 := text_fit (by decide) g2
  have i4 : I64 v4 := num_fit g4
  have i5 : I64 v5 := num_fit g5
  have i6 : I64 v6 := num_fit g6
  have HZ := Lib.hid (show e6 = 0 → e3 = 0 from fun h0 => (back0 numF_ok g4 (back0 numF_ok g5 (back0 numF_ok g6 h0))))
  have K0 := Lib.hid (fnum_of g0)
  have K1 := Lib.hid (ftext_of (by decide) g1)
  have K2 := Lib.hid (ftext_of (by decide) g2)
  have K3 := Lib.hid (facls_of g3)
  have hn4 : numsN 3 s.data.toList q3 e3 = ([v4, v5, v6], q6, e6) := by simp only [numsN, getN, g4, g5, g6]
  have K4 := Lib.hid (ftake_of (by decide) hn4)
  clear hn4
  clear hget g0 g1 g2 g3 g4 g5 g6
  have S0 := FB.start hF 36 [.int .i64 0, .string ⟨#[]⟩, .string ⟨#[]⟩, .slice none 0 0, .int .i64 0, .int .i64 0, .int .i64 0, .slice none 0 0] [.int .i64 0, .string ⟨#[]⟩, .string ⟨#[]⟩, .slice none 0 0, .int .i64 0, .int .i64 0, .int .i64 0, .slice none 0 0]
  have HP0 := Lib.hid hp; clear hp hF
  go_enter Tryz.func133, Tryz.ntmps133
  go_wp2_with fail
  refine (K0.out _ _ _ S0.rd HP0.out).mono ?_
  rintro en w0_ ⟨pp0, rfl, hF, hp, hk⟩
  have HP1 := Lib.hid hp; clear hp
  have S := S0.call hF hk
  clear hF hk K0 HP0 S0
  have S1 := S; clear S
  have HB0 := Lib.hid S1.box
  obtain ⟨x0_0, hx⟩ : ∃ u, World.setRow w0_ (w.heap.size + 1) ([(.int .i64 v0), (.string ⟨#[]⟩), (.string ⟨#[]⟩), (.slice none 0 0), (.int .i64 0), (.int .i64 0), (.int .i64 0), (.slice none 0 0)] : List Value).toArray = u := ⟨_, rfl⟩
  have S2 := S1.set [(.int .i64 v0), (.string ⟨#[]⟩), (.string ⟨#[]⟩), (.slice none 0 0), (.int .i64 0), (.int .i64 0), (.int .i64 0), (.slice none 0 0)]
  rw [hx] at S2
  have HX0 := Lib.hid hx; clear hx
  clear S1
  go_wp2_with (refine wpList_store_to rfl 3 (.tmp 8) (.tmp 7) rfl (w.heap.size + 1) 0 (.int .i64 v0) rfl rfl rfl [(.int .i64 0), (.string ⟨#[]⟩), (.string ⟨#[]⟩), (.slice none 0 0), (.int .i64 0), (.int .i64 0), (.int .i64 0), (.slice none 0 0)] 36 HB0.out (by show 0 < 8; decide) HS_int.out [(.int .i64 v0), (.string ⟨#[]⟩), (.string ⟨#[]⟩), (.slice none 0 0), (.int .i64 0), (.int .i64 0), (.int .i64 0), (.slice none 0 0)] rfl x0_0 HX0.out ?_)
  refine (K1.out _ _ _ S2.rd HP1.out).mono ?_
  rintro en w1_ ⟨pp1, rfl, hF, hp, hk⟩
  have HP2 := Lib.hid hp; clear hp
  have S := S2.call hF hk
  clear hF hk K1 HP1 S2
  have S3 := S; clear S
  have HB0 := Lib.hid S3.box
  obtain ⟨x1_0, hx⟩ : ∃ u, World.setRow w1_ (w.heap.size + 1) ([(.int .i64 v0), (.string v1), (.string ⟨#[]⟩), (.slice none 0 0), (.int .i64 0), (.int .i64 0), (.int .i64 0), (.slice none 0 0)] : List Value).toArray = u := ⟨_, rfl⟩
  have S4 := S3.set [(.int .i64 v0), (.string v1), (.string ⟨#[]⟩), (.slice none 0 0), (.int .i64 0), (.int .i64 0), (.int .i64 0), (.slice none 0 0)]
  rw [hx] at S4
  have HX0 := Lib.hid hx; clear hx
  clear S3
  go_wp2_with (refine wpList_store_to rfl 9 (.tmp 11) (.tmp 10) rfl (w.heap.size + 1) 1 (.string v1) rfl rfl rfl [(.int .i64 v0), (.string ⟨#[]⟩), (.string ⟨#[]⟩), (.slice none 0 0), (.int .i64 0), (.int .i64 0), (.int .i64 0), (.slice none 0 0)] 36 HB0.out (by show 1 < 8; decide) HS_string.out [(.int .i64 v0), (.string v1), (.string ⟨#[]⟩), (.slice none 0 0), (.int .i64 0), (.int .i64 0), (.int .i64 0), (.slice none 0 0)] rfl x1_0 HX0.out ?_)
  refine (K2.out _ _ _ S4.rd HP2.out).mono ?_
  rintro en w2_ ⟨pp2, rfl, hF, hp, hk⟩
  have HP3 := Lib.hid hp; clear hp
  have S := S4.call hF hk
  clear hF hk K2 HP2 S4
  have S5 := S; clear S
  have HB0 := Lib.hid S5.box
  obtain ⟨x2_0, hx⟩ : ∃ u, World.setRow w2_ (w.heap.size + 1) ([(.int .i64 v0), (.string v1), (.string v2), (.slice none 0 0), (.int .i64 0), (.int .i64 0), (.int .i64 0), (.slice none 0 0)] : List Value).toArray = u := ⟨_, rfl⟩
  have S6 := S5.set [(.int .i64 v0), (.string v1), (.string v2), (.slice none 0 0), (.int .i64 0), (.int .i64 0), (.int .i64 0), (.slice none 0 0)]
  rw [hx] at S6
  have HX0 := Lib.hid hx; clear hx
  clear S5
  go_wp2_with (refine wpList_store_to rfl 9 (.tmp 14) (.tmp 13) rfl (w.heap.size + 1) 2 (.string v2) rfl rfl rfl [(.int .i64 v0), (.string v1), (.string ⟨#[]⟩), (.slice none 0 0), (.int .i64 0), (.int .i64 0), (.int .i64 0), (.slice none 0 0)] 36 HB0.out (by show 2 < 8; decide) HS_string.out [(.int .i64 v0), (.string v1), (.string v2), (.slice none 0 0), (.int .i64 0), (.int .i64 0), (.int .i64 0), (.slice none 0 0)] rfl x2_0 HX0.out ?_)
  refine (K3.out _ _ _ S6.rd HP3.out).mono ?_
  rintro en w3_ ⟨sv, pp3, rfl, hsl, hls, hF, hp, hk⟩
  have HP4 := Lib.hid hp; clear hp
  have LL : LB aclE w w3_ 2 sv v3 e3 := LB.mk' aclE_ok S6 hsl hls
  have HSL := Lib.hid hsl
  obtain ⟨sa, sn, sc, rfl⟩ := hsl
  clear hls
  have S := S6.call hF hk
  clear hF hk K3 HP3 S6
  have S7 := S; clear S
  have HB0 := Lib.hid S7.box
  obtain ⟨x3_0, hx⟩ : ∃ u, World.setRow w3_ (w.heap.size + 1) ([(.int .i64 v0), (.string v1), (.string v2), (.slice sa sn sc), (.int .i64 0), (.int .i64 0), (.int .i64 0), (.slice none 0 0)] : List Value).toArray = u := ⟨_, rfl⟩
  have S8 := S7.set [(.int .i64 v0), (.string v1), (.string v2), (.slice sa sn sc), (.int .i64 0), (.int .i64 0), (.int .i64 0), (.slice none 0 0)]
  replace LL := LL.set aclE_ok ([(.int .i64 v0), (.string v1), (.string v2), (.slice sa sn sc), (.int .i64 0), (.int .i64 0), (.int .i64 0), (.slice none 0 0)] : List Value).toArray
  rw [hx] at S8 LL
  have HX0 := Lib.hid hx; clear hx
  clear S7
  go_wp2_with (refine wpList_store_to rfl 24 (.tmp 17) (.tmp 16) rfl (w.heap.size + 1) 3 (.slice sa sn sc) rfl rfl rfl [(.int .i64 v0), (.string v1), (.string v2), (.slice none 0 0), (.int .i64 0), (.int .i64 0), (.int .i64 0), (.slice none 0 0)] 36 HB0.out (by show 3 < 8; decide) HS_acls.out [(.int .i64 v0), (.string v1), (.string v2), (.slice sa sn sc), (.int .i64 0), (.int .i64 0), (.int .i64 0), (.slice none 0 0)] rfl x3_0 HX0.out ?_)
  refine (K4.out _ _ _ S8.rd HP4.out).mono ?_
  rintro en w4_ ⟨t4, pp4, rfl, hblk, hgt, hF, hp, hk⟩
  have HP5 := Lib.hid hp; clear hp
  have TB4 : TB w w4_ t4 [v4, v5, v6] := ⟨hblk, Nat.le_trans S8.size hgt⟩
  clear hblk hgt
  replace LL := LL.call aclE_ok S8.old hk
  have S := S8.call hF hk
  clear hF hk K4 HP4 S8
  have S9 := S; clear S
  have HB0 := Lib.hid S9.box
  have d0 := TB4.cell 0 v4 rfl
  obtain ⟨x4_0, hx⟩ : ∃ u, World.setRow w4_ (w.heap.size + 1) ([(.int .i64 v0), (.string v1), (.string v2), (.slice sa sn sc), (.int .i64 v4), (.int .i64 0), (.int .i64 0), (.slice none 0 0)] : List Value).toArray = u := ⟨_, rfl⟩
  have S10 := S9.set [(.int .i64 v0), (.string v1), (.string v2), (.slice sa sn sc), (.int .i64 v4), (.int .i64 0), (.int .i64 0), (.slice none 0 0)]
  replace LL := LL.set aclE_ok ([(.int .i64 v0), (.string v1), (.string v2), (.slice sa sn sc), (.int .i64 v4), (.int .i64 0), (.int .i64 0), (.slice none 0 0)] : List Value).toArray
  replace TB4 := TB4.set ([(.int .i64 v0), (.string v1), (.string v2), (.slice sa sn sc), (.int .i64 v4), (.int .i64 0), (.int .i64 0), (.slice none 0 0)] : List Value).toArray
  rw [hx] at S10 LL TB4
  have HX0 := Lib.hid hx; clear hx
  clear S9
  have HB1 := Lib.hid S10.box
  have d1 := TB4.cell 1 v5 rfl
  obtain ⟨x4_1, hx⟩ : ∃ u, World.setRow x4_0 (w.heap.size + 1) ([(.int .i64 v0), (.string v1), (.string v2), (.slice sa sn sc), (.int .i64 v4), (.int .i64 v5), (.int .i64 0), (.slice none 0 0)] : List Value).toArray = u := ⟨_, rfl⟩
  have S11 := S10.set [(.int .i64 v0), (.string v1), (.string v2), (.slice sa sn sc), (.int .i64 v4), (.int .i64 v5), (.int .i64 0), (.slice none 0 0)]
  replace LL := LL.set aclE_ok ([(.int .i64 v0), (.string v1), (.string v2), (.slice sa sn sc), (.int .i64 v4), (.int .i64 v5), (.int .i64 0), (.slice none 0 0)] : List Value).toArray
  replace TB4 := TB4.set ([(.int .i64 v0), (.string v1), (.string v2), (.slice sa sn sc), (.int .i64 v4), (.int .i64 v5), (.int .i64 0), (.slice none 0 0)] : List Value).toArray
  rw [hx] at S11 LL TB4
  have HX1 := Lib.hid hx; clear hx
  clear S10
  have HB2 := Lib.hid S11.box
  have d2 := TB4.cell 2 v6 rfl
  obtain ⟨x4_2, hx⟩ : ∃ u, World.setRow x4_1 (w.heap.size + 1) ([(.int .i64 v0), (.string v1), (.string v2), (.slice sa sn sc), (.int .i64 v4), (.int .i64 v5), (.int .i64 v6), (.slice none 0 0)] : List Value).toArray = u := ⟨_, rfl⟩
  have S12 := S11.set [(.int .i64 v0), (.string v1), (.string v2), (.slice sa sn sc), (.int .i64 v4), (.int .i64 v5), (.int .i64 v6), (.slice none 0 0)]
  replace LL := LL.set aclE_ok ([(.int .i64 v0), (.string v1), (.string v2), (.slice sa sn sc), (.int .i64 v4), (.int .i64 v5), (.int .i64 v6), (.slice none 0 0)] : List Value).toArray
  replace TB4 := TB4.set ([(.int .i64 v0), (.string v1), (.string v2), (.slice sa sn sc), (.int .i64 v4), (.int .i64 v5), (.int .i64 v6), (.slice none 0 0)] : List Value).toArray
  rw [hx] at S12 LL TB4
  have HX2 := Lib.hid hx; clear hx
  clear S11
  have HRG := Lib.hid (range_row S12.box)
  have HRES := Lib.hid S12.res
  have HSF := Lib.hid S12; clear S12
  have HLL := Lib.hid LL; clear LL
  go_wp2_with (first | (refine wpList_store_to rfl 3 (.tmp 23) (.tmp 22) rfl (w.heap.size + 1) 4 (.int .i64 v4) rfl rfl rfl [(.int .i64 v0), (.string v1), (.string v2), (.slice sa sn sc), (.int .i64 0), (.int .i64 0), (.int .i64 0), (.slice none 0 0)] 36 HB0.out (by show 4 < 8; decide) HS_int.out [(.int .i64 v0), (.string v1), (.string v2), (.slice sa sn sc), (.int .i64 v4), (.int .i64 0), (.int .i64 0), (.slice none 0 0)] rfl x4_0 HX0.out ?_) | (refine wpList_store_to rfl 3 (.tmp 27) (.tmp 26) rfl (w.heap.size + 1) 5 (.int .i64 v5) rfl rfl rfl [(.int .i64 v0), (.string v1), (.string v2), (.slice sa sn sc), (.int .i64 v4), (.int .i64 0), (.int .i64 0), (.slice none 0 0)] 36 HB1.out (by show 5 < 8; decide) HS_int.out [(.int .i64 v0), (.string v1), (.string v2), (.slice sa sn sc), (.int .i64 v4), (.int .i64 v5), (.int .i64 0), (.slice none 0 0)] rfl x4_1 HX1.out ?_) | (refine wpList_store_to rfl 33 (.tmp 31) (.tmp 30) rfl (w.heap.size + 1) 6 (.int .i64 v6) rfl rfl rfl [(.int .i64 v0), (.string v1), (.string v2), (.slice sa sn sc), (.int .i64 v4), (.int .i64 v5), (.int .i64 0), (.slice none 0 0)] 36 HB2.out (by show 6 < 8; decide) HS_errno.out [(.int .i64 v0), (.string v1), (.string v2), (.slice sa sn sc), (.int .i64 v4), (.int .i64 v5), (.int .i64 v6), (.slice none 0 0)] rfl x4_2 HX2.out ?_) | (refine wpList_load_mid rfl 36 (.tmp 3) rfl (w.heap.size + 1) 0 rfl [(.int .i64 v0), (.string v1), (.string v2), (.slice sa sn sc), (.int .i64 v4), (.int .i64 v5), (.int .i64 v6), (.slice none 0 0)] _ HRG.out Tryz.underlying36 rfl HSZ.out ?_) | (refine wpList_store_row _ rfl 36 (.tmp 2) (.tmp 32) rfl w.heap.size _ [(.int .i64 v0), (.string v1), (.string v2), (.slice sa sn sc), (.int .i64 v4), (.int .i64 v5), (.int .i64 v6), (.slice none 0 0)] rfl rfl HRES.out HSZ.out rfl (by simp [Value.oneCell']) ?_))
  have hrow := setRow_heap _ w.heap.size _ ([(.int .i64 v0), (.string v1), (.string v2), (.slice sa sn sc), (.int .i64 v4), (.int .i64 v5), (.int .i64 v6), (.slice none 0 0)] : List Value).toArray _ _ HRES.out
  have hload := run_loadVar_row (P := Tryz.prog) _ w.heap.size 36 36 _ (0, 0) _ hrow Tryz.underlying36 rfl HSZ.out
  have hb := HSF.out.old
  exact ret_cell 2 36 w.heap.size _ Tryz.results133 rfl hload rfl ⟨[(.int .i64 v0), (.string v1), (.string v2), (.slice sa sn sc), (.int .i64 v4), (.int .i64 v5), (.int .i64 v6), (.slice none 0 0)], _, rfl, ⟨rfl, by simp [Value.oneCell']⟩, by simp, fun h0 => ⟨.slice none 0 0, .slice sa sn sc, rfl, HLL.out.fin aclE_ok _ (HZ.out h0), i0, i1, i2, i4, i5, i6, ⟨_, _, _, rfl⟩⟩, HSF.out.rd.keep (setRow_kept _ _ _) (fun hs => by omega), HP5.out, Kept.trans' HSF.out.kept (setRow_kept _ _ _) (fun k hk hs => by omega)⟩
end Go.Proofs.YtpmemcpfoapjmaaGreat

namespace Go.Proofs.YtpmemcpfoapjmaaGreat
open Go.ChangeShapes Go.WideShapes Go.ChangeAt Go.RowKit
set_option linter.unusedVariables false

set_option maxRecDepth 100000 in
set_option maxHeartbeats 1600000 in
theorem reftake_txn (w : World) (b : Nat) (s : ByteArray) (p pos e : Nat) (hF : FAt w b s p e) (hp : e = 0 → p = pos) {x : Txn} {q e' : Nat} (h : txnF.get s.data.toList pos e = (x, q, e')) :
    Calls Tryz.prog 106 #[.pointer (some ⟨b, 0, none⟩)] w (FGPost txnE 8 [] w b s x q e') := by
  have HSE := Lib.hid (show (Tryz.prog.info? 36).map (·.size) = some 8 by kernel_rfl)
  have HSS := Lib.hid (show (Tryz.prog.info? 34).map (·.size) = some 1 by kernel_rfl)
  obtain ⟨i, hi, hz0, hz1, hz2⟩ := info_parts info_part
  have HI := Lib.hid (And.intro hi (And.intro hz0 (And.intro hz1 hz2)))
  clear hi hz0 hz1 hz2
  obtain ⟨x1, q1, e0, g1⟩ : ∃ aa qq ee, partF.get s.data.toList pos e = (aa, qq, ee) := ⟨_, _, _, eta3 _⟩
  have hcl := rCount_le s.data.toList 256 q1 e0
  rcases g2 : rCount s.data.toList 256 q1 e0 with ⟨n, p1, e1⟩
  rw [g2] at hcl
  obtain ⟨xs, q3, e3, g3⟩ : ∃ aa qq ee, getN partF.get n s.data.toList p1 e1 = (aa, qq, ee) := ⟨_, _, _, eta3 _⟩
  have hget : txnF.get s.data.toList pos e = (⟨x1, xs⟩, q3, e3) := by simp only [txnF, isoF, seqF, listF, g1, g2, g3]
  rw [hget] at h
  simp only [Prod.mk.injEq] at h
  obtain ⟨rfl, rfl, rfl⟩ := h
  have hlist : (listF partF).get s.data.toList q1 e0 = (xs, q3, e3) := by simp only [listF, g2, g3]
  have HZ := Lib.hid (show e3 = 0 → e0 = 0 from fun h0 => back0 (listF_ok partF_ok) hlist h0)
  have K1 := Lib.hid (reftake_part w b s p pos e hF hp g1)
  have KC := Lib.hid (fun (W : World) (p : Nat) (hF : FAt W b s p e0) (hp : e0 = 0 → p = q1) => refcnt_any W b s p q1 e0 hF hp g2)
  have HH := Lib.hid g3
  have hn : n ≤ 256 := by have h := hcl; simp only at h; omega
  have hbw := lt_of_block hF.at_
  have hK0 : Kept (RS b) w (w.alloc (.cells ([.int .i64 0, .string ⟨#[]⟩, .string ⟨#[]⟩, .slice none 0 0, .int .i64 0, .int .i64 0, .int .i64 0, .slice none 0 0] : List Value).toArray 36)) := (Kept.refl _ w).alloc _
  have hF0 : FAt (w.alloc (.cells ([.int .i64 0, .string ⟨#[]⟩, .string ⟨#[]⟩, .slice none 0 0, .int .i64 0, .int .i64 0, .int .i64 0, .slice none 0 0] : List Value).toArray 36)) b s p e := hF.keep ((Kept.refl (fun _ => False) w).alloc _) id
  have hres0 := heap_alloc_new w (.cells ([.int .i64 0, .string ⟨#[]⟩, .string ⟨#[]⟩, .slice none 0 0, .int .i64 0, .int .i64 0, .int .i64 0, .slice none 0 0] : List Value).toArray 36)
  have K1 := Lib.hid (reftake_part (w.alloc (.cells ([.int .i64 0, .string ⟨#[]⟩, .string ⟨#[]⟩, .slice none 0 0, .int .i64 0, .int .i64 0, .int .i64 0, .slice none 0 0] : List Value).toArray 36)) b s p pos e hF0 hp g1)
  have HK0 := Lib.hid hK0
  have HRES0 := Lib.hid hres0
  clear hget g1 g2 g3 hlist hcl hF hF0 hp hK0 hres0
  go_enter Tryz.func106, Tryz.ntmps106
  go_wp2_with fail
  refine K1.out.mono ?_
  rintro en w0 ⟨cs, p0, rfl, hfl, hnl, hE0, hF0, hp0, hk0⟩
  have hA : Kept (fun _ => False) w0 (w0.alloc (.cells cs.toArray 36)) := (Kept.refl _ w0).alloc _
  have hK1 : Kept (RS b) w (w0.alloc (.cells cs.toArray 36)) := Kept.trans' (HK0.out.trans hk0) hA (fun j _ hj => hj.elim)
  have hgz : w.heap.size + 1 ≤ w0.heap.size := by have := hk0.size; simp at this; omega
  have hres1 : (w0.alloc (.cells cs.toArray 36)).heap[w.heap.size]? = some (.cells ([.int .i64 0, .string ⟨#[]⟩, .string ⟨#[]⟩, .slice none 0 0, .int .i64 0, .int .i64 0, .int .i64 0, .slice none 0 0] : List Value).toArray 36 (0, 0)) :=
    (hA.block _ (by omega) id).trans ((hk0.block _ (by simp) (fun hs => by have hs' : w.heap.size = b := hs; omega)).trans HRES0.out)
  have hbox1 := heap_alloc_new w0 (.cells cs.toArray 36)
  have hF1 := hF0.keep hA id
  have hE1 : WkE e0 partE (w0.alloc (.cells cs.toArray 36)) (fun j => w.heap.size + 1 ≤ j ∧ j ≠ w0.heap.size) cs x1 :=
    (WkE_ok partE_ok).keep ((WkE_ok partE_ok).mono hE0 (fun j hj hj' => ⟨by have h2 : (w.alloc (.cells ([.int .i64 0, .string ⟨#[]⟩, .string ⟨#[]⟩, .slice none 0 0, .int .i64 0, .int .i64 0, .int .i64 0, .slice none 0 0] : List Value).toArray 36)).heap.size ≤ j := hj'; simpa using h2, by omega⟩)) hA (disj_none _)
  have HP0 := Lib.hid hp0
  have HFL0 := Lib.hid hfl
  have HCL := Lib.hid hfl.1
  have hw1z : w0.heap.size < (w0.alloc (.cells cs.toArray 36)).heap.size := by simp
  have hnil : cs[7]? = some (.slice none 0 0) := hnl 7 (by simp)
  have HNIL := Lib.hid hnil
  clear hk0 hF0 hp0 hE0 hfl hnl hA K1 HK0 HRES0 hnil
  obtain ⟨g, hg⟩ : ∃ g, w0.heap.size = g := ⟨_, rfl⟩
  rw [hg] at hgz hbox1 hE1 hw1z
  have HG0 := Lib.hid hg; clear hg
  have HFL := HFL0
  go_wp2_with (refine wpList_store_new w0 rfl 36 _ _ rfl _ cs rfl rfl (by rw [HFL.out.1]; exact HSE.out) HFL.out.1.symm HFL.out.2 ?_)
  generalize hw1 : w0.alloc (.cells cs.toArray 36) = w1 at hK1 hres1 hbox1 hF1 hE1 hw1z
  rw [HG0.out]
  clear hw1 HG0
  have HBOX1 := Lib.hid hbox1
  have HRES1 := Lib.hid hres1
  have HE1 := Lib.hid hE1
  have HK1 := Lib.hid hK1
  clear hbox1 hres1 hE1 hK1 HFL
  refine (KC.out _ _ hF1 HP0.out).mono ?_
  rintro en wl ⟨pl, rfl, hFl, hpl, hkl⟩
  have hzl : w1.heap.size ≤ wl.heap.size := hkl.size
  have hbl : b < wl.heap.size := by omega
  have hgl : g < wl.heap.size := by omega
  have hbg : b ≠ g := by omega
  have HB := Lib.hid hbl; clear hbl
  have HG := Lib.hid hgl; clear hgl
  have HBG := Lib.hid hbg
  have hboxl : wl.heap[g]? = some (.cells cs.toArray 36 (0, 0)) := (hkl.block _ hw1z (fun hs => by have hs' : g = b := hs; omega)).trans HBOX1.out
  have HRESL := Lib.hid ((hkl.block _ (by omega) (fun hs => by have hs' : w.heap.size = b := hs; omega)).trans HRES1.out)
  have HEL := Lib.hid ((WkE_ok partE_ok).keep HE1.out hkl (fun j hj hj' => by have h2 : j = b := hj'; have h1 := hj.1; omega))
  have HKL := Lib.hid (HK1.out.trans hkl)
  have HSTART := Lib.hid (SubRel.start (E := partE) (f := partF) (Te := 36) (sz := 8) (n := n) hFl hpl hboxl HNIL.out)
  clear hFl hpl hboxl HNIL hkl hF1 HP0 HE1 HK1 HRES1 HBOX1 KC hbg
  go_wp2_with fail
  go_loopw [5] (fun iv wr => SubRel partE partF b s 36 g cs 7 wl 36 8 n p1 e1 iv wr) (fun iv _ => n - (intOf iv).toNat)
  case atStart => exact HSTART.out
  case round =>
    obtain ⟨k, pk, acc, rfl, hkn, hacc, hFk, hpk, hbox, hK⟩ := hrel.ex
    clear hrel HSTART
    have hkz : wl.heap.size ≤ wr.heap.size := hK.size
    by_cases hgo : k < n ∧ (getN partF.get k s.data.toList p1 e1).2.2 = 0
    · obtain ⟨hlt, hz⟩ := hgo
      have hkl : (k : Int) < (n : Int) := by omega
      rcases hgn : getN partF.get k s.data.toList p1 e1 with ⟨ys, qk, ek⟩
      have hlen := getN_len (partF).get k s.data.toList p1 e1
      have hsn := getN_snoc (partF).get k s.data.toList p1 e1
      rw [hgn] at hacc hFk hpk hz hlen hsn
      simp only at hacc hFk hpk hz hlen hsn
      subst hz
      obtain ⟨y, qb, eb, gy⟩ : ∃ aa qq ee, partF.get s.data.toList qk 0 = (aa, qq, ee) := ⟨_, _, _, eta3 _⟩
      rw [gy] at hsn
      simp only at hsn
      have KY := Lib.hid (fun (W : World) (p : Nat) (hF : FAt W b s p 0) (hp : 0 = 0 → p = qk) => reftake_part W b s p qk 0 hF hp gy)
      have HSN := Lib.hid hsn
      have c2 := hFk.c2
      have HPK := Lib.hid hpk
      clear hgn gy hsn hpk
      go_wp2_with fail
      refine (KY.out _ _ hFk HPK.out).mono ?_
      rintro en w1 ⟨cy, pb, rfl, hfl, _, hEy, hFb, hpb, hkb⟩
      have HPB := Lib.hid hpb
      have hacc1 : AccR (WkE eb partE) wl w1 36 8 acc ys := sub_call partE_ok HB.out HBG.out hacc hkb
      have hE1 := sub_elem (c := cy) (y := y) partE_ok hacc hkz hEy
      have hwb : w1.heap[g]? = some (.cells (cs.set 7 acc).toArray 36 (0, 0)) := (hkb.block _ (lt_of_block hbox) (fun hs => by have hs' : g = b := hs; have := HBG.out; omega)).trans hbox
      have hK1 : Kept (BG b g) wl w1 := Kept.trans' hK hkb (fun j _ hj => Or.inl hj)
      have hA : Kept (fun _ => False) w1 (w1.alloc (.cells cy.toArray 36)) := (Kept.refl _ w1).alloc _
      have hacc2 := hacc1.keep (WkE_ok partE_ok) hA (disj_none _)
      have hE2 := (WkE_ok partE_ok).keep hE1 hA (disj_none _)
      have hbox2 := (hA.block _ (lt_of_block hwb) id).trans hwb
      have hF2 := hFb.keep hA id
      have hK2 : Kept (BG b g) wl (w1.alloc (.cells cy.toArray 36)) := Kept.trans' hK1 hA (fun j _ hj => hj.elim)
      have hnew := heap_alloc_new w1 (.cells cy.toArray 36)
      have hwl : wl.heap.size ≤ (w1.alloc (.cells cy.toArray 36)).heap.size := hK2.size
      have hg7 : (cs.set 7 acc)[7]? = some acc := by rw [List.getElem?_set_self (by rw [HCL.out]; decide)]
      have HFL := Lib.hid hfl
      clear hacc hE1 hacc1 hEy hbox hwb hA hK1 hkb hpb hK hFk hFb hfl c2 HPK KY
      generalize hw2 : w1.alloc (.cells cy.toArray 36) = w2 at hacc2 hE2 hbox2 hF2 hK2 hnew hwl
      have c7 : w2.cell? ⟨g, 7, none⟩ = some acc := cell_of_heap hbox2 hg7
      have HRY := Lib.hid (range_row hnew)
      have HBOX := Lib.hid hbox2
      have HW2 := Lib.hid hw2
      have HBZ := Lib.hid (lt_of_block hbox2)
      have hsl := hacc2.isSl
      clear hw2 hnew hbox2 hg7
      go_upto_region 7 with (refine wpList_store_new w1 rfl 36 _ _ rfl _ cy rfl rfl (by rw [HFL.out.1]; exact HSE.out) HFL.out.1.symm HFL.out.2 ?_)
      rw [HW2.out]
      obtain ⟨an0, an1, an2, rfl⟩ := hsl
      go_wp2_with (first
        | (refine wpList_load_mid rfl 36 (.tmp 6) rfl w1.heap.size 0 rfl cy _ HRY.out Tryz.underlying36 rfl (by rw [HFL.out.1]; exact HSE.out) ?_)
        | (refine wpList_one rfl 34 36 (.tmp 27) rfl (.agg cy.toArray) cy rfl rfl i _ Tryz.underlying34 HI.out.1 HI.out.2.1 (by rw [HI.out.2.2.1, HFL.out.1]) (by rw [HFL.out.1]; decide) (by rw [HFL.out.1]; decide) ?_)
        | (at_builtin; go_loud (refine wpList_push (WkE_ok partE_ok) wl w2 rfl (.tmp 26) (.tmp 28) 34 rfl 36 i _ 8 112 Tryz.underlying34 HI.out.1 HI.out.2.1 HI.out.2.2.1 HI.out.2.2.2 rfl (by decide) (.slice an0 an1 an2) _ hacc2 cy _ hE2 HFL.out rfl rfl (by omega) (by decide) hwl ?_); intro v' w' hacc' hk'; have hslv := hacc'.isSl; obtain ⟨bn0, bn1, bn2, rfl⟩ := hslv; have HBOX' := Lib.hid ((hk'.block _ HBZ.out (fun hs => by have hs' : wl.heap.size ≤ g := hs; have := HG.out; omega)).trans HBOX.out))
        | (refine wpList_store_to rfl 34 (.tmp 30) (.tmp 29) rfl g 7 (.slice bn0 bn1 bn2) rfl rfl rfl (cs.set 7 (.slice an0 an1 an2)) 36 HBOX'.out (by rw [List.length_set, HCL.out]; decide) HSS.out _ rfl _ rfl ?_))
      go_roundw
      case rel => exact SubRel.step partE_ok HB.out HG.out HBG.out hlt HSN.out hacc' (hF2.keep hk' (fun hs => by have hs' : wl.heap.size ≤ b := hs; have := HB.out; omega)) HPB.out HBOX'.out (Kept.trans' hK2 hk' (fun j hj hs => by have hs' : wl.heap.size ≤ j := hs; omega))
      case measure => simp [intOf]; omega
    · obtain ⟨hend, hee⟩ := SubRel.out (cs := cs) (T := 36) (g := g) (idx := 7) partE_ok partF_ok hgo hkn HH.out hacc hFk hpk hbox hK
      have hex : ¬ k < n ∨ (k < n ∧ e3 ≠ 0) := by rw [hee] at hgo; omega
      have HEX := Lib.hid hex
      have HEND := Lib.hid hend
      have c2 := hend.rd.c2
      clear hgo hee hex hacc hFk hpk hbox hK hend hkz
      go_upto_region 4 with fail
      go_cut [20] (fun v wx => v = .bool false ∧ wx = wr)
      case first =>
        rcases HEX.out with hlt | ⟨hlt, hne⟩
        · have hkl : ¬ (k : Int) < (n : Int) := by omega
          go_wp2_with fail
          go_meet
          exact ⟨rfl, rfl⟩
        · have hkl : (k : Int) < (n : Int) := by omega
          have hneb : (((e3 : Nat) : Int) == 0) = false := by simpa using hne
          go_wp2_with fail
          go_meet
          exact ⟨rfl, rfl⟩
      case rest =>
      obtain ⟨rfl, rfl⟩ := hcut
      clear c2 HEX
      have HBX := Lib.hid HEND.out.box
      have HRG := Lib.hid (range_row HBX.out)
      have HRES := Lib.hid ((HEND.out.kept.block _ (by have := HB.out; omega) (fun hs => by rcases hs with hs | hs <;> omega)).trans HRESL.out)
      obtain ⟨sa, sn, sc, rfl⟩ := HEND.out.shape
      have hfs : Flat 8 (cs.set 7 (.slice sa sn sc)) := flat_set HFL0.out 7 rfl
      have HFS := Lib.hid hfs; clear hfs
      have HSE2 := Lib.hid (info_len HSE.out HFS.out.1)
      go_wp2_with (first
        | (refine wpList_load_mid rfl 36 (.tmp 3) rfl g 0 rfl (cs.set 7 (.slice sa sn sc)) _ HRG.out Tryz.underlying36 rfl HSE2.out ?_)
        | (refine wpList_store_row _ rfl 36 (.tmp 2) (.tmp 31) rfl w.heap.size _ (cs.set 7 (.slice sa sn sc)) rfl rfl HRES.out HSE2.out HFS.out.1.symm HFS.out.2 ?_))
      have hrow := setRow_heap _ w.heap.size _ (cs.set 7 (.slice sa sn sc)).toArray _ _ HRES.out
      have hload := run_loadVar_row (P := Tryz.prog) _ w.heap.size 36 36 _ (0, 0) _ hrow Tryz.underlying36 rfl (by rw [List.size_toArray]; exact HSE2.out)
      have hKf : Kept (RS b) w wc := Kept.trans' HKL.out HEND.out.kept (fun j hj hs => by rcases hs with hs | hs; exact hs; omega)
      refine ret_cell 2 36 w.heap.size _ Tryz.results106 rfl hload rfl ⟨_, pk, rfl, HFS.out, by simp, fun h0 => ?_, HEND.out.rd.keep (setRow_kept _ _ _) (fun hs => by omega), HEND.out.pos, Kept.trans' hKf (setRow_kept _ _ _) (fun k hk hs => by omega)⟩
      have hp1 := HEL.out (HZ.out h0)
      have hp2 := partE_ok.keep hp1 HEND.out.kept (fun j hj hs => by rcases hs with hs | hs; (have := hj.1; omega); exact hj.2 hs)
      have hp3 := partE_ok.mono (partE_ok.keep hp2 (setRow_kept wc w.heap.size (cs.set 7 (.slice sa sn sc)).toArray) (fun j hj hs => by have := hj.1; have hs' : j = w.heap.size := hs; omega)) (ok' := New w) (fun j _ hj => by have := hj.1; unfold New; omega)
      have hl3 := ((HEND.out.list h0).keep partE_ok (setRow_kept wc w.heap.size (cs.set 7 (.slice sa sn sc)).toArray) (fun j hj hs => by have h1 : wl.heap.size ≤ j := hj; have hs' : j = w.heap.size := hs; omega)).mono partE_ok (ok' := New w) (fun j _ hj => by have h1 : wl.heap.size ≤ j := hj; unfold New; omega)
      exact ⟨_, partQ_set hp3 ⟨_, _, _, rfl⟩, hl3⟩
end Go.Proofs.YtpmemcpfoapjmaaGreat
