/- OverEntry: an entry that came out is written over, and its lists are grown: every block keeps its type and size, the rows their lists; nothing else turns. The writer through several calls; the smallest things. The document's own answers of layer 2: numbers and texts, laid. Lists of numbers and of texts, laid; numbers in a block of their own. The document's own answers of layer 2: an event, a hello, a note, laid; several numbers. The document's own answers of layer 2: take, several numbers. An event, a hello, a note, laid. An event, a hello, a note, taken up. -/
import Derived.Test.YtpmemcpfoapjmaaQ07
import Derived.Test.YtpmemcpfoapjmaaQ06
import Derived.Test.YtpmemcpfoapjmaaQ04
import Derived.Deep.DeepCutAuto
import Derived.WalkSpells
import Derived.Outline
import Derived.Test.YtpmemcpfoapjmaaQ03
import Derived.Test.YtpmemcpfoapjmaaQ02
import Derived.Deep.RegionHeld3
namespace Go.Proofs.Ytpmemcpfoapjmaa
open Go.ChangeShapes Go.WideShapes Go.ChangeAt Go.RowKit
set_option linter.unusedVariables false

theorem ListR.size_le {α : Type} {E : CellsOf α} {w : World} {ok : Nat → Prop} {sz : Nat} {A : Option Addr} {n c : Nat} {l : List α} (h : ListR E w ok sz (.slice A n c) l) : n = l.length := by
  obtain ⟨rows, ⟨A', c', hv, _⟩, hlen, _⟩ := h
  simp only [Value.slice.injEq] at hv
  rw [hv.2.1, hlen]

/-- lists that OverEntry may have -/
structure OvOk (w : World) (base top : Nat) (vs va : Value) : Prop where
  subs : OwnL w base top 26 8 vs
  acl : OwnL w base top 47 2 va
  rows : RowsOwn w base top vs 0
theorem OvOk.soft {w0 w : World} {base top : Nat} {vs va : Value} (h : OvOk w0 base top vs va) (hs : Soft base top w0 w) : OvOk w base top vs va := ⟨h.subs.soft hs, h.acl.soft hs, h.rows.soft h.subs hs⟩

theorem int_txn : 3 ≠ (26 : Nat) := by decide
theorem acl_txn : 47 ≠ (26 : Nat) := by decide
theorem acl_entry : 47 ≠ (28 : Nat) := by decide

set_option maxRecDepth 100000 in
set_option maxHeartbeats 1600000 in
theorem over_cells (v0 v1 v2 v3 v4 v5 v7 v8 v9 : Value) (Aa : Option Addr) (na ca : Nat) (As : Option Addr) (ns c : Nat) (base top : Nat) (w : World) (hok : OvOk w base top (.slice As ns c) (.slice Aa na ca)) (htop : top ≤ w.heap.size) (hn1 : na ≤ 256) (hn2 : ns ≤ 256) :
    Calls Try.prog 20 #[.agg ([v0, v1, v2, v3, v4, v5, .slice Aa na ca, v7, v8, v9, .slice As ns c] : List Value).toArray] w fun e w' => e = .returned (.tuple #[]) ∧ Soft base top w w' := by
  have HSA := Lib.hid (show (Try.prog.info? 47).map (·.size) = some 2 by kernel_rfl)
  have HST := Lib.hid (show (Try.prog.info? 26).map (·.size) = some 8 by kernel_rfl)
  have HSI := Lib.hid (show (Try.prog.info? 3).map (·.size) = some 1 by kernel_rfl)
  have hbk := heap_alloc_new w (.cells ([v0, v1, v2, v3, v4, v5, .slice Aa na ca, v7, v8, v9, .slice As ns c] : List Value).toArray 28)
  have hk0 : Old w (w.alloc (.cells ([v0, v1, v2, v3, v4, v5, .slice Aa na ca, v7, v8, v9, .slice As ns c] : List Value).toArray 28)) := (Kept.refl _ w).alloc _
  have hs0 : Soft base top w (w.alloc (.cells ([v0, v1, v2, v3, v4, v5, .slice Aa na ca, v7, v8, v9, .slice As ns c] : List Value).toArray 28)) := (Soft.refl base top w).old hk0
  have HBK := Lib.hid (show ∀ wq, Soft base top (w.alloc (.cells ([v0, v1, v2, v3, v4, v5, .slice Aa na ca, v7, v8, v9, .slice As ns c] : List Value).toArray 28)) wq → wq.heap[w.heap.size]? = some (.cells ([v0, v1, v2, v3, v4, v5, .slice Aa na ca, v7, v8, v9, .slice As ns c] : List Value).toArray 28 (0, 0)) from fun wq h => (h.entry _ _ hbk).trans hbk)
  have HOK := Lib.hid (hok.soft hs0)
  have HFIN := Lib.hid (show ∀ wq, Soft base top (w.alloc (.cells ([v0, v1, v2, v3, v4, v5, .slice Aa na ca, v7, v8, v9, .slice As ns c] : List Value).toArray 28)) wq → Soft base top w wq from fun wq h => hs0.trans_ h)
  have hz1 : w.heap.size < (w.alloc (.cells ([v0, v1, v2, v3, v4, v5, .slice Aa na ca, v7, v8, v9, .slice As ns c] : List Value).toArray 28)).heap.size := by simp
  clear hs0 hbk hk0 hok
  go_enter Try.func20, Try.ntmps20
  go_wp2_with fail
  generalize w.alloc (.cells _ 28) = w1 at HBK HOK HFIN hz1 ⊢
  go_loopw [2] (fun iv wq => ∃ i : Nat, iv = .int .i64 (i : Nat) ∧ i ≤ ns ∧ Soft base top w1 wq) (fun iv _ => ns - (intOf iv).toNat)
  case atStart => exact ⟨0, rfl, Nat.zero_le _, Soft.refl _ _ _⟩
  case round =>
    obtain ⟨i, rfl, hi, hst⟩ := hrel
    have hoq := HOK.out.soft hst
    have c10 := cell_of_heap (i := 10) (HBK.out _ hst) rfl
    have hln := hoq.subs.len
    unfold maxLen at hln
    by_cases hlt : i < ns
    · have hkl : (i : Int) < (ns : Int) := by omega
      obtain ⟨gs, rfl, hgb, hgt, _, _⟩ := hoq.subs.at_ hlt
      obtain ⟨vl, hvl, hol⟩ := hoq.rows gs ns c rfl i (Nat.zero_le _) hlt
      obtain ⟨Al, nl, cl, rfl⟩ := hol.shape
      have HST0 := Lib.hid hst
      have HOL := Lib.hid hol
      clear hst hol hoq
      go_wp2_with fail
      clear c10 hvl
      go_loopw [4] (fun kv wq => ∃ k : Nat, kv = .int .i64 (k : Nat) ∧ k ≤ nl ∧ Soft base top w1 wq ∧ OwnL wq base top 47 2 (.slice Al nl cl)) (fun kv _ => nl - (intOf kv).toNat)
      case atStart => exact ⟨0, rfl, Nat.zero_le _, HST0.out, HOL.out⟩
      case round =>
        obtain ⟨k, rfl, hk, hst, hol⟩ := hrel
        have hln2 := hol.len
        unfold maxLen at hln2
        by_cases hlk : k < nl
        · have hkl2 : (k : Int) < (nl : Int) := by omega
          obtain ⟨gl, rfl, hlb, hlt2, hth, cur, hcur⟩ := hol.at_ hlk
          have HT := Lib.hid hth
          have HLK := Lib.hid hlk
          obtain ⟨wn, hwn⟩ : ∃ u, World.setCells wr gl (k * 2) [.int .i64 (-3), .string ⟨#[]⟩] = u := ⟨_, rfl⟩
          have HWN := Lib.hid hwn; clear hwn
          have HONE := Lib.hid (show ∀ v ∈ ([.int .i64 (-3), .string ⟨#[]⟩] : List Value), v.oneCell' = true by simp [Value.oneCell'])
          have HST1 := Lib.hid (hst.misc hcur acl_txn acl_entry hlb hlt2 (k * 2) [.int .i64 (-3), .string ⟨#[]⟩])
          have HOL1 := Lib.hid (hol.set gl (k * 2) [.int .i64 (-3), .string ⟨#[]⟩])
          clear hst hol hth hcur
          go_wp2_with (refine wpList_store_over rfl 47 (.tmp 32) (.tmp 31) rfl gl (k * 2) [.int .i64 (-3), .string ⟨#[]⟩] 2 rfl rfl HT.out rfl HSA.out HONE.out wn HWN.out ?_)
          go_roundw
          case rel => rw [← HWN.out]; exact ⟨k + 1, by go_num, HLK.out, HST1.out, HOL1.out⟩
          case measure => have h := HLK.out; simp [intOf]; omega
        · have hkl2 : ¬ (k : Int) < (nl : Int) := by omega
          have c10 := cell_of_heap (i := 10) (HBK.out _ hst) rfl
          obtain ⟨g', hg', _, _, hth, cur, hcur⟩ := (HOK.out.soft hst).subs.at_ hlt
          simp only [Option.some.injEq, Addr.mk.injEq, and_true] at hg'
          subst hg'
          have HT := Lib.hid hth
          have HLT := Lib.hid hlt
          obtain ⟨wn, hwn⟩ : ∃ u, World.setCells wr gs (i * 8) [.int .i64 (-3), .string ⟨#[]⟩, .string ⟨#[]⟩, .slice none 0 0, .int .i64 0, .int .i64 0, .int .i64 0, .slice none 0 0] = u := ⟨_, rfl⟩
          have HWN := Lib.hid hwn; clear hwn
          have HONE := Lib.hid (show ∀ v ∈ ([.int .i64 (-3), .string ⟨#[]⟩, .string ⟨#[]⟩, .slice none 0 0, .int .i64 0, .int .i64 0, .int .i64 0, .slice none 0 0] : List Value), v.oneCell' = true by simp [Value.oneCell'])
          have HST1 := Lib.hid (hst.row hcur hgb hgt [.int .i64 (-3), .string ⟨#[]⟩, .string ⟨#[]⟩, .slice none 0 0, .int .i64 0, .int .i64 0, .int .i64 0, .slice none 0 0] hth rfl rfl)
          clear hst hol hth hcur
          go_wp2_with (refine wpList_store_over rfl 26 (.tmp 38) (.tmp 37) rfl gs (i * 8) [.int .i64 (-3), .string ⟨#[]⟩, .string ⟨#[]⟩, .slice none 0 0, .int .i64 0, .int .i64 0, .int .i64 0, .slice none 0 0] 8 rfl rfl HT.out rfl HST.out HONE.out wn HWN.out ?_)
          go_roundw
          case rel => rw [← HWN.out]; exact ⟨i + 1, by go_num, HLT.out, HST1.out⟩
          case measure => have h := HLT.out; simp [intOf]; omega
    · have hkl : ¬ (i : Int) < (ns : Int) := by omega
      have HST0 := Lib.hid hst; clear hst hoq
      go_wp2_with fail
      clear c10
      go_loopw [5] (fun kv wq => ∃ k : Nat, kv = .int .i64 (k : Nat) ∧ k ≤ na ∧ Soft base top w1 wq) (fun kv _ => na - (intOf kv).toNat)
      case atStart => exact ⟨0, rfl, Nat.zero_le _, HST0.out⟩
      case round =>
        obtain ⟨k, rfl, hk, hst⟩ := hrel
        have hoq := HOK.out.soft hst
        have c6 := cell_of_heap (i := 6) (HBK.out _ hst) rfl
        have hln2 := hoq.acl.len
        unfold maxLen at hln2
        by_cases hlk : k < na
        · have hkl2 : (k : Int) < (na : Int) := by omega
          obtain ⟨gl, rfl, hlb, hlt2, hth, cur, hcur⟩ := hoq.acl.at_ hlk
          have HT := Lib.hid hth
          have HLK := Lib.hid hlk
          obtain ⟨wn, hwn⟩ : ∃ u, World.setCells wr gl (k * 2) [.int .i64 (-3), .string ⟨#[111, 118, 101, 114]⟩] = u := ⟨_, rfl⟩
          have HWN := Lib.hid hwn; clear hwn
          have HONE := Lib.hid (show ∀ v ∈ ([.int .i64 (-3), .string ⟨#[111, 118, 101, 114]⟩] : List Value), v.oneCell' = true by simp [Value.oneCell'])
          have HST1 := Lib.hid (hst.misc hcur acl_txn acl_entry hlb hlt2 (k * 2) [.int .i64 (-3), .string ⟨#[111, 118, 101, 114]⟩])
          clear hst hth hcur hoq
          go_wp2_with (refine wpList_store_over rfl 47 (.tmp 52) (.tmp 51) rfl gl (k * 2) [.int .i64 (-3), .string ⟨#[111, 118, 101, 114]⟩] 2 rfl rfl HT.out rfl HSA.out HONE.out wn HWN.out ?_)
          go_roundw
          case rel => rw [← HWN.out]; exact ⟨k + 1, by go_num, HLK.out, HST1.out⟩
          case measure => have h := HLK.out; simp [intOf]; omega
        · have hkl2 : ¬ (k : Int) < (na : Int) := by omega
          obtain ⟨it, hti, htz, htz1, htz2⟩ := info_parts info_part
          obtain ⟨ia, hai, haz, haz1, haz2⟩ := info_parts info_acl
          have c10 := cell_of_heap (i := 10) (HBK.out _ hst) rfl
          have hkA : Old wr (wr.alloc (.cells ([.int .i64 (-4), .string ⟨#[]⟩, .string ⟨#[]⟩, .slice none 0 0, .int .i64 0, .int .i64 0, .int .i64 0, .slice none 0 0] : List Value).toArray 26)) := (Kept.refl _ wr).alloc _
          have hzr : w1.heap.size ≤ wr.heap.size := hst.kept.size
          obtain ⟨g1, c1, w2, hr1, hc1, hm1, hth1, ⟨cur1, hb1⟩, hway1⟩ := run_append_soft (P := Try.prog) (hoq.subs.keep hkA (fun _ _ _ f => f)) (range_new wr [.int .i64 (-4), .string ⟨#[]⟩, .string ⟨#[]⟩, .slice none 0 0, .int .i64 0, .int .i64 0, .int .i64 0, .slice none 0 0] 26) ⟨rfl, by simp [Value.oneCell']⟩ (c1 := 1) 24 24 it _ Try.underlying24 hti htz htz1 htz2 rfl (by decide) (by omega) (by decide)
          have hstA := hst.old hkA
          have hzA : wr.heap.size ≤ (wr.alloc (.cells ([.int .i64 (-4), .string ⟨#[]⟩, .string ⟨#[]⟩, .slice none 0 0, .int .i64 0, .int .i64 0, .int .i64 0, .slice none 0 0] : List Value).toArray 26)).heap.size := hkA.size
          have hst2 : Soft base top w1 w2 := by
            rcases hway1 with ⟨_, h2⟩ | ⟨h1, h2, ⟨cu, h3⟩, h4, h5⟩
            · exact hstA.old h2
            · rw [h5]; exact hstA.row h3 h1 h2 _ h4 rfl rfl
          have hz2 : wr.heap.size ≤ w2.heap.size := by
            rcases hway1 with ⟨_, h2⟩ | ⟨h1, h2, ⟨cu, h3⟩, h4, h5⟩
            · exact Nat.le_trans hzA h2.size
            · rw [h5]; exact Nat.le_trans hzA (setCells_kept _ _ _ _).size
          have hacl2 := (HOK.out.soft hst2).acl
          have hkA2 : Old w2 (w2.alloc (.cells ([.int .i64 (-4), .string ⟨#[]⟩] : List Value).toArray 47)) := (Kept.refl _ w2).alloc _
          have hzA2 : w2.heap.size ≤ (w2.alloc (.cells ([.int .i64 (-4), .string ⟨#[]⟩] : List Value).toArray 47)).heap.size := hkA2.size
          obtain ⟨g2, c2, w3, hr2, hc2, hm2, hth2, ⟨cur2, hb2⟩, hway2⟩ := run_append_soft (P := Try.prog) (hacl2.keep hkA2 (fun _ _ _ f => f)) (range_new w2 [.int .i64 (-4), .string ⟨#[]⟩] 47) ⟨rfl, by simp [Value.oneCell']⟩ (c1 := 1) 22 22 ia _ Try.underlying22 hai haz haz1 haz2 rfl (by decide) (by omega) (by decide)
          have hst3 : Soft base top w1 w3 := by
            rcases hway2 with ⟨_, h2⟩ | ⟨h1, h2, ⟨cu, h3⟩, h4, h5⟩
            · exact (hst2.old hkA2).old h2
            · rw [h5]; exact (hst2.old hkA2).misc h3 acl_txn acl_entry h1 h2 _ _
          have hz3 : w2.heap.size ≤ w3.heap.size := by
            rcases hway2 with ⟨_, h2⟩ | ⟨h1, h2, ⟨cu, h3⟩, h4, h5⟩
            · exact Nat.le_trans hzA2 h2.size
            · rw [h5]; exact Nat.le_trans hzA2 (setCells_kept _ _ _ _).size
          have hg1 : w3.heap[g1]? = w2.heap[g1]? := by
            have hlt1 := lt_of_block hb1
            rcases hway2 with ⟨_, h2⟩ | ⟨h1, h2, ⟨cu, h3⟩, h4, h5⟩
            · exact (h2.block g1 (by omega) id).trans (hkA2.block g1 hlt1 id)
            · have hb1' := (hkA2.block g1 hlt1 id).trans hb1
              rw [h5, heap_setCells _ _ _ _ (types_apart hb1' h3)]
              exact hkA2.block g1 hlt1 id
          have hth3 : w3.there g1 (ns * 8 + 4) 1 := fun j hj => by
            have h := hth1 (4 + j) (by omega)
            rw [World.cell?_of_block (w := w2) hg1, World.frozen?_of_block (w := w2) hg1]
            rwa [← Nat.add_assoc] at h
          have hth4 : (w3.setCells g1 (ns * 8 + 4) [.int .i64 1]).there g2 (na * 2) 1 := World.there_setCells (fun j hj => hth2 j (by omega)) _ _ _
          have hst4 : Soft base top w1 (w3.setCells g1 (ns * 8 + 4) [.int .i64 1]) := by
            rcases hway1 with ⟨h1, _⟩ | ⟨h1, h2, _, _, _⟩
            · exact hst3.newer (by omega) _ _
            · exact hst3.cell4 (hg1.trans hb1) h1 h2 _
          have hst5 : Soft base top w1 ((w3.setCells g1 (ns * 8 + 4) [.int .i64 1]).setCells g2 (na * 2) [.int .i64 1]) := by
            obtain ⟨cur3, hb3, _⟩ := setCells_block w3 g1 (ns * 8 + 4) [.int .i64 1] hb2
            rcases hway2 with ⟨h1, _⟩ | ⟨h1, h2, _, _, _⟩
            · exact hst4.newer (by omega) _ _
            · exact hst4.misc hb3 acl_txn acl_entry h1 h2 _ _
          obtain ⟨w4, hw4⟩ : ∃ u, w3.setCells g1 (ns * 8 + 4) [.int .i64 1] = u := ⟨_, rfl⟩
          rw [hw4] at hth4 hst5
          obtain ⟨w5, hw5⟩ : ∃ u, w4.setCells g2 (na * 2) [.int .i64 1] = u := ⟨_, rfl⟩
          rw [hw5] at hst5
          have c6b := cell_of_heap (i := 6) (HBK.out _ hst2) rfl
          have HR1 := Lib.hid hr1
          have HR2 := Lib.hid hr2
          have HTH3 := Lib.hid hth3
          have HTH4 := Lib.hid hth4
          have HW4 := Lib.hid hw4
          have HW5 := Lib.hid hw5
          have HK5 := Lib.hid (HFIN.out _ hst5)
          have HTI := Lib.hid (And.intro hti (And.intro htz htz1))
          have HAI := Lib.hid (And.intro hai (And.intro haz haz1))
          unfold maxLen at hm1 hm2
          clear hst hoq hr1 hr2 hth1 hth2 hth3 hth4 hw4 hw5 hst2 hst3 hst4 hst5 hstA hacl2 hkA hkA2 hb1 hb2 hg1 hway1 hway2 hti htz htz1 htz2 hai haz haz1 haz2 hzr hzA hz2 hzA2 hz3
          go_wp2_with (first
            | (refine wpList_one rfl 24 26 (.tmp 56) rfl (.agg ([.int .i64 (-4), .string ⟨#[]⟩, .string ⟨#[]⟩, .slice none 0 0, .int .i64 0, .int .i64 0, .int .i64 0, .slice none 0 0] : List Value).toArray) [.int .i64 (-4), .string ⟨#[]⟩, .string ⟨#[]⟩, .slice none 0 0, .int .i64 0, .int .i64 0, .int .i64 0, .slice none 0 0] rfl rfl it _ Try.underlying24 HTI.out.1 HTI.out.2.1 HTI.out.2.2 (by decide) (by decide) ?_)
            | (refine wpList_append_run rfl (.tmp 55) (.tmp 57) 24 rfl (.slice As ns c) (.slice (some ⟨wr.heap.size, 0, none⟩) 1 1) (by rfl) (by rfl) (.slice (some ⟨g1, 0, none⟩) (ns + 1) c1) w2 HR1.out ?_)
            | (refine wpList_one rfl 22 47 (.tmp 62) rfl (.agg ([.int .i64 (-4), .string ⟨#[]⟩] : List Value).toArray) [.int .i64 (-4), .string ⟨#[]⟩] rfl rfl ia _ Try.underlying22 HAI.out.1 HAI.out.2.1 HAI.out.2.2 (by decide) (by decide) ?_)
            | (refine wpList_append_run rfl (.tmp 61) (.tmp 63) 22 rfl (.slice Aa na ca) (.slice (some ⟨w2.heap.size, 0, none⟩) 1 1) (by rfl) (by rfl) (.slice (some ⟨g2, 0, none⟩) (na + 1) c2) w3 HR2.out ?_)
            | (refine wpList_store_cell rfl 3 (.tmp 70) _ rfl g1 (ns * 8 + 4) (.int .i64 1) rfl rfl rfl HTH3.out HSI.out w4 HW4.out ?_)
            | (refine wpList_store_cell rfl 3 (.tmp 76) _ rfl g2 (na * 2) (.int .i64 1) rfl rfl rfl HTH4.out HSI.out w5 HW5.out ?_))
          go_end0
          exact ⟨rfl, HK5.out⟩

/-- the lists of an entry that came out -/
theorem over_ok {x : Entry} {cs : List Value} {ok : Nat → Prop} {base : Nat} {w : World} (hE : entryE w ok cs x) (h0 : ¬ ok 0) (hb : ∀ k, ok k → base ≤ k) :
    ∃ Aa ca As c, cs = [.int .i64 x.zxid, .int .i64 x.session, .int .i64 x.xid, .int .i64 x.txn.part.kind, .string x.txn.part.path, .string x.txn.part.data, .slice Aa x.txn.part.acl.length ca, .int .i64 x.txn.part.owner, .int .i64 x.txn.part.number, .int .i64 x.txn.part.err, .slice As x.txn.subs.length c] ∧
      OvOk w base w.heap.size (.slice As x.txn.subs.length c) (.slice Aa x.txn.part.acl.length ca) := by
  obtain ⟨ct, rfl, ⟨vs, ⟨va, rfl, hA, hp⟩, hS⟩, hi⟩ := hE
  have oA := hA.owns (fun T' h => h.1 rfl) h0 hb
  have oS := hS.owns (fun T' h => h.2.1 rfl) h0 hb
  have rS := rows_own hS h0 hb
  obtain ⟨Aa, na, ca, rfl⟩ := hA.shape
  obtain ⟨As, ns, c, rfl⟩ := hS.shape
  obtain rfl := hA.size_le
  obtain rfl := hS.size_le
  exact ⟨Aa, ca, As, c, rfl, oS, oA, rS⟩
theorem over_entry (x : Entry) (cs : List Value) (ok : Nat → Prop) (base : Nat) (w : World) (hE : entryE w ok cs x) (h0 : ¬ ok 0) (hb : ∀ k, ok k → base ≤ k) (hbw : base ≤ w.heap.size) (hn1 : x.txn.part.acl.length ≤ 256) (hn2 : x.txn.subs.length ≤ 256) :
    Calls Try.prog 20 #[.agg cs.toArray] w fun e w' => e = .returned (.tuple #[]) ∧ Kept (Mid base w.heap.size) w w' := by
  obtain ⟨Aa, ca, As, c, rfl, hok⟩ := over_ok hE h0 hb
  exact (over_cells _ _ _ _ _ _ _ _ _ Aa _ ca As _ c base w.heap.size w hok (Nat.le_refl _) hn1 hn2).mono fun e w' h => ⟨h.1, h.2.kept⟩
end Go.Proofs.Ytpmemcpfoapjmaa

namespace Go.Proofs.Ytpmemcpfoapjmaa
open Go.ChangeShapes Go.WideShapes Go.ChangeAt Go.RowKit
set_option linter.unusedVariables false

/-- since w0 the writer alone has turned -/
structure WSt (w0 : World) (b : Nat) (v0 : Value) (w : World) (v : Value) (l : List UInt8) : Prop where
  at_ : WAt w b v l
  kept : Kept (WS b v0) w0 w
  sep : Sep w0 v0.ownBlock v

theorem WSt.start {w : World} {b : Nat} {v : Value} {l : List UInt8} (h : WAt w b v l) : WSt w b v w v l := ⟨h, Kept.refl _ _, Sep.refl _ _⟩
theorem WSt.box {w : World} {b : Nat} {v : Value} {l : List UInt8} (h : WAt w b v l) (o : Obj) : WSt (w.alloc o) b v (w.alloc o) v l :=
  WSt.start (h.keep ((Kept.refl (fun _ => False) w).alloc o) (disj_none _))
theorem WSt.alloc {w0 w : World} {b : Nat} {v0 v : Value} {l : List UInt8} (h : WSt w0 b v0 w v l) (o : Obj) : WSt w0 b v0 (w.alloc o) v l :=
  ⟨h.at_.keep ((Kept.refl (fun _ => False) w).alloc o) (disj_none _), h.kept.alloc o, h.sep⟩
theorem WSt.step {w0 w w' : World} {b : Nat} {v0 v : Value} {l l' : List UInt8} {e : Ending} (h : WSt w0 b v0 w v l) (hp : WPost w b v l' e w') : ∃ v', e = .returned (.tuple #[]) ∧ WSt w0 b v0 w' v' l' := by
  obtain ⟨v', he, h1, h2, h3⟩ := hp
  exact ⟨v', he, h1, h.kept.trans' h2 (WS.sep h.sep), h.sep.trans h3 h.kept.size⟩
theorem WSt.fin {w w' : World} {b : Nat} {v0 v : Value} {l l' : List UInt8} (h : WSt w b v0 w' v l) (e : l = l') : WPost w b v0 l' (.returned (.tuple #[])) w' :=
  ⟨v, rfl, e ▸ h.at_, h.kept, h.sep⟩
theorem WSt.unbox {w w' : World} {o : Obj} {b : Nat} {v0 v : Value} {l l' : List UInt8} (h : WSt (w.alloc o) b v0 w' v l) (e : l = l') : WPost w b v0 l' (.returned (.tuple #[])) w' :=
  ⟨v, rfl, e ▸ h.at_, Kept.trans' ((Kept.refl (WS b v0) w).alloc o) h.kept (fun _ _ s => s), h.sep.mono (by simp)⟩

/-- a block that is none of the writer's is as it was -/
theorem WSt.blk {w0 w : World} {b g : Nat} {v0 v : Value} {l : List UInt8} {o : Obj} (h : WSt w0 b v0 w v l) (hb : w0.heap[g]? = some o) (hn : ¬ WS b v0 g) : w.heap[g]? = some o := by
  rw [h.kept.block g (lt_of_block hb) hn]; exact hb
theorem box_new {w : World} {b : Nat} {v : Value} {l : List UInt8} (h : WAt w b v l) : ¬ WS b v w.heap.size := fun hs => by have := h.inn _ hs; omega

theorem putErr_any (n : Int) (w : World) (b : Nat) (v : Value) (l : List UInt8) (hW : WAt w b v l) (hn : I64 n) (hl : l.length ≤ 144900000000000) :
    Calls Try.prog 67 #[.pointer (some ⟨b, 0, none⟩), .int .i64 n] w (WPost w b v (l ++ numF.lay n)) := by
  go_enter Try.func67, Try.ntmps67
  go_wp2_with fail
  refine (wnum_wide n _ b v l hW hn.1 hn.2 hl).mono ?_
  rintro e w1 h1
  obtain ⟨v1, rfl, S1⟩ := (WSt.start hW).step h1
  go_wp2_with fail
  go_end0
  exact S1.fin rfl

theorem putAcl_any (a : Acl) (w : World) (b : Nat) (v : Value) (l : List UInt8) (hW : WAt w b v l) (hn : I64 a.perms) (hs : Str a.id) (hl : l.length + (aclF.lay a).length ≤ 144900000000000) :
    Calls Try.prog 66 #[.pointer (some ⟨b, 0, none⟩), .agg #[.int .i64 a.perms, .string a.id]] w (WPost w b v (l ++ aclF.lay a)) := by
  obtain ⟨x0, x1⟩ := a
  simp only at hn hs ⊢
  have S0 := WSt.box hW (.cells #[.int .i64 x0, .string x1] 47)
  have hnb := box_new hW
  have hbk := heap_alloc_new w (.cells #[.int .i64 x0, .string x1] 47)
  have hl1 : l.length + (sev (zz x0)).length + ((sev x1.size).length + x1.size) ≤ 144900000000000 := by
    simp only [aclF, isoF, seqF, numF, textF, List.length_append, str_len] at hl; omega
  clear hl
  go_enter Try.func66, Try.ntmps66
  go_wp2_with fail
  refine (wnum_wide x0 _ b v l S0.at_ hn.1 hn.2 (by omega)).mono ?_
  rintro e w1 h1
  obtain ⟨v1, rfl, S1⟩ := S0.step h1
  have hb1 := S1.blk hbk hnb
  have c1 : w1.cell? ⟨w.heap.size, 1, none⟩ = some (.string x1) := by simp [World.cell?, hb1]
  clear S0 h1
  go_wp2_with fail
  refine (wtext_wide x1 _ b v1 _ S1.at_ hs (by simp only [List.length_append]; omega)).mono ?_
  rintro e w2 h2
  obtain ⟨v2, rfl, S2⟩ := S1.step h2
  clear S1 h2
  go_wp2_with fail
  go_end0
  exact S2.unbox (by simp only [aclF, isoF, seqF, numF, textF, List.append_assoc])

/-- at a loop's head: k of the list are laid -/
structure PutRelL (w0 : World) (b : Nat) (v0 : Value) (l : List UInt8) (n : Nat) (f : Nat → List UInt8) (iv : Value) (wr : World) : Prop where
  ex : ∃ (k : Nat) (v : Value), iv = .int .i64 k ∧ k ≤ n ∧ WSt w0 b v0 wr v (l ++ f k)

theorem layN_take {α : Type} {f : Fmt α} {xs : List α} {k : Nat} (h : k < xs.length) : layN f (xs.take (k + 1)) = layN f (xs.take k) ++ f.lay xs[k] := by
  unfold layN; rw [List.take_succ_eq_append_getElem h, List.flatMap_append]; simp
theorem layN_le {α : Type} {f : Fmt α} {xs : List α} {k : Nat} (h : k < xs.length) : (layN f (xs.take k)).length + (f.lay xs[k]).length ≤ (layN f xs).length := by
  have h1 := layN_take (f := f) h
  have h2 : layN f xs = layN f (xs.take (k + 1)) ++ layN f (xs.drop (k + 1)) := by
    simp only [layN, ← List.flatMap_append, List.take_append_drop]
  rw [h2, h1]
  simp only [List.length_append]
  omega

theorem putNums_any (ns : List Int) (sv : Value) (ok : Nat → Prop) (w : World) (b : Nat) (v : Value) (l : List UInt8) (hW : WAt w b v l) (hL : ListR intE w ok 1 sv ns) (hd : Disj ok (WS b v)) (hl : l.length + (layN numF ns).length ≤ 144900000000000) :
    Calls Try.prog 31 #[.pointer (some ⟨b, 0, none⟩), sv] w (WPost w b v (l ++ layN numF ns)) := by
  obtain ⟨rows, ⟨A, c, rfl, hlc, hm, hat⟩, hlen, hel⟩ := hL
  unfold maxLen at hm
  have hlen1 : rows.length ≤ ns.length := by omega
  have hlen2 : ns.length ≤ rows.length := by omega
  clear hlen
  go_enter Try.func31, Try.ntmps31
  go_wp2_with fail
  go_loopw [8] (fun iv wr => PutRelL w b v l ns.length (fun k => layN numF (ns.take k)) iv wr) (fun iv _ => ns.length - (intOf iv).toNat)
  case atStart => exact ⟨0, v, rfl, Nat.zero_le _, by simpa [layN] using WSt.start hW⟩
  case round =>
    obtain ⟨k, v1, rfl, hk, S1⟩ := hrel.ex
    clear hrel
    by_cases hlt : k < ns.length
    · have hkr : k < rows.length := by omega
      rcases hat with h0 | ⟨g, off, rfl, hok, hg, hc⟩
      · simp [h0.1] at hkr
      have hx := (hel k hlt hkr).1
      have hi := (hel k hlt hkr).2
      have hcell := (hc k hkr).2 0 (by rw [hx]; simp)
      simp only [hx, List.getElem_cons_zero, Nat.mul_one, Nat.add_zero] at hcell
      have hcell1 : wr.cell? ⟨g, off + k, none⟩ = some (.int .i64 ns[k]) := by
        rw [← hcell]; exact World.cell?_of_block (S1.kept.block g hg (hd g hok.1))
      have hle := layN_le (f := numF) hlt
      have HTK := Lib.hid (layN_take (f := numF) hlt)
      generalize ns[k] = x at hcell1 hi hle HTK
      clear hcell hx hc hel
      have hkl : (k : Int) < (rows.length : Int) := by omega
      go_wp2_with fail
      refine (wnum_wide x _ b v1 _ S1.at_ hi.1 hi.2 (by simp only [List.length_append]; omega)).mono ?_
      rintro e w2 h2
      obtain ⟨v2, rfl, S2⟩ := S1.step h2
      clear S1 h2
      go_wp2_with fail
      go_roundw
      case rel => exact ⟨k + 1, v2, rfl, hlt, by rw [HTK.out, ← List.append_assoc]; exact S2⟩
      case measure => simp [intOf]; omega
    · have hkl : ¬ (k : Int) < (rows.length : Int) := by omega
      obtain rfl : k = ns.length := by omega
      go_wp2_with fail
      go_end0
      exact S1.fin (by rw [List.take_length])
end Go.Proofs.Ytpmemcpfoapjmaa

namespace Go.Proofs.Ytpmemcpfoapjmaa
open Go.ChangeShapes Go.WideShapes Go.ChangeAt Go.RowKit
set_option linter.unusedVariables false

theorem add_str (P : Program) (a b : List UInt8) (h : a.length + b.length ≤ 1000000000000000) (W : World) : Sem.run P (Op.stringOp .add ⟨a.toArray⟩ ⟨b.toArray⟩) W = .ok (.string ⟨(a ++ b).toArray⟩) W := by
  rw [run_string_add_sum W _ _ (by rw [size_mk, size_mk]; omega), str_append]

structure NumsRel (w : World) (ns : List Int) (sv iv : Value) (wr : World) : Prop where
  ex : ∃ k, iv = .int .i64 (k : Nat) ∧ k ≤ ns.length ∧ sv = .string ⟨(layN numF (ns.take k)).toArray⟩ ∧ Old w wr

theorem refnums_any (ns : List Int) (sv : Value) (ok : Nat → Prop) (w : World) (hL : ListR intE w ok 1 sv ns) (hl : (layN numF ns).length ≤ 1000000000000000) :
    Calls Try.prog 16 #[sv] w (OldStr w (layN numF ns)) := by
  obtain ⟨rows, ⟨A, c, rfl, hlc, hm, hat⟩, hlen, hel⟩ := hL
  unfold maxLen at hm
  have hlen1 : rows.length ≤ ns.length := by omega
  have hlen2 : ns.length ≤ rows.length := by omega
  clear hlen
  go_enter Try.func16, Try.ntmps16
  go_wp2_with fail
  go_loopw [3, 4] (fun s i wr => NumsRel w ns s i wr) (fun _ i _ => ns.length - (intOf i).toNat)
  case atStart => exact ⟨0, rfl, Nat.zero_le _, rfl, Old.refl _⟩
  case round =>
    obtain ⟨k, rfl, hk, rfl, hO⟩ := hrel.ex
    clear hrel
    by_cases hlt : k < ns.length
    · have hkr : k < rows.length := by omega
      rcases hat with h0 | ⟨g, off, rfl, hok, hg, hc⟩
      · simp [h0.1] at hkr
      have hx := (hel k hlt hkr).1
      have hi := (hel k hlt hkr).2
      have hcell := (hc k hkr).2 0 (by rw [hx]; simp)
      simp only [hx, List.getElem_cons_zero, Nat.mul_one, Nat.add_zero] at hcell
      have hcell1 : wr.cell? ⟨g, off + k, none⟩ = some (.int .i64 ns[k]) := by
        rw [← hcell]; exact World.cell?_of_block (hO.block g hg id)
      have hle := layN_le (f := numF) hlt
      have HTK := Lib.hid (layN_take (f := numF) hlt)
      generalize ns[k] = x at hcell1 hi hle HTK
      clear hcell hx hc hel
      have hq : ∀ W, Sem.run Try.prog (Op.stringOp .add ⟨(layN numF (ns.take k)).toArray⟩ ⟨(sev (zz x)).toArray⟩) W = .ok (.string ⟨(layN numF (ns.take (k + 1))).toArray⟩) W := fun W => by
        rw [HTK.out]; exact add_str _ _ _ (by have e : (numF.lay x).length = (sev (zz x)).length := rfl; omega) W
      have hkl : (k : Int) < (rows.length : Int) := by omega
      go_wp2_with (go_at_call 33; refine (refnum_any x _ hi).mono ?_; rintro e w2 ⟨rfl, hO2⟩)
      go_roundw
      case rel => exact ⟨k + 1, by go_num, hlt, rfl, hO.none hO2⟩
      case measure => simp [intOf]; omega
    · have hkl : ¬ (k : Int) < (rows.length : Int) := by omega
      obtain rfl : k = ns.length := by omega
      have ht : ns.take ns.length = ns := List.take_length
      rw [ht]
      go_wp2_with fail
      go_ret
      exact ⟨rfl, hO⟩
end Go.Proofs.Ytpmemcpfoapjmaa

namespace Go.Proofs.Ytpmemcpfoapjmaa
open Go.ChangeShapes Go.WideShapes Go.ChangeAt Go.RowKit
set_option linter.unusedVariables false

theorem numF_lay (n : Int) : numF.lay n = sev (zz n) := rfl

/-- numbers in a block of their own -/
theorem nums_new (ns : List Int) (w : World) (h : ∀ n ∈ ns, I64 n) (hm : ns.length ≤ maxLen) :
    ListR intE (w.alloc (.cells (ns.map (Value.int .i64)).toArray 3)) (fun k => k = w.heap.size) 1 (.slice (some ⟨w.heap.size, 0, none⟩) ns.length ns.length) ns := by
  refine ⟨ns.map fun n => [Value.int .i64 n], ⟨_, _, by rw [List.length_map], by rw [List.length_map]; exact Nat.le_refl _, hm, Or.inr ⟨w.heap.size, 0, rfl, ⟨rfl, fun k _ => by
    have hb := heap_alloc_new w (.cells (ns.map (Value.int .i64)).toArray 3)
    unfold World.frozen?
    rw [hb]
    simp, fun _ => ⟨rfl, _, _, heap_alloc_new w (.cells (ns.map (Value.int .i64)).toArray 3), by simp, by unfold TyOf; decide⟩⟩, by simp, fun i hi => ⟨by simp, fun j hj => ?_⟩⟩⟩, by simp, fun i hi hi' => ?_⟩
  · have hj0 : j = 0 := by simpa using hj
    subst hj0
    have hi2 : i < ns.length := by simpa using hi
    have hb := heap_alloc_new w (.cells (ns.map (Value.int .i64)).toArray 3)
    have hc := cell_of_row _ w.heap.size i _ _ (0, 0) hb
    rw [show 0 + i * 1 + 0 = i from by omega, hc]
    simp [List.getElem?_eq_getElem hi2]
  · simp only [List.getElem_map]
    exact ⟨rfl, h _ (List.getElem_mem _)⟩

theorem nums_call (ns : List Int) (w : World) (g : Nat) (hg : w.heap.size = g) (b : Nat) (v : Value) (l : List UInt8) (hW : WAt w b v l) (h : ∀ n ∈ ns, I64 n) (hm : ns.length ≤ maxLen) (hl : l.length + (layN numF ns).length ≤ 144900000000000) :
    Calls Try.prog 31 #[.pointer (some ⟨b, 0, none⟩), .slice (some ⟨g, 0, none⟩) ns.length ns.length] (w.alloc (.cells (ns.map (Value.int .i64)).toArray 3)) (WPost (w.alloc (.cells (ns.map (Value.int .i64)).toArray 3)) b v (l ++ layN numF ns)) := by
  subst hg
  exact putNums_any ns _ _ _ b v l (hW.keep ((Kept.refl (fun _ => False) w).alloc _) (disj_none _)) (nums_new ns w h hm) (fun k hk hs => by have := hW.inn _ hs; have hk' : k = w.heap.size := hk; omega) hl

end Go.Proofs.Ytpmemcpfoapjmaa

namespace Go.Proofs.Ytpmemcpfoapjmaa
open Go.ChangeShapes Go.WideShapes Go.ChangeAt Go.RowKit
set_option linter.unusedVariables false

theorem Old.cell {w w' : World} (h : Old w w') {a : Addr} {v : Value} (hc : w.cell? a = some v) : w'.cell? a = some v := by
  obtain ⟨b, o, sp⟩ := a
  have hlt := World.block_lt_of_cell? w _ hc
  rw [← hc]
  exact World.cell?_of_block (h.block b hlt id)
theorem Old.drew {w w' : World} (h : Old w w') : Old w w'.drew := ⟨h.os, h.tape, h.output, h.size, h.block⟩
theorem Old.of_drew {w w' : World} (h : Old w.drew w') : Old w w' := ⟨h.os, h.tape, h.output, h.size, h.block⟩
theorem Old.make {w w' : World} (h : Old w w') (o : Obj) : Old w (w'.alloc o) := Kept.alloc h o
theorem lay_num (n : Int) : numF.lay n = sev (zz n) := rfl
theorem lay_text (m : Nat) (s : ByteArray) : (textF m).lay s = sev s.size ++ s.data.toList := rfl
theorem lay_flag (x : Bool) : flagF.lay x = [if x then 1 else 0] := rfl
theorem num_len {n : Int} (h : I64 n) : (sev (zz n)).length ≤ 10 := sev_length_u64 (zz_le h.1 h.2)

theorem nums_at (ns : List Int) (g : Nat) (w : World) (hb : w.heap[g]? = some (.cells (ns.map (Value.int .i64)).toArray 3 (0, 0))) (h : ∀ n ∈ ns, I64 n) (hm : ns.length ≤ maxLen) :
    ListR intE w (fun k => k = g) 1 (.slice (some ⟨g, 0, none⟩) ns.length ns.length) ns := by
  refine ⟨ns.map fun n => [Value.int .i64 n], ⟨_, _, by rw [List.length_map], by rw [List.length_map]; exact Nat.le_refl _, hm, Or.inr ⟨g, 0, rfl, ⟨rfl, fun k _ => by simp [World.frozen?, hb], fun _ => ⟨rfl, _, _, hb, by simp, by unfold TyOf; decide⟩⟩, lt_of_block hb, fun i hi => ⟨by simp, fun j hj => ?_⟩⟩⟩, by simp, fun i hi hi' => ?_⟩
  · have hj0 : j = 0 := by simpa using hj
    subst hj0
    have hi2 : i < ns.length := by simpa using hi
    have hc := cell_of_row _ g i _ _ (0, 0) hb
    rw [show 0 + i * 1 + 0 = i from by omega, hc]
    simp [List.getElem?_eq_getElem hi2]
  · simp only [List.getElem_map]
    exact ⟨rfl, h _ (List.getElem_mem _)⟩

theorem refnums2 (a0 a1 : Int) (g : Nat) (w : World) (hb : w.heap[g]? = some (.cells #[.int .i64 a0, .int .i64 a1] 3 (0, 0))) (h0 : I64 a0) (h1 : I64 a1) :
    Calls Try.prog 16 #[.slice (some ⟨g, 0, none⟩) 2 2] w (OldStr w (sev (zz a0) ++ sev (zz a1))) := by
  have h := refnums_any [a0, a1] _ _ _ (nums_at [a0, a1] g w hb (by simp only [List.mem_cons, List.not_mem_nil, or_false, forall_eq_or_imp, forall_eq]; exact ⟨h0, h1⟩) (by unfold maxLen; simp only [List.length_cons, List.length_nil]; omega)) (by
    simp only [layN, List.flatMap_cons, List.flatMap_nil, List.append_nil, lay_num, List.length_append]
    have := num_len h0; have := num_len h1
    omega)
  have e : layN numF [a0, a1] = sev (zz a0) ++ sev (zz a1) := by simp only [layN, List.flatMap_cons, List.flatMap_nil, List.append_nil, lay_num]
  rw [e] at h
  exact h

theorem refnums3 (a0 a1 a2 : Int) (g : Nat) (w : World) (hb : w.heap[g]? = some (.cells #[.int .i64 a0, .int .i64 a1, .int .i64 a2] 3 (0, 0))) (h0 : I64 a0) (h1 : I64 a1) (h2 : I64 a2) :
    Calls Try.prog 16 #[.slice (some ⟨g, 0, none⟩) 3 3] w (OldStr w (sev (zz a0) ++ (sev (zz a1) ++ sev (zz a2)))) := by
  have h := refnums_any [a0, a1, a2] _ _ _ (nums_at [a0, a1, a2] g w hb (by simp only [List.mem_cons, List.not_mem_nil, or_false, forall_eq_or_imp, forall_eq]; exact ⟨h0, h1, h2⟩) (by unfold maxLen; simp only [List.length_cons, List.length_nil]; omega)) (by
    simp only [layN, List.flatMap_cons, List.flatMap_nil, List.append_nil, lay_num, List.length_append]
    have := num_len h0; have := num_len h1; have := num_len h2
    omega)
  have e : layN numF [a0, a1, a2] = sev (zz a0) ++ (sev (zz a1) ++ sev (zz a2)) := by simp only [layN, List.flatMap_cons, List.flatMap_nil, List.append_nil, lay_num]
  rw [e] at h
  exact h

theorem refnums5 (a0 a1 a2 a3 a4 : Int) (g : Nat) (w : World) (hb : w.heap[g]? = some (.cells #[.int .i64 a0, .int .i64 a1, .int .i64 a2, .int .i64 a3, .int .i64 a4] 3 (0, 0))) (h0 : I64 a0) (h1 : I64 a1) (h2 : I64 a2) (h3 : I64 a3) (h4 : I64 a4) :
    Calls Try.prog 16 #[.slice (some ⟨g, 0, none⟩) 5 5] w (OldStr w (sev (zz a0) ++ (sev (zz a1) ++ (sev (zz a2) ++ (sev (zz a3) ++ sev (zz a4)))))) := by
  have h := refnums_any [a0, a1, a2, a3, a4] _ _ _ (nums_at [a0, a1, a2, a3, a4] g w hb (by simp only [List.mem_cons, List.not_mem_nil, or_false, forall_eq_or_imp, forall_eq]; exact ⟨h0, h1, h2, h3, h4⟩) (by unfold maxLen; simp only [List.length_cons, List.length_nil]; omega)) (by
    simp only [layN, List.flatMap_cons, List.flatMap_nil, List.append_nil, lay_num, List.length_append]
    have := num_len h0; have := num_len h1; have := num_len h2; have := num_len h3; have := num_len h4
    omega)
  have e : layN numF [a0, a1, a2, a3, a4] = sev (zz a0) ++ (sev (zz a1) ++ (sev (zz a2) ++ (sev (zz a3) ++ sev (zz a4)))) := by simp only [layN, List.flatMap_cons, List.flatMap_nil, List.append_nil, lay_num]
  rw [e] at h
  exact h

theorem refnums6 (a0 a1 a2 a3 a4 a5 : Int) (g : Nat) (w : World) (hb : w.heap[g]? = some (.cells #[.int .i64 a0, .int .i64 a1, .int .i64 a2, .int .i64 a3, .int .i64 a4, .int .i64 a5] 3 (0, 0))) (h0 : I64 a0) (h1 : I64 a1) (h2 : I64 a2) (h3 : I64 a3) (h4 : I64 a4) (h5 : I64 a5) :
    Calls Try.prog 16 #[.slice (some ⟨g, 0, none⟩) 6 6] w (OldStr w (sev (zz a0) ++ (sev (zz a1) ++ (sev (zz a2) ++ (sev (zz a3) ++ (sev (zz a4) ++ sev (zz a5))))))) := by
  have h := refnums_any [a0, a1, a2, a3, a4, a5] _ _ _ (nums_at [a0, a1, a2, a3, a4, a5] g w hb (by simp only [List.mem_cons, List.not_mem_nil, or_false, forall_eq_or_imp, forall_eq]; exact ⟨h0, h1, h2, h3, h4, h5⟩) (by unfold maxLen; simp only [List.length_cons, List.length_nil]; omega)) (by
    simp only [layN, List.flatMap_cons, List.flatMap_nil, List.append_nil, lay_num, List.length_append]
    have := num_len h0; have := num_len h1; have := num_len h2; have := num_len h3; have := num_len h4; have := num_len h5
    omega)
  have e : layN numF [a0, a1, a2, a3, a4, a5] = sev (zz a0) ++ (sev (zz a1) ++ (sev (zz a2) ++ (sev (zz a3) ++ (sev (zz a4) ++ sev (zz a5))))) := by simp only [layN, List.flatMap_cons, List.flatMap_nil, List.append_nil, lay_num]
  rw [e] at h
  exact h

theorem refnums9 (a0 a1 a2 a3 a4 a5 a6 a7 a8 : Int) (g : Nat) (w : World) (hb : w.heap[g]? = some (.cells #[.int .i64 a0, .int .i64 a1, .int .i64 a2, .int .i64 a3, .int .i64 a4, .int .i64 a5, .int .i64 a6, .int .i64 a7, .int .i64 a8] 3 (0, 0))) (h0 : I64 a0) (h1 : I64 a1) (h2 : I64 a2) (h3 : I64 a3) (h4 : I64 a4) (h5 : I64 a5) (h6 : I64 a6) (h7 : I64 a7) (h8 : I64 a8) :
    Calls Try.prog 16 #[.slice (some ⟨g, 0, none⟩) 9 9] w (OldStr w (sev (zz a0) ++ (sev (zz a1) ++ (sev (zz a2) ++ (sev (zz a3) ++ (sev (zz a4) ++ (sev (zz a5) ++ (sev (zz a6) ++ (sev (zz a7) ++ sev (zz a8)))))))))) := by
  have h := refnums_any [a0, a1, a2, a3, a4, a5, a6, a7, a8] _ _ _ (nums_at [a0, a1, a2, a3, a4, a5, a6, a7, a8] g w hb (by simp only [List.mem_cons, List.not_mem_nil, or_false, forall_eq_or_imp, forall_eq]; exact ⟨h0, h1, h2, h3, h4, h5, h6, h7, h8⟩) (by unfold maxLen; simp only [List.length_cons, List.length_nil]; omega)) (by
    simp only [layN, List.flatMap_cons, List.flatMap_nil, List.append_nil, lay_num, List.length_append]
    have := num_len h0; have := num_len h1; have := num_len h2; have := num_len h3; have := num_len h4; have := num_len h5; have := num_len h6; have := num_len h7; have := num_len h8
    omega)
  have e : layN numF [a0, a1, a2, a3, a4, a5, a6, a7, a8] = sev (zz a0) ++ (sev (zz a1) ++ (sev (zz a2) ++ (sev (zz a3) ++ (sev (zz a4) ++ (sev (zz a5) ++ (sev (zz a6) ++ (sev (zz a7) ++ sev (zz a8)))))))) := by simp only [layN, List.flatMap_cons, List.flatMap_nil, List.append_nil, lay_num]
  rw [e] at h
  exact h

end Go.Proofs.Ytpmemcpfoapjmaa

namespace Go.Proofs.Ytpmemcpfoapjmaa
open Go.ChangeShapes Go.WideShapes Go.ChangeAt Go.RowKit
set_option linter.unusedVariables false

def intsOf (l : List Int) : List Value := l.map (Value.int .i64)
def numsN (n : Nat) (l : List UInt8) (p e : Nat) : List Int × Nat × Nat := getN numF.get n l p e

structure RTakeRel (w : World) (b : Nat) (s : ByteArray) (n pos e : Nat) (iv : Value) (wr : World) : Prop where
  ex : ∃ k p', iv = .int .i64 (k : Nat) ∧ k ≤ n ∧ wr.heap[w.heap.size]? = some (.cells (intsOf (numsN k s.data.toList pos e).1 ++ List.replicate (n - k) (Value.int .i64 0)).toArray 3 (0, 0)) ∧
    FAt wr b s p' (numsN k s.data.toList pos e).2.2 ∧ ((numsN k s.data.toList pos e).2.2 = 0 → p' = (numsN k s.data.toList pos e).2.1) ∧ Kept (RS b) w wr

def TkPost (w : World) (b : Nat) (s : ByteArray) (n pos e : Nat) (en : Ending) (w' : World) : Prop :=
  ∃ g p', en = .returned (.slice (some ⟨g, 0, none⟩) n n) ∧ w'.heap[g]? = some (.cells (intsOf (numsN n s.data.toList pos e).1).toArray 3 (0, 0)) ∧ w.heap.size ≤ g ∧
    FAt w' b s p' (numsN n s.data.toList pos e).2.2 ∧ ((numsN n s.data.toList pos e).2.2 = 0 → p' = (numsN n s.data.toList pos e).2.1) ∧ Kept (RS b) w w'

theorem set_next {α : Type} (A : List α) (n k : Nat) (z v : α) (hA : A.length = k) (hk : k < n) : (A ++ List.replicate (n - k) z).set k v = (A ++ [v]) ++ List.replicate (n - (k + 1)) z := by
  subst hA
  rw [show n - A.length = (n - (A.length + 1)) + 1 from by omega, List.replicate_succ]
  simp

theorem info_int : (Try.prog.info? 3).map (fun i => (i.zero, i.size, i.bytes)) = some (some (.int .i64 0), 1, 8) := by kernel_rfl
theorem made_ints (n : Nat) : madeCells #[Value.int .i64 0] n = (List.replicate n (Value.int .i64 0)).toArray := by
  unfold madeCells
  apply Array.ext
  · simp
  · intro i h1 h2
    simp [Nat.mod_one]

set_option maxRecDepth 100000 in
theorem reftake_any (n : Nat) (hn : n ≤ 100000) (w : World) (b : Nat) (s : ByteArray) (p pos e : Nat) (hF : FAt w b s p e) (hp : e = 0 → p = pos) :
    Calls Try.prog 54 #[.pointer (some ⟨b, 0, none⟩), .int .i64 n] w (TkPost w b s n pos e) := by
  obtain ⟨i0, hi, hz0, hz1, hz2⟩ := info_parts info_int
  have hmk : ∀ u : World, (Instr.makeSlice 51 (.int .i64 (n : Int)) (.int .i64 (n : Int))).run Try.prog u =
      .ok (.slice (some ⟨u.heap.size, 0, none⟩) n n) (u.alloc (.cells (List.replicate n (Value.int .i64 0)).toArray 3)) := fun u => by
    have h := run_make (P := Try.prog) u 51 3 i0 (.int .i64 0) Try.underlying51 hi hz0 .i64 .i64 (n : Int) (n : Int) (by omega) (Int.le_refl _) (by rw [hz2]; omega) (by omega)
    rw [← made_ints]
    simpa [hz1, Value.cells] using h
  have hb := lt_of_block hF.at_
  have hst : RTakeRel w b s n pos e (.int .i64 0) (w.alloc (.cells (List.replicate n (Value.int .i64 0)).toArray 3)) :=
    ⟨0, p, rfl, Nat.zero_le _, heap_alloc_new w _, hF.keep ((Kept.refl (fun _ => False) w).alloc _) id, hp, (Kept.refl _ w).alloc _⟩
  have HST := Lib.hid hst; clear hst
  have HSZ := Lib.hid (show (Try.prog.info? 3).map (·.size) = some 1 by kernel_rfl)
  clear hi hz0 hz1 hz2 hp
  go_enter Try.func54, Try.ntmps54
  go_wp2_with fail
  go_loopw [6] (fun i wr => RTakeRel w b s n pos e i wr) (fun i _ => n - (intOf i).toNat)
  case atStart => exact HST.out
  case round =>
    obtain ⟨k, p', rfl, hk, hblk, hF', hp', hK⟩ := hrel.ex
    clear hrel
    by_cases hlt : k < n
    · have HB := Lib.hid hblk
      have HK := Lib.hid hK
      have HP := Lib.hid hp'
      have hlen : (intsOf (numsN k s.data.toList pos e).1).length = k := by simp [intsOf, numsN, getN_len]
      have HN := Lib.hid (getN_snoc numF.get k s.data.toList pos e)
      have HSET := Lib.hid (fun v => set_next (intsOf (numsN k s.data.toList pos e).1) n k (Value.int .i64 0) v hlen hlt)
      have HLEN := Lib.hid (show k < (intsOf (numsN k s.data.toList pos e).1 ++ List.replicate (n - k) (Value.int .i64 0)).length by simp [hlen]; omega)
      clear hblk hK hp' hlen
      go_wp2_with (first
        | (go_at_call 68; refine (fnum_any _ b s p' _ _ hF' HP.out).mono ?_; rintro en w1 ⟨p1, rfl, hF1, hp1, hk1⟩
           have HB1 := Lib.hid ((hk1.block _ (lt_of_block HB.out) (fun h => by have h' : w.heap.size = b := h; omega)).trans HB.out))
        | (refine wpList_store_at rfl 3 _ _ rfl w.heap.size k _ rfl rfl rfl _ 3 HB1.out HLEN.out HSZ.out ?_))
      go_roundw
      case rel =>
        refine ⟨k + 1, p1, by go_num, hlt, ?_, ?_, ?_, ?_⟩
        · rw [setRow_heap _ _ _ _ _ _ HB1.out, HSET.out]
          have hn1 : numsN (k + 1) s.data.toList pos e = _ := HN.out
          rw [hn1]
          simp only [intsOf, List.map_append, List.map_cons, List.map_nil]
          rfl
        · have hn1 : numsN (k + 1) s.data.toList pos e = _ := HN.out
          rw [hn1]
          exact hF1.keep (setRow_kept _ _ _) (fun h => by omega)
        · have hn1 : numsN (k + 1) s.data.toList pos e = _ := HN.out
          rw [hn1]
          exact hp1
        · exact Kept.trans' (Kept.trans' HK.out hk1 (fun _ _ h => h)) (setRow_kept _ _ _) (fun k hk h => by omega)
      case measure => simp [intOf]; omega
    · obtain rfl : k = n := by omega
      have HB := Lib.hid hblk
      clear hblk
      go_wp2_with fail
      go_ret
      refine ⟨w.heap.size, p', rfl, ?_, Nat.le_refl _, hF', hp', hK⟩
      rw [HB.out, Nat.sub_self, List.replicate_zero, List.append_nil]
end Go.Proofs.Ytpmemcpfoapjmaa

namespace Go.Proofs.Ytpmemcpfoapjmaa
open Go.ChangeShapes Go.WideShapes Go.ChangeAt Go.RowKit
set_option linter.unusedVariables false

set_option maxRecDepth 100000 in
set_option maxHeartbeats 600000 in
theorem put_event (x : Event) (cs : List Value) (ok : Nat → Prop) (w : World) (b : Nat) (v : Value) (l : List UInt8) (hW : WAt w b v l) (hE : eventE w ok cs x) (hd : Disj ok (WS b v)) (hi : In w ok) (hl : l.length + (eventF.lay x).length ≤ 144900000000000) :
    Calls Try.prog 22 #[.pointer (some ⟨b, 0, none⟩), .agg cs.toArray] w (WPost w b v (l ++ eventF.lay x)) := by
  obtain ⟨rfl, hn_kind, hs_path, hn_zxid⟩ := hE
  have S0 := WSt.box hW (.cells #[.int .i64 x.kind, .string x.path, .int .i64 x.zxid] 37)
  have hnb := box_new hW
  have hbk := heap_alloc_new w (.cells #[.int .i64 x.kind, .string x.path, .int .i64 x.zxid] 37)
  replace hi := hi.kept ((Kept.refl (fun _ => False) w).alloc (.cells #[.int .i64 x.kind, .string x.path, .int .i64 x.zxid] 37))
  have hlen : (eventF.lay x).length = (sev (zz x.kind)).length + ((sev x.path.size).length + x.path.size) + (sev (zz x.zxid)).length := by simp only [eventF, isoF, seqF, numF, textF, List.length_append, str_len] <;> omega
  have hl1 : l.length + ((sev (zz x.kind)).length + ((sev x.path.size).length + x.path.size) + (sev (zz x.zxid)).length) ≤ 144900000000000 := by rw [← hlen]; exact hl
  clear hlen
  clear hl
  go_enter Try.func22, Try.ntmps22
  go_wp2_with fail
  refine (wnum_wide x.kind _ b _ _ S0.at_ hn_kind.1 hn_kind.2 (by omega)).mono ?_
  rintro e w1 h1
  obtain ⟨v1, rfl, S1⟩ := S0.step h1
  clear S0 h1
  have hb1 := S1.blk hbk hnb
  have c1_1 : w1.cell? ⟨w.heap.size, 1, none⟩ = some (.string x.path) := by simp [World.cell?, hb1]
  clear hb1
  go_wp2_with fail
  refine (wtext_wide x.path _ b _ _ S1.at_ hs_path (by simp only [List.length_append]; omega)).mono ?_
  rintro e w2 h2
  obtain ⟨v2, rfl, S2⟩ := S1.step h2
  clear S1 h2
  have hb2 := S2.blk hbk hnb
  have c2_2 : w2.cell? ⟨w.heap.size, 2, none⟩ = some (.int .i64 x.zxid) := by simp [World.cell?, hb2]
  clear hb2
  go_wp2_with fail
  refine (wnum_wide x.zxid _ b _ _ S2.at_ hn_zxid.1 hn_zxid.2 (by simp only [List.length_append, str_len]; omega)).mono ?_
  rintro e w3 h3
  obtain ⟨v3, rfl, S3⟩ := S2.step h3
  clear S2 h3
  go_wp2_with fail
  go_end0
  exact S3.unbox (by simp only [eventF, isoF, seqF, numF, textF, List.append_assoc])

set_option maxRecDepth 100000 in
set_option maxHeartbeats 600000 in
theorem put_hello (x : Hello) (cs : List Value) (ok : Nat → Prop) (w : World) (b : Nat) (v : Value) (l : List UInt8) (hW : WAt w b v l) (hE : helloE w ok cs x) (hd : Disj ok (WS b v)) (hi : In w ok) (hl : l.length + (helloF.lay x).length ≤ 144900000000000) :
    Calls Try.prog 26 #[.pointer (some ⟨b, 0, none⟩), .agg cs.toArray] w (WPost w b v (l ++ helloF.lay x)) := by
  obtain ⟨rfl, hn_session, hn_zxid, hn_timeout, hs_secret⟩ := hE
  have S0 := WSt.box hW (.cells #[.int .i64 x.session, .int .i64 x.zxid, .int .i64 x.timeout, .string x.secret] 42)
  have hnb := box_new hW
  have hbk := heap_alloc_new w (.cells #[.int .i64 x.session, .int .i64 x.zxid, .int .i64 x.timeout, .string x.secret] 42)
  replace hi := hi.kept ((Kept.refl (fun _ => False) w).alloc (.cells #[.int .i64 x.session, .int .i64 x.zxid, .int .i64 x.timeout, .string x.secret] 42))
  have hlen : (helloF.lay x).length = (sev (zz x.session)).length + (sev (zz x.zxid)).length + (sev (zz x.timeout)).length + ((sev x.secret.size).length + x.secret.size) := by simp only [helloF, isoF, seqF, numF, textF, List.length_append, str_len] <;> omega
  have hl1 : l.length + ((sev (zz x.session)).length + (sev (zz x.zxid)).length + (sev (zz x.timeout)).length + ((sev x.secret.size).length + x.secret.size)) ≤ 144900000000000 := by rw [← hlen]; exact hl
  clear hlen
  clear hl
  go_enter Try.func26, Try.ntmps26
  go_wp2_with fail
  have hcall0 : Calls Try.prog 31 #[.pointer (some ⟨b, 0, none⟩), .slice (some ⟨w.heap.size + 1, 0, none⟩) 3 3] ((w.alloc (.cells #[.int .i64 x.session, .int .i64 x.zxid, .int .i64 x.timeout, .string x.secret] 42)).alloc (.cells #[.int .i64 x.session, .int .i64 x.zxid, .int .i64 x.timeout] 3)) (WPost ((w.alloc (.cells #[.int .i64 x.session, .int .i64 x.zxid, .int .i64 x.timeout, .string x.secret] 42)).alloc (.cells #[.int .i64 x.session, .int .i64 x.zxid, .int .i64 x.timeout] 3)) b v (l ++ layN numF [x.session, x.zxid, x.timeout])) :=
    nums_call [x.session, x.zxid, x.timeout] _ _ (by simp) b _ _ S0.at_ (by simp only [List.mem_cons, List.not_mem_nil, or_false, forall_eq_or_imp, forall_eq]; exact ⟨hn_session, hn_zxid, hn_timeout⟩) (by unfold maxLen; simp only [List.length_cons, List.length_nil]; omega) (by simp only [List.length_append, layN, List.flatMap_cons, List.flatMap_nil, List.append_nil, numF_lay]; omega)
  have HC0 := Lib.hid hcall0; clear hcall0
  refine HC0.out.mono ?_
  rintro e w1 h1
  obtain ⟨v1, rfl, S1⟩ := (S0.alloc _).step h1
  clear S0 h1 HC0
  have hb1 := S1.blk hbk hnb
  have c1_3 : w1.cell? ⟨w.heap.size, 3, none⟩ = some (.string x.secret) := by simp [World.cell?, hb1]
  clear hb1
  go_wp2_with fail
  refine (wtext_wide x.secret _ b _ _ S1.at_ hs_secret (by simp only [List.length_append, layN, List.flatMap_cons, List.flatMap_nil, List.append_nil, numF_lay]; omega)).mono ?_
  rintro e w2 h2
  obtain ⟨v2, rfl, S2⟩ := S1.step h2
  clear S1 h2
  go_wp2_with fail
  go_end0
  exact S2.unbox (by simp only [helloF, isoF, seqF, numF, textF, layN, List.flatMap_cons, List.flatMap_nil, List.append_nil, List.append_assoc])

set_option maxRecDepth 100000 in
set_option maxHeartbeats 600000 in
theorem put_note (x : Note) (cs : List Value) (ok : Nat → Prop) (w : World) (b : Nat) (v : Value) (l : List UInt8) (hW : WAt w b v l) (hE : noteE w ok cs x) (hd : Disj ok (WS b v)) (hi : In w ok) (hl : l.length + (noteF.lay x).length ≤ 144900000000000) :
    Calls Try.prog 28 #[.pointer (some ⟨b, 0, none⟩), .agg cs.toArray] w (WPost w b v (l ++ noteF.lay x)) := by
  obtain ⟨rfl, hn_from_, hn_state, hn_round, hn_leader, hn_epoch, hn_zxid⟩ := hE
  have S0 := WSt.box hW (.cells #[.int .i64 x.from_, .int .i64 x.state, .int .i64 x.round, .int .i64 x.leader, .int .i64 x.epoch, .int .i64 x.zxid] 45)
  have hnb := box_new hW
  have hbk := heap_alloc_new w (.cells #[.int .i64 x.from_, .int .i64 x.state, .int .i64 x.round, .int .i64 x.leader, .int .i64 x.epoch, .int .i64 x.zxid] 45)
  replace hi := hi.kept ((Kept.refl (fun _ => False) w).alloc (.cells #[.int .i64 x.from_, .int .i64 x.state, .int .i64 x.round, .int .i64 x.leader, .int .i64 x.epoch, .int .i64 x.zxid] 45))
  have hlen : (noteF.lay x).length = (sev (zz x.from_)).length + (sev (zz x.state)).length + (sev (zz x.round)).length + (sev (zz x.leader)).length + (sev (zz x.epoch)).length + (sev (zz x.zxid)).length := by simp only [noteF, isoF, seqF, numF, List.length_append] <;> omega
  have hl1 : l.length + ((sev (zz x.from_)).length + (sev (zz x.state)).length + (sev (zz x.round)).length + (sev (zz x.leader)).length + (sev (zz x.epoch)).length + (sev (zz x.zxid)).length) ≤ 144900000000000 := by rw [← hlen]; exact hl
  clear hlen
  clear hl
  go_enter Try.func28, Try.ntmps28
  go_wp2_with fail
  have hcall0 : Calls Try.prog 31 #[.pointer (some ⟨b, 0, none⟩), .slice (some ⟨w.heap.size + 1, 0, none⟩) 6 6] ((w.alloc (.cells #[.int .i64 x.from_, .int .i64 x.state, .int .i64 x.round, .int .i64 x.leader, .int .i64 x.epoch, .int .i64 x.zxid] 45)).alloc (.cells #[.int .i64 x.from_, .int .i64 x.state, .int .i64 x.round, .int .i64 x.leader, .int .i64 x.epoch, .int .i64 x.zxid] 3)) (WPost ((w.alloc (.cells #[.int .i64 x.from_, .int .i64 x.state, .int .i64 x.round, .int .i64 x.leader, .int .i64 x.epoch, .int .i64 x.zxid] 45)).alloc (.cells #[.int .i64 x.from_, .int .i64 x.state, .int .i64 x.round, .int .i64 x.leader, .int .i64 x.epoch, .int .i64 x.zxid] 3)) b v (l ++ layN numF [x.from_, x.state, x.round, x.leader, x.epoch, x.zxid])) :=
    nums_call [x.from_, x.state, x.round, x.leader, x.epoch, x.zxid] _ _ (by simp) b _ _ S0.at_ (by simp only [List.mem_cons, List.not_mem_nil, or_false, forall_eq_or_imp, forall_eq]; exact ⟨hn_from_, hn_state, hn_round, hn_leader, hn_epoch, hn_zxid⟩) (by unfold maxLen; simp only [List.length_cons, List.length_nil]; omega) (by simp only [List.length_append, layN, List.flatMap_cons, List.flatMap_nil, List.append_nil, numF_lay]; omega)
  have HC0 := Lib.hid hcall0; clear hcall0
  refine HC0.out.mono ?_
  rintro e w1 h1
  obtain ⟨v1, rfl, S1⟩ := (S0.alloc _).step h1
  clear S0 h1 HC0
  go_wp2_with fail
  go_end0
  exact S1.unbox (by simp only [noteF, isoF, seqF, numF, layN, List.flatMap_cons, List.flatMap_nil, List.append_nil])

end Go.Proofs.Ytpmemcpfoapjmaa

namespace Go.Proofs.Ytpmemcpfoapjmaa
open Go.ChangeShapes Go.WideShapes Go.ChangeAt Go.RowKit
set_option linter.unusedVariables false

set_option maxRecDepth 100000 in
set_option maxHeartbeats 600000 in
theorem get_event (w : World) (b : Nat) (v : Value) (l : List UInt8) (p e : Nat) (hR : RAt w b v l p e) {x : Event} {q e' : Nat} (h : eventF.get l p e = (x, q, e')) :
    Calls Try.prog 24 #[.pointer (some ⟨b, 0, none⟩)] w (GPost eventE w b v l x q e') := by
  rcases h1 : numF.get l p e with ⟨x1, p1, e1⟩
  have hi1 : I64 x1 := by have := numF_i64 (l := l) (p := p) (e := e); rw [h1] at this; exact this
  rcases h2 : (textF 4096).get l p1 e1 with ⟨x2, p2, e2⟩
  have hi2 : Str x2 := by have := textF_str (most := 4096) (by omega) (l := l) (p := p1) (e := e1); rw [h2] at this; exact this
  rcases h3 : numF.get l p2 e2 with ⟨x3, p3, e3⟩
  have hi3 : I64 x3 := by have := numF_i64 (l := l) (p := p2) (e := e2); rw [h3] at this; exact this
  have hf : eventF.get l p e = (⟨x1, x2, x3⟩, p3, e3) := by simp only [eventF, isoF, seqF, h1, h2, h3]
  rw [hf] at h
  simp only [Prod.mk.injEq] at h
  obtain ⟨rfl, rfl, rfl⟩ := h
  have H1 := Lib.hid h1; clear h1
  have H2 := Lib.hid h2; clear h2
  have H3 := Lib.hid h3; clear h3
  clear hf
  have S0 := RSt.start (hR.alloc (.cells #[.int .i64 0, .string ⟨#[]⟩, .int .i64 0] 37))
  have hbk := heap_alloc_new w (.cells #[.int .i64 0, .string ⟨#[]⟩, .int .i64 0] 37)
  have hnb := rbox_new hR
  have hz0 : w.heap.size + 1 ≤ (w.alloc (.cells #[.int .i64 0, .string ⟨#[]⟩, .int .i64 0] 37)).heap.size := by simp
  go_enter Try.func24, Try.ntmps24
  go_wp2_with fail
  refine (gnum_any _ b v l _ _ S0.at_ H1.out).mono ?_
  rintro en w1 ⟨rfl, hR1, hk1⟩
  have S1 : RSt (w.alloc (.cells #[.int .i64 0, .string ⟨#[]⟩, .int .i64 0] 37)) b v l w1 p1 e1 := ⟨hR1, S0.kept.trans hk1⟩
  clear S0 hR1 hk1
  go_wp2_with fail
  refine (getText_any _ b v l _ _ S1.at_ H2.out).mono ?_
  rintro en w2 ⟨rfl, hR2, hk2⟩
  have S2 : RSt (w.alloc (.cells #[.int .i64 0, .string ⟨#[]⟩, .int .i64 0] 37)) b v l w2 p2 e2 := ⟨hR2, S1.kept.trans hk2⟩
  clear S1 hR2 hk2
  go_wp2_with fail
  refine (gnum_any _ b v l _ _ S2.at_ H3.out).mono ?_
  rintro en w3 ⟨rfl, hR3, hk3⟩
  have S3 : RSt (w.alloc (.cells #[.int .i64 0, .string ⟨#[]⟩, .int .i64 0] 37)) b v l w3 p3 e3 := ⟨hR3, S2.kept.trans hk3⟩
  clear S2 hR3 hk3
  have hb := S3.blk hbk hnb
  have hsz : (Try.prog.info? 37).map (·.size) = some 3 := by kernel_rfl
  have HSZ := Lib.hid hsz; clear hsz
  have HB := Lib.hid hb; clear hb
  go_wp2_with (refine wpList_store_row _ rfl 37 _ _ rfl w.heap.size _ [.int .i64 x1, .string x2, .int .i64 x3] rfl rfl HB.out HSZ.out rfl (by simp [Value.oneCell']) ?_)
  have hrow := setRow_heap w3 w.heap.size _ ([.int .i64 x1, .string x2, .int .i64 x3] : List Value).toArray _ _ HB.out
  have hload := run_loadVar_row (P := Try.prog) _ w.heap.size 37 37 _ (0, 0) _ hrow Try.underlying37 rfl HSZ.out
  exact ret_cell 2 37 w.heap.size _ Try.results24 rfl hload rfl ⟨_, rfl, ⟨rfl, hi1, hi2, hi3⟩, fin_R hR S3.at_ _, fin_K hR S3.kept _⟩

end Go.Proofs.Ytpmemcpfoapjmaa
