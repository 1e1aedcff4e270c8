/- The law's texts, numbers and the document's Rows, of equal lists. -/
import Derived.Test.YtenbdoceaabecaaGreatP38
import Derived.Test.YtenbdoceaabecaaGreatP30
import Derived.IntWalk
import Derived.BigQuiet
import Derived.Deep.QuietTactic
namespace Go.Proofs.YtenbdoceaabecaaGreat
open Go.ChangeShapes Go.WideShapes Go.ChangeAt Go.RowKit Go.Maps
set_option linter.unusedVariables false
set_option linter.unusedSimpArgs false
theorem strAt_at {w : World} {B : Nat} {v : Value} {l : List ByteArray} (h : StrAt B w v l) : ∃ a cap, v = .slice a l.length cap ∧ ∀ i p, l[i]? = some p → ∃ g, a = some ⟨g, 0, none⟩ ∧ g < w.heap.size ∧ w.cell? ⟨g, i, none⟩ = some (.string p) := by
  obtain ⟨a, cap, hv, hc⟩ := own_cell h
  refine ⟨a, cap, hv, fun i p hp => ?_⟩
  obtain ⟨g, ha, _, hg, hcell, _⟩ := hc i (.string p) (by unfold strC; rw [List.getElem?_map, hp]; rfl)
  exact ⟨g, ha, hg, hcell⟩
set_option maxRecDepth 100000 in
set_option maxHeartbeats 1000000 in
theorem texts_alike {w : World} {B B' : Nat} {a b : Value} {l : List ByteArray} (ha : StrAt B w a l) (hb : StrAt B' w b l) (hl : l.length ≤ 4000000000000) :
    Calls Tryz.prog 40 #[a, b] w (QPost true w) := by
  obtain ⟨a1, c1, rfl, h1⟩ := strAt_at ha
  obtain ⟨a2, c2, rfl, h2⟩ := strAt_at hb
  have H1 := Lib.hid h1
  have H2 := Lib.hid h2
  clear h1 h2 ha hb
  go_enter Tryz.func40, Tryz.ntmps40
  go_wp2_with fail
  go_loopw [5] (fun iv wr => ∃ i : Nat, iv = .int .i64 i ∧ i ≤ l.length ∧ Kept (fun _ => False) w wr) (fun iv _ => l.length - (Go.RowKit.intOf iv).toNat)
  case atStart => exact ⟨0, rfl, Nat.zero_le _, Kept.refl _ _⟩
  case round =>
    obtain ⟨i, rfl, hi, hk⟩ := hrel
    have HK := Lib.hid hk
    clear hk
    by_cases hlt : i < l.length
    · obtain ⟨p, hp⟩ : ∃ p, l[i]? = some p := ⟨_, List.getElem?_eq_getElem hlt⟩
      obtain ⟨g1, rfl, hg1, k1⟩ := H1.out i p hp
      obtain ⟨g2, rfl, hg2, k2⟩ := H2.out i p hp
      have j1 : wr.cell? ⟨g1, i, none⟩ = some (.string p) := (World.cell?_of_block (w := w) (HK.out.block g1 hg1 (fun f => f))).trans k1
      have j2 : wr.cell? ⟨g2, i, none⟩ = some (.string p) := (World.cell?_of_block (w := w) (HK.out.block g2 hg2 (fun f => f))).trans k2
      have i0 : (0 : Int) ≤ (i : Int) := by omega
      have i1 : (i : Int) < (l.length : Int) := by omega
      clear hp
      go_wp2_with fail
      go_quiet (fail)
      go_wp2_with fail
      exact ⟨⟨i + 1, by go_num, hlt, HK.out.drewN _⟩, by show l.length - ((i : Int) + 1).toNat < l.length - (i : Int).toNat; omega⟩
    · go_wp2_with fail
      go_ret
      exact ⟨rfl, HK.out⟩
theorem numC_at {w : World} {B : Nat} {v : Value} {l : List Int} (h : w.ownsRow B 3 1 v l.length (l.map encZ)) : ∃ a cap, v = .slice a l.length cap ∧ ∀ i x, l[i]? = some x → ∃ g, a = some ⟨g, 0, none⟩ ∧ g < w.heap.size ∧ w.cell? ⟨g, i, none⟩ = some (.int .i64 x) := by
  obtain ⟨a, cap, hv, hc⟩ := own_cell h
  refine ⟨a, cap, hv, fun i x hx => ?_⟩
  obtain ⟨g, ha, _, hg, hcell, _⟩ := hc i (.int .i64 x) (by rw [List.getElem?_map, hx]; rfl)
  exact ⟨g, ha, hg, hcell⟩
set_option maxRecDepth 100000 in
set_option maxHeartbeats 1000000 in
theorem nums_alike {w : World} {B B' : Nat} {a b : Value} {l : List Int} (ha : w.ownsRow B 3 1 a l.length (l.map encZ)) (hb : w.ownsRow B' 3 1 b l.length (l.map encZ)) (hl : l.length ≤ 4000000000000) :
    Calls Tryz.prog 46 #[a, b] w (QPost true w) := by
  obtain ⟨a1, c1, rfl, h1⟩ := numC_at ha
  obtain ⟨a2, c2, rfl, h2⟩ := numC_at hb
  have H1 := Lib.hid h1
  have H2 := Lib.hid h2
  clear h1 h2 ha hb
  go_enter Tryz.func46, Tryz.ntmps46
  go_wp2_with fail
  go_loopw [5] (fun iv wr => ∃ i : Nat, iv = .int .i64 i ∧ i ≤ l.length ∧ Kept (fun _ => False) w wr) (fun iv _ => l.length - (Go.RowKit.intOf iv).toNat)
  case atStart => exact ⟨0, rfl, Nat.zero_le _, Kept.refl _ _⟩
  case round =>
    obtain ⟨i, rfl, hi, hk⟩ := hrel
    have HK := Lib.hid hk
    clear hk
    by_cases hlt : i < l.length
    · obtain ⟨p, hp⟩ : ∃ p, l[i]? = some p := ⟨_, List.getElem?_eq_getElem hlt⟩
      obtain ⟨g1, rfl, hg1, k1⟩ := H1.out i p hp
      obtain ⟨g2, rfl, hg2, k2⟩ := H2.out i p hp
      have j1 : wr.cell? ⟨g1, i, none⟩ = some (.int .i64 p) := (World.cell?_of_block (w := w) (HK.out.block g1 hg1 (fun f => f))).trans k1
      have j2 : wr.cell? ⟨g2, i, none⟩ = some (.int .i64 p) := (World.cell?_of_block (w := w) (HK.out.block g2 hg2 (fun f => f))).trans k2
      have i0 : (0 : Int) ≤ (i : Int) := by omega
      have i1 : (i : Int) < (l.length : Int) := by omega
      clear hp
      go_wp2_with fail
      go_quiet (fail)
      go_wp2_with fail
      exact ⟨⟨i + 1, by go_num, hlt, HK.out.drewN _⟩, by show l.length - ((i : Int) + 1).toNat < l.length - (i : Int).toNat; omega⟩
    · go_wp2_with fail
      go_ret
      exact ⟨rfl, HK.out⟩
/-- rows of an ACL that lie somewhere -/
def RowsL (w : World) (v : Value) (l : List AR) : Prop := ∃ a cap, v = .slice a l.length cap ∧ ∀ i r, l[i]? = some r → ∃ g off, a = some ⟨g, off, none⟩ ∧ g < w.heap.size ∧ w.cell? ⟨g, off + i * 2, none⟩ = some (.int .i64 r.perms) ∧ w.cell? ⟨g, off + i * 2 + 1, none⟩ = some (.string r.id)
theorem aclC_two (l : List AR) {i : Nat} {r : AR} (h : l[i]? = some r) : (aclC l)[i * 2 + 0]? = some (.int .i64 r.perms) ∧ (aclC l)[i * 2 + 1]? = some (.string r.id) := by
  obtain ⟨hi, rfl⟩ := List.getElem?_eq_some_iff.1 h
  exact ⟨flat_at (f := AR.cells) (c := 2) (fun _ => rfl) l i hi 0 _ rfl, flat_at (f := AR.cells) (c := 2) (fun _ => rfl) l i hi 1 _ rfl⟩
theorem rowsL_own {w : World} {B : Nat} {v : Value} {l : List AR} (h : w.ownsRow B 89 2 v l.length (aclC l)) : RowsL w v l := by
  obtain ⟨a, cap, hv, hc⟩ := own_cell h
  refine ⟨a, cap, hv, fun i r hr => ?_⟩
  obtain ⟨h0, h1⟩ := aclC_two l hr
  obtain ⟨g, ha, _, hg, c0, _⟩ := hc _ _ h0
  obtain ⟨g', ha', _, _, c1, _⟩ := hc _ _ h1
  rw [ha] at ha'
  injection ha' with ha'
  injection ha' with e1
  subst e1
  refine ⟨g, 0, ha, hg, ?_, ?_⟩
  · rw [Nat.zero_add]; exact c0
  · rw [Nat.zero_add]; exact c1
theorem RowsL.kept0 {w w' : World} {v : Value} {l : List AR} (h : RowsL w v l) (hk : Kept (fun _ => False) w w') : RowsL w' v l := by
  obtain ⟨a, cap, hv, hc⟩ := h
  refine ⟨a, cap, hv, fun i r hr => ?_⟩
  obtain ⟨g, off, ha, hg, c0, c1⟩ := hc i r hr
  exact ⟨g, off, ha, Nat.lt_of_lt_of_le hg hk.size, by rw [World.cell?_of_block (w := w) (hk.block g hg (fun f => f))]; exact c0, by rw [World.cell?_of_block (w := w) (hk.block g hg (fun f => f))]; exact c1⟩
set_option maxRecDepth 100000 in
set_option maxHeartbeats 1000000 in
theorem rows_alike {w : World} {a b : Value} {l : List AR} (ha : RowsL w a l) (hb : RowsL w b l) (hl : l.length ≤ 140737488355328) :
    Calls Tryz.prog 39 #[a, b] w (QPost true w) := by
  obtain ⟨a1, c1, rfl, h1⟩ := ha
  obtain ⟨a2, c2, rfl, h2⟩ := hb
  have H1 := Lib.hid h1
  have H2 := Lib.hid h2
  clear h1 h2
  go_enter Tryz.func39, Tryz.ntmps39
  go_wp2_with fail
  go_loopw [5] (fun iv wr => ∃ i : Nat, iv = .int .i64 i ∧ i ≤ l.length ∧ Kept (fun _ => False) w wr) (fun iv _ => l.length - (Go.RowKit.intOf iv).toNat)
  case atStart => exact ⟨0, rfl, Nat.zero_le _, Kept.refl _ _⟩
  case round =>
    obtain ⟨i, rfl, hi, hk⟩ := hrel
    have HK := Lib.hid hk
    clear hk
    by_cases hlt : i < l.length
    · obtain ⟨r, hr⟩ : ∃ r, l[i]? = some r := ⟨_, List.getElem?_eq_getElem hlt⟩
      obtain ⟨g1, o1, rfl, hg1, k1, k1'⟩ := H1.out i r hr
      obtain ⟨g2, o2, rfl, hg2, k2, k2'⟩ := H2.out i r hr
      have j1 : wr.cell? ⟨g1, o1 + i * 2, none⟩ = some (.int .i64 r.perms) := (World.cell?_of_block (w := w) (HK.out.block g1 hg1 (fun f => f))).trans k1
      have j2 : wr.cell? ⟨g2, o2 + i * 2, none⟩ = some (.int .i64 r.perms) := (World.cell?_of_block (w := w) (HK.out.block g2 hg2 (fun f => f))).trans k2
      have j3 : wr.cell? ⟨g1, o1 + i * 2 + 1, none⟩ = some (.string r.id) := (World.cell?_of_block (w := w) (HK.out.block g1 hg1 (fun f => f))).trans k1'
      have j4 : wr.cell? ⟨g2, o2 + i * 2 + 1, none⟩ = some (.string r.id) := (World.cell?_of_block (w := w) (HK.out.block g2 hg2 (fun f => f))).trans k2'
      have i0 : (0 : Int) ≤ (i : Int) := by omega
      have i1 : (i : Int) < (l.length : Int) := by omega
      clear hr
      go_wp2_with fail
      go_quiet (fail)
      go_wp2_with fail
      exact ⟨⟨i + 1, by go_num, hlt, HK.out.drewN _⟩, by show l.length - ((i : Int) + 1).toNat < l.length - (i : Int).toNat; omega⟩
    · go_wp2_with fail
      go_ret
      exact ⟨rfl, HK.out⟩
end Go.Proofs.YtenbdoceaabecaaGreat
