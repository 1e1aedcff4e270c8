/- The law's own functions: pick, Bytes, many. -/
import Derived.Test.YtmfngbgdmlnlcaaJq
import Derived.Laws.MakeOwn
namespace Go.Proofs.Ytmfngbgdmlnlcaa
open Go.ChangeShapes Go.WideShapes Go.ChangeAt Go.RowKit
set_option linter.unusedVariables false
set_option linter.unusedSimpArgs false

def absN (f : Int) : Nat := (if f < 0 then -(f + 1) else f).toNat
def wB (f : Int) (i : Nat) : Int := wrap64 (f + (i : Int) * 3) % 256
def wbytesL (n f : Int) : List UInt8 := (List.range (absN n % 4002)).map fun i => UInt8.ofNat (wB f i).toNat
def wbytes (n f : Int) : ByteArray := ⟨(wbytesL n f).toArray⟩
theorem wbytesL_len (n f : Int) : (wbytesL n f).length = absN n % 4002 := by simp [wbytesL]
theorem wbytes_size (n f : Int) : (wbytes n f).size = absN n % 4002 := wbytesL_len n f
theorem wbytesL_get (n f : Int) (i : Nat) (hi : i < absN n % 4002) : (secL (wbytesL n f))[i]? = some (.int .u8 (wB f i)) := by
  have h0 : 0 ≤ wB f i ∧ wB f i < 256 := by unfold wB; omega
  have : (wbytesL n f)[i]? = some (UInt8.ofNat (wB f i).toNat) := by
    simp only [wbytesL, List.getElem?_map]
    rw [List.getElem?_range hi]; rfl
  simp only [secL, List.getElem?_map, this, Option.map_some, bcell, UInt8.toNat_ofNat']
  congr 2
  omega
structure WbRel (f : Int) (m : Nat) (w : World) (iv : Value) (wr : World) : Prop where
  ex : ∃ i : Nat, i ≤ m ∧ iv = .int .i64 i ∧ ∃ cs : List Value, cs.length = m ∧ wr.heap[w.heap.size]? = some (.cells cs.toArray 5 (0, 0)) ∧ (∀ j, j < i → cs[j]? = some (.int .u8 (wB f j))) ∧ Kept (fun _ => False) w wr
/-- a slice of numbers -/
structure NumAt (w : World) (ok : Nat → Prop) (v : Value) (l : List Int) : Prop where
  ex : ∃ a cap, v = .slice a l.length cap ∧ ∀ (i : Nat) (h : i < l.length), ∃ g off, a = some ⟨g, off, none⟩ ∧ ok g ∧ w.cell? ⟨g, off + i, none⟩ = some (.int .i64 l[i])
  wf : ∀ x ∈ l, -9223372036854775808 ≤ x ∧ x ≤ 9223372036854775807
theorem NumAt.kept {X ok : Nat → Prop} {w w' : World} {v : Value} {l : List Int} (h : NumAt w ok v l) (hk : Kept X w w') (hx : ∀ k, ok k → ¬ X k) : NumAt w' ok v l := by
  obtain ⟨a, cap, hv, hc⟩ := h.ex
  refine ⟨⟨a, cap, hv, fun i hi => ?_⟩, h.wf⟩
  obtain ⟨g, off, ha, hg, hcell⟩ := hc i hi
  have hb := World.block_lt_of_cell? w _ hcell
  exact ⟨g, off, ha, hg, by rw [World.cell?_of_block (w := w) (hk.block g hb (hx g hg))]; exact hcell⟩
def manyL (l : List Int) : List ByteArray := (l.take 20).map fun x => wbytes x (x.tdiv 7)
theorem manyL_len (l : List Int) : (manyL l).length = min 20 l.length := by simp [manyL]
structure MyRel (w : World) (l : List Int) (iv rv : Value) (wr : World) : Prop where
  ex : ∃ k : Nat, k ≤ (manyL l).length ∧ iv = .int .i64 k ∧ wr.ownsRow w.heap.size 9 1 rv k (((manyL l).take k).map Value.string) ∧ Below w.heap.size w wr
theorem tdiv_in (x : Int) (h1 : -9223372036854775808 ≤ x) (h2 : x ≤ 9223372036854775807) : -9223372036854775808 ≤ x.tdiv 7 ∧ x.tdiv 7 ≤ 9223372036854775807 := by
  rcases Int.le_total 0 x with h | h
  · rw [Int.tdiv_eq_ediv_of_nonneg h]; omega
  · have e : x.tdiv 7 = -((-x).tdiv 7) := by rw [Int.neg_tdiv]; omega
    rw [e, Int.tdiv_eq_ediv_of_nonneg (by omega)]; omega
end Go.Proofs.Ytmfngbgdmlnlcaa
