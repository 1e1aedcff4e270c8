/- The law's own functions: pick, Bytes, many. -/
import Derived.Test.YtcjfpddmpiggoaaGreatJq
import Derived.Laws.MakeOwn
namespace Go.Proofs.YtcjfpddmpiggoaaGreat
open Go.ChangeShapes Go.WideShapes Go.ChangeAt Go.RowKit
set_option linter.unusedVariables false
set_option linter.unusedSimpArgs false

def absN (f : Int) : Nat := (if f < 0 then -(f + 1) else f).toNat
theorem wpick_any (c n : Int) (w : World) (h1 : -9223372036854775808 ≤ c) (h2 : c ≤ 9223372036854775807) (hn : 0 < n) (hn2 : n ≤ 9223372036854775807) :
    Calls Tryz.prog 6 #[.int .i64 c, .int .i64 n] w fun e w' => e = .returned (.int .i64 ((absN c : Int) % n)) ∧ w = w' := by
  by_cases hc : c < 0
  · have HF : Hid (-(c + 1).tmod n = (absN c : Int) % n) := Lib.hid (by
      rw [← Int.neg_tmod, Int.tmod_eq_emod_of_nonneg (by omega)]
      unfold absN; rw [if_pos hc]; congr 1; omega)
    have hp : 0 ≤ -(c + 1) := by omega
    go_enter Tryz.func6, Tryz.ntmps6
    go_wp2
    go_ret
    exact ⟨ret_int HF.out, rfl⟩
  · have HF : Hid ((c % n) = (absN c : Int) % n) := Lib.hid (by unfold absN; rw [if_neg hc]; congr 1; omega)
    have hp : 0 ≤ c := by omega
    go_enter Tryz.func6, Tryz.ntmps6
    go_wp2
    go_ret
    exact ⟨ret_int HF.out, rfl⟩
theorem wpick_nat (c : Int) (n : Nat) (w : World) (h1 : -9223372036854775808 ≤ c) (h2 : c ≤ 9223372036854775807) (hn : 0 < n) (hn2 : n ≤ 1000000) {x : Nat} (hx : absN c % n = x) :
    Calls Tryz.prog 6 #[.int .i64 c, .int .i64 n] w fun e w' => e = .returned (.int .i64 x) ∧ w = w' := by
  have := wpick_any c n w h1 h2 (by omega) (by omega)
  rw [show (absN c : Int) % (n : Int) = (x : Int) by rw [← hx]; omega] at this
  exact this

/-! ### Bytes -/
def wB (f : Int) (i : Nat) : Int := wrap64 (f + (i : Int) * 3) % 256
def wbytesL (n f : Int) : List UInt8 := (List.range (absN n % 4002)).map fun i => UInt8.ofNat (wB f i).toNat
def wbytes (n f : Int) : ByteArray := ⟨(wbytesL n f).toArray⟩
theorem wbytesL_len (n f : Int) : (wbytesL n f).length = absN n % 4002 := by simp [wbytesL]
theorem wbytes_size (n f : Int) : (wbytes n f).size = absN n % 4002 := wbytesL_len n f
theorem wbytesL_get (n f : Int) (i : Nat) (hi : i < absN n % 4002) : (secL (wbytesL n f))[i]? = some (.int .u8 (wB f i)) := by
  have h0 : 0 ≤ wB f i ∧ wB f i < 256 := by unfold wB; omega
  have : (wbytesL n f)[i]? = some (UInt8.ofNat (wB f i).toNat) := by
    simp only [wbytesL, List.getElem?_map]
    rw [List.getElem?_range hi]; rfl
  simp only [secL, List.getElem?_map, this, Option.map_some, bcell, UInt8.toNat_ofNat']
  congr 2
  omega
structure WbRel (f : Int) (m : Nat) (w : World) (iv : Value) (wr : World) : Prop where
  ex : ∃ i : Nat, i ≤ m ∧ iv = .int .i64 i ∧ ∃ cs : List Value, cs.length = m ∧ wr.heap[w.heap.size]? = some (.cells cs.toArray 5 (0, 0)) ∧ (∀ j, j < i → cs[j]? = some (.int .u8 (wB f j))) ∧ Kept (fun _ => False) w wr
set_option maxHeartbeats 1000000 in
theorem wbytes_any (n f : Int) (w : World) (h1 : -9223372036854775808 ≤ n) (h2 : n ≤ 9223372036854775807) (h3 : -9223372036854775808 ≤ f) (h4 : f ≤ 9223372036854775807) :
    Calls Tryz.prog 30 #[.int .i64 n, .int .i64 f] w fun e w' => e = .returned (.string (wbytes n f)) ∧ Kept (fun _ => False) w w' := by
  obtain ⟨m, hm⟩ : ∃ m, absN n % 4002 = m := ⟨_, rfl⟩
  have hmb : m < 4002 := by omega
  have HP := Lib.hid (wpick_nat n 4002 w h1 h2 (by decide) (by decide) hm)
  have hmk := make_bytes w m (by omega)
  have HFB : Hid (∀ i : Nat, wrap64 (f + (i : Int) * 3) % 256 = wB f i) := Lib.hid (fun _ => rfl)
  have HMM := Lib.hid hm
  clear hm
  go_enter Tryz.func30, Tryz.ntmps30
  go_wp2_with fail
  refine HP.out.mono ?_
  rintro e w1 ⟨rfl, rfl⟩
  go_wp2_with fail
  go_loopw [6] (fun iv wr => WbRel f m w iv wr) (fun iv _ => m - (Go.RowKit.intOf iv).toNat)
  case atStart => exact ⟨0, by omega, rfl, secL (List.replicate m 0), by simp [secL], heap_alloc_last w _, fun j hj => by omega, (Kept.refl _ w).alloc _⟩
  case round =>
    obtain ⟨i, hi, rfl, cs, hcl, hh, hcs, hk⟩ := hrel.ex
    clear hrel
    have HCS := Lib.hid hcs
    have HH := Lib.hid hh
    have HCL := Lib.hid hcl
    clear hcs hcl
    by_cases hlt : i < m
    · have hcell : wr.cell? ⟨w.heap.size, i, none⟩ = some (cs[i]'(by rw [HCL.out]; exact hlt)) := by
        rw [cell_of_row wr w.heap.size i _ _ (0, 0) hh, List.getElem?_toArray, List.getElem?_eq_getElem]
      have hfz : wr.frozen? ⟨w.heap.size, i, none⟩ = false := by simp [World.frozen?, hh]
      clear hh
      generalize cs[i]'(by rw [HCL.out]; exact hlt) = x at hcell
      go_wp2
      go_roundw
      case rel =>
        refine ⟨i + 1, by omega, by go_num, cs.set i (.int .u8 (wB f i)), by rw [List.length_set]; exact HCL.out, by rw [HFB.out]; exact heap_set _ HH.out, ?_, ?_⟩
        · intro j hj
          by_cases e : j = i
          · subst e; rw [List.getElem?_set_self (by rw [HCL.out]; exact hlt)]
          · rw [List.getElem?_set_ne (Ne.symm e)]; exact HCS.out j (by omega)
        · exact hk.setCell (.inr (Nat.le_refl _)) _
      case measure => simp [Go.RowKit.intOf]; omega
    · obtain rfl : i = m := by omega
      have e : cs = secL (wbytesL n f) := by
        apply List.ext_getElem?
        intro j
        by_cases hj : j < i
        · rw [HCS.out j hj, wbytesL_get n f j (by rw [HMM.out]; exact hj)]
        · rw [List.getElem?_eq_none (by rw [HCL.out]; omega), List.getElem?_eq_none (by simp [secL, wbytesL_len, HMM.out]; omega)]
      have hc := run_convert_bytes_back (P := Tryz.prog) wr 80 9 5 ⟨w.heap.size, 0, none⟩ i (wbytesL n f) Tryz.underlying80 Tryz.underlying5 Tryz.underlying9 (fun j hj => by
        rw [Addr.add_mid, cell_of_row wr w.heap.size (0 + j) _ _ (0, 0) hh, List.getElem?_toArray, e]
        simp [secL, bcell, hj])
      rw [wbytesL_len, HMM.out] at hc
      clear hh e
      go_wp2
      go_ret
      exact ⟨rfl, hk⟩

/-! ### many -/
/-- a slice of numbers -/
structure NumAt (w : World) (ok : Nat → Prop) (v : Value) (l : List Int) : Prop where
  ex : ∃ a cap, v = .slice a l.length cap ∧ ∀ (i : Nat) (h : i < l.length), ∃ g off, a = some ⟨g, off, none⟩ ∧ ok g ∧ w.cell? ⟨g, off + i, none⟩ = some (.int .i64 l[i])
  wf : ∀ x ∈ l, -9223372036854775808 ≤ x ∧ x ≤ 9223372036854775807
theorem NumAt.kept {X ok : Nat → Prop} {w w' : World} {v : Value} {l : List Int} (h : NumAt w ok v l) (hk : Kept X w w') (hx : ∀ k, ok k → ¬ X k) : NumAt w' ok v l := by
  obtain ⟨a, cap, hv, hc⟩ := h.ex
  refine ⟨⟨a, cap, hv, fun i hi => ?_⟩, h.wf⟩
  obtain ⟨g, off, ha, hg, hcell⟩ := hc i hi
  have hb := World.block_lt_of_cell? w _ hcell
  exact ⟨g, off, ha, hg, by rw [World.cell?_of_block (w := w) (hk.block g hb (hx g hg))]; exact hcell⟩
def manyL (l : List Int) : List ByteArray := (l.take 20).map fun x => wbytes x (x.tdiv 7)
theorem manyL_len (l : List Int) : (manyL l).length = min 20 l.length := by simp [manyL]
structure MyRel (w : World) (l : List Int) (iv rv : Value) (wr : World) : Prop where
  ex : ∃ k : Nat, k ≤ (manyL l).length ∧ iv = .int .i64 k ∧ wr.ownsRow w.heap.size 9 1 rv k (((manyL l).take k).map Value.string) ∧ Below w.heap.size w wr
theorem tdiv_in (x : Int) (h1 : -9223372036854775808 ≤ x) (h2 : x ≤ 9223372036854775807) : -9223372036854775808 ≤ x.tdiv 7 ∧ x.tdiv 7 ≤ 9223372036854775807 := by
  rcases Int.le_total 0 x with h | h
  · rw [Int.tdiv_eq_ediv_of_nonneg h]; omega
  · have e : x.tdiv 7 = -((-x).tdiv 7) := by rw [Int.neg_tdiv]; omega
    rw [e, Int.tdiv_eq_ediv_of_nonneg (by omega)]; omega
set_option maxRecDepth 100000 in
set_option maxHeartbeats 2000000 in
theorem many_any {ok : Nat → Prop} {v : Value} {l : List Int} {w : World} (h : NumAt w ok v l) (hok : ∀ k, ok k → k < w.heap.size) (hl : l.length * 8 ≤ 140737488351232) :
    Calls Tryz.prog 29 #[v] w fun e w' => ∃ v', e = .returned v' ∧ w'.ownsRow w.heap.size 9 1 v' (manyL l).length ((manyL l).map Value.string) ∧ Kept (fun _ => False) w w' := by
  obtain ⟨a, cap, rfl, hc⟩ := h.ex
  have HC := Lib.hid hc
  have HWF := Lib.hid h.wf
  have hml := manyL_len l
  have hcl : ((l.length : Int) < 20) = (l.length < 20) := by simp; omega
  clear hc h hcl
  go_enter Tryz.func29, Tryz.ntmps29
  go_wp2_with fail
  go_loopw [4, 3] (fun iv rv wr => MyRel w l iv rv wr) (fun iv _ _ => 20 - (Go.RowKit.intOf iv).toNat)
  case atStart => exact ⟨0, Nat.zero_le _, rfl, World.ownsRow_nil _ _ _ _, Below.refl _ _⟩
  case round =>
    obtain ⟨k, hk, rfl, hown, hb⟩ := hrel.ex
    clear hrel
    obtain ⟨ao, c2, rfl⟩ := slice_of_row hown
    have HOWN := Lib.hid hown
    have HB := Lib.hid hb
    clear hown hb
    by_cases hlt : k < l.length
    · by_cases h20 : k < 20
      · obtain ⟨g, off, rfl, _, hcell0⟩ := HC.out k hlt
        have hwf := HWF.out l[k] (List.getElem_mem hlt)
        have hml2 : k < (manyL l).length := by rw [hml]; omega
        have HEL : Hid ((manyL l)[k] = wbytes l[k] (l[k].tdiv 7)) := Lib.hid (by simp [manyL])
        obtain ⟨x, hx⟩ : ∃ x, l[k] = x := ⟨_, rfl⟩
        rw [hx] at hcell0 hwf HEL
        have hlt2 : g < w.heap.size := World.block_lt_of_cell? w _ hcell0
        have hcell : wr.cell? ⟨g, off + k, none⟩ = some (.int .i64 x) := by rw [World.cell?_of_block (w := w) (HB.out.block g hlt2)]; exact hcell0
        have HTK : Hid (((manyL l).take (k + 1)).map Value.string = ((manyL l).take k).map Value.string ++ [.string (wbytes x (x.tdiv 7))]) := Lib.hid (by
          rw [List.take_succ_eq_append_getElem hml2, List.map_append, HEL.out]; rfl)
        obtain ⟨x1, x2⟩ := hwf
        obtain ⟨y, hy⟩ : ∃ y, x.tdiv 7 = y := ⟨_, rfl⟩
        have hyb := tdiv_in x x1 x2
        rw [hy] at hyb HTK
        have HWB : Hid (∀ V, Calls Tryz.prog 30 #[.int .i64 x, .int .i64 y] V fun e w' => e = .returned (.string (wbytes x y)) ∧ Kept (fun _ => False) V w') := Lib.hid (fun V => wbytes_any x y V x1 x2 hyb.1 hyb.2)
        obtain ⟨z, hz⟩ : ∃ z, wbytes x y = z := ⟨_, rfl⟩
        rw [hz] at HTK HWB
        clear hcell0 hx hz
        go_wp2_with fail
        have hwy : IntKind.i64.wrap y = y := by rw [IntKind.wrap_i64]; omega
        have hk9 : Kept (fun _ => False) wr wr.drew := (Kept.refl _ wr).drew
        have hcd : wr.drew.cell? ⟨g, off + k, none⟩ = some (.int .i64 x) := hcell
        have hgl : g < wr.heap.size := World.block_lt_of_cell? wr _ hcell
        go_region_held3 (fun w' => w'.cell? ⟨g, off + k, none⟩ = some (.int .i64 x))
          (first | assumption | go_keep)
          ((go_at_call 30; refine (HWB.out _).mono ?_; rintro e w5 ⟨rfl, hk5⟩; replace hk9 := hk9.trans hk5; clear hcd; have hcd : w5.cell? ⟨g, off + k, none⟩ = some (.int .i64 x) := by (rw [World.cell?_of_block (w := wr) (hk9.block g hgl id)]; exact hcell)))
        all_goals (
          have HB5 := Lib.hid (HB.out.trans (hk9.below (fun _ f => f.elim) HB.out.size))
          have HO5 := Lib.hid ((rowKept HOWN.out hk9 (fun _ _ f => f)).alloc (.cells #[.string z] 9))
          have HCEL := Lib.hid (cell_one_new w5 (.string z) 9)
          have HSZ5 : Hid (w.heap.size ≤ (w5.alloc (.cells #[.string z] 9)).heap.size) := Lib.hid (by have := HB5.out.size; simp; omega)
          obtain ⟨i0, si, sz, ss, sbb⟩ := string_inf
          have HSI := Lib.hid (And.intro si (And.intro sz (And.intro ss sbb)))
          clear hk9 hcd hcell hwy hy si sz ss sbb
          go_wp2_with (at_builtin; refine wpList_append_own _ rfl _ _ 37 rfl w.heap.size 9 i0 (.string ByteArray.empty) 1 16 Tryz.underlying37 HSI.out.1 HSI.out.2.1 HSI.out.2.2.1 HSI.out.2.2.2 rfl (by decide) (.slice ao k c2) k (((manyL l).take k).map Value.string) rfl HO5.out ⟨w5.heap.size, 0, none⟩ 1 1 [.string z] rfl rfl HCEL.out (by intro u hu; simp only [List.mem_singleton] at hu; subst hu; rfl) (by unfold maxLen; omega) (by omega) HSZ5.out (fun v' w6 hown' hg' hnil' => ?_); have HB6 := Lib.hid ((HB5.out.alloc (by have := HB5.out.size; omega) (.cells #[.string z] 9)).grown hg' HSZ5.out (fun k hk => (HO5.out.lt k hk).1)); have HO6 : Hid (w6.ownsRow w.heap.size 9 1 v' (k + 1) (((manyL l).take (k + 1)).map Value.string)) := Lib.hid (by rw [HTK.out]; exact hown'); clear hown' hg' hnil')
          go_wp2_with fail
          go_roundw
          case rel => exact ⟨k + 1, by omega, by go_num, HO6.out, HB6.out⟩
          case measure => simp [Go.RowKit.intOf]; omega)
      · have hke : k = (manyL l).length := by omega
        have HO2 : Hid (wr.ownsRow w.heap.size 9 1 (.slice ao k c2) (manyL l).length ((manyL l).map Value.string)) := Lib.hid (by
          have := HOWN.out
          rw [List.take_of_length_le (by omega)] at this
          rw [← hke]; exact this)
        clear hke
        go_wp2_with fail
        go_ret
        exact ⟨_, rfl, HO2.out, keptB HB.out⟩
    · have hke : k = (manyL l).length := by omega
      have HO2 : Hid (wr.ownsRow w.heap.size 9 1 (.slice ao k c2) (manyL l).length ((manyL l).map Value.string)) := Lib.hid (by
        have := HOWN.out
        rw [List.take_of_length_le (by omega)] at this
        rw [← hke]; exact this)
      clear hke
      go_wp2_with fail
      go_ret
      exact ⟨_, rfl, HO2.out, keptB HB.out⟩
end Go.Proofs.YtcjfpddmpiggoaaGreat
