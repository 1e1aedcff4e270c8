/- acl.hash; digits to the base 16 as the library lays them. -/
import Derived.Test.YtpjanfclobpkjaaDoorUe
import Derived.Lib.LaidTab
import Derived.Laws.IdiomStrings
import Derived.Laws.MakeOwn
namespace Go.Proofs.YtpjanfclobpkjaaDoor
open Go.ChangeShapes Go.WideShapes Go.ChangeAt Go.RowKit
set_option linter.unusedVariables false
set_option linter.unusedSimpArgs false

def hashP (l : List ByteArray) : Int := l.foldl (fun h p => hashL p.data.toList h) hash0
theorem hashP_range (l : List ByteArray) : 0 ≤ hashP l ∧ hashP l < 18446744073709551616 := by
  have : ∀ (l : List ByteArray) (h : Int), 0 ≤ h → h < 18446744073709551616 → 0 ≤ l.foldl (fun h p => hashL p.data.toList h) h ∧ l.foldl (fun h p => hashL p.data.toList h) h < 18446744073709551616 := by
    intro l
    induction l with
    | nil => exact fun h a b => ⟨a, b⟩
    | cons p l ih => exact fun h a b => ih _ (hashL_range _ _ a b).1 (hashL_range _ _ a b).2
  exact this l _ (by decide) (by decide)
theorem hashP_snoc (l : List ByteArray) (p : ByteArray) : hashP (l ++ [p]) = hashL p.data.toList (hashP l) := by simp [hashP]

set_option maxHeartbeats 1000000 in
theorem hash_any {w : World} {v : Value} {l : List ByteArray} (h : IdsAt w v l) (hz : ∀ s ∈ l, s.size ≤ maxLen) :
    Calls Tryd.prog 21 #[v] w fun e w' => e = .returned (.int .u64 (hashP l)) ∧ w = w' := by
  have H := Lib.hid h
  have HZ := Lib.hid hz
  have hroom := h.room
  obtain ⟨a, cap, rfl, _⟩ := h.ex
  clear h hz
  have HE : Hid (hashP [] = 14695981039346656037) := Lib.hid rfl
  go_enter Tryd.func21, Tryd.ntmps21
  go_wp2
  go_loop [9, 3, 5, 6] (fun iv hv _ _ => ∃ k : Nat, k ≤ l.length ∧ iv = .int .i64 k ∧ hv = .int .u64 (hashP (l.take k))) (fun iv _ _ _ => l.length - (intOf iv).toNat)
  case atStart => exact ⟨0, Nat.zero_le _, rfl, rfl⟩
  case round =>
    obtain ⟨k, hk, rfl, rfl⟩ := hrel
    by_cases hlt : k < l.length
    · obtain ⟨s, hs⟩ : ∃ s, l[k] = s := ⟨_, rfl⟩
      obtain ⟨g, off, rfl, hg, hc1⟩ := H.out.at_ hlt hs
      have hsz : s.size ≤ maxLen := HZ.out s (by rw [← hs]; exact List.getElem_mem hlt)
      unfold maxLen at hsz
      have HS : Hid (hashP (l.take (k + 1)) = hashL s.data.toList (hashP (l.take k))) := Lib.hid (by rw [List.take_succ_eq_append_getElem hlt, hs, hashP_snoc])
      clear hs
      generalize hashP (l.take k) = h0 at HS
      go_wp2
      go_loop [15, 3, 6] (fun iv hv _ => ∃ j : Nat, j ≤ s.size ∧ iv = .int .i64 j ∧ hv = .int .u64 (hashL (s.data.toList.take j) h0)) (fun iv _ _ => s.size - (intOf iv).toNat)
      case atStart => exact ⟨0, Nat.zero_le _, rfl, rfl⟩
      case round =>
        obtain ⟨j, hj, rfl, rfl⟩ := hrel
        by_cases hjlt : j < s.size
        · have hsn : Hid (hashL (s.data.toList.take (j + 1)) h0 = hStep (hashL (s.data.toList.take j) h0) s[j]) := by
            rw [take_snoc s j hjlt, hashL_snoc]; exact rfl
          generalize hashL (s.data.toList.take j) h0 = h1 at hsn
          go_wp2
          go_round
          case rel => exact ⟨j + 1, by omega, by go_num, by rw [hsn.out]; rfl⟩
          case measure => simp [intOf]; omega
        · have HW : Hid (hashL (s.data.toList.take j) h0 = hashL s.data.toList h0) := Lib.hid (by rw [List.take_of_length_le (by rw [size_toList]; omega)])
          generalize hashL (s.data.toList.take j) h0 = h1 at HW
          go_wp2
          go_round
          case rel => exact ⟨k + 1, by omega, by go_num, by rw [HS.out, HW.out]⟩
          case measure => simp [intOf]; omega
    · have HW : Hid (hashP (l.take k) = hashP l) := Lib.hid (by rw [List.take_of_length_le (by omega)])
      generalize hashP (l.take k) = h1 at HW
      go_wp2
      go_ret
      exact ⟨ret_int HW.out, rfl⟩

/-! ### the library's table -/
def tab64 : List Int := [0, 1, 56, 2, 57, 49, 28, 3, 61, 58, 42, 50, 38, 29, 17, 4, 62, 47, 59, 36, 45, 43, 51, 22, 53, 39, 33, 30, 24, 18, 12, 5, 63, 55, 48, 27, 60, 41, 37, 16, 46, 35, 44, 21, 52, 32, 23, 11, 54, 26, 40, 15, 34, 20, 31, 10, 25, 14, 19, 9, 13, 8, 7, 6]
abbrev TabOk (w : World) : Prop := Lib.TabIs Tryd.prog w "math/bits.deBruijn64tab" .u8 tab64

theorem tab_below {w w' : World} (h : TabOk w) (hb : Below w.heap.size w w') : TabOk w' := by
  unfold TabOk Lib.TabIs World.var? at h ⊢
  generalize Tryd.prog.globalNamed "math/bits.deBruijn64tab" = og at h ⊢
  cases og with
  | none => simp at h
  | some g =>
    simp only [Option.bind_some] at h ⊢
    by_cases hg : g < w.heap.size
    · rw [hb.block g hg]; exact h
    · rw [Array.getElem?_eq_none (by omega)] at h; simp at h

theorem tab_cell {w : World} (h : TabOk w) : w.cell? ⟨3, 15, none⟩ = some (.int .u8 4) :=
  h.cell (g := 3) (by kernel_rfl) 15 (by decide)
theorem tz_key : IntKind.u64.wrap (bits BinOp.and IntKind.u64 16 (IntKind.u64.wrap (-16)) * 285870213051353865) / 288230376151711744 = 15 := by kernel_rfl
set_option maxHeartbeats 1000000 in
theorem tz_any (w : World) (h : TabOk w) :
    Calls Tryd.prog 51 #[.int .u64 16] w fun e w' => e = .returned (.int .i64 4) ∧ w = w' := by
  have hc := tab_cell h
  have hk := tz_key
  clear h
  go_enter Tryd.func51, Tryd.ntmps51
  go_wp2
  go_ret
  exact ⟨rfl, rfl⟩

theorem p2_key : (bits BinOp.and IntKind.i64 16 15 == 0) = true := by kernel_rfl
theorem pow2_any (w : World) : Calls Tryd.prog 50 #[.int .i64 16] w fun e w' => e = .returned (.bool true) ∧ w = w' := by
  have hk := p2_key
  go_enter Tryd.func50, Tryd.ntmps50
  go_wp2
  go_ret
  exact ⟨rfl, rfl⟩

/-- how far the digits are laid -/
structure FbRel (n : Nat) (w : World) (iv uv : Value) (wr : World) : Prop where
  ex : ∃ (j k : Nat) (cs : List Value), j + k = 64 ∧ j ≤ 15 ∧ iv = .int .i64 ((k + 1 : Nat) : Int) ∧ uv = .int .u64 ((n / 16 ^ j : Nat) : Int) ∧ wr.heap[w.heap.size]? = some (.cells cs.toArray 76 (0, 0)) ∧ cs.length = 65 ∧
    cs.drop (k + 1) = (hexS n j).map (fun b => Value.int .u8 (b.toNat : Int)) ∧ Below w.heap.size w wr
theorem cell_of_block {w : World} {g i : Nat} {cs : List Value} {T : TypeId} {z : Nat × Nat} (h : w.heap[g]? = some (.cells cs.toArray T z)) : w.cell? ⟨g, i, none⟩ = cs[i]? := by
  rw [cell_of_row w g i _ _ _ h, List.getElem?_toArray]
theorem and15 (u : Nat) (hu : u < 18446744073709551616) : bits .and .u64 (u : Int) 15 = ((u % 16 : Nat) : Int) := by
  rw [show (15 : Int) = ((15 : Nat) : Int) from rfl, u64_and_nat u 15 hu (by decide), show (15 : Nat) = 2 ^ 4 - 1 from rfl, Nat.and_two_pow_sub_one_eq_mod]
abbrev digs36 : ByteArray := ⟨#[48, 49, 50, 51, 52, 53, 54, 55, 56, 57, 97, 98, 99, 100, 101, 102, 103, 104, 105, 106, 107, 108, 109, 110, 111, 112, 113, 114, 115, 116, 117, 118, 119, 120, 121, 122]⟩
theorem digs36_size : digs36.size = 36 := by decide
theorem digs36_all : ∀ m : Fin 16, digs36[m.val]'(by rw [digs36_size]; omega) = hexD m.val := by decide
theorem digs36_at {m : Nat} (h : m < 16) (h' : m < digs36.size) : digs36[m] = hexD m := by
  exact digs36_all ⟨m, h⟩
theorem setCell_row {w : World} {g i : Nat} {c : List Value} {T : TypeId} {v : Value} (h : w.heap[g]? = some (.cells c.toArray T (0, 0))) : w.setCell ⟨g, i, none⟩ v = w.setRow g (c.set i v).toArray := by
  unfold World.setCell World.setRow
  congr 1
  apply Array.ext_getElem?
  intro k
  rw [Array.getElem?_modify, Array.getElem?_modify]
  by_cases hk : g = k
  · subst hk
    simp [h]
  · simp [hk]
theorem heap_set {w : World} {g i : Nat} {c : List Value} {T : TypeId} (v : Value) (h : w.heap[g]? = some (.cells c.toArray T (0, 0))) : (w.setCell ⟨g, i, none⟩ v).heap[g]? = some (.cells (c.set i v).toArray T (0, 0)) := by
  rw [setCell_row h]; exact setRow_heap _ _ _ _ _ _ h
theorem drop_set {cs : List Value} {k : Nat} (h : k < cs.length) (v : Value) : (cs.set k v).drop k = v :: cs.drop (k + 1) := by
  rw [List.drop_eq_getElem_cons (by simpa using h), List.getElem_set_self, List.drop_set_of_lt (by omega)]
/-- one digit more -/
theorem fb_step {n : Nat} {w wr : World} {j k : Nat} {cs : List Value} {u : Nat} (hjk : j + k = 64) (hh : wr.heap[w.heap.size]? = some (.cells cs.toArray 76 (0, 0))) (hl : cs.length = 65)
    (hd : cs.drop (k + 1) = (hexS n j).map (fun b => Value.int .u8 (b.toNat : Int))) (hb : Below w.heap.size w wr) (hu : n / 16 ^ j = u) {v : Value} (hv : v = .int .u8 ((hexD (u % 16)).toNat : Int)) :
    ∃ cs' : List Value, (wr.setCell ⟨w.heap.size, k, none⟩ v).heap[w.heap.size]? = some (.cells cs'.toArray 76 (0, 0)) ∧ cs'.length = 65 ∧ cs'.drop k = (hexS n (j + 1)).map (fun b => Value.int .u8 (b.toNat : Int)) ∧ Below w.heap.size w (wr.setCell ⟨w.heap.size, k, none⟩ v) := by
  refine ⟨cs.set k v, heap_set v hh, by simpa using hl, ?_, hb.setCell (Nat.le_refl _) _⟩
  rw [drop_set (by omega), hd, hexS, List.map_cons, hu, hv]
/-- the digits as a string -/
theorem fb_conv {W : World} {g k m : Nat} {cs : List Value} {l : List UInt8} {T : TypeId} (hh : W.heap[g]? = some (.cells cs.toArray T (0, 0))) (hd : cs.drop k = l.map (fun b => Value.int .u8 (b.toNat : Int))) (hm : l.length = m) :
    Sem.run Tryd.prog (convert 41 9 (.slice (some ⟨g, k, none⟩) m m)) W = .ok (.string ⟨l.toArray⟩) W := by
  subst hm
  refine run_convert_bytes_back (P := Tryd.prog) _ 41 9 5 ⟨g, k, none⟩ l.length l Tryd.underlying41 Tryd.underlying5 Tryd.underlying9 (fun j hj => ?_)
  rw [show (Addr.add ⟨g, k, none⟩ j) = ⟨g, k + j, none⟩ by unfold Addr.add; split <;> simp_all, cell_of_block hh]
  have := congrArg (·[j]?) hd
  simp only [List.getElem?_drop, List.getElem?_map, List.getElem?_eq_getElem hj, Option.map_some] at this
  exact this
set_option maxHeartbeats 2000000 in
theorem formatBits_any (n : Nat) (w : World) (hn : n < 18446744073709551616) (h : TabOk w) :
    Calls Tryd.prog 40 #[.slice none 0 0, .int .u64 n, .int .i64 16, .bool false, .bool false] w fun e w' => ∃ j : Nat, j ≤ 16 ∧ n < 16 ^ j ∧ e = .returned (.tuple #[.slice none 0 0, .string ⟨(hexS n j).toArray⟩]) ∧ Below w.heap.size w w' := by
  have HT := Lib.hid h
  clear h
  go_enter Tryd.func40, Tryd.ntmps40
  go_wp2_with fail
  refine (pow2_any _).mono ?_
  rintro e w' ⟨rfl, rfl⟩
  go_wp2_with fail
  refine (tz_any _ (tab_below HT.out ((Below.refl _ _).alloc (Nat.le_refl _) _))).mono ?_
  rintro e w' ⟨rfl, rfl⟩
  go_wp2_with fail
  go_loopw [13, 1] (fun iv uv wr => FbRel n w iv uv wr) (fun iv _ _ => (intOf iv).toNat)
  case atStart =>
    refine ⟨0, 64, Tryd.zeroCells76.toList, rfl, by omega, rfl, by simp, ?_, by kernel_rfl, by rw [show hexS n 0 = [] from rfl, List.drop_of_length_le (by rw [show Tryd.zeroCells76.toList.length = 65 by kernel_rfl]; exact Nat.le_refl _)]; rfl, (Below.refl _ _).alloc (Nat.le_refl _) _⟩
    have := heap_alloc_new w (.cells Tryd.zeroCells76 76)
    rw [this]
  case round =>
    obtain ⟨j, k, cs, hjk, hj, rfl, rfl, hh, hl, hd, hb⟩ := hrel.ex
    clear hrel
    have HD := Lib.hid hd
    have HB := Lib.hid hb
    have HH := Lib.hid hh
    have HL := Lib.hid hl
    clear hd hb
    obtain ⟨u, hu⟩ : ∃ u, n / 16 ^ j = u := ⟨_, rfl⟩
    have hu2 : u < 18446744073709551616 := by rw [← hu]; exact Nat.lt_of_le_of_lt (Nat.div_le_self _ _) hn
    have HU := Lib.hid hu
    rw [hu]
    clear hu
    obtain ⟨c, hcell⟩ : ∃ c, wr.cell? ⟨w.heap.size, k, none⟩ = some c := ⟨cs[k], by rw [cell_of_block hh, List.getElem?_eq_getElem]⟩
    have hfz : wr.frozen? ⟨w.heap.size, k, none⟩ = false := by simp [World.frozen?, hh]
    clear hh hl
    have HE : Hid (∀ h, digs36[u % 16]'h = hexD (u % 16)) := Lib.hid (fun h => digs36_at (Nat.mod_lt _ (by decide)) h)
    have harr : Tryd.prog.arrayLen 76 = 65 := by kernel_rfl
    have hk65 : (k : Int) ≤ 65 := by omega
    by_cases h16 : 16 ≤ u
    · have ha := and15 u hu2
      go_wp2
      obtain ⟨cs', h1, h2, h3, h4⟩ := fb_step hjk HH.out HL.out HD.out HB.out HU.out (v := Value.int .u8 ((digs36[u % 16]'(by rw [digs36_size]; omega)).toNat : Int)) (by rw [HE.out])
      have hjj : j + 1 ≤ 15 := by
        rcases Nat.lt_or_ge j 15 with h | h
        · omega
        · exfalso
          obtain rfl : j = 15 := by omega
          have := HU.out
          have : n / 16 ^ 15 < 16 := by rw [Nat.div_lt_iff_lt_mul (by decide)]; exact hn
          omega
      have hk : k = k - 1 + 1 := by omega
      refine ⟨⟨j + 1, k - 1, cs', by omega, hjj, by rw [← hk], ?_, h1, h2, by rw [← hk]; exact h3, h4⟩, by simp [intOf]⟩
      rw [show n / 16 ^ (j + 1) = u / 16 by rw [Nat.pow_succ, ← Nat.div_div_eq_div_mul, HU.out]]
      rfl
    · have hmod : u % 16 = u := Nat.mod_eq_of_lt (by omega)
      have hlt : u < digs36.size := by rw [digs36_size]; omega
      have HE2 : Hid (digs36[u] = hexD (u % 16)) := Lib.hid (by rw [hmod]; exact digs36_at (by omega) _)
      obtain ⟨cs', h1, h2, h3, h4⟩ := fb_step hjk HH.out HL.out HD.out HB.out HU.out (v := Value.int .u8 ((digs36[u]'hlt).toNat : Int)) (by rw [HE2.out])
      have hcv := fb_conv h1 h3 (m := 65 - k) (by rw [hexS_length]; omega)
      have HF : Hid (n < 16 ^ (j + 1)) := Lib.hid (by
        have := HU.out
        rw [Nat.pow_succ, Nat.mul_comm, ← Nat.div_lt_iff_lt_mul (by exact Nat.pow_pos (by decide))] <;> omega)
      have H4 := Lib.hid h4
      clear h1 h2 h3 h4 HE2 hmod
      unfold digs36 at hcv H4
      go_wp2
      go_ret2
      exact ⟨j + 1, by omega, HF.out, rfl, H4.out⟩

theorem intFormat_any (n : Nat) (w : World) (hn : n < 18446744073709551616) (h : TabOk w) :
    Calls Tryd.prog 29 #[.int .u64 n, .int .i64 16] w fun e w' => ∃ j : Nat, j ≤ 16 ∧ n < 16 ^ j ∧ e = .returned (.string ⟨(hexS n j).toArray⟩) ∧ Below w.heap.size w w' := by
  have HT := Lib.hid h; clear h
  go_enter Tryd.func29, Tryd.ntmps29
  go_wp2_with fail
  refine (formatBits_any n _ hn HT.out).mono ?_
  rintro e w1 ⟨j, h1, h2, rfl, hb⟩
  have H2 := Lib.hid h2; clear h2
  go_wp2
  go_ret
  exact ⟨j, h1, H2.out, rfl, hb⟩
theorem format_any (n : Nat) (w : World) (hn : n < 18446744073709551616) (h : TabOk w) :
    Calls Tryd.prog 20 #[.int .u64 n, .int .i64 16] w fun e w' => ∃ j : Nat, j ≤ 16 ∧ n < 16 ^ j ∧ e = .returned (.string ⟨(hexS n j).toArray⟩) ∧ Below w.heap.size w w' := by
  have HT := Lib.hid h; clear h
  go_enter Tryd.func20, Tryd.ntmps20
  go_wp2_with fail
  refine (intFormat_any n _ hn HT.out).mono ?_
  rintro e w1 ⟨j, h1, h2, rfl, hb⟩
  have H2 := Lib.hid h2; clear h2
  go_wp2
  go_ret
  exact ⟨j, h1, H2.out, rfl, hb⟩
end Go.Proofs.YtpjanfclobpkjaaDoor
