/- acl.Digest and the document's own. -/
import Derived.Test.YtpjanfclobpkjaaDoorUh
namespace Go.Proofs.YtpjanfclobpkjaaDoor
open Go.ChangeShapes Go.WideShapes Go.ChangeAt Go.RowKit
set_option linter.unusedVariables false
set_option linter.unusedSimpArgs false

def digS (name secret : ByteArray) : ByteArray := ⟨(digL name.data.toList secret.data.toList).toArray⟩
def colonS : ByteArray := ⟨#[58]⟩
theorem hashP_three (name secret : ByteArray) : hashP [name, colonS, secret] = hashL (name.data.toList ++ 58 :: secret.data.toList) hash0 := by
  rw [show name.data.toList ++ 58 :: secret.data.toList = (name.data.toList ++ [58]) ++ secret.data.toList by simp, hashL_app, hashL_app]; rfl
theorem three_at (w : World) (a b c : ByteArray) : IdsAt (w.alloc (.cells #[.string a, .string b, .string c] 9)) (.slice (some ⟨w.heap.size, 0, none⟩) 3 3) [a, b, c] := by
  refine ⟨⟨_, _, rfl, fun i hi => ⟨w.heap.size, 0, rfl, by simp, ?_⟩⟩, by simp⟩
  have hi : i < 3 := hi
  rw [cell_of_row _ w.heap.size (0 + i) _ _ (0, 0) (heap_alloc_new w _)]
  rcases (show i = 0 ∨ i = 1 ∨ i = 2 by omega) with rfl | rfl | rfl <;> rfl
theorem nameL_size {s : ByteArray} (h : nameL s.data.toList = true) : s.size ≤ 12 := by
  simp only [nameL, Bool.and_eq_true, decide_eq_true_eq, size_toList] at h; omega

set_option maxHeartbeats 1000000 in
theorem digest_no (name secret : ByteArray) (w : World) (h : nameL name.data.toList = false) :
    Calls Tryd.prog 13 #[.string name, .string secret] w fun e w' => e = .returned (.tuple #[.string ByteArray.empty, .int .i64 50]) ∧ Below w.heap.size w w' := by
  have H := Lib.hid h; clear h
  go_enter Tryd.func13, Tryd.ntmps13
  go_wp2_with (go_at_call 19; refine (isName_any _ _ H.out).mono ?_; rintro e w' ⟨rfl, rfl⟩)
  go_ret2
  exact ⟨rfl, Below.refl _ _⟩

set_option maxHeartbeats 1000000 in
theorem digest_yes (name secret : ByteArray) (w : World) (h : nameL name.data.toList = true) (hs : secret.size ≤ maxLen) (ht : TabOk w) :
    Calls Tryd.prog 13 #[.string name, .string secret] w fun e w' => e = .returned (.tuple #[.string (digS name secret), .int .i64 0]) ∧ Below w.heap.size w w' := by
  have hz := nameL_size h
  have H := Lib.hid h; clear h
  have HT := Lib.hid ht; clear ht
  unfold maxLen at hs
  obtain ⟨n, hn⟩ : ∃ n : Nat, (hashL (name.data.toList ++ 58 :: secret.data.toList) hash0).toNat = n := ⟨_, rfl⟩
  have hr := hashL_range (name.data.toList ++ 58 :: secret.data.toList) hash0 (by decide) (by decide)
  have hn64 : n < 18446744073709551616 := by omega
  have HN : Hid (hashP [name, colonS, secret] = (n : Int)) := Lib.hid (by rw [hashP_three]; omega)
  have HD : Hid (∀ j, j ≤ 16 → n < 16 ^ j → name.data.toList ++ 58 :: (Lib.repeatL [48] (16 - j) ++ hexS n j) = digL name.data.toList secret.data.toList) := Lib.hid (fun j hj hlt => by
    rw [digL, hn, repeatL_zero, hexS_pad hlt, show 16 - j + j = 16 by omega])
  clear hn hr
  have hb0 : Below w.heap.size w (w.alloc (.cells #[.string name, .string colonS, .string secret] 9)) := (Below.refl _ _).alloc (Nat.le_refl _) _
  have HB0 := Lib.hid hb0; clear hb0
  go_enter Tryd.func13, Tryd.ntmps13
  go_wp2_with (go_at_call 19; refine (isName_any _ _ H.out).mono ?_; rintro e w' ⟨rfl, rfl⟩)
  refine (hash_any (three_at w name colonS secret) (by
    intro s hm
    simp only [List.mem_cons, List.not_mem_nil, or_false] at hm
    rcases hm with rfl | rfl | rfl <;> unfold maxLen
    · omega
    · decide
    · omega)).mono ?_
  rw [HN.out]
  rintro e w1 ⟨rfl, rfl⟩
  have HB1 := HB0
  go_wp2_with fail
  refine (format_any n _ hn64 (tab_below HT.out HB1.out)).mono ?_
  rintro e w2 ⟨j, hj, hlt, rfl, hb2⟩
  have HR : Hid (∀ r : ByteArray, r.data.toList = Lib.repeatL [48] (16 - j) → ∀ t : ByteArray, t.data.toList = hexS n j → name ++ ⟨#[58]⟩ ++ r ++ t = digS name secret) := Lib.hid (by
    intro r hr t ht
    apply ByteArray.ext
    rw [digS, ← HD.out j hj hlt]
    simp only [ByteArray.data_append]
    apply Array.ext'
    simp [hr, ht])
  obtain ⟨t, htt⟩ : ∃ t : ByteArray, t = ⟨(hexS n j).toArray⟩ := ⟨_, rfl⟩
  have htl : t.data.toList = hexS n j := by rw [htt]
  have htz : t.size = j := by rw [← size_toList, htl, hexS_length]
  rw [← htt]
  have HTL := Lib.hid htl
  have HC : Hid ((16 : Int) - (t.size : Int) = ((16 - j : Nat) : Int)) := Lib.hid (by omega)
  have ht16 : t.size ≤ 16 := by omega
  have hb2' : Below w.heap.size w w2 := HB1.out.trans (hb2.mono (by simp))
  have HB2 := Lib.hid hb2'
  clear htt htl htz hlt hb2 hb2'
  go_wp2_with fail
  rw [HC.out]
  refine (Tryd.strings_Repeat ⟨#[48]⟩ (16 - j) _ (by omega) (by rw [show (ByteArray.mk #[48]).size = 1 from rfl]; omega)).mono ?_
  rintro e w3 ⟨rfl, hb3⟩
  obtain ⟨r, hr⟩ : ∃ r : ByteArray, r = ⟨(Lib.repeatL (ByteArray.mk #[48]).data.toList (16 - j)).toArray⟩ := ⟨_, rfl⟩
  have hrl : r.data.toList = Lib.repeatL [48] (16 - j) := by rw [hr]
  have hrz : r.size ≤ 16 := by rw [← size_toList, hrl, repeatL_zero]; simp
  have HRR := Lib.hid (HR.out r hrl t HTL.out)
  rw [← hr]
  have HB3 : Hid (Below w.heap.size w w3) := Lib.hid (HB2.out.trans (hb3.mono HB2.out.size))
  clear hr hrl hb3
  go_wp2_with fail
  go_ret2
  exact ⟨ret_val (by rw [HRR.out]; rfl), HB3.out⟩

set_option maxHeartbeats 1000000 in
theorem refDigest_no (name secret : ByteArray) (w : World) (h : nameL name.data.toList = false) :
    Calls Tryd.prog 14 #[.string name, .string secret] w fun e w' => e = .returned (.tuple #[.string ByteArray.empty, .int .i64 50]) ∧ Below w.heap.size w w' := by
  have H := Lib.hid h; clear h
  go_enter Tryd.func14, Tryd.ntmps14
  go_wp2_with (go_at_call 23; refine (user_any _ _ H.out).mono ?_; rintro e w' ⟨rfl, rfl⟩)
  go_ret2
  exact ⟨rfl, Below.refl _ _⟩

theorem info_u8 : (Tryd.prog.info? 5).map (fun i => (i.zero, i.size, i.bytes)) = some (some (.int .u8 0), 1, 1) := by kernel_rfl
theorem make_16 (w : World) : Sem.run Tryd.prog (Instr.makeSlice 41 (.int .i64 16) (.int .i64 16)) w = .ok (.slice (some ⟨w.heap.size, 0, none⟩) 16 16) (w.alloc (.cells (List.replicate 16 (Value.int .u8 0)).toArray 5)) := by
  obtain ⟨i0, hi, hz0, hz1, hz2⟩ := info_parts info_u8
  have := run_makeSlice (P := Tryd.prog) w 41 5 i0 (.int .u8 0) Tryd.underlying41 hi hz0 .i64 .i64 16 16 (by decide) (by decide) (by rw [hz1]; decide) (by rw [hz2]; decide) (by decide)
  rw [hz1] at this
  rw [this, show madeCells (Value.int .u8 0).cells (Int.toNat 16 * 1) = (List.replicate 16 (Value.int .u8 0)).toArray by kernel_rfl]
  rfl
abbrev digs16 : ByteArray := ⟨#[48, 49, 50, 51, 52, 53, 54, 55, 56, 57, 97, 98, 99, 100, 101, 102]⟩
theorem digs16_all : ∀ m : Fin 16, digs16[m.val]'(by rw [show digs16.size = 16 by decide]; omega) = hexD m.val := by decide
theorem digs16_at {m : Nat} (h : m < 16) (h' : m < digs16.size) : digs16[m] = hexD m := digs16_all ⟨m, h⟩

structure RdRel (n : Nat) (w : World) (nv iv : Value) (wr : World) : Prop where
  ex : ∃ (j k : Nat) (cs : List Value), j + k = 16 ∧ iv = .int .i64 ((k : Int) - 1) ∧ nv = .int .u64 ((n / 16 ^ j : Nat) : Int) ∧ wr.heap[w.heap.size]? = some (.cells cs.toArray 5 (0, 0)) ∧ cs.length = 16 ∧
    cs.drop k = (hexS n j).map (fun b => Value.int .u8 (b.toNat : Int)) ∧ Below w.heap.size w wr
theorem rd_step {n : Nat} {w wr : World} {j k : Nat} {cs : List Value} {u : Nat} (hjk : j + (k + 1) = 16) (hh : wr.heap[w.heap.size]? = some (.cells cs.toArray 5 (0, 0))) (hl : cs.length = 16)
    (hd : cs.drop (k + 1) = (hexS n j).map (fun b => Value.int .u8 (b.toNat : Int))) (hb : Below w.heap.size w wr) (hu : n / 16 ^ j = u) {v : Value} (hv : v = .int .u8 ((hexD (u % 16)).toNat : Int)) :
    ∃ cs' : List Value, (wr.setCell ⟨w.heap.size, k, none⟩ v).heap[w.heap.size]? = some (.cells cs'.toArray 5 (0, 0)) ∧ cs'.length = 16 ∧ cs'.drop k = (hexS n (j + 1)).map (fun b => Value.int .u8 (b.toNat : Int)) ∧ Below w.heap.size w (wr.setCell ⟨w.heap.size, k, none⟩ v) := by
  refine ⟨cs.set k v, heap_set v hh, by simpa using hl, ?_, hb.setCell (Nat.le_refl _) _⟩
  rw [drop_set (by omega), hd, hexS, List.map_cons, hu, hv]

set_option maxHeartbeats 2000000 in
theorem refDigest_yes (name secret : ByteArray) (w : World) (h : nameL name.data.toList = true) (hs : secret.size ≤ 9223372036854775000) :
    Calls Tryd.prog 14 #[.string name, .string secret] w fun e w' => e = .returned (.tuple #[.string (digS name secret), .int .i64 0]) ∧ Below w.heap.size w w' := by
  have hz := nameL_size h
  have H := Lib.hid h; clear h
  obtain ⟨n, hn⟩ : ∃ n : Nat, (hashL (name.data.toList ++ 58 :: secret.data.toList) hash0).toNat = n := ⟨_, rfl⟩
  have hr := hashL_range (name.data.toList ++ 58 :: secret.data.toList) hash0 (by decide) (by decide)
  have hn64 : n < 18446744073709551616 := by omega
  obtain ⟨s, hss⟩ : ∃ s : ByteArray, s = name ++ ⟨#[58]⟩ ++ secret := ⟨_, rfl⟩
  have hsl : s.data.toList = name.data.toList ++ 58 :: secret.data.toList := by rw [hss]; simp
  have hsz : s.size ≤ 9223372036854775100 := by rw [← size_toList, hsl]; simp; omega
  have HN : Hid (hashL s.data.toList hash0 = (n : Int)) := Lib.hid (by rw [hsl]; omega)
  have HD : Hid (name ++ ⟨#[58]⟩ ++ ⟨(hexS n 16).toArray⟩ = digS name secret) := Lib.hid (by
    apply ByteArray.ext
    rw [digS, digL, hn]
    simp only [ByteArray.data_append]
    apply Array.ext'
    simp)
  have HSS := Lib.hid hss
  clear hn hr hsl hss
  go_enter Tryd.func14, Tryd.ntmps14
  go_wp2_with (first | (go_at_call 23; refine (user_any _ _ H.out).mono ?_; rintro e w' ⟨rfl, rfl⟩))
  rw [← HSS.out]
  go_loop [9, 7] (fun iv hv => ∃ k : Nat, k ≤ s.size ∧ iv = .int .i64 k ∧ hv = .int .u64 (hashL (s.data.toList.take k) hash0)) (fun iv _ => s.size - (intOf iv).toNat)
  case atStart => exact ⟨0, Nat.zero_le _, rfl, rfl⟩
  case round =>
    obtain ⟨k, hk, rfl, rfl⟩ := hrel
    by_cases hlt : k < s.size
    · have hsn : Hid (hashL (s.data.toList.take (k + 1)) hash0 = hStep (hashL (s.data.toList.take k) hash0) s[k]) := by
        rw [take_snoc s k hlt, hashL_snoc]; exact rfl
      generalize hashL (s.data.toList.take k) hash0 = h1 at hsn
      go_wp2
      go_round
      case rel => exact ⟨k + 1, by omega, by go_num, by rw [hsn.out]; rfl⟩
      case measure => simp [intOf]; omega
    · have HW : Hid (hashL (s.data.toList.take k) hash0 = (n : Int)) := Lib.hid (by rw [List.take_of_length_le (by rw [size_toList]; omega), HN.out])
      rw [HW.out]
      have hmk := make_16 w
      go_wp2_with fail
      clear hmk hlt hk
      go_loopw [7, 12] (fun nv iv wr => RdRel n w nv iv wr) (fun _ iv _ => (intOf iv + 1).toNat)
      case atStart => exact ⟨0, 16, List.replicate 16 (Value.int .u8 0), rfl, rfl, by simp, heap_alloc_new w _, rfl, rfl, (Below.refl _ _).alloc (Nat.le_refl _) _⟩
      case round =>
        obtain ⟨j, k, cs, hjk, rfl, rfl, hh, hl, hd, hb⟩ := hrel.ex
        clear hrel
        obtain ⟨u, hu⟩ : ∃ u, n / 16 ^ j = u := ⟨_, rfl⟩
        have hu2 : u < 18446744073709551616 := by rw [← hu]; exact Nat.lt_of_le_of_lt (Nat.div_le_self _ _) hn64
        have HU := Lib.hid hu
        rw [hu]
        clear hu
        cases k with
        | zero =>
          obtain rfl : j = 16 := by omega
          have hcv := fb_conv hh hd (m := 16) (by rw [hexS_length])
          have HB := Lib.hid hb
          obtain ⟨t, htt⟩ : ∃ t : ByteArray, t = ⟨(hexS n 16).toArray⟩ := ⟨_, rfl⟩
          have ht16 : t.size ≤ 16 := by rw [htt, ← size_toList]; simp [hexS_length]
          have HDT : Hid (name ++ ⟨#[58]⟩ ++ t = digS name secret) := Lib.hid (by rw [htt]; exact HD.out)
          rw [← htt] at hcv
          clear hh hd hl hb htt
          go_wp2
          go_ret2
          exact ⟨ret_val (by rw [HDT.out]; rfl), HB.out⟩
        | succ k =>
          have HDD := Lib.hid hd
          have HB := Lib.hid hb
          have HH := Lib.hid hh
          have HL := Lib.hid hl
          clear hd hb
          obtain ⟨c, hcell⟩ : ∃ c, wr.cell? ⟨w.heap.size, k, none⟩ = some c := ⟨cs[k], by rw [cell_of_block hh, List.getElem?_eq_getElem]⟩
          have hfz : wr.frozen? ⟨w.heap.size, k, none⟩ = false := by simp [World.frozen?, hh]
          clear hh hl
          have hk16 : k < 16 := by omega
          have e1 : ((k + 1 : Nat) : Int) - 1 = (k : Int) := by omega
          rw [e1]
          clear e1
          have HE : Hid (∀ h, digs16[u % 16]'h = hexD (u % 16)) := Lib.hid (fun h => digs16_at (Nat.mod_lt _ (by decide)) h)
          go_wp2
          obtain ⟨cs', h1, h2, h3, h4⟩ := rd_step hjk HH.out HL.out HDD.out HB.out HU.out (v := Value.int .u8 ((digs16[u % 16]'(by rw [show digs16.size = 16 by decide]; omega)).toNat : Int)) (by rw [HE.out])
          refine ⟨⟨j + 1, k, cs', by omega, rfl, ?_, h1, h2, h3, h4⟩, by simp [intOf]⟩
          rw [show n / 16 ^ (j + 1) = u / 16 by rw [Nat.pow_succ, ← Nat.div_div_eq_div_mul, HU.out]]
          rfl
end Go.Proofs.YtpjanfclobpkjaaDoor
