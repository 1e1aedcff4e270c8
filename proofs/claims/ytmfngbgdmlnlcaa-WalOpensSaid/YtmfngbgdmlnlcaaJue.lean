/- The document's own Open. -/
import Derived.Test.YtmfngbgdmlnlcaaJud
import Derived.StillTailTactics
import Derived.Lib.AppendStr
import Derived.Lib.BufferRead
namespace Go.Proofs.Ytmfngbgdmlnlcaa
open Go.ChangeShapes Go.WideShapes Go.ChangeAt Go.RowKit
set_option linter.unusedVariables false
set_option linter.unusedSimpArgs false
theorem valN_eight (l : List UInt8) (h : l.length = 8) (h0 : (l.headD 0).toNat ≤ 127) : valN l < 9223372036854775808 := by
  rcases l with _ | ⟨a0, _ | ⟨a1, _ | ⟨a2, _ | ⟨a3, _ | ⟨a4, _ | ⟨a5, _ | ⟨a6, _ | ⟨a7, _ | ⟨a8, l⟩⟩⟩⟩⟩⟩⟩⟩⟩ <;> simp at h
  have h1 := a1.toNat_lt; have h2 := a2.toNat_lt; have h3 := a3.toNat_lt
  have h4 := a4.toNat_lt; have h5 := a5.toNat_lt; have h6 := a6.toNat_lt; have h7 := a7.toNat_lt
  have h0' : a0.toNat ≤ 127 := h0
  have e : valN [a0, a1, a2, a3, a4, a5, a6, a7] = (((((((0 * 256 + a0.toNat) * 256 + a1.toNat) * 256 + a2.toNat) * 256 + a3.toNat) * 256 + a4.toNat) * 256 + a5.toNat) * 256 + a6.toNat) * 256 + a7.toNat := rfl
  rw [e]; omega
theorem rightZ_B (l : List UInt8) (sector space : Int) : rightZ (markIn l) l sector space = rightB l sector space := rfl
/-- which mark counts -/
theorem sel_cases (s0 s1 : List UInt8) (sp : Int) :
    (rightB s0 0 sp = false ∧ rightB s1 1 sp = false ∧ (lastZ s0 s1 sp).c = 0) ∨
    (rightB s0 0 sp = true ∧ rightB s1 1 sp = false ∧ lastZ s0 s1 sp = markIn s0 ∧ RightM s0 0 sp) ∨
    (rightB s0 0 sp = false ∧ rightB s1 1 sp = true ∧ lastZ s0 s1 sp = markIn s1 ∧ RightM s1 1 sp) ∨
    (rightB s0 0 sp = true ∧ rightB s1 1 sp = true ∧ fld s1 2 6 ≤ fld s0 2 6 ∧ lastZ s0 s1 sp = markIn s0 ∧ RightM s0 0 sp) ∨
    (rightB s0 0 sp = true ∧ rightB s1 1 sp = true ∧ fld s0 2 6 < fld s1 2 6 ∧ lastZ s0 s1 sp = markIn s1 ∧ RightM s1 1 sp) := by
  have z0 : zeroM.c = 0 := rfl
  have c0 : (markIn s0).c = fld s0 2 6 := rfl
  have c1 : (markIn s1).c = fld s1 2 6 := rfl
  cases h0 : rightB s0 0 sp with
  | false =>
    have e0 : lastOne zeroM s0 0 sp = zeroM := by unfold lastOne; rw [h0, if_neg (by simp)]
    cases h1 : rightB s1 1 sp with
    | false => left; refine ⟨rfl, rfl, ?_⟩; unfold lastZ; rw [e0]; unfold lastOne; rw [h1, if_neg (by simp)]; rfl
    | true =>
      have r1 := (rightB_iff _ _ _).1 h1
      right; right; left
      refine ⟨rfl, rfl, ?_, r1⟩
      unfold lastZ; rw [e0]; unfold lastOne; rw [h1, if_pos ⟨rfl, by have := r1.c1; omega⟩]
  | true =>
    have r0 := (rightB_iff _ _ _).1 h0
    have e0 : lastOne zeroM s0 0 sp = markIn s0 := by unfold lastOne; rw [h0, if_pos ⟨rfl, by have := r0.c1; omega⟩]
    cases h1 : rightB s1 1 sp with
    | false => right; left; refine ⟨rfl, rfl, ?_, r0⟩; unfold lastZ; rw [e0]; unfold lastOne; rw [h1, if_neg (by simp)]
    | true =>
      have r1 := (rightB_iff _ _ _).1 h1
      by_cases hlt : fld s0 2 6 < fld s1 2 6
      · right; right; right; right
        refine ⟨rfl, rfl, hlt, ?_, r1⟩
        unfold lastZ; rw [e0]; unfold lastOne; rw [h1, if_pos ⟨rfl, by omega⟩]
      · right; right; right; left
        refine ⟨rfl, rfl, by omega, ?_, r0⟩
        unfold lastZ; rw [e0]; unfold lastOne; rw [h1, if_neg (fun h => hlt (by have := h.2; omega))]
/-- the document's log in memory -/
structure YAt (w : World) (yb x B : Nat) (m : MSt) (l : List (List UInt8)) : Prop where
  ex : ∃ lv, w.heap[yb]? = some (.cells #[.pointer (some ⟨x, 0, none⟩), lv, .int .i64 l.length, .int .i64 m.ar, .int .i64 m.c, .int .i64 m.a, .int .i64 m.b, .bool false] 71 (0, 0)) ∧ w.ownsRow B 9 1 lv l.length (l.map strB)
def XOpenPost (w : World) (x : Nat) (dd : DSt) (e : Ending) (w' : World) : Prop :=
  ∃ (p : Option Addr) (v : Int), e = .returned (.tuple #[.pointer p, .int .i64 v]) ∧ (∀ m l, Stands dd m l → v = 0 ∧ ∃ yb, p = some ⟨yb, 0, none⟩ ∧ w.heap.size ≤ yb ∧ YAt w' yb x w.heap.size m l) ∧ ((¬ ∃ m l, Stands dd m l) → p = none ∧ v = 31) ∧ Kept (fun _ => False) w w'
structure XbRel (w : World) (L : Nat → List UInt8) (st le : Nat) (bv iv : Value) (wr : World) : Prop where
  ex : ∃ k : Nat, (k = 0 ∨ 64 * (k - 1) < le) ∧ iv = .int .i64 k ∧ wr.ownsRow w.heap.size 5 1 bv (64 * k) (Lib.byteCells (areaL L st k)) ∧ Below w.heap.size w wr
/-- what is known of the mark that counts -/
structure MarkS (S : ByteArray) (m : MSt) : Prop where
  size : S.size = 64
  ar : (S.data.toList[6]?.getD 0).toNat = m.ar
  le : ∀ V, Calls Try.prog 46 #[.string (S.extract 7 11)] V fun e w' => e = .returned (.int .i64 m.le) ∧ V = w'
  nu : ∀ V, Calls Try.prog 46 #[.string (S.extract 11 15)] V fun e w' => e = .returned (.int .i64 m.nu) ∧ V = w'
  a : ∀ V, Calls Try.prog 46 #[.string (S.extract 15 23)] V fun e w' => e = .returned (.int .i64 m.a) ∧ V = w'
  b : ∀ V, Calls Try.prog 46 #[.string (S.extract 23 31)] V fun e w' => e = .returned (.int .i64 m.b) ∧ V = w'
theorem markS_of {S : ByteArray} {m : MSt} {n sp : Int} (hs : S.size = 64) (hm : markIn S.data.toList = m.z) (hr : RightM S.data.toList n sp) : MarkS S m := by
  have hl : S.data.toList.length = 64 := hs
  have ml : ∀ i j, (S.extract i j).data.toList = midL S.data.toList i j := fun i j => ext_list S i j
  have ear : fld S.data.toList 6 7 = (m.ar : Int) := congrArg MZ.ar hm
  have ele : fld S.data.toList 7 11 = (m.le : Int) := congrArg MZ.le hm
  have enu : fld S.data.toList 11 15 = (m.nu : Int) := congrArg MZ.nu hm
  have ea : fld S.data.toList 15 23 = (m.a : Int) := congrArg MZ.a hm
  have eb : fld S.data.toList 23 31 = (m.b : Int) := congrArg MZ.b hm
  have four : ∀ i j (v : Nat), j = i + 4 → j ≤ 64 → fld S.data.toList i j = (v : Int) → ∀ V, Calls Try.prog 46 #[.string (S.extract i j)] V fun e w' => e = .returned (.int .i64 v) ∧ V = w' := fun i j v hj hj2 hf V => by
    have h0 := valN_four (midL S.data.toList i j) (by rw [midL_len (by omega) (by omega)]; omega)
    have h1 : valI (midL S.data.toList i j) = _ := hf
    rw [valI_small _ (by omega)] at h1
    exact small_any _ V (by rw [ml]; omega) (by omega) (by rw [ByteArray.size_extract]; omega)
  have eight : ∀ i j (v : Nat), j = i + 8 → j ≤ 64 → fld S.data.toList i j = (v : Int) → ∀ V, Calls Try.prog 46 #[.string (S.extract i j)] V fun e w' => e = .returned (.int .i64 v) ∧ V = w' := fun i j v hj hj2 hf V => by
    have h1 : valI (midL S.data.toList i j) = _ := hf
    have hlen : (midL S.data.toList i j).length = 8 := by rw [midL_len (by omega) (by omega)]; omega
    have h0 := valN_eight _ hlen ((valI_sign _ hlen).1 (by rw [h1]; omega))
    rw [valI_small _ h0] at h1
    exact small_any _ V (by rw [ml]; omega) (by omega) (by rw [ByteArray.size_extract]; omega)
  refine ⟨hs, ?_, four 7 11 _ rfl (by omega) ele, four 11 15 _ rfl (by omega) enu, eight 15 23 _ rfl (by omega) ea, eight 23 31 _ rfl (by omega) eb⟩
  have hg6 : S.data.toList[6]? = some S[6] := by rw [List.getElem?_eq_getElem (by omega)]; rfl
  have hmd : midL S.data.toList 6 7 = [S[6]] := by
    unfold midL
    rw [show (7 : Nat) - 6 = 1 from rfl, List.take_one, List.head?_drop, hg6]; rfl
  have h1 : valI (midL S.data.toList 6 7) = _ := ear
  rw [hmd, valI_small _ (by rw [show valN [S[6]] = 0 * 256 + S[6].toNat from rfl]; have := S[6].toNat_lt; omega), show valN [S[6]] = 0 * 256 + S[6].toNat from rfl] at h1
  rw [hg6]
  show S[6].toNat = m.ar
  omega
theorem info_byte2 : ∃ i0, Try.prog.info? 5 = some i0 ∧ i0.zero = some (.int .u8 0) ∧ i0.size = 1 ∧ i0.bytes = 1 := by
  obtain ⟨i0, hi, hz0, hz1, hz2⟩ := info_parts info_byte
  exact ⟨i0, hi, hz0, hz1, hz2⟩
theorem row_base {w : World} {B B' : Nat} {e : TypeId} {size n : Nat} {v : Value} {xs : List Value} (h : w.ownsRow B e size v n xs) (hb : B' ≤ B) : w.ownsRow B' e size v n xs :=
  ⟨h.1, h.2.imp id (fun ⟨g, cap, cur, hv, h0, r⟩ => ⟨g, cap, cur, hv, Nat.le_trans hb h0, r⟩)⟩
theorem slice_le (V : World) (a : Option Addr) (n cap le : Nat) (h : le ≤ cap) (ha : a = none ∧ cap = 0 ∨ ∃ g, a = some ⟨g, 0, none⟩) : Sem.run Try.prog (Instr.slice 31 (.slice a n cap) none (some (.int .i64 (le : Int))) none) V = .ok (.slice a le cap) V := by
  obtain ⟨i0, hi, hz0, hz1, hz2⟩ := info_parts info_byte
  have he : Try.prog.elem 31 = 5 := by kernel_rfl
  rw [run_slice_h V 31 a n cap (by rw [he]; exact Try.underlying31) .i64 (le : Int) (by omega) (by omega), he]
  have hz : Sem.run Try.prog (Go.sizeOf 5) V = .ok 1 V := by simp [Go.sizeOf, typeInfo, hi, hz1]
  rw [hz]
  rcases ha with ⟨rfl, rfl⟩ | ⟨g, rfl⟩
  · simp [sliced, Result.andThen]
  · simp [sliced, Result.andThen, Addr.add]
theorem xbytes_cut {W : World} {B n cap le : Nat} {ao : Option Addr} {l : List UInt8} {bs : ByteArray} (h : W.ownsRow B 5 1 (.slice ao n cap) n (Lib.byteCells l)) (hn : (Lib.byteCells l).length = n) (hle : le ≤ n) (hb : (⟨(l.take le).toArray⟩ : ByteArray) = bs) :
    ∃ vs : Value, (∀ V, Sem.run Try.prog (Instr.slice 31 (.slice ao n cap) none (some (.int .i64 (le : Int))) none) V = .ok vs V) ∧ ∀ W', Kept (fun _ => False) W W' → Sem.run Try.prog (convert 31 9 vs) W' = .ok (.string bs) W' := by
  rw [Lib.byteCells_length] at hn
  rcases h.2 with ⟨hv, h0⟩ | ⟨g, cap', cur, hv, hb0, hh, hnc, hcm, hcs, htake⟩
  · injection hv with e1 e2 e3
    subst e1 e3
    obtain rfl : n = 0 := h0
    obtain rfl : le = 0 := by omega
    refine ⟨.slice none 0 0, fun V => ?_, fun W' _ => ?_⟩
    · exact slice_le V none 0 0 0 (Nat.le_refl _) (.inl ⟨rfl, rfl⟩)
    · rw [← hb]
      exact Lib.run_convert_nil_bytes W' 31 9 5 0 Try.underlying31 Try.underlying5 Try.underlying9
  · injection hv with e1 e2 e3
    subst e1 e3
    refine ⟨.slice (some ⟨g, 0, none⟩) le cap, fun V => ?_, fun W' hk => ?_⟩
    · exact slice_le V _ n cap le (by omega) (.inr ⟨g, rfl⟩)
    · have hl : (l.take le).length = le := by rw [List.length_take]; omega
      have hh' : W'.heap[g]? = _ := (hk.block g (lt_of_block hh) id).trans hh
      have := run_convert_bytes_back (P := Try.prog) W' 31 9 5 ⟨g, 0, none⟩ cap (l.take le) Try.underlying31 Try.underlying5 Try.underlying9 (fun j hj => by
        rw [hl] at hj
        rw [Addr.add_mid, cell_of_row W' g (0 + j) _ _ (0, 0) hh', Nat.zero_add]
        have e : cur[j]? = (cur.toList.take (n * 1))[j]? := by rw [List.getElem?_take_of_lt (by omega), Array.getElem?_toList]
        rw [e, htake]
        have hj2 : j < l.length := by omega
        simp [Lib.byteCells, hj2])
      rw [hl, hb] at this
      exact this
theorem xright_t {w : World} {q : RB4} {d : RSt} (h : RfAt w q d) (n : Nat) (hn2 : n ≤ 1) (h16 : 16 ≤ d.n) {sp : Int} (hsp : sp = ((((d.n - 2) / 2 * 64 : Nat) : Nat) : Int)) (hR : rightB (d.L n) n sp = true) :
    Calls Try.prog 45 #[.pointer (some ⟨q.x, 0, none⟩), .int .i64 n] w fun e w' => e = .returned (.tuple #[.int .i64 (fld (d.L n) 2 6), .bool true]) ∧ Kept (fun _ => False) w w' := by
  have := xright_any h n (by omega) hn2 h16
  rw [rightZ_B, ← hsp, hR] at this
  exact this
theorem xright_f {w : World} {q : RB4} {d : RSt} (h : RfAt w q d) (n : Nat) (hn2 : n ≤ 1) (h16 : 16 ≤ d.n) {sp : Int} (hsp : sp = ((((d.n - 2) / 2 * 64 : Nat) : Nat) : Int)) (hR : rightB (d.L n) n sp = false) :
    Calls Try.prog 45 #[.pointer (some ⟨q.x, 0, none⟩), .int .i64 n] w fun e w' => e = .returned (.tuple #[.int .i64 0, .bool false]) ∧ Kept (fun _ => False) w w' := by
  have := xright_any h n (by omega) hn2 h16
  rw [rightZ_B, ← hsp, hR] at this
  exact this
set_option maxRecDepth 100000 in
set_option maxHeartbeats 8000000 in
theorem xopen_any {w : World} {q : RB4} {d : RSt} (h : RfAt w q d) (hg : d.Gone = false) (h16 : 16 ≤ d.n) (dd : DSt) (hn : dd.n = d.n) (hS : ∀ i, i < d.n → dd.S i = d.L i) : Calls Try.prog 25 #[.pointer (some ⟨q.x, 0, none⟩)] w (XOpenPost w q.x dd) := by
  have hhi := h.hi
  have hsl := h.sl
  have HH := Lib.hid h
  obtain ⟨sp, hsp⟩ : ∃ sp : Nat, spaceN dd = sp := ⟨_, rfl⟩
  obtain ⟨sec, hsec⟩ : ∃ sec : Nat, secN dd = sec := ⟨_, rfl⟩
  have hse : sec = (d.n - 2) / 2 := by rw [← hsec]; unfold secN; rw [hn]
  have hspe : sp = sec * 64 := by rw [← hsp, ← hsec]; rfl
  have HSPI : Hid ((sp : Int) = ((((d.n - 2) / 2 * 64 : Nat) : Nat) : Int)) := Lib.hid (by rw [hspe, hse])
  have h0 := hS 0 (by omega)
  have h1 := hS 1 (by omega)
  have hsel := sel_cases (d.L 0) (d.L 1) (sp : Int)
  obtain ⟨m, hm, hfit⟩ := lastZ_nat (space := sp) (hsl 0 (by omega)) (hsl 1 (by omega))
  rw [hm] at hsel
  have HUN : Hid (∀ m' l, Stands dd m' l → m' = m) := Lib.hid (fun m' l hs => by
    have e1 := hs.last
    rw [h0, h1, hsp, hm] at e1
    have := congrArg MZ.c e1; have := congrArg MZ.ar e1; have := congrArg MZ.le e1; have := congrArg MZ.nu e1; have := congrArg MZ.a e1; have := congrArg MZ.b e1
    simp only [MSt.z] at *
    cases m'; cases m
    simp only [MSt.mk.injEq]
    simp only at *
    omega)
  have har := hfit.ar
  have hle := hfit.le
  have hnu := hfit.sm.nu
  obtain ⟨x0, hx0⟩ : ∃ x0, m.ar * sec = x0 := ⟨_, rfl⟩
  have hx0b : x0 ≤ sec := by rw [← hx0]; have := Nat.mul_le_mul_right sec har; omega
  obtain ⟨st, hst⟩ : ∃ st, 2 + x0 = st := ⟨_, rfl⟩
  have hsteq : startN dd m.ar = st := by unfold startN; rw [hsec, hx0, hst]
  have hsthi : st + sec ≤ d.n := by
    have : m.ar * sec + sec ≤ 2 * sec := by have := Nat.mul_le_mul_right sec har; omega
    omega
  obtain ⟨bs, hbs⟩ : ∃ bs : ByteArray, (⟨((areaL d.L st sec).take m.le).toArray⟩ : ByteArray) = bs := ⟨_, rfl⟩
  have hbl : bs.data.toList = (areaL d.L st sec).take m.le := by rw [← hbs]
  have HLL : Hid (∀ i, i < sec → (d.L (st + i)).length = 64) := Lib.hid (fun i hi => hsl _ (by omega))
  have hbz : bs.size = m.le := by rw [← list_size, hbl, List.length_take, areaL_len HLL.out]; omega
  have hae : areaL dd.S st sec = areaL d.L st sec := by
    unfold areaL
    have : ∀ i ∈ List.range sec, dd.S (st + i) = d.L (st + i) := fun i hi => hS _ (by have := List.mem_range.1 hi; omega)
    rw [List.flatMap_def, List.flatMap_def, List.map_congr_left this]
  obtain ⟨T, hT⟩ : ∃ T, takenN (bs.size + 1) bs.data.toList = T := ⟨_, rfl⟩
  have HIS : Hid (m.c ≠ 0 → ∀ l, (Stands dd m l ↔ T = some l ∧ l.length = m.nu)) := Lib.hid (fun hc l => by
    have ht : takenN (m.le + 1) ((areaL dd.S (startN dd m.ar) (secN dd)).take m.le) = T := by rw [hsteq, hsec, hae, ← hbl, ← hT, hbz]
    constructor
    · intro hs; exact ⟨by rw [← ht]; exact hs.taken, hs.nu⟩
    · rintro ⟨h2, h3⟩
      exact ⟨by rw [h0, h1, hsp]; exact hm, by rw [hsp]; exact hfit, hc, by rw [ht]; exact h2, h3⟩)
  have HRECS : Hid (∀ V, Calls Try.prog 48 #[.string bs, .int .i64 m.nu] V (XrPost V T m.nu)) := Lib.hid (fun V => by
    have := xrecords_any bs m.nu V (by omega) hnu
    rw [hT] at this; exact this)
  have HHF : Hid (∀ V, Kept (fun _ => False) w V → Calls Try.prog 47 #[.pointer (some ⟨q.x, 0, none⟩)] V fun e w' => e = .returned (.int .i64 sec) ∧ w' = V) := Lib.hid (fun V hk => by
    have := half_any (HH.out.kept hk (fun _ _ f => f)) (by omega)
    rw [← hse] at this
    exact this.mono fun e w' ⟨he, hw⟩ => ⟨he, hw.symm⟩)
  have HC0 : Hid (∀ V, Kept (fun _ => False) w V → V.cell? ⟨q.x, 0, none⟩ = some (.slice (some ⟨q.l, 0, none⟩) d.n q.cl)) := Lib.hid (fun V hk => (HH.out.kept hk (fun _ _ f => f)).six.c0)
  have HCL : Hid (∀ V i, Kept (fun _ => False) w V → i < d.n → V.cell? ⟨q.l, i, none⟩ = some (.string ⟨(d.L i).toArray⟩)) := Lib.hid (fun V i hk hi => (HH.out.kept hk (fun _ _ f => f)).hl.cell hi)
  have HAR : Hid (∀ k, k ≤ sec → m.le ≤ 64 * k → (⟨((areaL d.L st k).take m.le).toArray⟩ : ByteArray) = bs) := Lib.hid (fun k hk hl => by rw [areaL_take HLL.out hk hl]; exact hbs)
  have HAL : Hid (∀ k, k ≤ sec → (areaL d.L st k).length = 64 * k) := Lib.hid (fun k hk => areaL_len (fun i hi => HLL.out i (by omega)))
  have c5 : w.cell? ⟨q.x, 5, none⟩ = some (.bool false) := by rw [← hg]; exact h.six.c5
  have HSL := Lib.hid hsl
  have HX0 := Lib.hid hx0
  have HST := Lib.hid hst
  have hsec64 : sec ≤ 16384 := by omega
  have hle2 : m.le ≤ 64 * sec := by omega
  have hst2 : st ≤ 16386 := by omega
  clear hm hfit h0 h1 hS hn hsp hsec hspe hbs hbl hbz hae hT h hg hse hsteq hsl
  obtain ⟨mc, hmc⟩ : ∃ mc, m.z.c = mc := ⟨_, rfl⟩
  rcases hsel with ⟨r0, r1, hz⟩ | ⟨r0, r1, hz, hr⟩ | ⟨r0, r1, hz, hr⟩ | ⟨r0, r1, hcc, hz, hr⟩ | ⟨r0, r1, hcc, hz, hr⟩
  · have HR0 := Lib.hid (fun V hk => xright_f (HH.out.kept (X := fun _ => False) (w' := V) hk (fun _ _ f => f)) 0 (by decide) h16 HSPI.out r0)
    have HR1 := Lib.hid (fun V hk => xright_f (HH.out.kept (X := fun _ => False) (w' := V) hk (fun _ _ f => f)) 1 (by decide) h16 HSPI.out r1)
    have HNO : Hid (¬ ∃ m l, Stands dd m l) := Lib.hid (by
      rintro ⟨m', l, hs⟩
      have e := HUN.out m' l hs
      have hc := hs.c
      rw [e] at hc
      exact hc (by have h9 : (m.c : Int) = 0 := hz; omega))
    clear r0 r1 hz hmc
    go_enter Try.func25, Try.ntmps25
    go_wp2_with fail
    refine (HR0.out _ (Kept.refl _ _)).mono ?_
    rintro e w1 ⟨rfl, hk1⟩
    have HK1 := Lib.hid hk1
    clear hk1
    go_wp2_with fail
    refine (HR1.out _ HK1.out).mono ?_
    rintro e w2 ⟨rfl, hk2⟩
    have HK2 := Lib.hid (HK1.out.trans hk2)
    clear hk2
    go_wp2_with fail
    go_ret2
    exact ⟨_, _, rfl, fun m' l hs => absurd ⟨m', l, hs⟩ HNO.out, fun _ => ⟨rfl, rfl⟩, HK2.out⟩
  · have HR0 := Lib.hid (fun V hk => xright_t (HH.out.kept (X := fun _ => False) (w' := V) hk (fun _ _ f => f)) 0 (by decide) h16 HSPI.out r0)
    have HR1 := Lib.hid (fun V hk => xright_f (HH.out.kept (X := fun _ => False) (w' := V) hk (fun _ _ f => f)) 1 (by decide) h16 HSPI.out r1)
    obtain ⟨S, hSe⟩ : ∃ S : ByteArray, (⟨(d.L 0).toArray⟩ : ByteArray) = S := ⟨_, rfl⟩
    have hSl : S.data.toList = d.L 0 := by rw [← hSe]
    have HMS : Hid (MarkS S m) := Lib.hid (markS_of (by rw [← list_size, hSl]; exact HSL.out 0 (by omega)) (by rw [hSl]; exact hz.symm) (by rw [hSl]; exact hr))
    have hSz : S.size = 64 := HMS.out.size
    have hcI : fld (d.L 0) 2 6 = (m.c : Int) := (congrArg MZ.c hz).symm
    have hc1 : 1 ≤ fld (d.L 0) 2 6 := hr.c1
    have HC1 : Hid (m.c ≠ 0) := Lib.hid (by omega)
    have hS6 : (S[6].toNat : Int) = (m.ar : Int) := by
      have := HMS.out.ar
      rw [show S.data.toList[6]? = some S[6] by rw [List.getElem?_eq_getElem (by rw [list_size]; omega)]; rfl] at this
      simp only [Option.getD_some] at this; omega
    have HCS : Hid (∀ V, Kept (fun _ => False) w V → V.cell? ⟨q.l, 0, none⟩ = some (.string S)) := Lib.hid (fun V hk => by rw [HCL.out V 0 hk (by omega), hSe])
    rw [hcI] at HR0
    clear r0 r1 hz hmc hr hSe hSl
    go_enter Try.func25, Try.ntmps25
    go_wp2_with fail
    refine (HR0.out _ (Kept.refl _ _)).mono ?_
    rintro e w1 ⟨rfl, hk1⟩
    have HK1 := Lib.hid hk1
    clear hk1
    go_wp2_with fail
    refine (HR1.out _ HK1.out).mono ?_
    rintro e w2 ⟨rfl, hk2⟩
    have HK2 := Lib.hid (HK1.out.trans hk2)
    clear hk2
    have c0 := HC0.out _ HK2.out
    have cs := HCS.out _ HK2.out
    go_wp2_with fail
    have HB2 : Hid (Below w.heap.size w w2) := Lib.hid (HK2.out.below (fun _ f => f.elim) (Nat.le_refl _))
    clear c0 cs HR0 HR1
    go_loopw [11, 12] (fun bv iv wr => XbRel w d.L st m.le bv iv wr) (fun _ iv _ => m.le + 64 - 64 * (Go.RowKit.intOf iv).toNat)
    case atStart => exact ⟨0, .inl rfl, rfl, World.ownsRow_nil _ _ _ _, HB2.out⟩
    case round =>
      obtain ⟨k, hk, rfl, hown, hbw⟩ := hrel.ex
      clear hrel HB2 HK2 HK1
      obtain ⟨ao, cap, rfl⟩ := slice_of_row hown
      have HOWN := Lib.hid hown
      have HB := Lib.hid hbw
      have hkw : Kept (fun _ => False) w wr := keptB hbw
      have HKW := Lib.hid hkw
      have hcut7 := fun V => mid_run V S (i := 7) (j := 11) (by omega) (by omega)
      clear hown hbw hkw
      by_cases hlt : 64 * k < m.le
      · have hks : k < sec := by omega
        have hlti : ((64 * k : Nat) : Int) < (m.le : Int) := by omega
        have HK := Lib.hid hk
        obtain ⟨idx, hidx⟩ : ∃ idx, st + k = idx := ⟨_, rfl⟩
        have hidn : idx < d.n := by omega
        obtain ⟨s, hs⟩ : ∃ s : ByteArray, (⟨(d.L idx).toArray⟩ : ByteArray) = s := ⟨_, rfl⟩
        have hsl : s.data.toList = d.L idx := by rw [← hs]
        have hs64 : s.size = 64 := by rw [← list_size, hsl]; exact HSL.out idx hidn
        have cc0 : wr.drew.cell? ⟨q.x, 0, none⟩ = _ := HC0.out _ HKW.out.drew
        have ccl : wr.drew.cell? ⟨q.l, idx, none⟩ = some (.string s) := by rw [← hs]; exact HCL.out _ idx HKW.out.drew hidn
        have HHF2 := Lib.hid (HHF.out _ HKW.out.drew)
        have HNX : Hid (Lib.byteCells (areaL d.L st (k + 1)) = Lib.byteCells (areaL d.L st k) ++ Lib.strCells s) := Lib.hid (by
          rw [areaL_succ, Lib.strCells_eq, hsl, hidx]; simp [Lib.byteCells])
        have hm1 : (m.ar : Int) * (sec : Int) = (x0 : Int) := by rw [← HX0.out]; push_cast; rfl
        have hm2 : (2 : Int) + (x0 : Int) = (st : Int) := by have := HST.out; omega
        have hm3 : (st : Int) + (k : Int) = (idx : Int) := by omega
        have hw1 : IntKind.i64.wrap (x0 : Int) = (x0 : Int) := by rw [IntKind.wrap_i64]; omega
        have hw2 : IntKind.i64.wrap (st : Int) = (st : Int) := by rw [IntKind.wrap_i64]; omega
        have hw3 : IntKind.i64.wrap (idx : Int) = (idx : Int) := by rw [IntKind.wrap_i64]; omega
        have hi0 : (0 : Int) ≤ (idx : Int) := by omega
        have hi1 : (idx : Int) < (d.n : Int) := by omega
        have HLT := Lib.hid hlt
        clear hs hsl hidx hlt hk
        go_wp2_with fail
        refine (HMS.out.le _).mono ?_
        rintro e w5 ⟨rfl, rfl⟩
        go_wp2_with fail
        refine wp_region_still_tail 14 (by kernel_rfl) (by kernel_rfl) ?_
        simp only [List.take_succ_cons, List.take_zero, List.drop_succ_cons, List.drop_zero]
        repeat still_step
        still_call HHF2.out
        repeat still_step
        refine wpStill_nil ?_
        change wpList _ _ _ _ _ wr.drew
        obtain ⟨i0, si, sz, ss, sbb⟩ := info_byte2
        have HSI := Lib.hid (And.intro si (And.intro sz (And.intro ss sbb)))
        have HOD : Hid (wr.drew.ownsRow w.heap.size 5 1 (.slice ao (64 * k) cap) (64 * k) (Lib.byteCells (areaL d.L st k))) := Lib.hid (rowKept HOWN.out ((Kept.refl (fun _ => False) wr).drew) (fun _ _ f => f))
        have HBD : Hid (Below w.heap.size w wr.drew) := Lib.hid (HB.out.trans ((Kept.refl (fun _ => False) wr).drew.below (fun _ f => f.elim) HB.out.size))
        clear si sz ss sbb cc0 ccl hm1 hm2 hm3 hw1 hw2 hw3 hi0 hi1
        generalize wr.drew = W2 at HOD HBD ⊢
        go_wp2_with (at_builtin; refine Lib.wpList_append_own_string _ rfl _ _ 31 9 rfl w.heap.size 5 i0 Try.underlying31 Try.underlying9 HSI.out.1 HSI.out.2.1 HSI.out.2.2.1 HSI.out.2.2.2 _ _ _ rfl HOD.out s rfl (by unfold maxLen; omega) (by omega) HBD.out.size (fun v' w6 hown' hg' _ => ?_); have HB6 := Lib.hid (HBD.out.grown hg' HBD.out.size (fun k hk => (HOD.out.lt k hk).1)); have HO6 : Hid (w6.ownsRow w.heap.size 5 1 v' (64 * (k + 1)) (Lib.byteCells (areaL d.L st (k + 1)))) := Lib.hid (by rw [HNX.out, show 64 * (k + 1) = 64 * k + s.size by omega]; exact hown'); clear hown' hg')
        go_wp2_with fail
        go_roundw
        case rel => exact ⟨k + 1, .inr (by have := HLT.out; simpa using this), by go_num, HO6.out, HB6.out⟩
        case measure => have h9 := HLT.out; simp [Go.RowKit.intOf]; omega
      · have hge : m.le ≤ 64 * k := by omega
        have hks : k ≤ sec := by omega
        have hgei : (m.le : Int) ≤ ((64 * k : Nat) : Int) := by omega
        have hcut11 := fun V => mid_run V S (i := 11) (j := 15) (by omega) (by omega)
        -- the bytes
        obtain ⟨vs, hsl1, hcv⟩ := xbytes_cut (W := wr) HOWN.out (by rw [Lib.byteCells_length, HAL.out k hks]) hge (HAR.out k hks hge)
        have HCONV := Lib.hid hcv
        have HLEC := Lib.hid HMS.out.le
        clear hcv hk
        go_wp2_with fail
        refine (HMS.out.le _).mono ?_
        rintro e w5 ⟨rfl, rfl⟩
        go_wp2_with fail
        have hk9 : Kept (fun _ => False) wr wr.drew := (Kept.refl _ wr).drew
        have hcnow := HCONV.out _ hk9
        go_region_held3 (fun w' => Sem.run Try.prog (convert 31 9 vs) w' = .ok (.string bs) w')
          (first | assumption | exact HCONV.out _ hk9)
          (first
            | (go_at_call 46; (with_reducible refine (HMS.out.le _).mono ?_); rintro e w5 ⟨rfl, rfl⟩)
            | (go_at_call 46; (with_reducible refine (HMS.out.nu _).mono ?_); rintro e w5 ⟨rfl, rfl⟩)
            | (go_at_call 48; (with_reducible refine (HRECS.out _).mono ?_); rintro e w5 ⟨v, b, rfl, hp1, hp2, hk5, ao', n', cap', rfl⟩; have HZ := Lib.hid hk9.size; replace hk9 := hk9.trans hk5; have HP1 := Lib.hid hp1; have HP2 := Lib.hid hp2; clear hk5 hp1 hp2 hcnow))
        all_goals (
          have HK9 := Lib.hid (HKW.out.trans hk9)
          have HK99 := Lib.hid hk9
          clear hk9
          by_cases hok : ∃ l, T = some l ∧ l.length = m.nu
          · obtain ⟨l, hl1, hl2⟩ := hok
            obtain ⟨rfl, hrow⟩ := HP1.out l hl1 hl2
            obtain rfl : n' = l.length := by
              rcases hrow.2 with ⟨hv, h0⟩ | ⟨g, cap, cur, hv, _⟩
              · injection hv with _ e2 _; rw [e2, h0]
              · injection hv
            have HROW := Lib.hid hrow
            have HL := Lib.hid (And.intro hl1 hl2)
            have hcut15 := fun V => mid_run V S (i := 15) (j := 23) (by omega) (by omega)
            have hcut23 := fun V => mid_run V S (i := 23) (j := 31) (by omega) (by omega)
            clear hl1 hl2 hrow HP1 HP2
            go_wp2_with fail
            go_region_held3 (fun _ => True)
              (trivial)
              (first
                | (go_at_call 46; (with_reducible refine (HMS.out.a _).mono ?_); rintro e w6 ⟨rfl, rfl⟩)
                | (go_at_call 46; (with_reducible refine (HMS.out.b _).mono ?_); rintro e w6 ⟨rfl, rfl⟩))
            all_goals (
              go_wp2_with fail
              go_ret2
              refine ⟨_, _, rfl, fun m' l' hs => ?_, fun hn => absurd ⟨m, l, ((HIS.out HC1.out l).2 HL.out)⟩ hn, ?_⟩
              · obtain rfl := HUN.out m' l' hs
                have h2 := (HIS.out HC1.out l').1 hs
                obtain rfl : l' = l := Option.some.inj (h2.1.symm.trans HL.out.1)
                have hrow := rowKept HROW.out (((Kept.refl (fun _ => False) w5).alloc (.cells #[.pointer (some ⟨q.x, 0, none⟩), .slice ao' l'.length cap', .int .i64 l'.length, .int .i64 m'.ar, .int .i64 m'.c, .int .i64 m'.a, .int .i64 m'.b, .bool false] 71)).drew) (fun _ _ f => f)
                exact ⟨rfl, _, rfl, HK9.out.size, ⟨⟨_, heap_alloc_new w5 _, row_base hrow (Nat.le_trans HKW.out.size HZ.out)⟩⟩⟩
              · exact (HK9.out.alloc _).drew)
          · have HOK := Lib.hid hok
            obtain rfl := HP2.out (fun l h1 h2 => hok ⟨l, h1, h2⟩)
            clear hok HP1 HP2
            go_wp2_with fail
            go_ret2
            exact ⟨_, _, rfl, fun m' l' hs => absurd ⟨l', (by have e := HUN.out m' l' hs; subst e; exact (HIS.out HC1.out l').1 hs)⟩ HOK.out, fun _ => ⟨rfl, rfl⟩, HK9.out⟩)
  · have HR0 := Lib.hid (fun V hk => xright_f (HH.out.kept (X := fun _ => False) (w' := V) hk (fun _ _ f => f)) 0 (by decide) h16 HSPI.out r0)
    have HR1 := Lib.hid (fun V hk => xright_t (HH.out.kept (X := fun _ => False) (w' := V) hk (fun _ _ f => f)) 1 (by decide) h16 HSPI.out r1)
    obtain ⟨S, hSe⟩ : ∃ S : ByteArray, (⟨(d.L 1).toArray⟩ : ByteArray) = S := ⟨_, rfl⟩
    have hSl : S.data.toList = d.L 1 := by rw [← hSe]
    have HMS : Hid (MarkS S m) := Lib.hid (markS_of (by rw [← list_size, hSl]; exact HSL.out 1 (by omega)) (by rw [hSl]; exact hz.symm) (by rw [hSl]; exact hr))
    have hSz : S.size = 64 := HMS.out.size
    have hcI : fld (d.L 1) 2 6 = (m.c : Int) := (congrArg MZ.c hz).symm
    have hc1 : 1 ≤ fld (d.L 1) 2 6 := hr.c1
    have HC1 : Hid (m.c ≠ 0) := Lib.hid (by omega)
    have hS6 : (S[6].toNat : Int) = (m.ar : Int) := by
      have := HMS.out.ar
      rw [show S.data.toList[6]? = some S[6] by rw [List.getElem?_eq_getElem (by rw [list_size]; omega)]; rfl] at this
      simp only [Option.getD_some] at this; omega
    have HCS : Hid (∀ V, Kept (fun _ => False) w V → V.cell? ⟨q.l, 1, none⟩ = some (.string S)) := Lib.hid (fun V hk => by rw [HCL.out V 1 hk (by omega), hSe])
    rw [hcI] at HR1
    clear r0 r1 hz hmc hr hSe hSl
    go_enter Try.func25, Try.ntmps25
    go_wp2_with fail
    refine (HR0.out _ (Kept.refl _ _)).mono ?_
    rintro e w1 ⟨rfl, hk1⟩
    have HK1 := Lib.hid hk1
    clear hk1
    go_wp2_with fail
    refine (HR1.out _ HK1.out).mono ?_
    rintro e w2 ⟨rfl, hk2⟩
    have HK2 := Lib.hid (HK1.out.trans hk2)
    clear hk2
    have c0 := HC0.out _ HK2.out
    have cs := HCS.out _ HK2.out
    go_wp2_with fail
    have HB2 : Hid (Below w.heap.size w w2) := Lib.hid (HK2.out.below (fun _ f => f.elim) (Nat.le_refl _))
    clear c0 cs HR0 HR1
    go_loopw [11, 12] (fun bv iv wr => XbRel w d.L st m.le bv iv wr) (fun _ iv _ => m.le + 64 - 64 * (Go.RowKit.intOf iv).toNat)
    case atStart => exact ⟨0, .inl rfl, rfl, World.ownsRow_nil _ _ _ _, HB2.out⟩
    case round =>
      obtain ⟨k, hk, rfl, hown, hbw⟩ := hrel.ex
      clear hrel HB2 HK2 HK1
      obtain ⟨ao, cap, rfl⟩ := slice_of_row hown
      have HOWN := Lib.hid hown
      have HB := Lib.hid hbw
      have hkw : Kept (fun _ => False) w wr := keptB hbw
      have HKW := Lib.hid hkw
      have hcut7 := fun V => mid_run V S (i := 7) (j := 11) (by omega) (by omega)
      clear hown hbw hkw
      by_cases hlt : 64 * k < m.le
      · have hks : k < sec := by omega
        have hlti : ((64 * k : Nat) : Int) < (m.le : Int) := by omega
        have HK := Lib.hid hk
        obtain ⟨idx, hidx⟩ : ∃ idx, st + k = idx := ⟨_, rfl⟩
        have hidn : idx < d.n := by omega
        obtain ⟨s, hs⟩ : ∃ s : ByteArray, (⟨(d.L idx).toArray⟩ : ByteArray) = s := ⟨_, rfl⟩
        have hsl : s.data.toList = d.L idx := by rw [← hs]
        have hs64 : s.size = 64 := by rw [← list_size, hsl]; exact HSL.out idx hidn
        have cc0 : wr.drew.cell? ⟨q.x, 0, none⟩ = _ := HC0.out _ HKW.out.drew
        have ccl : wr.drew.cell? ⟨q.l, idx, none⟩ = some (.string s) := by rw [← hs]; exact HCL.out _ idx HKW.out.drew hidn
        have HHF2 := Lib.hid (HHF.out _ HKW.out.drew)
        have HNX : Hid (Lib.byteCells (areaL d.L st (k + 1)) = Lib.byteCells (areaL d.L st k) ++ Lib.strCells s) := Lib.hid (by
          rw [areaL_succ, Lib.strCells_eq, hsl, hidx]; simp [Lib.byteCells])
        have hm1 : (m.ar : Int) * (sec : Int) = (x0 : Int) := by rw [← HX0.out]; push_cast; rfl
        have hm2 : (2 : Int) + (x0 : Int) = (st : Int) := by have := HST.out; omega
        have hm3 : (st : Int) + (k : Int) = (idx : Int) := by omega
        have hw1 : IntKind.i64.wrap (x0 : Int) = (x0 : Int) := by rw [IntKind.wrap_i64]; omega
        have hw2 : IntKind.i64.wrap (st : Int) = (st : Int) := by rw [IntKind.wrap_i64]; omega
        have hw3 : IntKind.i64.wrap (idx : Int) = (idx : Int) := by rw [IntKind.wrap_i64]; omega
        have hi0 : (0 : Int) ≤ (idx : Int) := by omega
        have hi1 : (idx : Int) < (d.n : Int) := by omega
        have HLT := Lib.hid hlt
        clear hs hsl hidx hlt hk
        go_wp2_with fail
        refine (HMS.out.le _).mono ?_
        rintro e w5 ⟨rfl, rfl⟩
        go_wp2_with fail
        refine wp_region_still_tail 14 (by kernel_rfl) (by kernel_rfl) ?_
        simp only [List.take_succ_cons, List.take_zero, List.drop_succ_cons, List.drop_zero]
        repeat still_step
        still_call HHF2.out
        repeat still_step
        refine wpStill_nil ?_
        change wpList _ _ _ _ _ wr.drew
        obtain ⟨i0, si, sz, ss, sbb⟩ := info_byte2
        have HSI := Lib.hid (And.intro si (And.intro sz (And.intro ss sbb)))
        have HOD : Hid (wr.drew.ownsRow w.heap.size 5 1 (.slice ao (64 * k) cap) (64 * k) (Lib.byteCells (areaL d.L st k))) := Lib.hid (rowKept HOWN.out ((Kept.refl (fun _ => False) wr).drew) (fun _ _ f => f))
        have HBD : Hid (Below w.heap.size w wr.drew) := Lib.hid (HB.out.trans ((Kept.refl (fun _ => False) wr).drew.below (fun _ f => f.elim) HB.out.size))
        clear si sz ss sbb cc0 ccl hm1 hm2 hm3 hw1 hw2 hw3 hi0 hi1
        generalize wr.drew = W2 at HOD HBD ⊢
        go_wp2_with (at_builtin; refine Lib.wpList_append_own_string _ rfl _ _ 31 9 rfl w.heap.size 5 i0 Try.underlying31 Try.underlying9 HSI.out.1 HSI.out.2.1 HSI.out.2.2.1 HSI.out.2.2.2 _ _ _ rfl HOD.out s rfl (by unfold maxLen; omega) (by omega) HBD.out.size (fun v' w6 hown' hg' _ => ?_); have HB6 := Lib.hid (HBD.out.grown hg' HBD.out.size (fun k hk => (HOD.out.lt k hk).1)); have HO6 : Hid (w6.ownsRow w.heap.size 5 1 v' (64 * (k + 1)) (Lib.byteCells (areaL d.L st (k + 1)))) := Lib.hid (by rw [HNX.out, show 64 * (k + 1) = 64 * k + s.size by omega]; exact hown'); clear hown' hg')
        go_wp2_with fail
        go_roundw
        case rel => exact ⟨k + 1, .inr (by have := HLT.out; simpa using this), by go_num, HO6.out, HB6.out⟩
        case measure => have h9 := HLT.out; simp [Go.RowKit.intOf]; omega
      · have hge : m.le ≤ 64 * k := by omega
        have hks : k ≤ sec := by omega
        have hgei : (m.le : Int) ≤ ((64 * k : Nat) : Int) := by omega
        have hcut11 := fun V => mid_run V S (i := 11) (j := 15) (by omega) (by omega)
        -- the bytes
        obtain ⟨vs, hsl1, hcv⟩ := xbytes_cut (W := wr) HOWN.out (by rw [Lib.byteCells_length, HAL.out k hks]) hge (HAR.out k hks hge)
        have HCONV := Lib.hid hcv
        have HLEC := Lib.hid HMS.out.le
        clear hcv hk
        go_wp2_with fail
        refine (HMS.out.le _).mono ?_
        rintro e w5 ⟨rfl, rfl⟩
        go_wp2_with fail
        have hk9 : Kept (fun _ => False) wr wr.drew := (Kept.refl _ wr).drew
        have hcnow := HCONV.out _ hk9
        go_region_held3 (fun w' => Sem.run Try.prog (convert 31 9 vs) w' = .ok (.string bs) w')
          (first | assumption | exact HCONV.out _ hk9)
          (first
            | (go_at_call 46; (with_reducible refine (HMS.out.le _).mono ?_); rintro e w5 ⟨rfl, rfl⟩)
            | (go_at_call 46; (with_reducible refine (HMS.out.nu _).mono ?_); rintro e w5 ⟨rfl, rfl⟩)
            | (go_at_call 48; (with_reducible refine (HRECS.out _).mono ?_); rintro e w5 ⟨v, b, rfl, hp1, hp2, hk5, ao', n', cap', rfl⟩; have HZ := Lib.hid hk9.size; replace hk9 := hk9.trans hk5; have HP1 := Lib.hid hp1; have HP2 := Lib.hid hp2; clear hk5 hp1 hp2 hcnow))
        all_goals (
          have HK9 := Lib.hid (HKW.out.trans hk9)
          have HK99 := Lib.hid hk9
          clear hk9
          by_cases hok : ∃ l, T = some l ∧ l.length = m.nu
          · obtain ⟨l, hl1, hl2⟩ := hok
            obtain ⟨rfl, hrow⟩ := HP1.out l hl1 hl2
            obtain rfl : n' = l.length := by
              rcases hrow.2 with ⟨hv, h0⟩ | ⟨g, cap, cur, hv, _⟩
              · injection hv with _ e2 _; rw [e2, h0]
              · injection hv
            have HROW := Lib.hid hrow
            have HL := Lib.hid (And.intro hl1 hl2)
            have hcut15 := fun V => mid_run V S (i := 15) (j := 23) (by omega) (by omega)
            have hcut23 := fun V => mid_run V S (i := 23) (j := 31) (by omega) (by omega)
            clear hl1 hl2 hrow HP1 HP2
            go_wp2_with fail
            go_region_held3 (fun _ => True)
              (trivial)
              (first
                | (go_at_call 46; (with_reducible refine (HMS.out.a _).mono ?_); rintro e w6 ⟨rfl, rfl⟩)
                | (go_at_call 46; (with_reducible refine (HMS.out.b _).mono ?_); rintro e w6 ⟨rfl, rfl⟩))
            all_goals (
              go_wp2_with fail
              go_ret2
              refine ⟨_, _, rfl, fun m' l' hs => ?_, fun hn => absurd ⟨m, l, ((HIS.out HC1.out l).2 HL.out)⟩ hn, ?_⟩
              · obtain rfl := HUN.out m' l' hs
                have h2 := (HIS.out HC1.out l').1 hs
                obtain rfl : l' = l := Option.some.inj (h2.1.symm.trans HL.out.1)
                have hrow := rowKept HROW.out (((Kept.refl (fun _ => False) w5).alloc (.cells #[.pointer (some ⟨q.x, 0, none⟩), .slice ao' l'.length cap', .int .i64 l'.length, .int .i64 m'.ar, .int .i64 m'.c, .int .i64 m'.a, .int .i64 m'.b, .bool false] 71)).drew) (fun _ _ f => f)
                exact ⟨rfl, _, rfl, HK9.out.size, ⟨⟨_, heap_alloc_new w5 _, row_base hrow (Nat.le_trans HKW.out.size HZ.out)⟩⟩⟩
              · exact (HK9.out.alloc _).drew)
          · have HOK := Lib.hid hok
            obtain rfl := HP2.out (fun l h1 h2 => hok ⟨l, h1, h2⟩)
            clear hok HP1 HP2
            go_wp2_with fail
            go_ret2
            exact ⟨_, _, rfl, fun m' l' hs => absurd ⟨l', (by have e := HUN.out m' l' hs; subst e; exact (HIS.out HC1.out l').1 hs)⟩ HOK.out, fun _ => ⟨rfl, rfl⟩, HK9.out⟩)
  · have HR0 := Lib.hid (fun V hk => xright_t (HH.out.kept (X := fun _ => False) (w' := V) hk (fun _ _ f => f)) 0 (by decide) h16 HSPI.out r0)
    have HR1 := Lib.hid (fun V hk => xright_t (HH.out.kept (X := fun _ => False) (w' := V) hk (fun _ _ f => f)) 1 (by decide) h16 HSPI.out r1)
    obtain ⟨S, hSe⟩ : ∃ S : ByteArray, (⟨(d.L 0).toArray⟩ : ByteArray) = S := ⟨_, rfl⟩
    have hSl : S.data.toList = d.L 0 := by rw [← hSe]
    have HMS : Hid (MarkS S m) := Lib.hid (markS_of (by rw [← list_size, hSl]; exact HSL.out 0 (by omega)) (by rw [hSl]; exact hz.symm) (by rw [hSl]; exact hr))
    have hSz : S.size = 64 := HMS.out.size
    have hcI : fld (d.L 0) 2 6 = (m.c : Int) := (congrArg MZ.c hz).symm
    have hc1 : 1 ≤ fld (d.L 0) 2 6 := hr.c1
    have HC1 : Hid (m.c ≠ 0) := Lib.hid (by omega)
    have hS6 : (S[6].toNat : Int) = (m.ar : Int) := by
      have := HMS.out.ar
      rw [show S.data.toList[6]? = some S[6] by rw [List.getElem?_eq_getElem (by rw [list_size]; omega)]; rfl] at this
      simp only [Option.getD_some] at this; omega
    have HCS : Hid (∀ V, Kept (fun _ => False) w V → V.cell? ⟨q.l, 0, none⟩ = some (.string S)) := Lib.hid (fun V hk => by rw [HCL.out V 0 hk (by omega), hSe])
    obtain ⟨k0, hk0⟩ : ∃ k0, fld (d.L 0) 2 6 = k0 := ⟨_, rfl⟩
    obtain ⟨k1, hk1⟩ : ∃ k1, fld (d.L 1) 2 6 = k1 := ⟨_, rfl⟩
    rw [hk0, hk1] at hcc
    rw [hk0] at HR0
    rw [hk1] at HR1
    rw [hk0] at hcI hc1
    have HCI := Lib.hid hcI
    clear hk0 hk1 hcI
    clear r0 r1 hz hmc hr hSe hSl
    go_enter Try.func25, Try.ntmps25
    go_wp2_with fail
    refine (HR0.out _ (Kept.refl _ _)).mono ?_
    rintro e w1 ⟨rfl, hk1⟩
    have HK1 := Lib.hid hk1
    clear hk1
    go_wp2_with fail
    refine (HR1.out _ HK1.out).mono ?_
    rintro e w2 ⟨rfl, hk2⟩
    have HK2 := Lib.hid (HK1.out.trans hk2)
    clear hk2
    have c0 := HC0.out _ HK2.out
    have cs := HCS.out _ HK2.out
    go_wp2_with fail
    have HB2 : Hid (Below w.heap.size w w2) := Lib.hid (HK2.out.below (fun _ f => f.elim) (Nat.le_refl _))
    clear c0 cs HR0 HR1
    rw [HCI.out]
    go_loopw [11, 12] (fun bv iv wr => XbRel w d.L st m.le bv iv wr) (fun _ iv _ => m.le + 64 - 64 * (Go.RowKit.intOf iv).toNat)
    case atStart => exact ⟨0, .inl rfl, rfl, World.ownsRow_nil _ _ _ _, HB2.out⟩
    case round =>
      obtain ⟨k, hk, rfl, hown, hbw⟩ := hrel.ex
      clear hrel HB2 HK2 HK1
      obtain ⟨ao, cap, rfl⟩ := slice_of_row hown
      have HOWN := Lib.hid hown
      have HB := Lib.hid hbw
      have hkw : Kept (fun _ => False) w wr := keptB hbw
      have HKW := Lib.hid hkw
      have hcut7 := fun V => mid_run V S (i := 7) (j := 11) (by omega) (by omega)
      clear hown hbw hkw
      by_cases hlt : 64 * k < m.le
      · have hks : k < sec := by omega
        have hlti : ((64 * k : Nat) : Int) < (m.le : Int) := by omega
        have HK := Lib.hid hk
        obtain ⟨idx, hidx⟩ : ∃ idx, st + k = idx := ⟨_, rfl⟩
        have hidn : idx < d.n := by omega
        obtain ⟨s, hs⟩ : ∃ s : ByteArray, (⟨(d.L idx).toArray⟩ : ByteArray) = s := ⟨_, rfl⟩
        have hsl : s.data.toList = d.L idx := by rw [← hs]
        have hs64 : s.size = 64 := by rw [← list_size, hsl]; exact HSL.out idx hidn
        have cc0 : wr.drew.cell? ⟨q.x, 0, none⟩ = _ := HC0.out _ HKW.out.drew
        have ccl : wr.drew.cell? ⟨q.l, idx, none⟩ = some (.string s) := by rw [← hs]; exact HCL.out _ idx HKW.out.drew hidn
        have HHF2 := Lib.hid (HHF.out _ HKW.out.drew)
        have HNX : Hid (Lib.byteCells (areaL d.L st (k + 1)) = Lib.byteCells (areaL d.L st k) ++ Lib.strCells s) := Lib.hid (by
          rw [areaL_succ, Lib.strCells_eq, hsl, hidx]; simp [Lib.byteCells])
        have hm1 : (m.ar : Int) * (sec : Int) = (x0 : Int) := by rw [← HX0.out]; push_cast; rfl
        have hm2 : (2 : Int) + (x0 : Int) = (st : Int) := by have := HST.out; omega
        have hm3 : (st : Int) + (k : Int) = (idx : Int) := by omega
        have hw1 : IntKind.i64.wrap (x0 : Int) = (x0 : Int) := by rw [IntKind.wrap_i64]; omega
        have hw2 : IntKind.i64.wrap (st : Int) = (st : Int) := by rw [IntKind.wrap_i64]; omega
        have hw3 : IntKind.i64.wrap (idx : Int) = (idx : Int) := by rw [IntKind.wrap_i64]; omega
        have hi0 : (0 : Int) ≤ (idx : Int) := by omega
        have hi1 : (idx : Int) < (d.n : Int) := by omega
        have HLT := Lib.hid hlt
        clear hs hsl hidx hlt hk
        go_wp2_with fail
        refine (HMS.out.le _).mono ?_
        rintro e w5 ⟨rfl, rfl⟩
        go_wp2_with fail
        refine wp_region_still_tail 14 (by kernel_rfl) (by kernel_rfl) ?_
        simp only [List.take_succ_cons, List.take_zero, List.drop_succ_cons, List.drop_zero]
        repeat still_step
        still_call HHF2.out
        repeat still_step
        refine wpStill_nil ?_
        change wpList _ _ _ _ _ wr.drew
        obtain ⟨i0, si, sz, ss, sbb⟩ := info_byte2
        have HSI := Lib.hid (And.intro si (And.intro sz (And.intro ss sbb)))
        have HOD : Hid (wr.drew.ownsRow w.heap.size 5 1 (.slice ao (64 * k) cap) (64 * k) (Lib.byteCells (areaL d.L st k))) := Lib.hid (rowKept HOWN.out ((Kept.refl (fun _ => False) wr).drew) (fun _ _ f => f))
        have HBD : Hid (Below w.heap.size w wr.drew) := Lib.hid (HB.out.trans ((Kept.refl (fun _ => False) wr).drew.below (fun _ f => f.elim) HB.out.size))
        clear si sz ss sbb cc0 ccl hm1 hm2 hm3 hw1 hw2 hw3 hi0 hi1
        generalize wr.drew = W2 at HOD HBD ⊢
        go_wp2_with (at_builtin; refine Lib.wpList_append_own_string _ rfl _ _ 31 9 rfl w.heap.size 5 i0 Try.underlying31 Try.underlying9 HSI.out.1 HSI.out.2.1 HSI.out.2.2.1 HSI.out.2.2.2 _ _ _ rfl HOD.out s rfl (by unfold maxLen; omega) (by omega) HBD.out.size (fun v' w6 hown' hg' _ => ?_); have HB6 := Lib.hid (HBD.out.grown hg' HBD.out.size (fun k hk => (HOD.out.lt k hk).1)); have HO6 : Hid (w6.ownsRow w.heap.size 5 1 v' (64 * (k + 1)) (Lib.byteCells (areaL d.L st (k + 1)))) := Lib.hid (by rw [HNX.out, show 64 * (k + 1) = 64 * k + s.size by omega]; exact hown'); clear hown' hg')
        go_wp2_with fail
        go_roundw
        case rel => exact ⟨k + 1, .inr (by have := HLT.out; simpa using this), by go_num, HO6.out, HB6.out⟩
        case measure => have h9 := HLT.out; simp [Go.RowKit.intOf]; omega
      · have hge : m.le ≤ 64 * k := by omega
        have hks : k ≤ sec := by omega
        have hgei : (m.le : Int) ≤ ((64 * k : Nat) : Int) := by omega
        have hcut11 := fun V => mid_run V S (i := 11) (j := 15) (by omega) (by omega)
        -- the bytes
        obtain ⟨vs, hsl1, hcv⟩ := xbytes_cut (W := wr) HOWN.out (by rw [Lib.byteCells_length, HAL.out k hks]) hge (HAR.out k hks hge)
        have HCONV := Lib.hid hcv
        have HLEC := Lib.hid HMS.out.le
        clear hcv hk
        go_wp2_with fail
        refine (HMS.out.le _).mono ?_
        rintro e w5 ⟨rfl, rfl⟩
        go_wp2_with fail
        have hk9 : Kept (fun _ => False) wr wr.drew := (Kept.refl _ wr).drew
        have hcnow := HCONV.out _ hk9
        go_region_held3 (fun w' => Sem.run Try.prog (convert 31 9 vs) w' = .ok (.string bs) w')
          (first | assumption | exact HCONV.out _ hk9)
          (first
            | (go_at_call 46; (with_reducible refine (HMS.out.le _).mono ?_); rintro e w5 ⟨rfl, rfl⟩)
            | (go_at_call 46; (with_reducible refine (HMS.out.nu _).mono ?_); rintro e w5 ⟨rfl, rfl⟩)
            | (go_at_call 48; (with_reducible refine (HRECS.out _).mono ?_); rintro e w5 ⟨v, b, rfl, hp1, hp2, hk5, ao', n', cap', rfl⟩; have HZ := Lib.hid hk9.size; replace hk9 := hk9.trans hk5; have HP1 := Lib.hid hp1; have HP2 := Lib.hid hp2; clear hk5 hp1 hp2 hcnow))
        all_goals (
          have HK9 := Lib.hid (HKW.out.trans hk9)
          have HK99 := Lib.hid hk9
          clear hk9
          by_cases hok : ∃ l, T = some l ∧ l.length = m.nu
          · obtain ⟨l, hl1, hl2⟩ := hok
            obtain ⟨rfl, hrow⟩ := HP1.out l hl1 hl2
            obtain rfl : n' = l.length := by
              rcases hrow.2 with ⟨hv, h0⟩ | ⟨g, cap, cur, hv, _⟩
              · injection hv with _ e2 _; rw [e2, h0]
              · injection hv
            have HROW := Lib.hid hrow
            have HL := Lib.hid (And.intro hl1 hl2)
            have hcut15 := fun V => mid_run V S (i := 15) (j := 23) (by omega) (by omega)
            have hcut23 := fun V => mid_run V S (i := 23) (j := 31) (by omega) (by omega)
            clear hl1 hl2 hrow HP1 HP2
            go_wp2_with fail
            go_region_held3 (fun _ => True)
              (trivial)
              (first
                | (go_at_call 46; (with_reducible refine (HMS.out.a _).mono ?_); rintro e w6 ⟨rfl, rfl⟩)
                | (go_at_call 46; (with_reducible refine (HMS.out.b _).mono ?_); rintro e w6 ⟨rfl, rfl⟩))
            all_goals (
              go_wp2_with fail
              go_ret2
              refine ⟨_, _, rfl, fun m' l' hs => ?_, fun hn => absurd ⟨m, l, ((HIS.out HC1.out l).2 HL.out)⟩ hn, ?_⟩
              · obtain rfl := HUN.out m' l' hs
                have h2 := (HIS.out HC1.out l').1 hs
                obtain rfl : l' = l := Option.some.inj (h2.1.symm.trans HL.out.1)
                have hrow := rowKept HROW.out (((Kept.refl (fun _ => False) w5).alloc (.cells #[.pointer (some ⟨q.x, 0, none⟩), .slice ao' l'.length cap', .int .i64 l'.length, .int .i64 m'.ar, .int .i64 m'.c, .int .i64 m'.a, .int .i64 m'.b, .bool false] 71)).drew) (fun _ _ f => f)
                exact ⟨rfl, _, rfl, HK9.out.size, ⟨⟨_, heap_alloc_new w5 _, row_base hrow (Nat.le_trans HKW.out.size HZ.out)⟩⟩⟩
              · exact (HK9.out.alloc _).drew)
          · have HOK := Lib.hid hok
            obtain rfl := HP2.out (fun l h1 h2 => hok ⟨l, h1, h2⟩)
            clear hok HP1 HP2
            go_wp2_with fail
            go_ret2
            exact ⟨_, _, rfl, fun m' l' hs => absurd ⟨l', (by have e := HUN.out m' l' hs; subst e; exact (HIS.out HC1.out l').1 hs)⟩ HOK.out, fun _ => ⟨rfl, rfl⟩, HK9.out⟩)
  · have HR0 := Lib.hid (fun V hk => xright_t (HH.out.kept (X := fun _ => False) (w' := V) hk (fun _ _ f => f)) 0 (by decide) h16 HSPI.out r0)
    have HR1 := Lib.hid (fun V hk => xright_t (HH.out.kept (X := fun _ => False) (w' := V) hk (fun _ _ f => f)) 1 (by decide) h16 HSPI.out r1)
    obtain ⟨S, hSe⟩ : ∃ S : ByteArray, (⟨(d.L 1).toArray⟩ : ByteArray) = S := ⟨_, rfl⟩
    have hSl : S.data.toList = d.L 1 := by rw [← hSe]
    have HMS : Hid (MarkS S m) := Lib.hid (markS_of (by rw [← list_size, hSl]; exact HSL.out 1 (by omega)) (by rw [hSl]; exact hz.symm) (by rw [hSl]; exact hr))
    have hSz : S.size = 64 := HMS.out.size
    have hcI : fld (d.L 1) 2 6 = (m.c : Int) := (congrArg MZ.c hz).symm
    have hc1 : 1 ≤ fld (d.L 1) 2 6 := hr.c1
    have HC1 : Hid (m.c ≠ 0) := Lib.hid (by omega)
    have hS6 : (S[6].toNat : Int) = (m.ar : Int) := by
      have := HMS.out.ar
      rw [show S.data.toList[6]? = some S[6] by rw [List.getElem?_eq_getElem (by rw [list_size]; omega)]; rfl] at this
      simp only [Option.getD_some] at this; omega
    have HCS : Hid (∀ V, Kept (fun _ => False) w V → V.cell? ⟨q.l, 1, none⟩ = some (.string S)) := Lib.hid (fun V hk => by rw [HCL.out V 1 hk (by omega), hSe])
    obtain ⟨k0, hk0⟩ : ∃ k0, fld (d.L 0) 2 6 = k0 := ⟨_, rfl⟩
    obtain ⟨k1, hk1⟩ : ∃ k1, fld (d.L 1) 2 6 = k1 := ⟨_, rfl⟩
    rw [hk0, hk1] at hcc
    rw [hk0] at HR0
    rw [hk1] at HR1
    rw [hk1] at hcI hc1
    have HCI := Lib.hid hcI
    clear hk0 hk1 hcI
    clear r0 r1 hz hmc hr hSe hSl
    go_enter Try.func25, Try.ntmps25
    go_wp2_with fail
    refine (HR0.out _ (Kept.refl _ _)).mono ?_
    rintro e w1 ⟨rfl, hk1⟩
    have HK1 := Lib.hid hk1
    clear hk1
    go_wp2_with fail
    refine (HR1.out _ HK1.out).mono ?_
    rintro e w2 ⟨rfl, hk2⟩
    have HK2 := Lib.hid (HK1.out.trans hk2)
    clear hk2
    have c0 := HC0.out _ HK2.out
    have cs := HCS.out _ HK2.out
    go_wp2_with fail
    have HB2 : Hid (Below w.heap.size w w2) := Lib.hid (HK2.out.below (fun _ f => f.elim) (Nat.le_refl _))
    clear c0 cs HR0 HR1
    rw [HCI.out]
    go_loopw [11, 12] (fun bv iv wr => XbRel w d.L st m.le bv iv wr) (fun _ iv _ => m.le + 64 - 64 * (Go.RowKit.intOf iv).toNat)
    case atStart => exact ⟨0, .inl rfl, rfl, World.ownsRow_nil _ _ _ _, HB2.out⟩
    case round =>
      obtain ⟨k, hk, rfl, hown, hbw⟩ := hrel.ex
      clear hrel HB2 HK2 HK1
      obtain ⟨ao, cap, rfl⟩ := slice_of_row hown
      have HOWN := Lib.hid hown
      have HB := Lib.hid hbw
      have hkw : Kept (fun _ => False) w wr := keptB hbw
      have HKW := Lib.hid hkw
      have hcut7 := fun V => mid_run V S (i := 7) (j := 11) (by omega) (by omega)
      clear hown hbw hkw
      by_cases hlt : 64 * k < m.le
      · have hks : k < sec := by omega
        have hlti : ((64 * k : Nat) : Int) < (m.le : Int) := by omega
        have HK := Lib.hid hk
        obtain ⟨idx, hidx⟩ : ∃ idx, st + k = idx := ⟨_, rfl⟩
        have hidn : idx < d.n := by omega
        obtain ⟨s, hs⟩ : ∃ s : ByteArray, (⟨(d.L idx).toArray⟩ : ByteArray) = s := ⟨_, rfl⟩
        have hsl : s.data.toList = d.L idx := by rw [← hs]
        have hs64 : s.size = 64 := by rw [← list_size, hsl]; exact HSL.out idx hidn
        have cc0 : wr.drew.cell? ⟨q.x, 0, none⟩ = _ := HC0.out _ HKW.out.drew
        have ccl : wr.drew.cell? ⟨q.l, idx, none⟩ = some (.string s) := by rw [← hs]; exact HCL.out _ idx HKW.out.drew hidn
        have HHF2 := Lib.hid (HHF.out _ HKW.out.drew)
        have HNX : Hid (Lib.byteCells (areaL d.L st (k + 1)) = Lib.byteCells (areaL d.L st k) ++ Lib.strCells s) := Lib.hid (by
          rw [areaL_succ, Lib.strCells_eq, hsl, hidx]; simp [Lib.byteCells])
        have hm1 : (m.ar : Int) * (sec : Int) = (x0 : Int) := by rw [← HX0.out]; push_cast; rfl
        have hm2 : (2 : Int) + (x0 : Int) = (st : Int) := by have := HST.out; omega
        have hm3 : (st : Int) + (k : Int) = (idx : Int) := by omega
        have hw1 : IntKind.i64.wrap (x0 : Int) = (x0 : Int) := by rw [IntKind.wrap_i64]; omega
        have hw2 : IntKind.i64.wrap (st : Int) = (st : Int) := by rw [IntKind.wrap_i64]; omega
        have hw3 : IntKind.i64.wrap (idx : Int) = (idx : Int) := by rw [IntKind.wrap_i64]; omega
        have hi0 : (0 : Int) ≤ (idx : Int) := by omega
        have hi1 : (idx : Int) < (d.n : Int) := by omega
        have HLT := Lib.hid hlt
        clear hs hsl hidx hlt hk
        go_wp2_with fail
        refine (HMS.out.le _).mono ?_
        rintro e w5 ⟨rfl, rfl⟩
        go_wp2_with fail
        refine wp_region_still_tail 14 (by kernel_rfl) (by kernel_rfl) ?_
        simp only [List.take_succ_cons, List.take_zero, List.drop_succ_cons, List.drop_zero]
        repeat still_step
        still_call HHF2.out
        repeat still_step
        refine wpStill_nil ?_
        change wpList _ _ _ _ _ wr.drew
        obtain ⟨i0, si, sz, ss, sbb⟩ := info_byte2
        have HSI := Lib.hid (And.intro si (And.intro sz (And.intro ss sbb)))
        have HOD : Hid (wr.drew.ownsRow w.heap.size 5 1 (.slice ao (64 * k) cap) (64 * k) (Lib.byteCells (areaL d.L st k))) := Lib.hid (rowKept HOWN.out ((Kept.refl (fun _ => False) wr).drew) (fun _ _ f => f))
        have HBD : Hid (Below w.heap.size w wr.drew) := Lib.hid (HB.out.trans ((Kept.refl (fun _ => False) wr).drew.below (fun _ f => f.elim) HB.out.size))
        clear si sz ss sbb cc0 ccl hm1 hm2 hm3 hw1 hw2 hw3 hi0 hi1
        generalize wr.drew = W2 at HOD HBD ⊢
        go_wp2_with (at_builtin; refine Lib.wpList_append_own_string _ rfl _ _ 31 9 rfl w.heap.size 5 i0 Try.underlying31 Try.underlying9 HSI.out.1 HSI.out.2.1 HSI.out.2.2.1 HSI.out.2.2.2 _ _ _ rfl HOD.out s rfl (by unfold maxLen; omega) (by omega) HBD.out.size (fun v' w6 hown' hg' _ => ?_); have HB6 := Lib.hid (HBD.out.grown hg' HBD.out.size (fun k hk => (HOD.out.lt k hk).1)); have HO6 : Hid (w6.ownsRow w.heap.size 5 1 v' (64 * (k + 1)) (Lib.byteCells (areaL d.L st (k + 1)))) := Lib.hid (by rw [HNX.out, show 64 * (k + 1) = 64 * k + s.size by omega]; exact hown'); clear hown' hg')
        go_wp2_with fail
        go_roundw
        case rel => exact ⟨k + 1, .inr (by have := HLT.out; simpa using this), by go_num, HO6.out, HB6.out⟩
        case measure => have h9 := HLT.out; simp [Go.RowKit.intOf]; omega
      · have hge : m.le ≤ 64 * k := by omega
        have hks : k ≤ sec := by omega
        have hgei : (m.le : Int) ≤ ((64 * k : Nat) : Int) := by omega
        have hcut11 := fun V => mid_run V S (i := 11) (j := 15) (by omega) (by omega)
        -- the bytes
        obtain ⟨vs, hsl1, hcv⟩ := xbytes_cut (W := wr) HOWN.out (by rw [Lib.byteCells_length, HAL.out k hks]) hge (HAR.out k hks hge)
        have HCONV := Lib.hid hcv
        have HLEC := Lib.hid HMS.out.le
        clear hcv hk
        go_wp2_with fail
        refine (HMS.out.le _).mono ?_
        rintro e w5 ⟨rfl, rfl⟩
        go_wp2_with fail
        have hk9 : Kept (fun _ => False) wr wr.drew := (Kept.refl _ wr).drew
        have hcnow := HCONV.out _ hk9
        go_region_held3 (fun w' => Sem.run Try.prog (convert 31 9 vs) w' = .ok (.string bs) w')
          (first | assumption | exact HCONV.out _ hk9)
          (first
            | (go_at_call 46; (with_reducible refine (HMS.out.le _).mono ?_); rintro e w5 ⟨rfl, rfl⟩)
            | (go_at_call 46; (with_reducible refine (HMS.out.nu _).mono ?_); rintro e w5 ⟨rfl, rfl⟩)
            | (go_at_call 48; (with_reducible refine (HRECS.out _).mono ?_); rintro e w5 ⟨v, b, rfl, hp1, hp2, hk5, ao', n', cap', rfl⟩; have HZ := Lib.hid hk9.size; replace hk9 := hk9.trans hk5; have HP1 := Lib.hid hp1; have HP2 := Lib.hid hp2; clear hk5 hp1 hp2 hcnow))
        all_goals (
          have HK9 := Lib.hid (HKW.out.trans hk9)
          have HK99 := Lib.hid hk9
          clear hk9
          by_cases hok : ∃ l, T = some l ∧ l.length = m.nu
          · obtain ⟨l, hl1, hl2⟩ := hok
            obtain ⟨rfl, hrow⟩ := HP1.out l hl1 hl2
            obtain rfl : n' = l.length := by
              rcases hrow.2 with ⟨hv, h0⟩ | ⟨g, cap, cur, hv, _⟩
              · injection hv with _ e2 _; rw [e2, h0]
              · injection hv
            have HROW := Lib.hid hrow
            have HL := Lib.hid (And.intro hl1 hl2)
            have hcut15 := fun V => mid_run V S (i := 15) (j := 23) (by omega) (by omega)
            have hcut23 := fun V => mid_run V S (i := 23) (j := 31) (by omega) (by omega)
            clear hl1 hl2 hrow HP1 HP2
            go_wp2_with fail
            go_region_held3 (fun _ => True)
              (trivial)
              (first
                | (go_at_call 46; (with_reducible refine (HMS.out.a _).mono ?_); rintro e w6 ⟨rfl, rfl⟩)
                | (go_at_call 46; (with_reducible refine (HMS.out.b _).mono ?_); rintro e w6 ⟨rfl, rfl⟩))
            all_goals (
              go_wp2_with fail
              go_ret2
              refine ⟨_, _, rfl, fun m' l' hs => ?_, fun hn => absurd ⟨m, l, ((HIS.out HC1.out l).2 HL.out)⟩ hn, ?_⟩
              · obtain rfl := HUN.out m' l' hs
                have h2 := (HIS.out HC1.out l').1 hs
                obtain rfl : l' = l := Option.some.inj (h2.1.symm.trans HL.out.1)
                have hrow := rowKept HROW.out (((Kept.refl (fun _ => False) w5).alloc (.cells #[.pointer (some ⟨q.x, 0, none⟩), .slice ao' l'.length cap', .int .i64 l'.length, .int .i64 m'.ar, .int .i64 m'.c, .int .i64 m'.a, .int .i64 m'.b, .bool false] 71)).drew) (fun _ _ f => f)
                exact ⟨rfl, _, rfl, HK9.out.size, ⟨⟨_, heap_alloc_new w5 _, row_base hrow (Nat.le_trans HKW.out.size HZ.out)⟩⟩⟩
              · exact (HK9.out.alloc _).drew)
          · have HOK := Lib.hid hok
            obtain rfl := HP2.out (fun l h1 h2 => hok ⟨l, h1, h2⟩)
            clear hok HP1 HP2
            go_wp2_with fail
            go_ret2
            exact ⟨_, _, rfl, fun m' l' hs => absurd ⟨l', (by have e := HUN.out m' l' hs; subst e; exact (HIS.out HC1.out l').1 hs)⟩ HOK.out, fun _ => ⟨rfl, rfl⟩, HK9.out⟩)
end Go.Proofs.Ytmfngbgdmlnlcaa
