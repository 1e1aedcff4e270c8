/- The law's awake. -/
import Derived.Test.YtccoeccibokecaaNz
namespace Go.Proofs.Ytccoeccibokecaa
open Go.ChangeShapes Go.WideShapes Go.ChangeAt Go.RowKit Go.Maps
set_option linter.unusedVariables false
set_option linter.unusedSimpArgs false
theorem par_slash : parS slashS ≠ slashS := by decide
theorem aw_kids {l : List ByteArray} (h : Below1 awM slashS l) : l.length = 1 := by
  have hpa : pa ∈ l := (h.mem pa).2 ⟨by
    show (updN (updN newM.N slashS.data.toList (some aRoot)) pa.data.toList (some aN1) pa.data.toList).isSome = true
    rw [updN_same]; rfl, par_pa⟩
  have hall : ∀ x ∈ l, x = pa := fun x hx => by
    obtain ⟨h1, h2⟩ := (h.mem x).1 hx
    by_cases e : x.data.toList = pa.data.toList
    · exact ba_inj e
    · by_cases e2 : x.data.toList = slashS.data.toList
      · exact absurd (ba_inj e2 ▸ h2) par_slash
      · have h3 : (updN (updN newM.N slashS.data.toList (some aRoot)) pa.data.toList (some aN1) x.data.toList).isSome = true := h1
        rw [updN_other _ _ _ e, updN_other _ _ _ e2, new_other e2] at h3; cases h3
  have hn := h.one
  match l, hpa, hall, hn with
  | [a], _, _, _ => rfl
  | a :: b :: r, _, hall, hn =>
    have e1 := hall a (by simp)
    have e2 := hall b (by simp)
    subst e1
    simp [e2] at hn
theorem par_pa2 : parS pa ≠ pa := by decide
theorem par_slash2 : parS slashS ≠ pa := by decide
theorem aw_kids0 {l : List ByteArray} (h : Below1 awM pa l) : l.length = 0 := by
  cases l with
  | nil => rfl
  | cons x l =>
    obtain ⟨h1, h2⟩ := (h.mem x).1 (by simp)
    by_cases e : x.data.toList = pa.data.toList
    · exact absurd (ba_inj e ▸ h2) par_pa2
    · by_cases e2 : x.data.toList = slashS.data.toList
      · exact absurd (ba_inj e2 ▸ h2) par_slash2
      · have h3 : (updN (updN newM.N slashS.data.toList (some aRoot)) pa.data.toList (some aN1) x.data.toList).isSome = true := h1
        rw [updN_other _ _ _ e, updN_other _ _ _ e2, new_other e2] at h3; cases h3
theorem aw_pa : awM.N pa.data.toList = some aN1 := by
  show updN (updN newM.N slashS.data.toList (some aRoot)) pa.data.toList (some aN1) pa.data.toList = some aN1
  rw [updN_same]
theorem Below1.of {M : TM} {S : Int → Option (Int × ByteArray)} {z : Int} {p : ByteArray} {l : List ByteArray} (h : Below1 { N := M.N, S := S, z := z } p l) : Below1 M p l := ⟨h.one, h.mem⟩
theorem aw_root : awM.N slashS.data.toList = some aRoot := by
  show updN (updN newM.N slashS.data.toList (some aRoot)) pa.data.toList (some aN1) slashS.data.toList = some aRoot
  rw [updN_other _ _ _ (by decide), updN_same]
def tx0 : TX := ⟨none, 0, 0, 0, none, 0, 0⟩
theorem txAt0 (q : TB) (w : World) (x : T1) (h : x.acl = []) : TxAt q w x tx0 := ⟨⟨.inl ⟨rfl, h⟩, by rw [h]; decide⟩, fun a e => by cases e⟩
set_option maxRecDepth 100000 in
set_option maxHeartbeats 1000000 in
theorem tawake_any (w : World) : Calls Try.prog 8 #[] w (QPost true w) := by
  have HNw := Lib.hid (tnew_any w (B := w.heap.size) (Nat.le_refl _))
  go_enter Try.func8, Try.ntmps8
  go_wp2_with fail
  refine HNw.out.mono ?_
  rintro e w1 ⟨q, rfl, hT, hk, hq⟩
  have HQ := Lib.hid hq
  have HT1 := Lib.hid hT
  have HK1 := Lib.hid hk
  have HL1 := Lib.hid hT.lt
  clear hT hk hq
  go_wp2_with fail
  refine (apply_one HT1.out aw1 tx0 ⟨5, 0, 0⟩ (txAt0 _ _ _ rfl) (by decide) (by decide) (by decide) (by decide) (by decide) (by decide)).mono ?_
  rintro e w2 ⟨v, rfl, hv, hT, hk⟩
  rw [aw_first.1] at hT
  rw [aw_first.2] at hv
  have HT2 := Lib.hid hT
  have HV2 := Lib.hid hv
  have HK2 : Hid (Kept (fun _ => False) w w2) := Lib.hid (HK1.out.trans' hk (fun k hk e => by have := HQ.out k e; omega))
  have HL2 := Lib.hid hT.lt
  clear hT hv hk
  go_wp2_with fail
  refine (apply_one HT2.out aw2 tx0 ⟨6, 0, 0⟩ (txAt0 _ _ _ rfl) (by decide) (by decide) (by decide) (by decide) (by decide) (by decide)).mono ?_
  rintro e w3 ⟨v3, rfl, hv3, hT, hk⟩
  rw [aw_second] at hT hv3
  have HT3 := Lib.hid hT
  have HV3 := Lib.hid (ownKept HV2.out hk (fun k hk e => by have h1 := own_ge HV2.out hk; have h2 := HL1.out k e; omega))
  have HK3 : Hid (Kept (fun _ => False) w w3) := Lib.hid (HK2.out.trans' hk (fun k hk e => by have := HQ.out k e; omega))
  have HW3 : Hid (∃ a cap, v3 = .slice a 0 cap) := Lib.hid (by
    obtain ⟨a, cap, h, _⟩ := (EvsAt.rows hv3).ex
    exact ⟨a, cap, h⟩)
  clear hT hv3 hk
  obtain ⟨a3, cap3, rfl⟩ := HW3.out
  go_wp2_with fail
  refine (get_any HT3.out pa (by decide) (by decide)).mono ?_
  rintro e w4 ⟨hk4, hcase⟩
  have HG : Hid (e = .returned (.tuple #[.string ⟨#[120]⟩, .agg #[.int .i64 5, .int .i64 5, .int .i64 5, .int .i64 0, .int .i64 0, .int .i64 0, .int .i64 0, .int .i64 1, .int .i64 0], .int .i64 0])) := Lib.hid (by
    rcases hcase with ⟨h1, _⟩ | ⟨nd, l, h1, h2, h3⟩
    · rw [aw_pa] at h1; cases h1
    · rw [aw_pa] at h1; injection h1 with h1; subst h1
      rw [h3, aw_kids0 h2.of]; rfl)
  obtain rfl := HG.out
  have HT4 := Lib.hid (HT3.out.kept0 hk4)
  have HV4 := Lib.hid (ownKept HV3.out hk4 (fun _ _ f => f))
  have HK4 := Lib.hid (HK3.out.trans hk4)
  clear hk4 hcase HG
  go_wp2_with fail
  have hka : Kept (fun _ => False) w4 (w4.alloc (.cells #[.int .i64 5, .int .i64 5, .int .i64 5, .int .i64 0, .int .i64 0, .int .i64 0, .int .i64 0, .int .i64 1, .int .i64 0] 56)) := (Kept.refl _ w4).alloc _
  refine (stat_any (HT4.out.kept0 hka) slashS (by decide) (by decide)).mono ?_
  rintro e w5 ⟨hk5, hcase⟩
  have HG : Hid (e = .returned (.tuple #[.agg #[.int .i64 0, .int .i64 0, .int .i64 5, .int .i64 0, .int .i64 1, .int .i64 0, .int .i64 0, .int .i64 0, .int .i64 1], .bool true])) := Lib.hid (by
    rcases hcase with ⟨h1, _⟩ | ⟨nd, l, h1, h2, h3⟩
    · rw [aw_root] at h1; cases h1
    · rw [aw_root] at h1; injection h1 with h1; subst h1
      rw [h3, aw_kids h2.of]; rfl)
  obtain rfl := HG.out
  have hb5 : BoxS w5 w4.heap.size ⟨5, 5, 5, 0, 0, 0, 0⟩ 1 0 := (hk5.block _ (by simp) (fun f => f)).trans (heap_alloc_new w4 _)
  obtain ⟨b0, b1, b2, b3, b4, b5, b6, b7, b8, bf⟩ := hb5.nine
  have hbl : w4.heap.size < w5.heap.size := lt_of_block hb5
  have HT5 := Lib.hid ((HT4.out.kept0 hka).kept0 hk5)
  have HV5 := Lib.hid (ownKept (ownKept HV4.out hka (fun _ _ f => f)) hk5 (fun _ _ f => f))
  have HK5 := Lib.hid ((HK4.out.trans hka).trans hk5)
  clear hk5 hcase HG hka hb5
  go_wp2_with fail
  have hkb : Kept (fun _ => False) w5 ((w5.alloc (.cells #[.int .i64 0, .int .i64 0, .int .i64 5, .int .i64 0, .int .i64 1, .int .i64 0, .int .i64 0, .int .i64 0, .int .i64 1] 56)).alloc (.cells #[.int .i64 1, .string pa, .int .i64 5, .int .i64 4, .string slashS, .int .i64 5] 64)) := ((Kept.refl _ w5).alloc _).alloc _
  have hrow := (evsAt_new (w := w5.alloc (.cells #[.int .i64 0, .int .i64 0, .int .i64 5, .int .i64 0, .int .i64 1, .int .i64 0, .int .i64 0, .int .i64 0, .int .i64 1] 56)) (B := 0) (l := [⟨1, pa, 5⟩, ⟨4, slashS, 5⟩]) (Nat.zero_le _) two_le).rows
  rw [show (w5.alloc (.cells #[.int .i64 0, .int .i64 0, .int .i64 5, .int .i64 0, .int .i64 1, .int .i64 0, .int .i64 0, .int .i64 0, .int .i64 1] 56)).heap.size = w5.heap.size + 1 by simp] at hrow
  have hv6 := (EvsAt.rows (ownKept HV5.out hkb (fun _ _ f => f) : EvsAt w1.heap.size _ v [⟨1, pa, 5⟩, ⟨4, slashS, 5⟩]))
  refine (events_any hv6 hrow).mono ?_
  rintro e w7 ⟨rfl, n, rfl⟩
  have HKb := Lib.hid (hkb.drewN n)
  have HZX := Lib.hid (zxid_any (HT5.out.kept0 HKb.out))
  clear hrow hv6 hkb
  rw [decide_eq_true rfl]
  go_wp2_with fail
  refine HZX.out.mono ?_
  rintro e w8 ⟨rfl, rfl⟩
  go_wp2_with fail
  go_ret
  exact ⟨rfl, HK5.out.trans HKb.out⟩
end Go.Proofs.Ytccoeccibokecaa
