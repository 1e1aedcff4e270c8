/- PathOrder holds: a path lies below another one just if that is one of those that one comes to by Parent; a number behind paths keeps their order (Q3 to Q5). No condition. -/
import Derived.Test.YtkmmkgooohpbcaaDoorCards
import Derived.Test.YtkmmkgooohpbcaaDoorTie
import Derived.Test.YtkmmkgooohpbcaaDoorQm
import Derived.WalkKit
import Derived.ProofKit
import Derived.OpenShut
import Derived.ShutString
import Derived.ChangeOld
import Derived.Below
import Derived.SizedLaws
import Derived.Deep.DeepHandedRow
import Derived.Lib.LaidTab
import Derived.Stop.LaidErr
namespace Go.Proofs.YtkmmkgooohpbcaaDoor.pathOrder
open Go.ChangeShapes Go.WideShapes Go.ChangeAt Go.RowKit
open Go.ChangeMaps (open_string shut_string)
set_option linter.unusedVariables false
set_option linter.unusedSimpArgs false

/-! ### Digits keep the order of numbers -/
def dgs : Nat → Nat → List UInt8
  | 0, _ => []
  | k + 1, n => Lib.dg n k :: dgs k n
theorem digs_dgs (n : Nat) : digs n = dgs 10 n := rfl
theorem less_append (l x y : List UInt8) : Op.bytesLess (l ++ x) (l ++ y) = Op.bytesLess x y := by
  induction l with
  | nil => rfl
  | cons a l ih => simp [Op.bytesLess, ih]
theorem dg_lt (m n k : Nat) : decide (Lib.dg m k < Lib.dg n k) = decide (m / 10 ^ k % 10 < n / 10 ^ k % 10) := by
  have h (x : Nat) : (Lib.dg x k).toNat = 48 + x / 10 ^ k % 10 := by rw [Lib.dg, UInt8.toNat_ofNat']; omega
  rw [Bool.eq_iff_iff, decide_eq_true_iff, decide_eq_true_iff, UInt8.lt_iff_toNat_lt, h, h]; omega
theorem dg_eq (m n k : Nat) : (Lib.dg m k == Lib.dg n k) = decide (m / 10 ^ k % 10 = n / 10 ^ k % 10) := by
  have h (x : Nat) : (Lib.dg x k).toNat = 48 + x / 10 ^ k % 10 := by rw [Lib.dg, UInt8.toNat_ofNat']; omega
  rw [Bool.eq_iff_iff, decide_eq_true_iff, beq_iff_eq, ← UInt8.toNat_inj, h, h]; omega
theorem dgs_less : ∀ (k m n : Nat), Op.bytesLess (dgs k m) (dgs k n) = decide (m % 10 ^ k < n % 10 ^ k)
  | 0, m, n => by simp [dgs, Op.bytesLess, Nat.mod_one]
  | k + 1, m, n => by
    rw [dgs, dgs, Op.bytesLess, dgs_less k m n, dg_lt, dg_eq, Nat.mod_pow_succ, Nat.mod_pow_succ]
    have hp : 0 < 10 ^ k := Nat.pow_pos (by decide)
    have hm := Nat.mod_lt m hp
    have hn := Nat.mod_lt n hp
    generalize m / 10 ^ k % 10 = a at *
    generalize n / 10 ^ k % 10 = b at *
    generalize 10 ^ k = c at *
    generalize m % c = x at *
    generalize n % c = y at *
    rw [Bool.eq_iff_iff]
    simp only [Bool.or_eq_true, Bool.and_eq_true, decide_eq_true_eq]
    constructor
    · rintro (h | ⟨rfl, h⟩)
      · have : c * (a + 1) ≤ c * b := Nat.mul_le_mul_left c h
        rw [Nat.mul_add] at this
        omega
      · omega
    · intro h
      rcases Nat.lt_trichotomy a b with h1 | rfl | h1
      · exact .inl h1
      · exact .inr ⟨rfl, by omega⟩
      · exfalso
        have : c * (b + 1) ≤ c * a := Nat.mul_le_mul_left c h1
        rw [Nat.mul_add] at this
        omega
theorem num_less (p : ByteArray) (m n : Nat) (hm : m < 10000000000) (hn : n < 10000000000) : Op.bytesLess (numS p m).toList (numS p n).toList = decide (m < n) := by
  rw [Lib.toList_data, Lib.toList_data, numS, numS, ByteArray.data_append, ByteArray.data_append, Array.toList_append, Array.toList_append, less_append]
  show Op.bytesLess (digs m) (digs n) = _
  rw [digs_dgs, digs_dgs, dgs_less, show (10 : Nat) ^ 10 = 10000000000 from rfl, Nat.mod_eq_of_lt hm, Nat.mod_eq_of_lt hn]
theorem num_lessI (p : ByteArray) (X Y : Int) (h1 : 0 ≤ X) (h2 : X < 10000000000) (h3 : 0 ≤ Y) (h4 : Y < 10000000000) :
    Op.bytesLess (numS p X.toNat).toList (numS p Y.toNat).toList = decide (X < Y) := by
  rw [num_less p _ _ (by omega) (by omega), Bool.eq_iff_iff, decide_eq_true_iff, decide_eq_true_iff]; omega
theorem num_size (p : ByteArray) (m : Nat) : (numS p m).size = p.size + 10 := by
  rw [numS, ByteArray.size_append]; congr 1

/-! ### Those that one comes to -/
def ovs (q : ByteArray) : List (List UInt8) → List (List UInt8) → Bool
  | _, [] => false
  | a, n :: r => decide (pathS a = q) || ovs q (a ++ [n]) r
theorem ovs_iff (q : ByteArray) : ∀ (r a : List (List UInt8)), ovs q a r = true ↔ ∃ x m y, r = x ++ m :: y ∧ pathS (a ++ x) = q
  | [], a => by simp [ovs]
  | n :: r, a => by
    rw [ovs, Bool.or_eq_true, ovs_iff q r (a ++ [n]), decide_eq_true_iff]
    constructor
    · rintro (h | ⟨x, m, y, rfl, h⟩)
      · exact ⟨[], n, r, rfl, by simpa using h⟩
      · exact ⟨n :: x, m, y, rfl, by simpa using h⟩
    · rintro ⟨x, m, y, e, h⟩
      cases x with
      | nil => exact .inl (by simpa using h)
      | cons k x =>
        simp only [List.cons_append, List.cons.injEq] at e
        obtain ⟨rfl, rfl⟩ := e
        exact .inr ⟨x, m, y, rfl, by simpa using h⟩
theorem path_inj {a b : List (List UInt8)} (ha : AllOk a) (hb : AllOk b) (h : pathS a = pathS b) : a = b := by
  have e : pathL a = pathL b := by rw [← pathS_list, h, pathS_list]
  by_cases h1 : a = []
  · subst h1
    exact ((pathL_slash hb).1 (by rw [← e]; rfl)).symm
  · by_cases h2 : b = []
    · subst h2
      exact (pathL_slash ha).1 (by rw [e]; rfl)
    · rw [pathL, if_neg h1, pathL, if_neg h2] at e
      have := rnames_whole a ha
      rw [e, rnames_whole b hb] at this
      exact (Option.some.inj this).symm
theorem under_ovs {ns ms : List (List UInt8)} (hn : AllOk ns) (hm : AllOk ms) : underS (pathS ns) (pathS ms) = ovs (pathS ms) [] ns := by
  rw [Bool.eq_iff_iff, under_path hn hm, ovs_iff]
  constructor
  · rintro ⟨m, r, rfl⟩
    exact ⟨ms, m, r, rfl, rfl⟩
  · rintro ⟨x, m, y, rfl, h⟩
    have := path_inj (fun k hk => hn k (by have : k ∈ x := hk; simp [this])) hm h
    exact ⟨m, y, by rw [← this]; simp⟩

theorem tmod_bd (a : Int) : -5000000000 < a.tmod 5000000000 ∧ a.tmod 5000000000 < 5000000000 := by
  have h1 := Int.tmod_lt_of_pos a (show (0 : Int) < 5000000000 by decide)
  have h2 := Int.lt_tmod_of_pos a (show (0 : Int) < 5000000000 by decide)
  exact ⟨h2, h1⟩

structure OverRel (ns : List (List UInt8)) (q : ByteArray) (over at_ i : Value) : Prop where
  ex : ∃ (a r : List (List UInt8)), ns = a ++ r ∧ at_ = .string (pathS a) ∧ i = .int .i64 r.length ∧ over = .bool (ovs q a r)

set_option maxHeartbeats 2000000 in
set_option maxRecDepth 100000 in
theorem walk (a0 a1 : ByteArray) (a2 a3 : Int) (w : World) (z0 : a0.size ≤ 140737488351232) (z1 : a1.size ≤ 140737488351232)
    (b2 : -9223372036854775808 ≤ a2 ∧ a2 ≤ 9223372036854775807) (b3 : -9223372036854775808 ≤ a3 ∧ a3 ≤ 9223372036854775807) (tab : TabOk w) :
    Calls Tryd.prog 6 #[.string a0, .string a1, .int .i64 a2, .int .i64 a3] w fun e w' => e = .returned (.bool true) ∧ Below w.heap.size w w' := by
  have HT := Lib.hid tab; clear tab
  by_cases hc : checkS a0 = 0
  · by_cases hd : checkS a1 = 0
    · obtain ⟨ns, hok, hp, h6, hz⟩ := (check_ok a0).1 hc
      obtain ⟨ms, hok1, hp1, h61, hz1⟩ := (check_ok a1).1 hd
      have HOK := Lib.hid hok
      have HP := Lib.hid hp
      have hun : Hid (underS a0 a1 = ovs a1 [] ns) := Lib.hid (by rw [hp, hp1]; exact under_ovs hok hok1)
      obtain ⟨t2, q2⟩ : ∃ t2, a2.tmod 5000000000 = t2 := ⟨_, rfl⟩
      obtain ⟨t3, q3⟩ : ∃ t3, a3.tmod 5000000000 = t3 := ⟨_, rfl⟩
      have v2 : -5000000000 < t2 ∧ t2 < 5000000000 := by rw [← q2]; exact tmod_bd a2
      have v3 : -5000000000 < t3 ∧ t3 < 5000000000 := by rw [← q3]; exact tmod_bd a3
      have NL := Lib.hid (num_lessI a0)
      have NS := Lib.hid (num_size a0)
      have hc2 : (checkS a0 != 0) = false := by rw [hc]; rfl
      have hd2 : (checkS a1 != 0) = false := by rw [hd]; rfl
      clear hp hok hp1 hok1
      go_enter Tryd.func6, Tryd.ntmps6
      go_wp2_with fail
      refine (awake_any _ HT.out).mono ?_
      rintro e w1 ⟨rfl, hb1⟩
      go_wp2_with fail
      refine (check_any a0 _ (by omega)).mono ?_
      rintro e w2 ⟨rfl, hb2⟩
      go_wp2_with fail
      refine (check_any a1 _ (by omega)).mono ?_
      rintro e w3 ⟨rfl, hb3⟩
      have hB : Below w.heap.size w w3 := (hb1.trans (hb2.mono hb1.size)).trans (hb3.mono (Nat.le_trans hb1.size hb2.size))
      have HT3 := Lib.hid (tab_below HT.out hB)
      clear hb1 hb2 hb3 hc hd
      go_wp2_with fail
      go_loop [10, 11, 12] (fun over at_ i => OverRel ns a1 over at_ i) (fun _ _ i => 6 - (intOf i).toNat)
      case atStart => exact ⟨ns, [], by simp, by rw [HP.out], rfl, rfl⟩
      case round =>
        obtain ⟨a, r, hns, rfl, rfl, rfl⟩ := hrel.ex
        clear hrel
        rcases List.eq_nil_or_concat a with rfl | ⟨b, n, rfl⟩
        · obtain rfl : ns = r := by simpa using hns
          clear hns
          have hroot : pathS [] = ⟨#[47]⟩ := rfl
          rw [hroot]
          clear hroot
          obtain ⟨o, ho⟩ : ∃ o, ovs a1 [] ns = o := ⟨_, rfl⟩
          have hun2 : underS a0 a1 = o := by rw [hun.out, ho]
          rw [ho]
          clear ho hun
          obtain ⟨v2a, v2b⟩ := v2
          obtain ⟨v3a, v3b⟩ := v3
          by_cases hlt : ns.length < 6
          all_goals by_cases s2 : t2 < 0
          all_goals by_cases s3 : t3 < 0
          all_goals
            go_wp2_with (first
              | (go_at_call 17; refine (under_any _ _ _ (by omega) (by omega)).mono ?_; rintro e w' ⟨rfl, rfl⟩; rw [hun2])
              | (go_at_call 19
                 ((refine (numbered_any _ _ w3 (by omega) (by omega) (by omega) HT3.out).mono ?_); rintro e w4 ⟨rfl, hb4⟩))
              | (go_at_call 19
                 ((refine (numbered_any _ _ w4 (by omega) (by omega) (by omega) (tab_below HT3.out hb4)).mono ?_); rintro e w5 ⟨rfl, hb5⟩)
                 first
                   | (have l1 := NL.out t2 t3 (by omega) (by omega) (by omega) (by omega); have l2 := NS.out t2.toNat)
                   | (have l1 := NL.out (-t2) t3 (by omega) (by omega) (by omega) (by omega); have l2 := NS.out (-t2).toNat)
                   | (have l1 := NL.out t2 (-t3) (by omega) (by omega) (by omega) (by omega); have l2 := NS.out t2.toNat)
                   | (have l1 := NL.out (-t2) (-t3) (by omega) (by omega) (by omega) (by omega); have l2 := NS.out (-t2).toNat)))
            go_ret
            exact ⟨rfl, (hB.trans (hb4.mono hB.size)).trans (hb5.mono (Nat.le_trans hB.size hb4.size))⟩
        · have hrl : r.length < 6 := by
            rw [hns] at h6; simp at h6; omega
          have hns' : ns = b ++ (n :: r) := by rw [hns, List.concat_eq_append]; simp
          have hbn : AllOk (b ++ [n]) := fun m hm => HOK.out m (by rw [hns, List.concat_eq_append]; exact List.mem_append_left _ hm)
          have z2 : (pathS (b ++ [n])).size ≤ 60 := Nat.le_trans (size_le (r := r) (by rw [← List.concat_eq_append, ← hns]; exact HOK.out)) (by rw [← List.concat_eq_append, ← hns, ← HP.out]; exact hz)
          have HPA := Lib.hid (par_path hbn)
          have g1 : ((pathS (b ++ [n])).toList == [47]) = false := by
            rw [eqSlash, pathS_list]
            have : pathL (b ++ [n]) ≠ [47] := by rw [Ne, pathL_slash hbn]; simp
            simpa using this
          have HNS := Lib.hid hns'
          have HOV : Hid (ovs a1 b (n :: r) = (ovs a1 (b ++ [n]) r || ((pathS b).toList == a1.toList))) := Lib.hid (by
            rw [ovs, Bool.or_comm]
            congr 1
            rw [Bool.eq_iff_iff, decide_eq_true_iff, beq_iff_eq, Lib.toList_data, Lib.toList_data]
            exact ⟨fun h => by rw [h], fun h => eq_of_list h⟩)
          rw [List.concat_eq_append]
          clear hns hns' hbn v2 v3 q2 q3
          obtain ⟨o, ho⟩ : ∃ o, ovs a1 (b ++ [n]) r = o := ⟨_, rfl⟩
          rw [ho] at HOV ⊢
          clear ho
          obtain ⟨c, hcc⟩ : ∃ c, pathS (b ++ [n]) = c := ⟨_, rfl⟩
          obtain ⟨u, huu⟩ : ∃ u, pathS b = u := ⟨_, rfl⟩
          rw [hcc] at HPA g1 z2
          rw [hcc]
          rw [huu] at HPA HOV
          have HU := Lib.hid huu
          clear hcc huu
          have g2 : (!c.toList == [47]) = true := by rw [g1]; rfl
          cases o
          · go_wp2_with (go_at_call 11; refine (parent_any _ _ (by omega)).mono ?_; rintro e w' ⟨rfl, rfl⟩; rw [HPA.out])
            go_round
            case rel => exact ⟨b, n :: r, HNS.out, by rw [HU.out], by simp, by rw [HOV.out]; simp⟩
            case measure => simp [intOf]; omega
          · go_wp2_with (go_at_call 11; refine (parent_any _ _ (by omega)).mono ?_; rintro e w' ⟨rfl, rfl⟩; rw [HPA.out])
            go_round
            case rel => exact ⟨b, n :: r, HNS.out, by rw [HU.out], by simp, by rw [HOV.out]; simp⟩
            case measure => simp [intOf]; omega
    · have hc2 : (checkS a0 != 0) = false := by rw [hc]; rfl
      have hd2 : (checkS a1 != 0) = true := by simpa using hd
      clear hc hd
      go_enter Tryd.func6, Tryd.ntmps6
      go_wp2_with fail
      refine (awake_any _ HT.out).mono ?_
      rintro e w1 ⟨rfl, hb1⟩
      go_wp2_with fail
      refine (check_any a0 _ (by omega)).mono ?_
      rintro e w2 ⟨rfl, hb2⟩
      go_wp2_with fail
      refine (check_any a1 _ (by omega)).mono ?_
      rintro e w3 ⟨rfl, hb3⟩
      go_wp2_with fail
      go_ret
      exact ⟨rfl, (hb1.trans (hb2.mono hb1.size)).trans (hb3.mono (Nat.le_trans hb1.size hb2.size))⟩
  · have hc2 : (checkS a0 != 0) = true := by simpa using hc
    clear hc
    go_enter Tryd.func6, Tryd.ntmps6
    go_wp2_with fail
    refine (awake_any _ HT.out).mono ?_
    rintro e w1 ⟨rfl, hb1⟩
    go_wp2_with fail
    refine (check_any a0 _ (by omega)).mono ?_
    rintro e w2 ⟨rfl, hb2⟩
    go_wp2_with fail
    go_ret
    exact ⟨rfl, hb1.trans (hb2.mono hb1.size)⟩

theorem own : ownKnob Tryd.prog.godebug = none := by kernel_rfl
theorem laidOut : laidOutB Tryd.prog = true := by kernel_rfl

theorem table {W : World} (h : laidMetH Tryd.prog Rows.pathOrderRow.laid W) : TabOk W := by
  have h1 : laidMet Tryd.prog Rows.pathOrderRow.laid W := h
  exact Lib.tabIs_of_head (zs := Lib.pow10Tab) (rest := []) (g := 1) (t := 78) (e := 64) (n := 20) (by kernel_rfl) (by kernel_rfl) (by kernel_rfl) (by kernel_rfl) (by kernel_rfl) (by kernel_rfl) h1.tail.tail

theorem contract (H : Type) (enc : TypeId × Value → H) (W : World) (base : Nat) (args : Array Value) (ds gs : List (DataW H)) (before : List MemPlace)
    (hval0 : ∀ (j : Nat) t v, Tryd.f6.params[j]? = some t → args[j]? = some v → Value.okWide Tryd.prog W .any base t v)
    (hW : DataW.Whole enc Tryd.prog Tryd.f6.params.toList Rows.pathOrderSpec.vars false W args.toList ds gs before) (hL : laidMetH Tryd.prog Rows.pathOrderRow.laid W)
    (hsz0 : (DataW.weightsEach Tryd.prog (Tryd.f6.params.toList ++ Rows.pathOrderSpec.plain.varTypes Tryd.prog) (ds ++ gs)).all (· ≤ reachBytes) = true) :
    Calls Tryd.prog 6 args W fun e W' => ∃ v, e = .returned v ∧ Rows.pathOrderSpec.post enc Tryd.prog Tryd.f6 false true false false W args v W' := by
  have hval : ∀ (j : Nat) t v, Tryd.f6.params[j]? = some t → args[j]? = some v → Value.okWide Tryd.prog W .any base t v := hval0
  have hW' := hW
  obtain ⟨p, q, hA0, hV, rfl, hfz, hnd⟩ := hW
  have hA : DataW.TrodAll enc Tryd.prog W 0 (fun _ => true) true Tryd.f6.params.toList args.toList ds p := hA0
  have hsz : (DataW.weightsEach Tryd.prog (Tryd.f6.params.toList ++ Rows.pathOrderSpec.plain.varTypes Tryd.prog) (ds ++ gs)).all (· ≤ reachBytes) = true := hsz0
  clear hsz0
  rw [Tryd.params6] at hA hval hsz
  obtain ⟨v0, vs0, d0, ds0, p0, q0, hargs, rfl, rfl, h0, r0⟩ := trodAll_cons hA
  obtain ⟨v1, vs1, d1, ds1, p1, q1, rfl, rfl, rfl, h1, r1⟩ := trodAll_cons r0
  obtain ⟨v2, vs2, d2, ds2, p2, q2, rfl, rfl, rfl, h2, r2⟩ := trodAll_cons r1
  obtain ⟨v3, vs3, d3, ds3, p3, q3, rfl, rfl, rfl, h3, r3⟩ := trodAll_cons r2
  obtain ⟨rfl, rfl, rfl⟩ := trodAll_nil r3
  obtain rfl : args = #[v0, v1, v2, v3] := by cases args; simp_all
  obtain ⟨rfl, rfl⟩ := trodVars_none hV
  have k0 := h0
  have lt0 : ∀ x ∈ p0, x.block < W.heap.size := by obtain ⟨m, hm⟩ := k0; exact DataW.trod_lt m _ _ _ hm
  obtain ⟨a0, e0, f0, g0, w0⟩ := open_string Tryd.underlying9 (hval 0 9 v0 rfl rfl) h0
  subst e0
  have k1 := h1
  have lt1 : ∀ x ∈ p1, x.block < W.heap.size := by obtain ⟨m, hm⟩ := k1; exact DataW.trod_lt m _ _ _ hm
  obtain ⟨a1, e1, f1, g1, w1⟩ := open_string Tryd.underlying9 (hval 1 9 v1 rfl rfl) h1
  subst e1
  have k2 := h2
  have lt2 : ∀ x ∈ p2, x.block < W.heap.size := by obtain ⟨m, hm⟩ := k2; exact DataW.trod_lt m _ _ _ hm
  obtain ⟨a2, e2, f2, g2, w2⟩ := open_int Tryd.underlying3 (hval 2 3 v2 rfl rfl) h2
  subst e2
  have b2 : -9223372036854775808 ≤ a2 ∧ a2 ≤ 9223372036854775807 := by have w := w2; simp [Lit.wf, IntKind.min, IntKind.max, IntKind.bits, IntKind.signed] at w; omega
  have k3 := h3
  have lt3 : ∀ x ∈ p3, x.block < W.heap.size := by obtain ⟨m, hm⟩ := k3; exact DataW.trod_lt m _ _ _ hm
  obtain ⟨a3, e3, f3, g3, w3⟩ := open_int Tryd.underlying3 (hval 3 3 v3 rfl rfl) h3
  subst e3
  have b3 : -9223372036854775808 ≤ a3 ∧ a3 ≤ 9223372036854775807 := by have w := w3; simp [Lit.wf, IntKind.min, IntKind.max, IntKind.bits, IntKind.signed] at w; omega
  clear hA0 hval0
  have z0 : a0.size ≤ 140737488351232 := by
    have := sized_string hsz (j := 0) (bytes := a0.data.toList) rfl (by rw [f0]; rfl)
    simpa [reachBytes] using this
  have z1 : a1.size ≤ 140737488351232 := by
    have := sized_string hsz (j := 1) (bytes := a1.data.toList) rfl (by rw [f1]; rfl)
    simpa [reachBytes] using this
  have tab := table hL
  refine (walk a0 a1 a2 a3 W z0 z1 b2 b3 tab).mono fun e W' ⟨he, bel⟩ => ?_
  subst he
  exact ⟨_, rfl, _, _, _, [], _, [], hW', trodAll_mk1 (shut_bool Tryd.underlying4 _), (trodAll_cons_mk (Below.trod laidOut (by kernel_rfl) (of_decide_eq_true (by kernel_rfl)) k0 bel lt0) (trodAll_cons_mk (Below.trod laidOut (by kernel_rfl) (of_decide_eq_true (by kernel_rfl)) k1 bel lt1) (trodAll_cons_mk (Below.trod laidOut (by kernel_rfl) (of_decide_eq_true (by kernel_rfl)) k2 bel lt2) (trodAll_cons_mk (Below.trod laidOut (by kernel_rfl) (of_decide_eq_true (by kernel_rfl)) k3 bel lt3) trodAll_mk0)))), rfl, bel.frame _, fun h => by cases h⟩

/-- the cells that a listed table has -/
def tabCells {H : Type} : DataW H → Array Value
  | .agg parts => (parts.map fun d => match d with | .lit (.int k z) => Value.int k z | _ => undef).toArray
  | _ => #[]
def lay (W : World) (g : Nat) (cs : Array Value) : World := { W with heap := W.heap.modify g fun
      | .cells _ t frozen => .cells cs t frozen
      | o => o }
noncomputable def laidWorld (os : Os) : World :=
  lay (lay (lay (World.holding Tryd.prog os ⟨#[], #[], []⟩) 1 (tabCells (H := Unit) Rows.laid_internal_strconv_uint64pow10)) 2 (tabCells (H := Unit) Rows.laid_math_bits_deBruijn32tab)) 3 (tabCells (H := Unit) Rows.laid_math_bits_deBruijn64tab)
theorem laid_met (os : Os) : laidMet Tryd.prog Rows.pathOrderRow.laid ((laidWorld os).forCall (fun _ _ => 0) ⟨#[], #[.string ByteArray.empty, .string ByteArray.empty, .int .i64 0, .int .i64 0], []⟩).memory :=
  laidMet_of_run' 8 (by kernel_rfl) (by kernel_rfl)
theorem reads (os : Os) {H : Type} (enc : TypeId × Value → H) : ∃ places, DataW.whole enc Tryd.prog ((laidWorld os).forCall (fun _ _ => 0) ⟨#[], #[.string ByteArray.empty, .string ByteArray.empty, .int .i64 0, .int .i64 0], []⟩).memory Tryd.f6.params.toList Rows.pathOrderSpec.vars false (#[.string ByteArray.empty, .string ByteArray.empty, .int .i64 0, .int .i64 0] : Array Value).toList 8 = some ([.lit (.string []), .lit (.string []), .lit (.int .i64 0), .lit (.int .i64 0)], [], places) :=
  ⟨[], by kernel_rfl⟩

set_option maxRecDepth 100000 in
theorem lifted (os : Os) (started : os.Started) (H : Type) (enc : TypeId × Value → H) (F : Stop.Interp) :
    ReturnsInHanded {} Tryd.checked os 6 .any ((OpenSpec.ofChange Rows.pathOrderSpec).preRow enc Tryd.prog Tryd.f6 Rows.pathOrderRow.domain false Rows.pathOrderRow.laid) (((OpenSpec.ofChange Rows.pathOrderSpec).at F).post enc Tryd.prog Tryd.f6 false true false false) := by
  obtain ⟨places, hx⟩ := reads os enc
  refine returnsInHanded_of_row (C := Tryd.checked) (s := OpenSpec.ofChange Rows.pathOrderSpec) own started (by kernel_rfl) Tryd.func6
    (witness_row_at (enc := enc) (C := Tryd.checked) false (laidWorld os) #[.string ByteArray.empty, .string ByteArray.empty, .int .i64 0, .int .i64 0] rfl (by kernel_rfl) (by kernel_rfl) (by kernel_rfl)
      (OpenSpec.preRow_of_cond 8 hx (by kernel_rfl) (fun k hk => by cases hk) (by kernel_rfl) (laid_met os))) ?_
  intro W base args ds gs before hval hW _ hcond hsz hL _ _
  exact contract H enc W base args ds gs before hval hW hL hsz

theorem said : Rows.PathOrderSaid :=
  OpenClaim.holds_of_cond 6 Tryd.f6 rfl rfl rfl rfl rfl rfl rfl ⟨rfl, rfl, rfl, rfl, rfl⟩ rfl rfl rfl rfl rfl (by kernel_rfl) Tryd.func6 (by kernel_rfl)
    (of_decide_eq_true (by kernel_rfl)) (by unfold Func.isWrapper; first | (rw [if_pos (by decide +kernel)]; kernel_rfl) | (rw [if_neg (by decide +kernel)]; exact ⟨rfl, rfl⟩))
    (fun os started H enc _ F => by rw [OpenClaim.pre_eq_preRow]; exact lifted os started H enc F)

theorem plain (f : FuncId) (fn : Func) (hf : Tryd.pinned.checked.prog.funcNamed Rows.pathOrderRow.func = some f) (hfn : Tryd.pinned.checked.prog.funcs[f]? = some fn) :
    false = Tryd.pinned.checked.prog.looks [] ∧ ∀ (j : Nat) t, fn.params[j]? = some t → Tryd.pinned.checked.prog.wantsStandIn t = false := by
  obtain rfl : f = 6 := Option.some.inj ((show Tryd.prog.funcNamed Rows.pathOrderRow.func = some 6 by kernel_rfl).symm.trans hf) |>.symm
  obtain rfl : fn = Tryd.f6 := (Option.some.inj (Tryd.func6.symm.trans hfn)).symm
  refine ⟨by kernel_rfl, fun j t ht => ?_⟩
  rw [Tryd.params6] at ht
  have hm := Array.mem_of_getElem? ht
  have hall : ∀ t ∈ (#[9, 9, 3, 3] : Array TypeId), Tryd.prog.wantsStandIn t = false := by
    intro t h
    simp only [List.mem_toArray, List.mem_cons, List.not_mem_nil, or_false] at h
    rcases h with rfl | rfl | rfl | rfl <;> kernel_rfl
  exact hall t hm

/-- the given statement -/
theorem proved : Rows.PathOrderCardSaid :=
  Claim7.holds_tied_plain_at .later [] _ _ _ _ said (fun _ h => by cases h) (by kernel_rfl) (fun _ h => by cases h) pathOrder_row_tie rfl ⟨rfl, rfl⟩ (by kernel_rfl) rfl plain (by kernel_rfl)
#print axioms proved
end Go.Proofs.YtkmmkgooohpbcaaDoor.pathOrder
