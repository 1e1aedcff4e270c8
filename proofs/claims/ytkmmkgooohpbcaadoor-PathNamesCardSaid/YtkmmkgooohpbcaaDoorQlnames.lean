/- PathNames holds: a name below a path is a path, if it is not too long, just if the name is one; and then the path ahead of it, and its last name, are what they were (Q1 to Q3). No condition. -/
import Derived.Test.YtkmmkgooohpbcaaDoorCards
import Derived.Test.YtkmmkgooohpbcaaDoorTie
import Derived.Test.YtkmmkgooohpbcaaDoorQm
import Derived.WalkKit
import Derived.ProofKit
import Derived.OpenShut
import Derived.ShutString
import Derived.ChangeOld
import Derived.Below
import Derived.SizedLaws
import Derived.Deep.DeepHandedRow
import Derived.Lib.LaidTab
import Derived.Stop.LaidErr
namespace Go.Proofs.YtkmmkgooohpbcaaDoor.pathNames
open Go.ChangeShapes Go.WideShapes Go.ChangeAt Go.RowKit
open Go.ChangeMaps (open_string shut_string)
set_option linter.unusedVariables false
set_option linter.unusedSimpArgs false

theorem check_form (s : ByteArray) : checkS s = 40 ↔ s.data.toList ≠ [47] ∧ parse s.data.toList = none := by
  unfold checkS
  by_cases e : s.data.toList = [47]
  · simp [e]
  · rw [if_neg e]
    cases hp : parse s.data.toList with
    | none => simp [e, lens, checkO]
    | some ns =>
      simp only [lens, Option.map_some, checkO]
      constructor
      · intro h; split at h <;> simp at h
      · rintro ⟨_, h⟩; cases h

theorem join_after {ns ms : List (List UInt8)} {l : List UInt8} (hn : AllOk ns) (hm : AllOk ms) (h : joinN ms = joinN ns ++ 47 :: l) : ∃ m r, ms = ns ++ m :: r ∧ joinN (m :: r) = 47 :: l := by
  obtain ⟨m, r, rfl⟩ := (prefix_names ns ms hn hm).1 ⟨l, by rw [h]; simp⟩
  refine ⟨m, r, rfl, ?_⟩
  rw [joinN_append] at h
  exact List.append_cancel_left h

/-- a name below a path, as bytes -/
theorem kid_form {ns : List (List UInt8)} (hn : AllOk ns) (s : ByteArray) (hs : s.data.toList ≠ []) (s1 : ByteArray) (h1 : s1.data.toList = 47 :: s.data.toList) :
    (checkS s1 = 40 → checkS (kidS (pathS ns) s) = 40) ∧
    (checkS s1 ≠ 40 → checkS (kidS (pathS ns) s) ≠ 40 ∧ ((∀ b ∈ s.data.toList, (b != 47) = true) → ∃ m, okName m = true ∧ s = ⟨m.toArray⟩ ∧ kidS (pathS ns) s = pathS (ns ++ [m]))) := by
  have hk : (kidS (pathS ns) s).data.toList = joinN ns ++ 47 :: s.data.toList := by rw [kid_path hn]
  have hne : (kidS (pathS ns) s).data.toList ≠ [47] := by
    rw [hk]; intro e
    have := congrArg List.length e
    have hp := List.length_pos_iff.2 hs
    simp only [List.length_append, List.length_cons, List.length_nil] at this
    omega
  have hne1 : s1.data.toList ≠ [47] := by
    rw [h1]; intro e; simp at e; exact hs (by simpa using e)
  have c1 := check_form s1
  have c2 := check_form (kidS (pathS ns) s)
  constructor
  · intro h
    obtain ⟨_, hp⟩ := c1.1 h
    refine c2.2 ⟨hne, ?_⟩
    cases hq : parse (kidS (pathS ns) s).data.toList with
    | none => rfl
    | some ms =>
      obtain ⟨_, h2, h3⟩ := (parse_iff _ _).1 hq
      rw [hk] at h3
      obtain ⟨m, r, rfl, h4⟩ := join_after hn h2 h3.symm
      have : parse s1.data.toList = some (m :: r) := (parse_iff _ _).2 ⟨by simp, fun k hk => h2 k (List.mem_append_right _ hk), by rw [h1, h4]⟩
      rw [hp] at this; cases this
  · intro hnf
    cases hq : parse s1.data.toList with
    | none => exact absurd (c1.2 ⟨hne1, hq⟩) hnf
    | some ms =>
      obtain ⟨h0, h2, h3⟩ := (parse_iff _ _).1 hq
      rw [h1] at h3
      have hall : AllOk (ns ++ ms) := fun k hk => (List.mem_append.1 hk).elim (hn k) (h2 k)
      have hpk : parse (kidS (pathS ns) s).data.toList = some (ns ++ ms) := (parse_iff _ _).2 ⟨by simp [h0], hall, by rw [hk, h3, joinN_append]⟩
      refine ⟨?_, ?_⟩
      · intro h
        obtain ⟨_, h⟩ := c2.1 h
        rw [hpk] at h; cases h
      · intro hplain
        cases ms with
        | nil => exact absurd rfl h0
        | cons m r =>
          have hm := h2 m (by simp)
          rw [joinN] at h3
          simp only [List.cons.injEq, true_and] at h3
          cases r with
          | cons k r =>
            exfalso
            have := hplain 47 (by rw [h3, joinN]; simp)
            revert this; decide
          | nil =>
            have e : s = ⟨m.toArray⟩ := eq_of_list (by rw [h3, joinN]; simp)
            exact ⟨m, hm, e, by rw [e, kid_snoc hn]⟩

theorem kid_empty {ns : List (List UInt8)} (hn : AllOk ns) (s : ByteArray) (hs : s.data.toList = []) : (checkS (kidS (pathS ns) s) == 0) = ((pathS ns).toList == [47]) := by
  have hk : (kidS (pathS ns) s).data.toList = joinN ns ++ [47] := by rw [kid_path hn, hs]
  rw [eqSlash, pathS_list, Bool.eq_iff_iff, beq_iff_eq, decide_eq_true_iff, pathL_slash hn]
  constructor
  · intro h
    by_cases e : ns = []
    · exact e
    · exfalso
      obtain ⟨ms, h1, h2, _⟩ := (check_ok _).1 h
      have h3 : pathL ms = joinN ns ++ [47] := by rw [← hk, h2, pathS_list]
      by_cases e2 : ms = []
      · subst e2
        have := congrArg List.length h3
        have hz := joinN_len hn
        have hp := List.length_pos_iff.2 e
        rw [pathL, if_pos rfl] at this
        simp only [List.length_append, List.length_cons, List.length_nil] at this
        omega
      · rw [pathL, if_neg e2] at h3
        obtain ⟨m, r, rfl, h4⟩ := join_after hn h1 h3
        have := okName_pos (h1 m (by simp))
        have hl := congrArg List.length h4
        simp only [joinN, List.length_cons, List.length_append, List.length_nil] at hl
        omega
  · rintro rfl
    unfold checkS
    rw [if_pos (by rw [hk]; rfl)]

structure PlainRel (s : ByteArray) (plain i : Value) : Prop where
  ex : ∃ k : Nat, k ≤ s.size ∧ i = .int .i64 k ∧ plain = .bool ((s.data.toList.take k).all (· != 47))

set_option maxHeartbeats 2000000 in
set_option maxRecDepth 100000 in
theorem walk (a0 a1 : ByteArray) (w : World) (z0 : a0.size ≤ 140737488351232) (z1 : a1.size ≤ 140737488351232) (tab : TabOk w) :
    Calls Tryd.prog 7 #[.string a0, .string a1] w fun e w' => e = .returned (.bool true) ∧ Below w.heap.size w w' := by
  have HT := Lib.hid tab; clear tab
  by_cases hc : checkS a0 = 0
  · obtain ⟨ns, hok, hp, h6, hz⟩ := (check_ok a0).1 hc
    have hc2 : (checkS a0 != 0) = false := by rw [hc]; rfl
    have hks := kidS_size a0 a1
    by_cases hs : a1.data.toList = []
    · have HK : Hid ((checkS (kidS a0 a1) == 0) = (a0.toList == [47])) := Lib.hid (by rw [hp]; exact kid_empty hok a1 hs)
      have g1 : a1.toList.isEmpty = true := by rw [Lib.toList_data, hs]; rfl
      obtain ⟨c, hcc⟩ : ∃ c, kidS a0 a1 = c := ⟨_, rfl⟩
      have HKC := Lib.hid hcc
      rw [hcc] at HK hks
      clear hcc hok hp hs hc
      have g3 := HK.out
      go_enter Tryd.func7, Tryd.ntmps7
      go_wp2_with fail
      refine (awake_any _ HT.out).mono ?_
      rintro e w1 ⟨rfl, hb1⟩
      go_wp2_with fail
      refine (check_any a0 _ (by omega)).mono ?_
      rintro e w2 ⟨rfl, hb2⟩
      go_wp2_with fail
      refine (kid_any a0 a1 _ (by omega) (by omega)).mono ?_
      rintro e w' ⟨rfl, rfl⟩
      rw [HKC.out]
      go_wp2_with fail
      refine (check_any c _ (by omega)).mono ?_
      rintro e w3 ⟨rfl, hb3⟩
      go_wp2_with fail
      go_ret
      exact ⟨rfl, (hb1.trans (hb2.mono hb1.size)).trans (hb3.mono (Nat.le_trans hb1.size hb2.size))⟩
    · obtain ⟨s1, hs1⟩ : ∃ s1 : ByteArray, (⟨#[47]⟩ : ByteArray) ++ a1 = s1 := ⟨_, rfl⟩
      have h1 : s1.data.toList = 47 :: a1.data.toList := by rw [← hs1]; simp
      have hz1 : s1.size = a1.size + 1 := by rw [← size_toList, h1]; rfl
      have qadd : ∀ W, Sem.run Tryd.prog (Op.stringOp .add ⟨#[47]⟩ a1) W = .ok (.string s1) W := fun W => by rw [← hs1]; exact run_string_add_sum W _ _ (by have : (ByteArray.mk #[47]).size = 1 := rfl; omega)
      have hkf := kid_form hok a1 hs s1 h1
      rw [← hp] at hkf
      have g1 : a1.toList.isEmpty = false := by rw [Lib.toList_data]; simpa using hs
      have hz2 : s1.size ≤ 140737488355328 := by omega
      have HPP : Hid (∀ m, okName m = true → kidS a0 a1 = pathS (ns ++ [m]) → a1 = ⟨m.toArray⟩ → parS (kidS a0 a1) = a0 ∧ baseS (kidS a0 a1) = a1 ∧ underS (kidS a0 a1) a0 = true) := Lib.hid (by
        intro m hm h1 h2
        have hall : AllOk (ns ++ [m]) := by
          intro k hk
          rcases List.mem_append.1 hk with h | h
          · exact hok k h
          · rw [List.mem_singleton.1 h]; exact hm
        rw [h1]
        exact ⟨by rw [par_path hall, hp], by rw [base_path hm, h2], by rw [hp]; exact (under_path hall hok).2 ⟨m, [], rfl⟩⟩)
      obtain ⟨c, hcc⟩ : ∃ c, kidS a0 a1 = c := ⟨_, rfl⟩
      have HKC := Lib.hid hcc
      rw [hcc] at hkf hks HPP
      have HKF := Lib.hid hkf
      clear hcc hok hp hs hc hs1 h1 hz1 hkf
      by_cases hf : checkS s1 = 40
      · have g4 := HKF.out.1 hf
        have g5 : (checkS s1 == 40) = true := by rw [hf]; rfl
        have g6 : (checkS c == 40) = true := by rw [g4]; rfl
        clear hf g4
        go_enter Tryd.func7, Tryd.ntmps7
        go_wp2_with fail
        refine (awake_any _ HT.out).mono ?_
        rintro e w1 ⟨rfl, hb1⟩
        go_wp2_with fail
        refine (check_any a0 _ (by omega)).mono ?_
        rintro e w2 ⟨rfl, hb2⟩
        go_wp2_with fail
        refine (kid_any a0 a1 _ (by omega) (by omega)).mono ?_
        rintro e w' ⟨rfl, rfl⟩
        rw [HKC.out]
        go_wp2_with fail
        refine (check_any c _ (by omega)).mono ?_
        rintro e w3 ⟨rfl, hb3⟩
        go_wp2_with fail
        refine (check_any s1 _ (by omega)).mono ?_
        rintro e w4 ⟨rfl, hb4⟩
        have hB := (hb1.trans (hb2.mono hb1.size)).trans (hb3.mono (Nat.le_trans hb1.size hb2.size))
        go_wp2_with fail
        go_ret
        exact ⟨rfl, hB.trans (hb4.mono hB.size)⟩
      · obtain ⟨g4, hpl⟩ := HKF.out.2 hf
        have HPL := Lib.hid hpl
        have g5 : (checkS s1 == 40) = false := by simpa using hf
        have g6 : (checkS c == 40) = false := by simpa using g4
        have g7 : (checkS c != 40) = true := by simpa using g4
        clear hf g4 hpl
        go_enter Tryd.func7, Tryd.ntmps7
        go_wp2_with fail
        refine (awake_any _ HT.out).mono ?_
        rintro e w1 ⟨rfl, hb1⟩
        go_wp2_with fail
        refine (check_any a0 _ (by omega)).mono ?_
        rintro e w2 ⟨rfl, hb2⟩
        go_wp2_with fail
        refine (kid_any a0 a1 _ (by omega) (by omega)).mono ?_
        rintro e w' ⟨rfl, rfl⟩
        rw [HKC.out]
        go_wp2_with fail
        refine (check_any c _ (by omega)).mono ?_
        rintro e w3 ⟨rfl, hb3⟩
        go_wp2_with fail
        refine (check_any s1 _ (by omega)).mono ?_
        rintro e w4 ⟨rfl, hb4⟩
        have hB3 := (hb1.trans (hb2.mono hb1.size)).trans (hb3.mono (Nat.le_trans hb1.size hb2.size))
        have hB := hB3.trans (hb4.mono hB3.size)
        clear hb1 hb2 hb3 hb4 hB3
        go_wp2_with fail
        go_loop [9, 10] (fun plain i => PlainRel a1 plain i) (fun _ i => a1.size - (intOf i).toNat)
        case atStart => exact ⟨0, by omega, rfl, rfl⟩
        case round =>
          obtain ⟨k, hk, rfl, rfl⟩ := hrel.ex
          clear hrel
          by_cases hlt : k < a1.size
          · have HN : Hid ((a1.data.toList.take (k + 1)).all (· != 47) = ((a1.data.toList.take k).all (· != 47) && ((a1[k].toNat : Int) != 47))) := Lib.hid (by
              have ht : a1.data.toList.take (k + 1) = a1.data.toList.take k ++ [a1[k]] := by
                rw [List.take_succ_eq_append_getElem (by simpa using hlt)]; rfl
              rw [ht, List.all_append]
              congr 1
              simp only [List.all_cons, List.all_nil, Bool.and_true]
              rw [Bool.eq_iff_iff, bne_iff_ne, bne_iff_ne, Ne, Ne, ← UInt8.toNat_inj]
              have : (47 : UInt8).toNat = 47 := rfl
              rw [this]; omega)
            obtain ⟨o, ho⟩ : ∃ o, (a1.data.toList.take k).all (· != 47) = o := ⟨_, rfl⟩
            rw [ho] at HN ⊢
            clear ho
            cases o
            · go_wp2_with fail
              go_round
              case rel => exact ⟨k + 1, by omega, by go_num, by rw [HN.out]; rfl⟩
              case measure => simp [intOf]; omega
            · go_wp2_with fail
              go_round
              case rel => exact ⟨k + 1, by omega, by go_num, by rw [HN.out]; rfl⟩
              case measure => simp [intOf]; omega
          · obtain rfl : k = a1.size := by omega
            have hall : (a1.data.toList.take a1.size).all (· != 47) = a1.data.toList.all (· != 47) := by rw [List.take_of_length_le (Nat.le_of_eq (size_toList a1))]
            rw [hall]
            clear hall
            by_cases hall : a1.data.toList.all (· != 47) = true
            · obtain ⟨m, hm, h1, h2⟩ := HPL.out (fun b hb => List.all_eq_true.1 hall b hb)
              obtain ⟨q1, q2, q3⟩ := HPP.out m hm h2 h1
              rw [hall]
              clear h1 h2 hm hall hlt
              go_wp2_with (first
                | (go_at_call 11; refine (parent_any _ _ (by omega)).mono ?_; rintro e w' ⟨rfl, rfl⟩; rw [q1])
                | (go_at_call 13; refine (base_any _ _ (by omega)).mono ?_; rintro e w' ⟨rfl, rfl⟩; rw [q2])
                | (go_at_call 17; refine (under_any _ _ _ (by omega) (by omega)).mono ?_; rintro e w' ⟨rfl, rfl⟩; rw [q3]))
              go_ret
              exact ⟨rfl, hB⟩
            · have hall' : a1.data.toList.all (· != 47) = false := by simpa using hall
              rw [hall']
              clear hall hall' hlt
              go_wp2_with fail
              go_ret
              exact ⟨rfl, hB⟩
  · have hc2 : (checkS a0 != 0) = true := by simpa using hc
    clear hc
    go_enter Tryd.func7, Tryd.ntmps7
    go_wp2_with fail
    refine (awake_any _ HT.out).mono ?_
    rintro e w1 ⟨rfl, hb1⟩
    go_wp2_with fail
    refine (check_any a0 _ (by omega)).mono ?_
    rintro e w2 ⟨rfl, hb2⟩
    go_wp2_with fail
    go_ret
    exact ⟨rfl, hb1.trans (hb2.mono hb1.size)⟩

theorem own : ownKnob Tryd.prog.godebug = none := by kernel_rfl
theorem laidOut : laidOutB Tryd.prog = true := by kernel_rfl

theorem table {W : World} (h : laidMetH Tryd.prog Rows.pathNamesRow.laid W) : TabOk W := by
  have h1 : laidMet Tryd.prog Rows.pathNamesRow.laid W := h
  exact Lib.tabIs_of_head (zs := Lib.pow10Tab) (rest := []) (g := 1) (t := 78) (e := 64) (n := 20) (by kernel_rfl) (by kernel_rfl) (by kernel_rfl) (by kernel_rfl) (by kernel_rfl) (by kernel_rfl) h1.tail.tail

theorem contract (H : Type) (enc : TypeId × Value → H) (W : World) (base : Nat) (args : Array Value) (ds gs : List (DataW H)) (before : List MemPlace)
    (hval0 : ∀ (j : Nat) t v, Tryd.f7.params[j]? = some t → args[j]? = some v → Value.okWide Tryd.prog W .any base t v)
    (hW : DataW.Whole enc Tryd.prog Tryd.f7.params.toList Rows.pathNamesSpec.vars false W args.toList ds gs before) (hL : laidMetH Tryd.prog Rows.pathNamesRow.laid W)
    (hsz0 : (DataW.weightsEach Tryd.prog (Tryd.f7.params.toList ++ Rows.pathNamesSpec.plain.varTypes Tryd.prog) (ds ++ gs)).all (· ≤ reachBytes) = true) :
    Calls Tryd.prog 7 args W fun e W' => ∃ v, e = .returned v ∧ Rows.pathNamesSpec.post enc Tryd.prog Tryd.f7 false true false false W args v W' := by
  have hval : ∀ (j : Nat) t v, Tryd.f7.params[j]? = some t → args[j]? = some v → Value.okWide Tryd.prog W .any base t v := hval0
  have hW' := hW
  obtain ⟨p, q, hA0, hV, rfl, hfz, hnd⟩ := hW
  have hA : DataW.TrodAll enc Tryd.prog W 0 (fun _ => true) true Tryd.f7.params.toList args.toList ds p := hA0
  have hsz : (DataW.weightsEach Tryd.prog (Tryd.f7.params.toList ++ Rows.pathNamesSpec.plain.varTypes Tryd.prog) (ds ++ gs)).all (· ≤ reachBytes) = true := hsz0
  clear hsz0
  rw [Tryd.params7] at hA hval hsz
  obtain ⟨v0, vs0, d0, ds0, p0, q0, hargs, rfl, rfl, h0, r0⟩ := trodAll_cons hA
  obtain ⟨v1, vs1, d1, ds1, p1, q1, rfl, rfl, rfl, h1, r1⟩ := trodAll_cons r0
  obtain ⟨rfl, rfl, rfl⟩ := trodAll_nil r1
  obtain rfl : args = #[v0, v1] := by cases args; simp_all
  obtain ⟨rfl, rfl⟩ := trodVars_none hV
  have k0 := h0
  have lt0 : ∀ x ∈ p0, x.block < W.heap.size := by obtain ⟨m, hm⟩ := k0; exact DataW.trod_lt m _ _ _ hm
  obtain ⟨a0, e0, f0, g0, w0⟩ := open_string Tryd.underlying9 (hval 0 9 v0 rfl rfl) h0
  subst e0
  have k1 := h1
  have lt1 : ∀ x ∈ p1, x.block < W.heap.size := by obtain ⟨m, hm⟩ := k1; exact DataW.trod_lt m _ _ _ hm
  obtain ⟨a1, e1, f1, g1, w1⟩ := open_string Tryd.underlying9 (hval 1 9 v1 rfl rfl) h1
  subst e1
  clear hA0 hval0
  have z0 : a0.size ≤ 140737488351232 := by
    have := sized_string hsz (j := 0) (bytes := a0.data.toList) rfl (by rw [f0]; rfl)
    simpa [reachBytes] using this
  have z1 : a1.size ≤ 140737488351232 := by
    have := sized_string hsz (j := 1) (bytes := a1.data.toList) rfl (by rw [f1]; rfl)
    simpa [reachBytes] using this
  have tab := table hL
  refine (walk a0 a1 W z0 z1 tab).mono fun e W' ⟨he, bel⟩ => ?_
  subst he
  exact ⟨_, rfl, _, _, _, [], _, [], hW', trodAll_mk1 (shut_bool Tryd.underlying4 _), (trodAll_cons_mk (Below.trod laidOut (by kernel_rfl) (of_decide_eq_true (by kernel_rfl)) k0 bel lt0) (trodAll_cons_mk (Below.trod laidOut (by kernel_rfl) (of_decide_eq_true (by kernel_rfl)) k1 bel lt1) trodAll_mk0)), rfl, bel.frame _, fun h => by cases h⟩

/-- the cells that a listed table has -/
def tabCells {H : Type} : DataW H → Array Value
  | .agg parts => (parts.map fun d => match d with | .lit (.int k z) => Value.int k z | _ => undef).toArray
  | _ => #[]
def lay (W : World) (g : Nat) (cs : Array Value) : World := { W with heap := W.heap.modify g fun
      | .cells _ t frozen => .cells cs t frozen
      | o => o }
noncomputable def laidWorld (os : Os) : World :=
  lay (lay (lay (World.holding Tryd.prog os ⟨#[], #[], []⟩) 1 (tabCells (H := Unit) Rows.laid_internal_strconv_uint64pow10)) 2 (tabCells (H := Unit) Rows.laid_math_bits_deBruijn32tab)) 3 (tabCells (H := Unit) Rows.laid_math_bits_deBruijn64tab)
theorem laid_met (os : Os) : laidMet Tryd.prog Rows.pathNamesRow.laid ((laidWorld os).forCall (fun _ _ => 0) ⟨#[], #[.string ByteArray.empty, .string ByteArray.empty], []⟩).memory :=
  laidMet_of_run' 8 (by kernel_rfl) (by kernel_rfl)
theorem reads (os : Os) {H : Type} (enc : TypeId × Value → H) : ∃ places, DataW.whole enc Tryd.prog ((laidWorld os).forCall (fun _ _ => 0) ⟨#[], #[.string ByteArray.empty, .string ByteArray.empty], []⟩).memory Tryd.f7.params.toList Rows.pathNamesSpec.vars false (#[.string ByteArray.empty, .string ByteArray.empty] : Array Value).toList 8 = some ([.lit (.string []), .lit (.string [])], [], places) :=
  ⟨[], by kernel_rfl⟩

set_option maxRecDepth 100000 in
theorem lifted (os : Os) (started : os.Started) (H : Type) (enc : TypeId × Value → H) (F : Stop.Interp) :
    ReturnsInHanded {} Tryd.checked os 7 .any ((OpenSpec.ofChange Rows.pathNamesSpec).preRow enc Tryd.prog Tryd.f7 Rows.pathNamesRow.domain false Rows.pathNamesRow.laid) (((OpenSpec.ofChange Rows.pathNamesSpec).at F).post enc Tryd.prog Tryd.f7 false true false false) := by
  obtain ⟨places, hx⟩ := reads os enc
  refine returnsInHanded_of_row (C := Tryd.checked) (s := OpenSpec.ofChange Rows.pathNamesSpec) own started (by kernel_rfl) Tryd.func7
    (witness_row_at (enc := enc) (C := Tryd.checked) false (laidWorld os) #[.string ByteArray.empty, .string ByteArray.empty] rfl (by kernel_rfl) (by kernel_rfl) (by kernel_rfl)
      (OpenSpec.preRow_of_cond 8 hx (by kernel_rfl) (fun k hk => by cases hk) (by kernel_rfl) (laid_met os))) ?_
  intro W base args ds gs before hval hW _ hcond hsz hL _ _
  exact contract H enc W base args ds gs before hval hW hL hsz

theorem said : Rows.PathNamesSaid :=
  OpenClaim.holds_of_cond 7 Tryd.f7 rfl rfl rfl rfl rfl rfl rfl ⟨rfl, rfl, rfl, rfl, rfl⟩ rfl rfl rfl rfl rfl (by kernel_rfl) Tryd.func7 (by kernel_rfl)
    (of_decide_eq_true (by kernel_rfl)) (by unfold Func.isWrapper; first | (rw [if_pos (by decide +kernel)]; kernel_rfl) | (rw [if_neg (by decide +kernel)]; exact ⟨rfl, rfl⟩))
    (fun os started H enc _ F => by rw [OpenClaim.pre_eq_preRow]; exact lifted os started H enc F)

theorem plain (f : FuncId) (fn : Func) (hf : Tryd.pinned.checked.prog.funcNamed Rows.pathNamesRow.func = some f) (hfn : Tryd.pinned.checked.prog.funcs[f]? = some fn) :
    false = Tryd.pinned.checked.prog.looks [] ∧ ∀ (j : Nat) t, fn.params[j]? = some t → Tryd.pinned.checked.prog.wantsStandIn t = false := by
  obtain rfl : f = 7 := Option.some.inj ((show Tryd.prog.funcNamed Rows.pathNamesRow.func = some 7 by kernel_rfl).symm.trans hf) |>.symm
  obtain rfl : fn = Tryd.f7 := (Option.some.inj (Tryd.func7.symm.trans hfn)).symm
  refine ⟨by kernel_rfl, fun j t ht => ?_⟩
  rw [Tryd.params7] at ht
  have hm := Array.mem_of_getElem? ht
  have hall : ∀ t ∈ (#[9, 9] : Array TypeId), Tryd.prog.wantsStandIn t = false := by
    intro t h
    simp only [List.mem_toArray, List.mem_cons, List.not_mem_nil, or_false] at h
    rcases h with rfl | rfl <;> kernel_rfl
  exact hall t hm

/-- the given statement -/
theorem proved : Rows.PathNamesCardSaid :=
  Claim7.holds_tied_plain_at .later [] _ _ _ _ said (fun _ h => by cases h) (by kernel_rfl) (fun _ h => by cases h) pathNames_row_tie rfl ⟨rfl, rfl⟩ (by kernel_rfl) rfl plain (by kernel_rfl)
#print axioms proved
end Go.Proofs.YtkmmkgooohpbcaaDoor.pathNames
