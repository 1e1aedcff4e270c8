/- PathClimbs holds: from each path one comes to the root's by Parent, in as many steps as it has names; each is a path, has it below it, and is put together again by Kid (Q5). No condition. -/
import Derived.Test.YtkmmkgooohpbcaaDoorCards
import Derived.Test.YtkmmkgooohpbcaaDoorTie
import Derived.Test.YtkmmkgooohpbcaaDoorQm
import Derived.WalkKit
import Derived.ProofKit
import Derived.OpenShut
import Derived.ShutString
import Derived.ChangeOld
import Derived.Below
import Derived.SizedLaws
import Derived.Deep.DeepHandedRow
import Derived.Lib.LaidTab
import Derived.Stop.LaidErr
namespace Go.Proofs.YtkmmkgooohpbcaaDoor.pathClimbs
open Go.ChangeShapes Go.WideShapes Go.ChangeAt Go.RowKit
open Go.ChangeMaps (open_string shut_string)
set_option linter.unusedVariables false
set_option linter.unusedSimpArgs false

structure ClimbRel (ns : List (List UInt8)) (w0 : World) (at_ steps : Value) (w : World) : Prop where
  ex : ∃ (a r : List (List UInt8)), ns = a ++ r ∧ at_ = .string (pathS a) ∧ steps = .int .i64 r.length ∧ Below w0.heap.size w0 w

/-- what one step up is -/
structure Step (ns b : List (List UInt8)) (n : List UInt8) (p c u : ByteArray) : Prop where
  par : parS c = u
  chk : checkS u = 0
  kid : kidS u (baseS c) = c
  und1 : underS c u = true
  und2 : underS p u = true
  und3 : underS u c = false
  lt : u.size < c.size
  cz : c.size ≤ 60
  bz : (baseS c).size ≤ 60
  ne : (c.toList == [47]) = false

theorem size_path (ns : List (List UInt8)) : (pathS ns).size = (pathL ns).length := rfl
theorem size_le {a r : List (List UInt8)} (h : AllOk (a ++ r)) : (pathS a).size ≤ (pathS (a ++ r)).size := by
  rw [size_path, size_path]
  by_cases e : a = []
  · subst e
    by_cases e2 : r = []
    · subst e2; simp
    · rw [List.nil_append, pathL, if_pos rfl, pathL, if_neg e2]
      have := joinN_len (ns := r) (fun n hn => h n (by simp [hn]))
      have := List.length_pos_iff.2 e2
      simp; omega
  · rw [pathL, if_neg e, pathL, if_neg (by simp [e]), joinN_append]
    simp

theorem step_of {ns b r : List (List UInt8)} {n : List UInt8} (hok : AllOk ns) (h : ns = (b ++ [n]) ++ r) (h6 : ns.length ≤ 6) (hz : (pathS ns).size ≤ 60) :
    Step ns b n (pathS ns) (pathS (b ++ [n])) (pathS b) := by
  have hbn : AllOk (b ++ [n]) := fun m hm => hok m (by rw [h]; exact List.mem_append_left _ hm)
  have hb : AllOk b := fun m hm => hbn m (List.mem_append_left _ hm)
  have hn := hbn n (by simp)
  have z1 : (pathS (b ++ [n])).size ≤ 60 := Nat.le_trans (size_le (r := r) (by rw [← h]; exact hok)) (by rw [← h]; exact hz)
  have z2 : (pathS b).size ≤ 60 := Nat.le_trans (size_le (r := [n]) hbn) z1
  refine ⟨par_path hbn, (check_ok _).2 ⟨b, hb, rfl, ?_, z2⟩, ?_, (under_path hbn hb).2 ⟨n, [], rfl⟩, (under_path hok hb).2 ⟨n, r, by rw [h]; simp⟩, ?_, ?_, z1, ?_, ?_⟩
  · rw [h] at h6; simp at h6; omega
  · rw [base_path hn, kid_snoc hb]
  · rw [Bool.eq_false_iff]
    intro e
    obtain ⟨m, r', e⟩ := (under_path hb hbn).1 e
    have := congrArg List.length e
    simp at this
  · have hp := okName_pos hn
    rw [size_path, size_path, pathL_snoc]
    by_cases e : b = []
    · subst e; simp [pathL, joinN]; omega
    · rw [pathL, if_neg e]; simp
  · rw [base_path hn]
    have : (pathS (b ++ [n])).size = (joinN b ++ 47 :: n).length := by rw [size_path, pathL_snoc]
    have e : (ByteArray.mk n.toArray).size = n.length := rfl
    rw [e]
    simp at this; omega
  · rw [eqSlash, pathS_list]
    have : pathL (b ++ [n]) ≠ [47] := by rw [Ne, pathL_slash hbn]; simp
    simpa using this

/-- how many slashes ahead of a place; the root's own is none -/
def cnt (s : ByteArray) (k : Nat) : Nat := if s.data.toList = [47] then 0 else (s.data.toList.take k).countP (· == 47)
theorem cnt_le (s : ByteArray) (k : Nat) : cnt s k ≤ s.size := by
  unfold cnt
  split
  · omega
  · refine Nat.le_trans List.countP_le_length ?_
    rw [← size_toList]; simp; omega
theorem cnt_next (s : ByteArray) (k : Nat) (h : k < s.size) : cnt s (k + 1) = cnt s k + (if s.data.toList ≠ [47] ∧ s[k] = 47 then 1 else 0) := by
  unfold cnt
  by_cases e : s.data.toList = [47]
  · simp [e]
  · have ht : s.data.toList.take (k + 1) = s.data.toList.take k ++ [s[k]] := by
      rw [List.take_succ_eq_append_getElem (by simpa using h)]; rfl
    rw [if_neg e, if_neg e, ht, List.countP_append]
    by_cases h47 : s[k] = 47
    · simp [e, h47]
    · simp [h47]

structure CntsRel (s : ByteArray) (names i : Value) : Prop where
  ex : ∃ k : Nat, k ≤ s.size ∧ i = .int .i64 k ∧ names = .int .i64 (cnt s k)

theorem exr : parS ⟨#[47]⟩ = ⟨#[]⟩ := by decide +kernel

set_option maxHeartbeats 2000000 in
set_option maxRecDepth 100000 in
theorem walk (a0 : ByteArray) (w : World) (z0 : a0.size ≤ 140737488351232) (tab : TabOk w) :
    Calls Tryd.prog 5 #[.string a0] w fun e w' => e = .returned (.bool true) ∧ Below w.heap.size w w' := by
  have HT := Lib.hid tab; clear tab
  by_cases hc : checkS a0 = 0
  · obtain ⟨ns, hok, hp, h6, hz⟩ := (check_ok a0).1 hc
    have HOK := Lib.hid hok
    have HP := Lib.hid hp
    have HST : Hid (∀ b n r, ns = (b ++ [n]) ++ r → Step ns b n a0 (pathS (b ++ [n])) (pathS b)) := Lib.hid fun b n r h => by rw [hp] at hz ⊢; exact step_of hok h h6 hz
    have hun : underS a0 a0 = false := by
      rw [Bool.eq_false_iff]
      intro e
      rw [hp] at e
      obtain ⟨m, r', e⟩ := (under_path hok hok).1 e
      have := congrArg List.length e
      simp at this
    have HE : Hid (cnt a0 a0.size = ns.length) := Lib.hid (by
      unfold cnt
      rw [hp, pathS_list]
      by_cases e : ns = []
      · rw [if_pos ((pathL_slash hok).2 e), e]; rfl
      · rw [if_neg (fun h => e ((pathL_slash hok).1 h)), List.take_of_length_le (Nat.le_of_eq (size_path ns).symm), pathL, if_neg e, count_names hok])
    have hc2 : (checkS a0 != 0) = false := by rw [hc]; rfl
    clear hp hok
    go_enter Tryd.func5, Tryd.ntmps5
    go_wp2_with fail
    refine (awake_any _ HT.out).mono ?_
    rintro e w1 ⟨rfl, hb1⟩
    go_wp2_with fail
    refine (check_any a0 _ (by omega)).mono ?_
    rintro e w2 ⟨rfl, hb2⟩
    have hB : Below w.heap.size w w2 := hb1.trans (hb2.mono hb1.size)
    clear hb1 hb2 hc
    go_wp2_with fail
    go_loopw [4, 5] (fun at_ steps wr => ClimbRel ns w at_ steps wr) (fun at_ _ _ => (match at_ with | .string p => p.size | _ => 0))
    case atStart => exact ⟨ns, [], by simp, by rw [HP.out], rfl, hB⟩
    case round =>
      obtain ⟨a, r, hns, rfl, rfl, hbw⟩ := hrel.ex
      clear hrel hB
      rcases List.eq_nil_or_concat a with rfl | ⟨b, n, rfl⟩
      · obtain rfl : ns = r := by simpa using hns
        clear hns
        have HEX := Lib.hid exr
        have hroot : pathS [] = ⟨#[47]⟩ := rfl
        rw [hroot]
        clear hroot
        go_wp2_with fail
        go_loop [7, 8] (fun names i => CntsRel a0 names i) (fun _ i => a0.size - (intOf i).toNat)
        case atStart => exact ⟨0, by omega, rfl, by simp [cnt]⟩
        case round =>
          obtain ⟨k, hk, rfl, rfl⟩ := hrel.ex
          clear hrel
          have hcl := cnt_le a0 k
          by_cases hlt : k < a0.size
          · have hnx := cnt_next a0 k hlt
            by_cases h47 : a0[k] = 47
            · have g1 : ((a0[k].toNat : Int) == 47) = true := by rw [h47]; rfl
              by_cases hsl : a0.data.toList = [47]
              · have HN : Hid (cnt a0 (k + 1) = cnt a0 k) := Lib.hid (by rw [hnx, if_neg (by simp [hsl]), Nat.add_zero])
                have g2 : (a0.toList == [47]) = true := by rw [eqSlash]; simpa using hsl
                have g3 : (!a0.toList == [47]) = false := by rw [g2]; rfl
                clear hnx h47 hsl
                go_wp2_with fail
                go_round
                case rel => exact ⟨k + 1, by omega, by go_num, by rw [HN.out]⟩
                case measure => simp [intOf]; omega
              · have HN : Hid (cnt a0 (k + 1) = cnt a0 k + 1) := Lib.hid (by rw [hnx, if_pos ⟨hsl, h47⟩])
                have g2 : (a0.toList == [47]) = false := by rw [eqSlash]; simpa using hsl
                have g3 : (!a0.toList == [47]) = true := by rw [g2]; rfl
                clear hnx h47 hsl
                go_wp2_with fail
                go_round
                case rel => exact ⟨k + 1, by omega, by go_num, by rw [HN.out]; go_num⟩
                case measure => simp [intOf]; omega
            · have HN : Hid (cnt a0 (k + 1) = cnt a0 k) := Lib.hid (by rw [hnx, if_neg (by simp [h47]), Nat.add_zero])
              have g1 : ((a0[k].toNat : Int) == 47) = false := by
                have : a0[k].toNat ≠ 47 := fun e => h47 (UInt8.toNat_inj.1 (by rw [e]; rfl))
                simp; omega
              clear hnx h47
              go_wp2_with fail
              go_round
              case rel => exact ⟨k + 1, by omega, by go_num, by rw [HN.out]⟩
              case measure => simp [intOf]; omega
          · obtain rfl : k = a0.size := by omega
            have HE2 : Hid (((ns.length : Int) == (cnt a0 a0.size : Int)) = true) := Lib.hid (by rw [HE.out]; simp)
            have hcn := HE2.out
            clear hlt
            go_wp2_with (first
              | (go_at_call 17; refine (under_any _ _ _ (by omega) (by omega)).mono ?_; rintro e w' ⟨rfl, rfl⟩)
              | (go_at_call 11; refine (parent_any _ _ (by decide)).mono ?_; rintro e w' ⟨rfl, rfl⟩; rw [HEX.out]))
            go_ret
            exact ⟨rfl, hbw⟩
      · have hst := HST.out b n r (by rw [hns, List.concat_eq_append])
        have hrl : r.length ≤ 5 := by
          rw [hns] at h6; simp at h6; omega
        have hns' : ns = b ++ (n :: r) := by rw [hns, List.concat_eq_append]; simp
        have HNS := Lib.hid hns'
        rw [List.concat_eq_append]
        clear hns hns'
        obtain ⟨c, hcc⟩ : ∃ c, pathS (b ++ [n]) = c := ⟨_, rfl⟩
        obtain ⟨u, huu⟩ : ∃ u, pathS b = u := ⟨_, rfl⟩
        rw [hcc, huu] at hst
        rw [hcc]
        have HU := Lib.hid huu
        clear hcc huu
        obtain ⟨q1, q2, q3, q4, q5, q6, q7, q8, q9, q10⟩ := hst
        have q11 : (!c.toList == [47]) = true := by rw [q10]; rfl
        have q12 : ((r.length : Int) == 6) = false := by simp; omega
        have q13 : (checkS u != 0) = false := by rw [q2]; rfl
        have hlt1 : w.heap.size ≤ wr.heap.size := hbw.size
        have q14 : ¬ (c.size ≤ u.size) := by omega
        go_wp2_with (first
          | (go_at_call 11; refine (parent_any _ _ (by omega)).mono ?_; rintro e w' ⟨rfl, rfl⟩; rw [q1])
          | (go_at_call 9; refine (check_any _ _ (by omega)).mono ?_; rintro e w3 ⟨rfl, hb3⟩)
          | (go_at_call 13; refine (base_any _ _ (by omega)).mono ?_; rintro e w' ⟨rfl, rfl⟩)
          | (go_at_call 15; refine (kid_any _ _ _ (by omega) (by omega)).mono ?_; rintro e w' ⟨rfl, rfl⟩; rw [q3])
          | (go_at_call 17; refine (under_any _ _ _ (by omega) (by omega)).mono ?_; rintro e w' ⟨rfl, rfl⟩))
        go_roundw
        case rel => exact ⟨b, n :: r, HNS.out, by rw [HU.out], by simp, hbw.trans (hb3.mono hlt1)⟩
        case measure => exact q7
  · have hc2 : (checkS a0 != 0) = true := by simpa using hc
    clear hc
    go_enter Tryd.func5, Tryd.ntmps5
    go_wp2_with fail
    refine (awake_any _ HT.out).mono ?_
    rintro e w1 ⟨rfl, hb1⟩
    go_wp2_with fail
    refine (check_any a0 _ (by omega)).mono ?_
    rintro e w2 ⟨rfl, hb2⟩
    go_wp2_with fail
    go_ret
    exact ⟨rfl, hb1.trans (hb2.mono hb1.size)⟩

theorem own : ownKnob Tryd.prog.godebug = none := by kernel_rfl
theorem laidOut : laidOutB Tryd.prog = true := by kernel_rfl

theorem table {W : World} (h : laidMetH Tryd.prog Rows.pathClimbsRow.laid W) : TabOk W := by
  have h1 : laidMet Tryd.prog Rows.pathClimbsRow.laid W := h
  exact Lib.tabIs_of_head (zs := Lib.pow10Tab) (rest := []) (g := 1) (t := 78) (e := 64) (n := 20) (by kernel_rfl) (by kernel_rfl) (by kernel_rfl) (by kernel_rfl) (by kernel_rfl) (by kernel_rfl) h1.tail.tail

theorem contract (H : Type) (enc : TypeId × Value → H) (W : World) (base : Nat) (args : Array Value) (ds gs : List (DataW H)) (before : List MemPlace)
    (hval0 : ∀ (j : Nat) t v, Tryd.f5.params[j]? = some t → args[j]? = some v → Value.okWide Tryd.prog W .any base t v)
    (hW : DataW.Whole enc Tryd.prog Tryd.f5.params.toList Rows.pathClimbsSpec.vars false W args.toList ds gs before) (hL : laidMetH Tryd.prog Rows.pathClimbsRow.laid W)
    (hsz0 : (DataW.weightsEach Tryd.prog (Tryd.f5.params.toList ++ Rows.pathClimbsSpec.plain.varTypes Tryd.prog) (ds ++ gs)).all (· ≤ reachBytes) = true) :
    Calls Tryd.prog 5 args W fun e W' => ∃ v, e = .returned v ∧ Rows.pathClimbsSpec.post enc Tryd.prog Tryd.f5 false true false false W args v W' := by
  have hval : ∀ (j : Nat) t v, Tryd.f5.params[j]? = some t → args[j]? = some v → Value.okWide Tryd.prog W .any base t v := hval0
  have hW' := hW
  obtain ⟨p, q, hA0, hV, rfl, hfz, hnd⟩ := hW
  have hA : DataW.TrodAll enc Tryd.prog W 0 (fun _ => true) true Tryd.f5.params.toList args.toList ds p := hA0
  have hsz : (DataW.weightsEach Tryd.prog (Tryd.f5.params.toList ++ Rows.pathClimbsSpec.plain.varTypes Tryd.prog) (ds ++ gs)).all (· ≤ reachBytes) = true := hsz0
  clear hsz0
  rw [Tryd.params5] at hA hval hsz
  obtain ⟨v0, vs0, d0, ds0, p0, q0, hargs, rfl, rfl, h0, r0⟩ := trodAll_cons hA
  obtain ⟨rfl, rfl, rfl⟩ := trodAll_nil r0
  obtain rfl : args = #[v0] := by cases args; simp_all
  obtain ⟨rfl, rfl⟩ := trodVars_none hV
  have k0 := h0
  have lt0 : ∀ x ∈ p0, x.block < W.heap.size := by obtain ⟨m, hm⟩ := k0; exact DataW.trod_lt m _ _ _ hm
  obtain ⟨a0, e0, f0, g0, w0⟩ := open_string Tryd.underlying9 (hval 0 9 v0 rfl rfl) h0
  subst e0
  clear hA0 hval0
  have z0 : a0.size ≤ 140737488351232 := by
    have := sized_string hsz (j := 0) (bytes := a0.data.toList) rfl (by rw [f0]; rfl)
    simpa [reachBytes] using this
  have tab := table hL
  refine (walk a0 W z0 tab).mono fun e W' ⟨he, bel⟩ => ?_
  subst he
  exact ⟨_, rfl, _, _, _, [], _, [], hW', trodAll_mk1 (shut_bool Tryd.underlying4 _), (trodAll_cons_mk (Below.trod laidOut (by kernel_rfl) (of_decide_eq_true (by kernel_rfl)) k0 bel lt0) trodAll_mk0), rfl, bel.frame _, fun h => by cases h⟩

/-- the cells that a listed table has -/
def tabCells {H : Type} : DataW H → Array Value
  | .agg parts => (parts.map fun d => match d with | .lit (.int k z) => Value.int k z | _ => undef).toArray
  | _ => #[]
def lay (W : World) (g : Nat) (cs : Array Value) : World := { W with heap := W.heap.modify g fun
      | .cells _ t frozen => .cells cs t frozen
      | o => o }
noncomputable def laidWorld (os : Os) : World :=
  lay (lay (lay (World.holding Tryd.prog os ⟨#[], #[], []⟩) 1 (tabCells (H := Unit) Rows.laid_internal_strconv_uint64pow10)) 2 (tabCells (H := Unit) Rows.laid_math_bits_deBruijn32tab)) 3 (tabCells (H := Unit) Rows.laid_math_bits_deBruijn64tab)
theorem laid_met (os : Os) : laidMet Tryd.prog Rows.pathClimbsRow.laid ((laidWorld os).forCall (fun _ _ => 0) ⟨#[], #[.string ByteArray.empty], []⟩).memory :=
  laidMet_of_run' 8 (by kernel_rfl) (by kernel_rfl)
theorem reads (os : Os) {H : Type} (enc : TypeId × Value → H) : ∃ places, DataW.whole enc Tryd.prog ((laidWorld os).forCall (fun _ _ => 0) ⟨#[], #[.string ByteArray.empty], []⟩).memory Tryd.f5.params.toList Rows.pathClimbsSpec.vars false (#[.string ByteArray.empty] : Array Value).toList 8 = some ([.lit (.string [])], [], places) :=
  ⟨[], by kernel_rfl⟩

set_option maxRecDepth 100000 in
theorem lifted (os : Os) (started : os.Started) (H : Type) (enc : TypeId × Value → H) (F : Stop.Interp) :
    ReturnsInHanded {} Tryd.checked os 5 .any ((OpenSpec.ofChange Rows.pathClimbsSpec).preRow enc Tryd.prog Tryd.f5 Rows.pathClimbsRow.domain false Rows.pathClimbsRow.laid) (((OpenSpec.ofChange Rows.pathClimbsSpec).at F).post enc Tryd.prog Tryd.f5 false true false false) := by
  obtain ⟨places, hx⟩ := reads os enc
  refine returnsInHanded_of_row (C := Tryd.checked) (s := OpenSpec.ofChange Rows.pathClimbsSpec) own started (by kernel_rfl) Tryd.func5
    (witness_row_at (enc := enc) (C := Tryd.checked) false (laidWorld os) #[.string ByteArray.empty] rfl (by kernel_rfl) (by kernel_rfl) (by kernel_rfl)
      (OpenSpec.preRow_of_cond 8 hx (by kernel_rfl) (fun k hk => by cases hk) (by kernel_rfl) (laid_met os))) ?_
  intro W base args ds gs before hval hW _ hcond hsz hL _ _
  exact contract H enc W base args ds gs before hval hW hL hsz

theorem said : Rows.PathClimbsSaid :=
  OpenClaim.holds_of_cond 5 Tryd.f5 rfl rfl rfl rfl rfl rfl rfl ⟨rfl, rfl, rfl, rfl, rfl⟩ rfl rfl rfl rfl rfl (by kernel_rfl) Tryd.func5 (by kernel_rfl)
    (of_decide_eq_true (by kernel_rfl)) (by unfold Func.isWrapper; first | (rw [if_pos (by decide +kernel)]; kernel_rfl) | (rw [if_neg (by decide +kernel)]; exact ⟨rfl, rfl⟩))
    (fun os started H enc _ F => by rw [OpenClaim.pre_eq_preRow]; exact lifted os started H enc F)

theorem plain (f : FuncId) (fn : Func) (hf : Tryd.pinned.checked.prog.funcNamed Rows.pathClimbsRow.func = some f) (hfn : Tryd.pinned.checked.prog.funcs[f]? = some fn) :
    false = Tryd.pinned.checked.prog.looks [] ∧ ∀ (j : Nat) t, fn.params[j]? = some t → Tryd.pinned.checked.prog.wantsStandIn t = false := by
  obtain rfl : f = 5 := Option.some.inj ((show Tryd.prog.funcNamed Rows.pathClimbsRow.func = some 5 by kernel_rfl).symm.trans hf) |>.symm
  obtain rfl : fn = Tryd.f5 := (Option.some.inj (Tryd.func5.symm.trans hfn)).symm
  refine ⟨by kernel_rfl, fun j t ht => ?_⟩
  rw [Tryd.params5] at ht
  have hm := Array.mem_of_getElem? ht
  have hall : ∀ t ∈ (#[9] : Array TypeId), Tryd.prog.wantsStandIn t = false := by
    intro t h
    simp only [List.mem_toArray, List.mem_cons, List.not_mem_nil, or_false] at h
    rcases h with rfl <;> kernel_rfl
  exact hall t hm

/-- the given statement -/
theorem proved : Rows.PathClimbsCardSaid :=
  Claim7.holds_tied_plain_at .later [] _ _ _ _ said (fun _ h => by cases h) (by kernel_rfl) (fun _ h => by cases h) pathClimbs_row_tie rfl ⟨rfl, rfl⟩ (by kernel_rfl) rfl plain (by kernel_rfl)
#print axioms proved
end Go.Proofs.YtkmmkgooohpbcaaDoor.pathClimbs
