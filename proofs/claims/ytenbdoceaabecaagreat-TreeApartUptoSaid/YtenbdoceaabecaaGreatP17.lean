/- The document's own Names, Check. The document's own Check; awake. -/
import Derived.Test.YtenbdoceaabecaaGreatP16
import Derived.OwnWalk
namespace Go.Proofs.YtenbdoceaabecaaGreat
open Go.ChangeShapes Go.WideShapes Go.ChangeAt Go.RowKit
set_option linter.unusedVariables false
set_option linter.unusedSimpArgs false

theorem info_str : (Tryz.prog.info? 9).map (fun i => (i.zero, i.size, i.bytes)) = some (some (.string ByteArray.empty), 1, 16) := by kernel_rfl

/-- what is told of the names: how many, and whether -/
def NamesPost (o : Option Nat) (w : World) (e : Ending) (w' : World) : Prop :=
  (∃ v : Value, (o = none ∧ e = .returned (.tuple #[v, .bool false])) ∨
    (∃ n, o = some n ∧ e = .returned (.tuple #[v, .bool (decide (0 < n))]) ∧ (v = .slice none 0 0 ∧ n = 0 ∨ ∃ a c, v = .slice (some a) n c))) ∧ Below w.heap.size w w'
theorem names_none {o : Option Nat} {w w' : World} {v : Value} (h : o = none) (hb : Below w.heap.size w w') : NamesPost o w (.returned (.tuple #[v, .bool false])) w' :=
  ⟨⟨v, .inl ⟨h, rfl⟩⟩, hb⟩
theorem names_zero {o : Option Nat} {w w' : World} (h : o = some 0) (hb : Below w.heap.size w w') : NamesPost o w (.returned (.tuple #[.slice none 0 0, .bool false])) w' :=
  ⟨⟨_, .inr ⟨0, h, rfl, .inl ⟨rfl, rfl⟩⟩⟩, hb⟩
theorem names_some {o : Option Nat} {w w' : World} {k c : Nat} {a : Addr} (h : o = some k) (hb : Below w.heap.size w w') : NamesPost o w (.returned (.tuple #[.slice (some a) k c, .bool (decide (0 < k))])) w' :=
  ⟨⟨_, .inr ⟨k, h, rfl, .inr ⟨a, c, rfl⟩⟩⟩, hb⟩

structure NamesRel (s : ByteArray) (w0 : World) (pv ov : Value) (w : World) : Prop where
  ex : ∃ (k : Nat) (p : ByteArray) (xs : List Value), pv = .string p ∧ w.ownsRow w0.heap.size 9 1 ov k xs ∧ k + p.size ≤ s.size ∧
    (lens (rnames p.data.toList)).map (k + ·) = lens (rnames s.data.toList) ∧ Below w0.heap.size w0 w

theorem cell_one_new (w : World) (x : Value) (t : TypeId) : ∀ j u, ([x] : List Value)[j]? = some u → (w.alloc (.cells #[x] t)).cell? (Addr.add ⟨w.heap.size, 0, none⟩ j) = some u := by
  intro j u h
  rcases j with _ | j
  · obtain rfl : x = u := by simpa using h
    exact (World.cell?_alloc_at _ _ _ _ rfl).trans rfl
  · simp at h

theorem drop_tail (b : UInt8) (t : List UInt8) (n : Nat) (h : 1 ≤ n) : (b :: t).drop n = t.drop (n - 1) := by
  cases n with
  | zero => omega
  | succ n => rfl

/-- how far the first name goes -/
structure FirstRel (p : ByteArray) (nv : Value) : Prop where
  ex : ∃ n : Nat, nv = .int .i64 n ∧ 1 ≤ n ∧ n ≤ p.size ∧ ∀ b ∈ (p.data.toList.drop 1).take (n - 1), (b != 47) = true

theorem take_while_of (t : List UInt8) (n : Nat) (hn : n ≤ t.length) (h : ∀ b ∈ t.take n, (b != 47) = true) (he : n = t.length ∨ ∃ hn : n < t.length, t[n] = 47) :
    t.takeWhile (· != 47) = t.take n ∧ t.dropWhile (· != 47) = t.drop n := by
  have e : t = t.take n ++ t.drop n := (List.take_append_drop n t).symm
  have hd : (t.drop n).takeWhile (· != 47) = [] ∧ (t.drop n).dropWhile (· != 47) = t.drop n := by
    rcases he with rfl | ⟨hlt, h47⟩
    · simp
    · rw [List.drop_eq_getElem_cons hlt, h47]; simp
  constructor
  · conv => lhs; rw [e]
    rw [List.takeWhile_append_of_pos h, hd.1, List.append_nil]
  · conv => lhs; rw [e]
    rw [List.dropWhile_append_of_pos h, hd.2]

theorem lens_rn (c : List UInt8) (o : Option (List (List UInt8))) (k : Nat) (r : Option Nat) (h : (lens (o.map (c :: ·))).map (k + ·) = r) : (lens o).map (k + 1 + ·) = r := by
  rw [← lens_cons, h]

set_option maxHeartbeats 2000000 in
set_option maxRecDepth 100000 in
theorem refNames_any (s : ByteArray) (w : World) (hs : s.size ≤ 1099511627776) :
    Calls Tryz.prog 114 #[.string s] w (NamesPost (lens (rnames s.data.toList)) w) := by
  obtain ⟨i0, hi, hz0, hz1, hz2⟩ := info_parts info_str
  go_enter Tryz.func114, Tryz.ntmps114
  go_wp2
  go_loopw [0, 4] (fun pv ov wr => NamesRel s w pv ov wr) (fun pv _ _ => (match pv with | .string p => p.size | _ => 0))
  case atStart => exact ⟨0, s, [], rfl, World.ownsRow_nil _ _ _ _, by omega, by simp [lens, Function.comp_def], Below.refl _ _⟩
  case round =>
    obtain ⟨k, p, xs, rfl, hown, hk, hrn, hbw⟩ := hrel.ex
    clear hrel
    have HR := Lib.hid hrn; clear hrn
    by_cases hp : p.size = 0
    · have hpl : p.data.toList = [] := List.eq_nil_of_length_eq_zero hp
      have HF : Hid (lens (rnames s.data.toList) = some k) := Lib.hid (by rw [← HR.out, hpl, rnames]; rfl)
      have h1 : p.toList.isEmpty = true := by rw [Lib.toList_data, hpl]; rfl
      have h2 : (!p.toList.isEmpty) = false := by rw [h1]; rfl
      clear hp hpl
      rcases hown.2 with ⟨rfl, hk0⟩ | ⟨g, cap, cur, rfl, hh⟩
      · obtain rfl : k = 0 := by omega
        go_wp2
        go_ret2
        exact names_zero HF.out hbw
      · go_wp2
        go_ret2
        exact names_some HF.out hbw
    · obtain ⟨b, t, hpl⟩ : ∃ b t, p.data.toList = b :: t := by
        cases e : p.data.toList with
        | nil => exact absurd (by rw [← size_toList, e]; rfl) hp
        | cons b t => exact ⟨b, t, rfl⟩
      have hp0 : 0 < p.size := by omega
      have hb : p[0] = b := by
        have : p[0] = p.data.toList[0]'(by rw [size_toList]; exact hp0) := rfl
        rw [this]; simp [hpl]
      have htz : t.length + 1 = p.size := by rw [← size_toList, hpl]; rfl
      have h1 : p.toList.isEmpty = false := by rw [Lib.toList_data, hpl]; rfl
      have h2 : (!p.toList.isEmpty) = true := by rw [h1]; rfl
      by_cases h47 : b = 47
      · subst h47
        have h3 : p[0].toNat = 47 := by rw [hb]; rfl
        have h4 : ((p[0].toNat : Int) != 47) = false := by rw [h3]; rfl
        clear h3
        go_wp2
        go_loop [5] (fun nv => FirstRel p nv) (fun nv => p.size - (intOf nv).toNat)
        case atStart => exact ⟨1, rfl, by omega, by omega, by simp⟩
        case round =>
          obtain ⟨n, rfl, hn1, hn2, hall⟩ := hrel.ex
          clear hrel
          have HA := Lib.hid hall; clear hall
          by_cases hlt : n < p.size
          · have hg : p[n] = t[n - 1]'(by omega) := by
              have : p[n] = p.data.toList[n]'(by rw [size_toList]; exact hlt) := rfl
              rw [this]
              simp only [hpl]
              rw [List.getElem_cons, dif_neg (by omega)]
            by_cases h47 : p[n] = 47
            · have h5 : ((p[n].toNat : Int) != 47) = false := by rw [h47]; rfl
              have HTW : Hid (t.takeWhile (· != 47) = t.take (n - 1) ∧ t.dropWhile (· != 47) = t.drop (n - 1)) := Lib.hid
                (take_while_of t (n - 1) (by omega) (by have := HA.out; rw [hpl] at this; simpa using this) (.inr ⟨by omega, by rw [← hg, h47]⟩))
              clear hg h47
              have HX : Hid ((p.extract 1 n).data.toList = t.takeWhile (· != 47)) := Lib.hid (by rw [Lib.extract_data, hpl, HTW.out.1]; simp)
              have HY : Hid ((p.extract n p.size).data.toList = t.dropWhile (· != 47)) := Lib.hid (by
                rw [Lib.extract_data, hpl, HTW.out.2, drop_tail _ _ _ hn1, List.take_of_length_le (by simp; omega)])
              have hx2 : (p.extract 1 n).size = n - 1 := by rw [ByteArray.size_extract]; omega
              have hy2 : (p.extract n p.size).size = p.size - n := by rw [ByteArray.size_extract]; omega
              have HRN : Hid (rnames p.data.toList = if (47 : UInt8) = 47 ∧ okName (t.takeWhile (· != 47)) = true then (rnames (t.dropWhile (· != 47))).map (t.takeWhile (· != 47) :: ·) else none) := Lib.hid (by rw [hpl, rnames])
              have hx3 : (p.extract 1 n).size ≤ 1099511627776 := by omega
              have HY2 : Hid ((p.extract n p.size).size + n = p.size) := Lib.hid (by omega)
              clear hpl hx2 hy2 hb htz
              by_cases hok : okName (p.extract 1 n).data.toList = true
              · have HR' : Hid ((lens (rnames (p.extract n p.size).data.toList)).map (k + 1 + ·) = lens (rnames s.data.toList)) := Lib.hid (by
                  have := HR.out
                  rw [HRN.out, ← HX.out, if_pos ⟨rfl, hok⟩] at this
                  rw [HY.out]
                  exact lens_rn _ _ _ _ this)
                have hlt0 : w.heap.size ≤ wr.heap.size := hbw.size
                have q1 : ∀ W, Sem.run Tryz.prog (Instr.slice 9 (.string p) (some (.int .i64 1)) (some (.int .i64 n)) none) W = .ok (.string (p.extract 1 n)) W := fun W => run_slice_string W _ p .i64 .i64 1 n Tryz.underlying9 (by omega) (by omega) (by omega)
                go_wp2_with (first
                  | (go_at_call 145; refine (refIsName_any _ _ (by unfold maxLen; omega)).mono ?_; rintro e w' ⟨rfl, rfl⟩; simp only [hok])
                  | (at_builtin
                     refine wpList_append_own _ rfl _ _ 102 rfl w.heap.size 9 i0 (.string ByteArray.empty) 1 16 Tryz.underlying102 hi hz0 hz1 hz2 rfl (by decide) _ _ _ rfl (hown.alloc _) ⟨wr.heap.size, 0, none⟩ 1 1 [.string (p.extract 1 n)] rfl rfl (cell_one_new _ _ _) (fun u hu => by simp at hu; subst hu; rfl) (by unfold maxLen; omega) (by omega) (by simp; omega) ?_
                     intro v' w3 hown' hgrow' hnil'
                     have hb3 : Below w.heap.size w w3 := (hbw.alloc hlt0 _).grown hgrow' (by simp; omega) (fun j hj => (hown.lt _ hj).1)
                     clear hgrow' hnil'))
                go_roundw
                case rel => exact ⟨k + 1, p.extract n p.size, _, rfl, hown', by have := HY2.out; omega, HR'.out, hb3⟩
                case measure => have := HY2.out; simp only []; omega
              · have hok' : okName (p.extract 1 n).data.toList = false := by simpa using hok
                have HF : Hid (lens (rnames s.data.toList) = none) := Lib.hid (by
                  rw [← HR.out, HRN.out, ← HX.out, if_neg (by rw [hok']; simp)]; rfl)
                clear hok
                have q1 : ∀ W, Sem.run Tryz.prog (Instr.slice 9 (.string p) (some (.int .i64 1)) (some (.int .i64 n)) none) W = .ok (.string (p.extract 1 n)) W := fun W => run_slice_string W _ p .i64 .i64 1 n Tryz.underlying9 (by omega) (by omega) (by omega)
                go_wp2_with (first
                  | (go_at_call 145; refine (refIsName_any _ _ (by unfold maxLen; omega)).mono ?_; rintro e w' ⟨rfl, rfl⟩; simp only [hok']))
                go_ret2
                exact names_none HF.out hbw
            · have h5 : ((p[n].toNat : Int) != 47) = true := by
                have : p[n].toNat ≠ 47 := fun e => h47 (UInt8.toNat_inj.1 (by rw [e]; rfl))
                simp; omega
              have HA' : Hid (∀ b ∈ (p.data.toList.drop 1).take (n + 1 - 1), (b != 47) = true) := Lib.hid (by
                have := HA.out
                rw [hpl] at this ⊢
                simp only [List.drop_succ_cons, List.drop_zero] at this ⊢
                intro b hb
                rw [show n + 1 - 1 = (n - 1) + 1 by omega, List.take_succ_eq_append_getElem (by omega)] at hb
                rcases List.mem_append.1 hb with hb | hb
                · exact this b hb
                · obtain rfl : b = t[n - 1] := by simpa using hb
                  rw [← hg]; simpa using h47)
              clear hg h47 hpl hb
              go_wp2
              go_round
              case rel => exact ⟨n + 1, by go_num, by omega, by omega, HA'.out⟩
              case measure => simp [intOf]; omega
          · have HTW : Hid (t.takeWhile (· != 47) = t.take (n - 1) ∧ t.dropWhile (· != 47) = t.drop (n - 1)) := Lib.hid
                (take_while_of t (n - 1) (by omega) (by have := HA.out; rw [hpl] at this; simpa using this) (.inl (by omega)))
            have HX : Hid ((p.extract 1 n).data.toList = t.takeWhile (· != 47)) := Lib.hid (by rw [Lib.extract_data, hpl, HTW.out.1]; simp)
            have HY : Hid ((p.extract n p.size).data.toList = t.dropWhile (· != 47)) := Lib.hid (by
              rw [Lib.extract_data, hpl, HTW.out.2, drop_tail _ _ _ hn1, List.take_of_length_le (by simp; omega)])
            have hx2 : (p.extract 1 n).size = n - 1 := by rw [ByteArray.size_extract]; omega
            have hy2 : (p.extract n p.size).size = p.size - n := by rw [ByteArray.size_extract]; omega
            have HRN : Hid (rnames p.data.toList = if (47 : UInt8) = 47 ∧ okName (t.takeWhile (· != 47)) = true then (rnames (t.dropWhile (· != 47))).map (t.takeWhile (· != 47) :: ·) else none) := Lib.hid (by rw [hpl, rnames])
            have hx3 : (p.extract 1 n).size ≤ 1099511627776 := by omega
            have HY2 : Hid ((p.extract n p.size).size + n = p.size) := Lib.hid (by omega)
            clear hpl hx2 hy2 hb htz
            by_cases hok : okName (p.extract 1 n).data.toList = true
            · have HR' : Hid ((lens (rnames (p.extract n p.size).data.toList)).map (k + 1 + ·) = lens (rnames s.data.toList)) := Lib.hid (by
                have := HR.out
                rw [HRN.out, ← HX.out, if_pos ⟨rfl, hok⟩] at this
                rw [HY.out]
                exact lens_rn _ _ _ _ this)
              have hlt0 : w.heap.size ≤ wr.heap.size := hbw.size
              have q1 : ∀ W, Sem.run Tryz.prog (Instr.slice 9 (.string p) (some (.int .i64 1)) (some (.int .i64 n)) none) W = .ok (.string (p.extract 1 n)) W := fun W => run_slice_string W _ p .i64 .i64 1 n Tryz.underlying9 (by omega) (by omega) (by omega)
              go_wp2_with (first
                | (go_at_call 145; refine (refIsName_any _ _ (by unfold maxLen; omega)).mono ?_; rintro e w' ⟨rfl, rfl⟩; simp only [hok])
                | (at_builtin
                   refine wpList_append_own _ rfl _ _ 102 rfl w.heap.size 9 i0 (.string ByteArray.empty) 1 16 Tryz.underlying102 hi hz0 hz1 hz2 rfl (by decide) _ _ _ rfl (hown.alloc _) ⟨wr.heap.size, 0, none⟩ 1 1 [.string (p.extract 1 n)] rfl rfl (cell_one_new _ _ _) (fun u hu => by simp at hu; subst hu; rfl) (by unfold maxLen; omega) (by omega) (by simp; omega) ?_
                   intro v' w3 hown' hgrow' hnil'
                   have hb3 : Below w.heap.size w w3 := (hbw.alloc hlt0 _).grown hgrow' (by simp; omega) (fun j hj => (hown.lt _ hj).1)
                   clear hgrow' hnil'))
              go_roundw
              case rel => exact ⟨k + 1, p.extract n p.size, _, rfl, hown', by have := HY2.out; omega, HR'.out, hb3⟩
              case measure => have := HY2.out; simp only []; omega
            · have hok' : okName (p.extract 1 n).data.toList = false := by simpa using hok
              have HF : Hid (lens (rnames s.data.toList) = none) := Lib.hid (by
                rw [← HR.out, HRN.out, ← HX.out, if_neg (by rw [hok']; simp)]; rfl)
              clear hok
              have q1 : ∀ W, Sem.run Tryz.prog (Instr.slice 9 (.string p) (some (.int .i64 1)) (some (.int .i64 n)) none) W = .ok (.string (p.extract 1 n)) W := fun W => run_slice_string W _ p .i64 .i64 1 n Tryz.underlying9 (by omega) (by omega) (by omega)
              go_wp2_with (first
                | (go_at_call 145; refine (refIsName_any _ _ (by unfold maxLen; omega)).mono ?_; rintro e w' ⟨rfl, rfl⟩; simp only [hok']))
              go_ret2
              exact names_none HF.out hbw
      · have HF : Hid (lens (rnames s.data.toList) = none) := Lib.hid (by
          rw [← HR.out, hpl, rnames, if_neg (by intro h; exact h47 h.1)]; rfl)
        have h3 : p[0].toNat ≠ 47 := by rw [hb]; intro e; exact h47 (UInt8.toNat_inj.1 (by rw [e]; rfl))
        have h4 : ((p[0].toNat : Int) != 47) = true := by simp; omega
        clear hb hpl h3 h47
        go_wp2
        go_ret2
        exact names_none HF.out hbw
end Go.Proofs.YtenbdoceaabecaaGreat

namespace Go.Proofs.YtenbdoceaabecaaGreat
open Go.ChangeShapes Go.WideShapes Go.ChangeAt Go.RowKit
set_option linter.unusedVariables false
set_option linter.unusedSimpArgs false

theorem checkO_names (s : ByteArray) : checkO s.size (lens (parse s.data.toList)) = match lens (rnames s.data.toList) with
    | none => 40
    | some n => if 0 < n then (if 60 < s.size ∨ 6 < n then 41 else 0) else 40 := by
  by_cases h : s.data.toList = []
  · rw [h, rnames]; rfl
  · rw [rnames_parse _ h]
    cases e : parse s.data.toList with
    | none => rfl
    | some ns =>
      have := (parse_iff _ _).1 e
      have hpos : 0 < ns.length := List.length_pos_iff.2 this.1
      simp [lens, checkO, hpos]

set_option maxHeartbeats 400000 in
theorem refCheck_any (s : ByteArray) (w : World) (hs : s.size ≤ 1099511627776) :
    Calls Tryz.prog 89 #[.string s] w fun e w' => e = .returned (.int .i64 (checkS s)) ∧ Below w.heap.size w w' := by
  by_cases h : s.data.toList = [47]
  · have HF : Hid (checkS s = 0) := Lib.hid (by rw [checkS, if_pos h])
    obtain rfl := size_one h
    clear h
    go_enter Tryz.func89, Tryz.ntmps89
    go_wp2
    go_ret
    exact ⟨ret_int HF.out.symm, Below.refl _ _⟩
  · have HF := Lib.hid (show checkS s = _ by rw [checkS, if_neg h, checkO_names])
    have h1 : (s.toList == [47]) = false := by rw [eqSlash]; simpa using h
    clear h
    go_enter Tryz.func89, Tryz.ntmps89
    go_wp2_with fail
    refine (refNames_any s _ hs).mono ?_
    generalize lens (rnames s.data.toList) = o at HF
    rintro e w1 ⟨⟨v, h⟩, hb⟩
    rcases h with ⟨rfl, rfl⟩ | ⟨n, rfl, rfl, h⟩
    · go_wp2_with fail
      go_ret
      exact ⟨ret_int HF.out.symm, hb⟩
    · rcases h with ⟨rfl, rfl⟩ | ⟨a, c, rfl⟩
      · go_wp2_with fail
        go_ret
        exact ⟨ret_int HF.out.symm, hb⟩
      · have HF' : Hid (checkS s = if 0 < n then (if 60 < s.size ∨ 6 < n then 41 else 0) else 40) := HF
        clear HF
        by_cases h0 : 0 < n
        · by_cases h60 : 60 < s.size
          · have HG : Hid (checkS s = 41) := Lib.hid (by rw [HF'.out, if_pos h0, if_pos (.inl h60)])
            go_wp2_with fail
            go_ret
            exact ⟨ret_int HG.out.symm, hb⟩
          · by_cases h6 : 6 < n
            · have HG : Hid (checkS s = 41) := Lib.hid (by rw [HF'.out, if_pos h0, if_pos (.inr h6)])
              go_wp2_with fail
              go_ret
              exact ⟨ret_int HG.out.symm, hb⟩
            · have HG : Hid (checkS s = 0) := Lib.hid (by rw [HF'.out, if_pos h0, if_neg (by omega)])
              go_wp2_with fail
              go_ret
              exact ⟨ret_int HG.out.symm, hb⟩
        · have HG : Hid (checkS s = 40) := Lib.hid (by rw [HF'.out, if_neg h0])
          go_wp2_with fail
          go_ret
          exact ⟨ret_int HG.out.symm, hb⟩

theorem ex1 : checkS ⟨#[47, 97, 46, 98, 47, 67, 95, 45, 48]⟩ = 0 := by decide +kernel
theorem ex2 : checkS ⟨#[47, 97, 47]⟩ = 40 := by decide +kernel
theorem ex3 : checkS ⟨#[47, 97, 47, 98, 47, 99, 47, 100, 47, 101, 47, 102, 47, 103]⟩ = 41 := by decide +kernel
theorem ex4 : parS ⟨#[47, 97, 47, 98]⟩ = ⟨#[47, 97]⟩ := by decide +kernel
theorem ex5 : baseS ⟨#[47, 97, 47, 98]⟩ = ⟨#[98]⟩ := by decide +kernel
theorem ex6 : numS ⟨#[47, 113, 45]⟩ (7 : Int).toNat = ⟨#[47, 113, 45, 48, 48, 48, 48, 48, 48, 48, 48, 48, 55]⟩ := by decide +kernel

end Go.Proofs.YtenbdoceaabecaaGreat
