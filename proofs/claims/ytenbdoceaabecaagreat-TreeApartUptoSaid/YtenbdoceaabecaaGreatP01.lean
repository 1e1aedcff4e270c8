/- Paths, plainly: names, what a text is made of, the two ways of taking it apart. No program in this text. path.inName, path.isName, and the document's own letter, IsName. The contracts of the library that path calls, laid over this program by the kit (no walk). -/
import Derived.Lib.ItoaNum
import Derived.Lib.Repeat
import Derived.Lib.Strings
import Derived.Test.YtenbdoceaabecaaGreatProg
import Derived.WalkKit
import Derived.ProofKit
import Derived.Lib.Hide
import Derived.Outline
import Derived.Deep.Light
import Derived.Shelf.Small.Wraps
import Derived.Shelf.Strings.LastIndex
import Derived.Shelf.Strings.LastIndexAll
import Derived.Shelf.Strings.Prefix
namespace Go.Proofs.YtenbdoceaabecaaGreat

/-- may a byte stand in a name? -/
def lettN (b : Nat) : Bool := (97 ≤ b && b ≤ 122) || (65 ≤ b && b ≤ 90) || (48 ≤ b && b ≤ 57) || b == 95 || b == 45 || b == 46
def lett (b : UInt8) : Bool := lettN b.toNat
def nameB (l : List UInt8) : Bool := l != [] && l != [46] && l != [46, 46]
def okName (l : List UInt8) : Bool := nameB l && l.all lett
def joinN : List (List UInt8) → List UInt8
  | [] => []
  | n :: r => 47 :: (n ++ joinN r)
/-- from left to right, byte by byte, the name so far -/
def scan : List UInt8 → List UInt8 → Option (List (List UInt8))
  | [], _ => some []
  | b :: r, cur => if lett b then scan r (cur ++ [b]) else if b = 47 ∧ nameB cur = true then (scan r []).map (cur :: ·) else none
def parse : List UInt8 → Option (List (List UInt8))
  | [] => none
  | b :: l => if b = 47 then scan (l ++ [47]) [] else none

theorem lett_slash : lett 47 = false := by decide
theorem lett_ne {b : UInt8} (h : lett b = true) : b ≠ 47 := by intro e; subst e; revert h; decide

theorem scan_sound : ∀ (l cur : List UInt8) (ns : List (List UInt8)), cur.all lett = true → scan (l ++ [47]) cur = some ns →
    ns ≠ [] ∧ (∀ n ∈ ns, okName n = true) ∧ 47 :: (cur ++ l) = joinN ns
  | [], cur, ns, hc, h => by
    simp only [List.nil_append, scan, lett_slash, Bool.false_eq_true, if_false, true_and] at h
    by_cases hn : nameB cur = true
    · simp only [hn, if_true, Option.map_some, Option.some.injEq] at h
      subst h
      refine ⟨by simp, ?_, by simp [joinN]⟩
      intro n hm
      obtain rfl : n = cur := by simpa using hm
      simp [okName, hn, hc]
    · simp [hn] at h
  | b :: l, cur, ns, hc, h => by
    rw [List.cons_append, scan] at h
    by_cases hb : lett b = true
    · rw [if_pos hb] at h
      obtain ⟨h1, h2, h3⟩ := scan_sound l (cur ++ [b]) ns (by simp [hc, hb]) h
      exact ⟨h1, h2, by rw [← h3]; simp⟩
    · rw [if_neg hb] at h
      by_cases hn : b = 47 ∧ nameB cur = true
      · rw [if_pos hn] at h
        obtain ⟨ns', h', rfl⟩ := Option.map_eq_some_iff.1 h
        obtain ⟨h1, h2, h3⟩ := scan_sound l [] ns' rfl h'
        refine ⟨by simp, ?_, ?_⟩
        · intro n hm
          rcases List.mem_cons.1 hm with rfl | hm
          · simp [okName, hn.2, hc]
          · exact h2 n hm
        · rw [joinN, ← h3, hn.1]; simp
      · rw [if_neg hn] at h; cases h

theorem scan_run : ∀ (n cur rest : List UInt8), n.all lett = true → scan (n ++ rest) cur = scan rest (cur ++ n)
  | [], cur, rest, _ => by simp
  | b :: n, cur, rest, h => by
    simp only [List.all_cons, Bool.and_eq_true] at h
    rw [List.cons_append, scan, if_pos h.1, scan_run n _ _ h.2]
    simp

theorem okName_parts {n : List UInt8} (h : okName n = true) : nameB n = true ∧ n.all lett = true := by
  simpa [okName] using h

theorem scan_whole : ∀ (r : List (List UInt8)) (n : List UInt8), okName n = true → (∀ m ∈ r, okName m = true) → scan (joinN r ++ [47]) n = some (n :: r)
  | [], n, hn, _ => by
    simp [joinN, scan, lett_slash, (okName_parts hn).1]
  | m :: r, n, hn, hr => by
    have hm := hr m (by simp)
    rw [joinN, List.cons_append, scan, if_neg (by simp [lett_slash]), if_pos ⟨rfl, (okName_parts hn).1⟩, List.append_assoc, scan_run m [] _ (okName_parts hm).2,
      List.nil_append, scan_whole r m hm (fun k hk => hr k (by simp [hk]))]
    rfl

theorem parse_iff (p : List UInt8) (ns : List (List UInt8)) : parse p = some ns ↔ ns ≠ [] ∧ (∀ n ∈ ns, okName n = true) ∧ p = joinN ns := by
  constructor
  · intro h
    cases p with
    | nil => cases h
    | cons b l =>
      rw [parse] at h
      by_cases hb : b = 47
      · rw [if_pos hb] at h
        obtain ⟨h1, h2, h3⟩ := scan_sound l [] ns rfl h
        exact ⟨h1, h2, by rw [← h3, hb]; simp⟩
      · rw [if_neg hb] at h; cases h
  · rintro ⟨h1, h2, rfl⟩
    cases ns with
    | nil => exact absurd rfl h1
    | cons n r =>
      have hn := h2 n (by simp)
      rw [joinN, parse, if_pos rfl, List.append_assoc, scan_run n [] _ (okName_parts hn).2, List.nil_append, scan_whole r n hn (fun k hk => h2 k (by simp [hk]))]

/-- Q1, in the document's words -/
def checkL (p : List UInt8) : Int := if p = [47] then 0 else match parse p with
  | none => 40
  | some ns => if 60 < p.length ∨ 6 < ns.length then 41 else 0

/-- the document's own way: the first name, then the rest -/
def rnames (p : List UInt8) : Option (List (List UInt8)) :=
  match p with
  | [] => some []
  | b :: t => if b = 47 ∧ okName (t.takeWhile (· != 47)) = true then (rnames (t.dropWhile (· != 47))).map (t.takeWhile (· != 47) :: ·) else none
termination_by p.length
decreasing_by
  have := (List.dropWhile_sublist (l := t) (fun x => x != 47)).length_le
  simp; omega

theorem rnames_sound (k : Nat) : ∀ (p : List UInt8) (ns : List (List UInt8)), p.length ≤ k → rnames p = some ns → (∀ n ∈ ns, okName n = true) ∧ p = joinN ns := by
  induction k with
  | zero =>
    intro p ns hp h
    obtain rfl : p = [] := List.eq_nil_of_length_eq_zero (by omega)
    rw [rnames] at h
    obtain rfl : [] = ns := Option.some.inj h
    exact ⟨by simp, rfl⟩
  | succ k ih =>
    intro p ns hp h
    cases p with
    | nil =>
      rw [rnames] at h
      obtain rfl : [] = ns := Option.some.inj h
      exact ⟨by simp, rfl⟩
    | cons b t =>
      rw [rnames] at h
      by_cases hb : b = 47 ∧ okName (t.takeWhile (· != 47)) = true
      · rw [if_pos hb] at h
        obtain ⟨ns', h', rfl⟩ := Option.map_eq_some_iff.1 h
        have hl := (List.dropWhile_sublist (l := t) (fun x => x != 47)).length_le
        obtain ⟨h2, h3⟩ := ih _ ns' (by simp at hp; omega) h'
        refine ⟨?_, ?_⟩
        · intro n hm
          rcases List.mem_cons.1 hm with rfl | hm
          · exact hb.2
          · exact h2 n hm
        · rw [joinN, ← h3, List.takeWhile_append_dropWhile, hb.1]
      · rw [if_neg hb] at h; cases h

theorem all_ne {n : List UInt8} (h : n.all lett = true) : ∀ b ∈ n, (b != 47) = true := by
  intro b hb
  have := List.all_eq_true.1 h b hb
  simpa using lett_ne this

theorem joinN_head (r : List (List UInt8)) : (joinN r).takeWhile (· != 47) = [] ∧ (joinN r).dropWhile (· != 47) = joinN r := by
  cases r with
  | nil => exact ⟨rfl, rfl⟩
  | cons m r => constructor <;> simp [joinN]

theorem rnames_whole : ∀ (ns : List (List UInt8)), (∀ n ∈ ns, okName n = true) → rnames (joinN ns) = some ns
  | [], _ => by rw [joinN, rnames]
  | n :: r, h => by
    have hn := h n (by simp)
    have ha := all_ne (okName_parts hn).2
    have e1 : (n ++ joinN r).takeWhile (· != 47) = n := by
      rw [List.takeWhile_append_of_pos ha, (joinN_head r).1, List.append_nil]
    have e2 : (n ++ joinN r).dropWhile (· != 47) = joinN r := by
      rw [List.dropWhile_append_of_pos ha, (joinN_head r).2]
    rw [joinN, rnames, e1, e2, if_pos ⟨rfl, hn⟩, rnames_whole r (fun k hk => h k (by simp [hk]))]
    rfl

/-- the two ways come to one -/
theorem rnames_parse (p : List UInt8) (h : p ≠ []) : rnames p = parse p := by
  cases e : rnames p with
  | some ns =>
    obtain ⟨h1, h2⟩ := rnames_sound _ p ns (Nat.le_refl _) e
    refine ((parse_iff p ns).2 ⟨?_, h1, h2⟩).symm
    intro hn
    subst hn
    exact h h2
  | none =>
    cases e' : parse p with
    | none => rfl
    | some ns =>
      obtain ⟨_, h2, rfl⟩ := (parse_iff p ns).1 e'
      rw [rnames_whole ns h2] at e
      cases e
end Go.Proofs.YtenbdoceaabecaaGreat

namespace Go.Proofs.YtenbdoceaabecaaGreat
open Go.ChangeShapes Go.WideShapes Go.ChangeAt Go.RowKit
set_option linter.unusedVariables false
set_option linter.unusedSimpArgs false

theorem ret_val {a b : Value} (h : a = b) : Ending.returned a = .returned b := by rw [h]
theorem ret_bool {a b : Bool} (h : a = b) : Ending.returned (.bool a) = .returned (.bool b) := by rw [h]
theorem ret_int {k : IntKind} {a b : Int} (h : a = b) : Ending.returned (.int k a) = .returned (.int k b) := by rw [h]

set_option maxHeartbeats 400000 in
theorem inName_any (r : Nat) (w : World) (hr : r ≤ 2147483647) :
    Calls Tryz.prog 130 #[.int .i32 r] w fun e w' => e = .returned (.bool (lettN r)) ∧ w = w' := by
  go_enter Tryz.func130, Tryz.ntmps130
  go_wp2
  all_goals go_ret
  all_goals (refine ⟨ret_bool ?_, rfl⟩; go_light; rw [Bool.eq_iff_iff]; simp [lettN]; omega)

set_option maxHeartbeats 400000 in
theorem letter_any (r : Nat) (w : World) (hr : r ≤ 255) :
    Calls Tryz.prog 166 #[.int .u8 r] w fun e w' => e = .returned (.bool (lettN r)) ∧ w = w' := by
  go_enter Tryz.func166, Tryz.ntmps166
  go_wp2
  all_goals go_ret
  all_goals (refine ⟨ret_bool ?_, rfl⟩; go_light; rw [Bool.eq_iff_iff]; simp [lettN]; omega)

set_option maxHeartbeats 400000 in
theorem isName_any (s : ByteArray) (w : World) :
    Calls Tryz.prog 131 #[.string s] w fun e w' => e = .returned (.bool (nameB s.data.toList)) ∧ w = w' := by
  go_enter Tryz.func131, Tryz.ntmps131
  go_wp2
  all_goals go_ret
  all_goals (refine ⟨ret_bool ?_, rfl⟩; go_light; simp_all [nameB, Lib.toList_data, bne, List.isEmpty_iff])

theorem size_toList (s : ByteArray) : s.data.toList.length = s.size := rfl

set_option maxHeartbeats 400000 in
theorem refIsName_any (s : ByteArray) (w : World) (hs : s.size ≤ maxLen) :
    Calls Tryz.prog 145 #[.string s] w fun e w' => e = .returned (.bool (okName s.data.toList)) ∧ w = w' := by
  unfold maxLen at hs
  by_cases hn : nameB s.data.toList = true
  · obtain ⟨⟨h1, h2⟩, h3⟩ : (s.data.toList ≠ [] ∧ s.data.toList ≠ [46]) ∧ s.data.toList ≠ [46, 46] := by simpa [nameB, bne] using hn
    rw [← Lib.toList_data] at h1 h2 h3
    have g1 : s.toList.isEmpty = false := by simpa using h1
    have g2 : (s.toList == [46]) = false := by simpa using h2
    have g3 : (s.toList == [46, 46]) = false := by simpa using h3
    have HN := Lib.hid hn; clear hn
    go_enter Tryz.func145, Tryz.ntmps145
    go_wp2
    clear h1 h2 h3 g1 g2 g3
    go_loop [3] (fun i => ∃ k : Nat, k ≤ s.size ∧ i = .int .i64 k ∧ (s.data.toList.take k).all lett = true) (fun i => s.size - (intOf i).toNat)
    case atStart => exact ⟨0, Nat.zero_le _, rfl, rfl⟩
    case round =>
      obtain ⟨k, hk, rfl, hall⟩ := hrel
      have HA := Lib.hid hall; clear hall
      by_cases hlt : k < s.size
      · have hb : lettN (s[k].toNat) = lett s[k] := rfl
        have ht : s.data.toList.take (k + 1) = s.data.toList.take k ++ [s[k]] := by
          rw [List.take_succ_eq_append_getElem (by simpa using hlt)]; rfl
        have h256 := s[k].toNat_lt
        by_cases hl : lett s[k] = true
        · have HT : Hid ((s.data.toList.take (k + 1)).all lett = true) := by
            have := HA.out
            have : (s.data.toList.take (k + 1)).all lett = true := by rw [ht]; simp [this, hl]
            exact Lib.hid this
          rw [hl] at hb
          clear ht
          go_wp2_with (go_at_call 166; refine (letter_any _ _ (by omega)).mono ?_; rintro e w' ⟨rfl, rfl⟩)
          go_round
          case rel => exact ⟨k + 1, by omega, by go_num, HT.out⟩
          case measure => simp [intOf]; omega
        · have hl' : lett s[k] = false := by simpa using hl
          have HF : Hid (okName s.data.toList = false) := by
            refine Lib.hid ?_
            have : s.data.toList.all lett = false := by
              rw [List.all_eq_false]
              exact ⟨s[k], List.getElem_mem (l := s.data.toList) (n := k) (by simpa using hlt), by simp [hl']⟩
            simp [okName, this]
          rw [hl'] at hb
          clear ht hl hl'
          go_wp2_with (go_at_call 166; refine (letter_any _ _ (by omega)).mono ?_; rintro e w' ⟨rfl, rfl⟩)
          go_ret
          exact ⟨ret_bool HF.out.symm, rfl⟩
      · have HF : Hid (okName s.data.toList = true) := by
          refine Lib.hid ?_
          have h := HA.out
          rw [List.take_of_length_le (by rw [size_toList]; omega)] at h
          simp [okName, HN.out, h]
        go_wp2
        go_ret
        exact ⟨ret_bool HF.out.symm, rfl⟩
  · have hn' : nameB s.data.toList = false := by simpa using hn
    have HF : Hid (okName s.data.toList = false) := Lib.hid (by simp [okName, hn'])
    have h : s.toList = [] ∨ s.toList = [46] ∨ s.toList = [46, 46] := by
      rw [Lib.toList_data]
      by_cases a : s.data.toList = []
      · exact .inl a
      by_cases b : s.data.toList = [46]
      · exact .inr (.inl b)
      by_cases c : s.data.toList = [46, 46]
      · exact .inr (.inr c)
      simp only [nameB, bne_iff_ne, ne_eq, Bool.and_eq_false_iff, bne_eq_false_iff_eq] at hn'
      rcases hn' with (h | h) | h
      · exact absurd h a
      · exact absurd h b
      · exact absurd h c
    clear hn hn'
    rcases h with h | h | h
    all_goals
      go_enter Tryz.func145, Tryz.ntmps145
      go_wp2
      go_ret
      exact ⟨ret_bool HF.out.symm, rfl⟩
end Go.Proofs.YtenbdoceaabecaaGreat

namespace Go.Proofs
open Go.Shelf
def Tryz.lays103_ren : Go.Shelf.Ren := ⟨fun | 103 => 129 | 210 => 159 | 206 => 174 | n => n, fun | 9 => 9 | 4 => 4 | 24 => 203 | 3 => 3 | n => n, fun | n => n⟩
theorem Tryz.lays103 : Go.Proofs.Lays.n103 Tryz.prog Tryz.lays103_ren := {
  mixed := by kernel_rfl
  f103 := Tryz.func129.trans (congrArg some (by kernel_rfl))
  f206 := Tryz.func174.trans (congrArg some (by kernel_rfl))
  f210 := Tryz.func159.trans (congrArg some (by kernel_rfl))
  t3 := Tryz.underlying3
  a3 := Tryz.isAgg3
  z3 := Tryz.sizeOf3
  v3 := Tryz.zeroValue3
  t4 := Tryz.underlying4
  a4 := Tryz.isAgg4
  z4 := Tryz.sizeOf4
  v4 := Tryz.zeroValue4
  t9 := Tryz.underlying9
  a9 := Tryz.isAgg9
  z9 := Tryz.sizeOf9
  v9 := Tryz.zeroValue9
  t24 := Tryz.underlying203
  a24 := Tryz.isAgg203
  z24 := Tryz.sizeOf203
  v24 := Tryz.zeroValue203 }
open Go.RowKit in
/-- strings.CutPrefix: "CutPrefix returns s without the provided leading prefix string and reports whether it found the prefix. If s doesn't start with prefix, CutPrefix returns s, false. If prefix is the empty string, CutPrefix returns s, true.": IT RETURNS '(Lib.trimPrefix s p, Lib.hasPrefix s p)'; the world is as it was. (LAID: no walk: one application.) -/
theorem Tryz.strings_CutPrefix (s p : ByteArray) (w : World) :
    Calls Tryz.prog 129 #[.string s, .string p] w fun e w' => e = .returned (.tuple #[.string ⟨(Lib.trimPrefix s.data.toList p.data.toList).toArray⟩, .bool (Lib.hasPrefix s.data.toList p.data.toList)]) ∧ w' = w := Any.strings_CutPrefix Tryz.lays103 s p w
def Tryz.lays148_ren : Go.Shelf.Ren := ⟨fun | 148 => 127 | 222 => 148 | 223 => 149 | 269 => 169 | n => n, fun | 9 => 9 | 3 => 3 | 4 => 4 | 5 => 5 | 146 => 234 | 51 => 214 | 46 => 187 | n => n, fun | n => n⟩
theorem Tryz.lays148 : Go.Proofs.Lays.n148 Tryz.prog Tryz.lays148_ren := {
  mixed := by kernel_rfl
  f148 := Tryz.func127.trans (congrArg some (by kernel_rfl))
  f222 := Tryz.func148.trans (congrArg some (by kernel_rfl))
  f223 := Tryz.func149.trans (congrArg some (by kernel_rfl))
  f269 := Tryz.func169.trans (congrArg some (by kernel_rfl))
  t3 := Tryz.underlying3
  a3 := Tryz.isAgg3
  z3 := Tryz.sizeOf3
  v3 := Tryz.zeroValue3
  t4 := Tryz.underlying4
  a4 := Tryz.isAgg4
  z4 := Tryz.sizeOf4
  v4 := Tryz.zeroValue4
  t5 := Tryz.underlying5
  a5 := Tryz.isAgg5
  z5 := Tryz.sizeOf5
  v5 := Tryz.zeroValue5
  t9 := Tryz.underlying9
  a9 := Tryz.isAgg9
  z9 := Tryz.sizeOf9
  v9 := Tryz.zeroValue9
  t46 := Tryz.underlying187
  a46 := Tryz.isAgg187
  z46 := Tryz.sizeOf187
  v46 := Tryz.zeroValue187
  t51 := Tryz.underlying214
  a51 := Tryz.isAgg214
  z51 := Tryz.sizeOf214
  v51 := Tryz.zeroValue214
  t146 := Tryz.underlying234
  a146 := Tryz.isAgg234
  z146 := Tryz.sizeOf234
  v146 := Tryz.zeroValue234 }
open Go.RowKit Go.Lib in
/-- strings.LastIndex AT A substr OF ONE BYTE (as in 'strings.LastIndex(path, "/")'): the last place of that byte, or -1. (LAID: no walk: one application.) -/
theorem Tryz.strings_LastIndex_one (s sub : ByteArray) (h1 : sub.size = 1) (hs : s.size < 4611686018427387904) (w : World) :
    Calls Tryz.prog 127 #[.string s, .string sub] w fun e w' => e = .returned (.int .i64 (Lib.lastIndexByte s ((sub[0]'(by omega)).toNat : Int))) ∧ w' = w := Any.strings_LastIndex_one Tryz.lays148 s sub h1 hs w
def Tryz.lays99_ren : Go.Shelf.Ren := ⟨fun | 99 => 168 | 206 => 174 | n => n, fun | 9 => 9 | 4 => 4 | 3 => 3 | n => n, fun | n => n⟩
theorem Tryz.lays99 : Go.Proofs.Lays.n99 Tryz.prog Tryz.lays99_ren := {
  mixed := by kernel_rfl
  f99 := Tryz.func168.trans (congrArg some (by kernel_rfl))
  f206 := Tryz.func174.trans (congrArg some (by kernel_rfl))
  t3 := Tryz.underlying3
  a3 := Tryz.isAgg3
  z3 := Tryz.sizeOf3
  v3 := Tryz.zeroValue3
  t4 := Tryz.underlying4
  a4 := Tryz.isAgg4
  z4 := Tryz.sizeOf4
  v4 := Tryz.zeroValue4
  t9 := Tryz.underlying9
  a9 := Tryz.isAgg9
  z9 := Tryz.sizeOf9
  v9 := Tryz.zeroValue9 }
open Go.RowKit Go.Lib in
/-- strings.HasPrefix: "HasPrefix reports whether the string s begins with prefix.": IT RETURNS 'Lib.hasPrefix s prefix'; the world is as it was. (LAID: no walk: one application.) -/
theorem Tryz.strings_HasPrefix (s p : ByteArray) (w : World) :
    Calls Tryz.prog 168 #[.string s, .string p] w fun e w' => e = .returned (.bool (Lib.hasPrefix s.data.toList p.data.toList)) ∧ w' = w := Any.strings_HasPrefix Tryz.lays99 s p w
end Go.Proofs
