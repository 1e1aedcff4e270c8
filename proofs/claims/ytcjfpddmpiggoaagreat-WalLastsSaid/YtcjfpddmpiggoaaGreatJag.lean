/- slices.ContainsFunc of tooLong. -/
import Derived.Test.YtcjfpddmpiggoaaGreatJaf
namespace Go.Proofs.YtcjfpddmpiggoaaGreat
open Go.ChangeShapes Go.WideShapes Go.ChangeAt Go.RowKit
set_option linter.unusedVariables false
set_option linter.unusedSimpArgs false
def Alls (l : List ByteArray) : Prop := ∀ s ∈ l, s.size ≤ 4000
def IdxP (l : List ByteArray) (w : World) (e : Ending) (w' : World) : Prop := ∃ r : Int, e = .returned (.int .i64 r) ∧ (Alls l → r = -1) ∧ (¬ Alls l → 0 ≤ r ∧ r ≤ l.length) ∧ w = w'
set_option maxRecDepth 100000 in
set_option maxHeartbeats 1000000 in
theorem idxfunc_any {ok : Nat → Prop} {v : Value} {l : List ByteArray} {w : World} (h : TsAt w ok v l) (hl : l.length ≤ 140737488355328) :
    Calls Tryz.prog 68 #[v, .func (.func 39) #[] #[]] w (IdxP l w) := by
  obtain ⟨a, cap, rfl, hc⟩ := h.ex
  go_enter Tryz.func68, Tryz.ntmps68
  go_wp2_with fail
  go_loop [8] (fun i => ∃ k : Nat, k ≤ l.length ∧ i = .int .i64 k ∧ ∀ s ∈ l.take k, s.size ≤ 4000) (fun i => l.length - (Go.RowKit.intOf i).toNat)
  case atStart => exact ⟨0, Nat.zero_le _, rfl, by simp⟩
  case round =>
    obtain ⟨k, hk, rfl, hs⟩ := hrel
    have HS := Lib.hid hs
    clear hs
    by_cases hlt : k < l.length
    · obtain ⟨g, off, rfl, _, hcell⟩ := hc k hlt
      have HTK : Hid (l.take (k + 1) = l.take k ++ [l[k]]) := Lib.hid (List.take_succ_eq_append_getElem hlt)
      have HM : Hid (l[k] ∈ l) := Lib.hid (List.getElem_mem hlt)
      generalize l[k] = s at hcell HTK HM
      by_cases hb : 4000 < s.size
      · have hd : decide (4000 < s.size) = true := by simpa using hb
        go_wp2_with (go_at_call 39; refine (toolong_any s _).mono ?_; rw [hd]; rintro e w' ⟨rfl, rfl⟩)
        go_ret
        exact ⟨_, rfl, fun ha => by have := ha s HM.out; omega, fun _ => by omega, rfl⟩
      · have hd : decide (4000 < s.size) = false := by simpa using hb
        go_wp2_with (go_at_call 39; refine (toolong_any s _).mono ?_; rw [hd]; rintro e w' ⟨rfl, rfl⟩)
        go_round
        case rel =>
          refine ⟨k + 1, by omega, by go_num, ?_⟩
          rw [HTK.out]
          intro x hx
          rcases List.mem_append.1 hx with hx | hx
          · exact HS.out x hx
          · rw [List.mem_singleton] at hx; subst hx; omega
        case measure => simp [Go.RowKit.intOf]; omega
    · have e : l.take k = l := List.take_of_length_le (by omega)
      have HA : Hid (Alls l) := Lib.hid (by have := HS.out; rw [e] at this; exact this)
      clear e HS
      go_wp2
      go_ret
      exact ⟨_, rfl, fun _ => rfl, fun hn => absurd HA.out hn, rfl⟩
theorem contains_small {ok : Nat → Prop} {v : Value} {l : List ByteArray} {w : World} (h : TsAt w ok v l) (hl : l.length ≤ 140737488355328) (hs : Alls l) :
    Calls Tryz.prog 52 #[v, .func (.func 39) #[] #[]] w fun e w' => e = .returned (.bool false) ∧ w = w' := by
  have H := Lib.hid (idxfunc_any h hl)
  have HS := Lib.hid hs
  clear h hs
  go_enter Tryz.func52, Tryz.ntmps52
  go_wp2_with fail
  refine H.out.mono ?_
  rintro e w' ⟨r, rfl, h1, h2, rfl⟩
  obtain rfl := h1 HS.out
  clear h1 h2
  go_wp2_with fail
  go_ret
  exact ⟨rfl, rfl⟩
theorem contains_big {ok : Nat → Prop} {v : Value} {l : List ByteArray} {w : World} (h : TsAt w ok v l) (hl : l.length ≤ 140737488355328) (hs : ¬ Alls l) :
    Calls Tryz.prog 52 #[v, .func (.func 39) #[] #[]] w fun e w' => e = .returned (.bool true) ∧ w = w' := by
  have H := Lib.hid (idxfunc_any h hl)
  have HS := Lib.hid hs
  clear h hs
  go_enter Tryz.func52, Tryz.ntmps52
  go_wp2_with fail
  refine H.out.mono ?_
  rintro e w' ⟨r, rfl, h1, h2, rfl⟩
  obtain ⟨h3, h4⟩ := h2 HS.out
  clear h1 h2
  go_wp2_with fail
  go_ret
  exact ⟨rfl, rfl⟩
end Go.Proofs.YtcjfpddmpiggoaaGreat
