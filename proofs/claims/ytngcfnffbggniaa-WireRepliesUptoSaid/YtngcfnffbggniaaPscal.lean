/- Lists of numbers and of texts, laid; numbers in a block of their own. -/
import Derived.Test.YtngcfnffbggniaaPut
namespace Go.Proofs.Ytngcfnffbggniaa
open Go.ChangeShapes Go.WideShapes Go.ChangeAt Go.RowKit
set_option linter.unusedVariables false

theorem numF_lay (n : Int) : numF.lay n = sev (zz n) := rfl

/-- numbers in a block of their own -/
theorem nums_new (ns : List Int) (w : World) (h : ∀ n ∈ ns, I64 n) (hm : ns.length ≤ maxLen) :
    ListR intE (w.alloc (.cells (ns.map (Value.int .i64)).toArray 3)) (fun k => k = w.heap.size) 1 (.slice (some ⟨w.heap.size, 0, none⟩) ns.length ns.length) ns := by
  refine ⟨ns.map fun n => [Value.int .i64 n], ⟨_, _, by rw [List.length_map], by rw [List.length_map]; exact Nat.le_refl _, hm, Or.inr ⟨w.heap.size, 0, rfl, ⟨rfl, fun k _ => by
    have hb := heap_alloc_new w (.cells (ns.map (Value.int .i64)).toArray 3)
    unfold World.frozen?
    rw [hb]
    simp⟩, by simp, fun i hi => ⟨by simp, fun j hj => ?_⟩⟩⟩, by simp, fun i hi hi' => ?_⟩
  · have hj0 : j = 0 := by simpa using hj
    subst hj0
    have hi2 : i < ns.length := by simpa using hi
    have hb := heap_alloc_new w (.cells (ns.map (Value.int .i64)).toArray 3)
    have hc := cell_of_row _ w.heap.size i _ _ (0, 0) hb
    rw [show 0 + i * 1 + 0 = i from by omega, hc]
    simp [List.getElem?_eq_getElem hi2]
  · simp only [List.getElem_map]
    exact ⟨rfl, h _ (List.getElem_mem _)⟩

theorem nums_call (ns : List Int) (w : World) (g : Nat) (hg : w.heap.size = g) (b : Nat) (v : Value) (l : List UInt8) (hW : WAt w b v l) (h : ∀ n ∈ ns, I64 n) (hm : ns.length ≤ maxLen) (hl : l.length + (layN numF ns).length ≤ 144900000000000) :
    Calls Try.prog 72 #[.pointer (some ⟨b, 0, none⟩), .slice (some ⟨g, 0, none⟩) ns.length ns.length] (w.alloc (.cells (ns.map (Value.int .i64)).toArray 3)) (WPost (w.alloc (.cells (ns.map (Value.int .i64)).toArray 3)) b v (l ++ layN numF ns)) := by
  subst hg
  exact putNums_any ns _ _ _ b v l (hW.keep ((Kept.refl (fun _ => False) w).alloc _) (disj_none _)) (nums_new ns w h hm) (fun k hk hs => by have := hW.inn _ hs; have hk' : k = w.heap.size := hk; omega) hl

set_option maxRecDepth 100000 in
theorem putList_num (xs : List Int) (sv : Value) (ok : Nat → Prop) (w : World) (b : Nat) (v : Value) (l : List UInt8) (hW : WAt w b v l) (hL : ListR intE w ok 1 sv xs) (hd : Disj ok (WS b v)) (hi : In w ok) (hl : l.length + ((listF numF).lay xs).length ≤ 144900000000000) :
    Calls Try.prog 104 #[.pointer (some ⟨b, 0, none⟩), sv, .func (.func 105) #[] #[]] w (WPost w b v (l ++ (listF numF).lay xs)) := by
  obtain ⟨rows, ⟨A, c, rfl, hlc, hm, hat⟩, hlen, hel⟩ := hL
  unfold maxLen at hm
  have hlen1 : rows.length ≤ xs.length := by omega
  have hlen2 : xs.length ≤ rows.length := by omega
  have hfin := (show (listF numF).lay xs = sev xs.length ++ layN numF xs from rfl)
  rw [hfin] at hl ⊢
  rw [← hlen] at hl ⊢
  clear hfin hlen
  rw [List.length_append] at hl
  go_enter Try.func104, Try.ntmps104
  go_wp2_with fail
  refine (wcount_wide rows.length _ b v l hW (by omega) (by omega)).mono ?_
  rintro e w0 h0
  obtain ⟨v0, rfl, S0⟩ := (WSt.start hW).step h0
  clear h0
  go_wp2_with fail
  go_loopw [14] (fun iv wr => PutRelL w b v (l ++ sev rows.length) xs.length (fun k => layN numF (xs.take k)) iv wr) (fun iv _ => xs.length - (intOf iv).toNat)
  case atStart => exact ⟨0, v0, rfl, Nat.zero_le _, by simpa [layN] using S0⟩
  case round =>
    obtain ⟨k, v1, rfl, hk, S1⟩ := hrel.ex
    clear hrel S0
    by_cases hlt : k < xs.length
    · have hkr : k < rows.length := by omega
      rcases hat with h0 | ⟨g, off, rfl, hok, hg, hc⟩
      · subst h0; simp at hkr
      have hx := (hel k hlt hkr).1
      have hi := (hel k hlt hkr).2
      have hcell := (hc k hkr).2 0 (by rw [hx]; simp)
      simp only [hx, List.getElem_cons_zero, Nat.mul_one, Nat.add_zero] at hcell
      have hcell1 : wr.cell? ⟨g, off + k, none⟩ = some (.int .i64 xs[k]) := by
        rw [← hcell]; exact World.cell?_of_block (S1.kept.block g hg (hd g hok.1))
      have hle := layN_le (f := numF) hlt
      have HTK := Lib.hid (layN_take (f := numF) hlt)
      generalize xs[k] = x at hcell1 hi hle HTK
      clear hcell hx hc hel
      have hkl : (k : Int) < (rows.length : Int) := by omega
      go_wp2_with fail
      refine (putNum_any x _ b v1 _ S1.at_ hi (by simp only [List.length_append]; omega)).mono ?_
      rintro e w2 h2
      obtain ⟨v2, rfl, S2⟩ := S1.step h2
      clear S1 h2
      go_wp2_with fail
      go_roundw
      case rel => exact ⟨k + 1, v2, rfl, hlt, by rw [HTK.out, ← List.append_assoc]; exact S2⟩
      case measure => simp [intOf]; omega
    · have hkl : ¬ (k : Int) < (rows.length : Int) := by omega
      obtain rfl : k = xs.length := by omega
      go_wp2_with fail
      go_end0
      exact S1.fin (by rw [List.take_length, List.append_assoc])

set_option maxRecDepth 100000 in
theorem putList_text (xs : List ByteArray) (sv : Value) (ok : Nat → Prop) (w : World) (b : Nat) (v : Value) (l : List UInt8) (hW : WAt w b v l) (hL : ListR textE w ok 1 sv xs) (hd : Disj ok (WS b v)) (hi : In w ok) (hl : l.length + ((listF (textF 4096)).lay xs).length ≤ 144900000000000) :
    Calls Try.prog 107 #[.pointer (some ⟨b, 0, none⟩), sv, .func (.func 108) #[] #[]] w (WPost w b v (l ++ (listF (textF 4096)).lay xs)) := by
  obtain ⟨rows, ⟨A, c, rfl, hlc, hm, hat⟩, hlen, hel⟩ := hL
  unfold maxLen at hm
  have hlen1 : rows.length ≤ xs.length := by omega
  have hlen2 : xs.length ≤ rows.length := by omega
  have hfin := (show (listF (textF 4096)).lay xs = sev xs.length ++ layN (textF 4096) xs from rfl)
  rw [hfin] at hl ⊢
  rw [← hlen] at hl ⊢
  clear hfin hlen
  rw [List.length_append] at hl
  go_enter Try.func107, Try.ntmps107
  go_wp2_with fail
  refine (wcount_wide rows.length _ b v l hW (by omega) (by omega)).mono ?_
  rintro e w0 h0
  obtain ⟨v0, rfl, S0⟩ := (WSt.start hW).step h0
  clear h0
  go_wp2_with fail
  go_loopw [14] (fun iv wr => PutRelL w b v (l ++ sev rows.length) xs.length (fun k => layN (textF 4096) (xs.take k)) iv wr) (fun iv _ => xs.length - (intOf iv).toNat)
  case atStart => exact ⟨0, v0, rfl, Nat.zero_le _, by simpa [layN] using S0⟩
  case round =>
    obtain ⟨k, v1, rfl, hk, S1⟩ := hrel.ex
    clear hrel S0
    by_cases hlt : k < xs.length
    · have hkr : k < rows.length := by omega
      rcases hat with h0 | ⟨g, off, rfl, hok, hg, hc⟩
      · subst h0; simp at hkr
      have hx := (hel k hlt hkr).1
      have hi := (hel k hlt hkr).2
      have hcell := (hc k hkr).2 0 (by rw [hx]; simp)
      simp only [hx, List.getElem_cons_zero, Nat.mul_one, Nat.add_zero] at hcell
      have hcell1 : wr.cell? ⟨g, off + k, none⟩ = some (.string xs[k]) := by
        rw [← hcell]; exact World.cell?_of_block (S1.kept.block g hg (hd g hok.1))
      have hle := layN_le (f := (textF 4096)) hlt
      have HTK := Lib.hid (layN_take (f := (textF 4096)) hlt)
      generalize xs[k] = x at hcell1 hi hle HTK
      clear hcell hx hc hel
      have hkl : (k : Int) < (rows.length : Int) := by omega
      go_wp2_with fail
      refine (putText_any x _ b v1 _ S1.at_ hi (by simp only [List.length_append]; have : ((textF 0).lay x).length = ((textF 4096).lay x).length := rfl; omega)).mono ?_
      rintro e w2 h2
      obtain ⟨v2, rfl, S2⟩ := S1.step h2
      clear S1 h2
      go_wp2_with fail
      go_roundw
      case rel => exact ⟨k + 1, v2, rfl, hlt, by rw [HTK.out, ← List.append_assoc]; exact S2⟩
      case measure => simp [intOf]; omega
    · have hkl : ¬ (k : Int) < (rows.length : Int) := by omega
      obtain rfl : k = xs.length := by omega
      go_wp2_with fail
      go_end0
      exact S1.fin (by rw [List.take_length, List.append_assoc])

end Go.Proofs.Ytngcfnffbggniaa
