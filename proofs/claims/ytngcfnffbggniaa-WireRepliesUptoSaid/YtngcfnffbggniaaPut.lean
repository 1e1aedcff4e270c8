/- The writer through several calls; the smallest things. -/
import Derived.Test.YtngcfnffbggniaaMem
import Derived.Test.YtngcfnffbggniaaFoot
namespace Go.Proofs.Ytngcfnffbggniaa
open Go.ChangeShapes Go.WideShapes Go.ChangeAt Go.RowKit
set_option linter.unusedVariables false

/-- since w0 the writer alone has turned -/
structure WSt (w0 : World) (b : Nat) (v0 : Value) (w : World) (v : Value) (l : List UInt8) : Prop where
  at_ : WAt w b v l
  kept : Kept (WS b v0) w0 w
  sep : Sep w0 v0.ownBlock v

theorem WSt.start {w : World} {b : Nat} {v : Value} {l : List UInt8} (h : WAt w b v l) : WSt w b v w v l := ⟨h, Kept.refl _ _, Sep.refl _ _⟩
theorem WSt.box {w : World} {b : Nat} {v : Value} {l : List UInt8} (h : WAt w b v l) (o : Obj) : WSt (w.alloc o) b v (w.alloc o) v l :=
  WSt.start (h.keep ((Kept.refl (fun _ => False) w).alloc o) (disj_none _))
theorem WSt.alloc {w0 w : World} {b : Nat} {v0 v : Value} {l : List UInt8} (h : WSt w0 b v0 w v l) (o : Obj) : WSt w0 b v0 (w.alloc o) v l :=
  ⟨h.at_.keep ((Kept.refl (fun _ => False) w).alloc o) (disj_none _), h.kept.alloc o, h.sep⟩
theorem WSt.step {w0 w w' : World} {b : Nat} {v0 v : Value} {l l' : List UInt8} {e : Ending} (h : WSt w0 b v0 w v l) (hp : WPost w b v l' e w') : ∃ v', e = .returned (.tuple #[]) ∧ WSt w0 b v0 w' v' l' := by
  obtain ⟨v', he, h1, h2, h3⟩ := hp
  exact ⟨v', he, h1, h.kept.trans' h2 (WS.sep h.sep), h.sep.trans h3 h.kept.size⟩
theorem WSt.fin {w w' : World} {b : Nat} {v0 v : Value} {l l' : List UInt8} (h : WSt w b v0 w' v l) (e : l = l') : WPost w b v0 l' (.returned (.tuple #[])) w' :=
  ⟨v, rfl, e ▸ h.at_, h.kept, h.sep⟩
theorem WSt.unbox {w w' : World} {o : Obj} {b : Nat} {v0 v : Value} {l l' : List UInt8} (h : WSt (w.alloc o) b v0 w' v l) (e : l = l') : WPost w b v0 l' (.returned (.tuple #[])) w' :=
  ⟨v, rfl, e ▸ h.at_, Kept.trans' ((Kept.refl (WS b v0) w).alloc o) h.kept (fun _ _ s => s), h.sep.mono (by simp)⟩

/-- a block that is none of the writer's is as it was -/
theorem WSt.blk {w0 w : World} {b g : Nat} {v0 v : Value} {l : List UInt8} {o : Obj} (h : WSt w0 b v0 w v l) (hb : w0.heap[g]? = some o) (hn : ¬ WS b v0 g) : w.heap[g]? = some o := by
  rw [h.kept.block g (lt_of_block hb) hn]; exact hb
theorem box_new {w : World} {b : Nat} {v : Value} {l : List UInt8} (h : WAt w b v l) : ¬ WS b v w.heap.size := fun hs => by have := h.inn _ hs; omega

theorem putErr_any (n : Int) (w : World) (b : Nat) (v : Value) (l : List UInt8) (hW : WAt w b v l) (hn : I64 n) (hl : l.length ≤ 144900000000000) :
    Calls Try.prog 134 #[.pointer (some ⟨b, 0, none⟩), .int .i64 n] w (WPost w b v (l ++ numF.lay n)) := by
  go_enter Try.func134, Try.ntmps134
  go_wp2_with fail
  refine (wnum_wide n _ b v l hW hn.1 hn.2 hl).mono ?_
  rintro e w1 h1
  obtain ⟨v1, rfl, S1⟩ := (WSt.start hW).step h1
  go_wp2_with fail
  go_end0
  exact S1.fin rfl

theorem putNum_any (n : Int) (w : World) (b : Nat) (v : Value) (l : List UInt8) (hW : WAt w b v l) (hn : I64 n) (hl : l.length ≤ 144900000000000) :
    Calls Try.prog 105 #[.pointer (some ⟨b, 0, none⟩), .int .i64 n] w (WPost w b v (l ++ numF.lay n)) := by
  go_enter Try.func105, Try.ntmps105
  go_wp2_with fail
  refine (wnum_wide n _ b v l hW hn.1 hn.2 hl).mono ?_
  rintro e w1 h1
  obtain ⟨v1, rfl, S1⟩ := (WSt.start hW).step h1
  go_wp2_with fail
  go_end0
  exact S1.fin rfl

theorem putText_any (s : ByteArray) (w : World) (b : Nat) (v : Value) (l : List UInt8) (hW : WAt w b v l) (hs : Str s) (hl : l.length + ((textF 0).lay s).length ≤ 144900000000000) :
    Calls Try.prog 108 #[.pointer (some ⟨b, 0, none⟩), .string s] w (WPost w b v (l ++ (textF 0).lay s)) := by
  have hl' : l.length + s.size ≤ 144900000000000 := by simp only [textF, List.length_append, str_len] at hl; omega
  go_enter Try.func108, Try.ntmps108
  go_wp2_with fail
  refine (wtext_wide s _ b v l hW hs hl').mono ?_
  rintro e w1 h1
  obtain ⟨v1, rfl, S1⟩ := (WSt.start hW).step h1
  go_wp2_with fail
  go_end0
  exact S1.fin rfl

theorem putAcl_any (a : Acl) (w : World) (b : Nat) (v : Value) (l : List UInt8) (hW : WAt w b v l) (hn : I64 a.perms) (hs : Str a.id) (hl : l.length + (aclF.lay a).length ≤ 144900000000000) :
    Calls Try.prog 126 #[.pointer (some ⟨b, 0, none⟩), .agg #[.int .i64 a.perms, .string a.id]] w (WPost w b v (l ++ aclF.lay a)) := by
  obtain ⟨x0, x1⟩ := a
  simp only at hn hs ⊢
  have S0 := WSt.box hW (.cells #[.int .i64 x0, .string x1] 73)
  have hnb := box_new hW
  have hbk := heap_alloc_new w (.cells #[.int .i64 x0, .string x1] 73)
  have hl1 : l.length + (sev (zz x0)).length + ((sev x1.size).length + x1.size) ≤ 144900000000000 := by
    simp only [aclF, isoF, seqF, numF, textF, List.length_append, str_len] at hl; omega
  clear hl
  go_enter Try.func126, Try.ntmps126
  go_wp2_with fail
  refine (wnum_wide x0 _ b v l S0.at_ hn.1 hn.2 (by omega)).mono ?_
  rintro e w1 h1
  obtain ⟨v1, rfl, S1⟩ := S0.step h1
  have hb1 := S1.blk hbk hnb
  have c1 : w1.cell? ⟨w.heap.size, 1, none⟩ = some (.string x1) := by simp [World.cell?, hb1]
  clear S0 h1
  go_wp2_with fail
  refine (wtext_wide x1 _ b v1 _ S1.at_ hs (by simp only [List.length_append]; omega)).mono ?_
  rintro e w2 h2
  obtain ⟨v2, rfl, S2⟩ := S1.step h2
  clear S1 h2
  go_wp2_with fail
  go_end0
  exact S2.unbox (by simp only [aclF, isoF, seqF, numF, textF, List.append_assoc])

/-- at a loop's head: k of the list are laid -/
structure PutRelL (w0 : World) (b : Nat) (v0 : Value) (l : List UInt8) (n : Nat) (f : Nat → List UInt8) (iv : Value) (wr : World) : Prop where
  ex : ∃ (k : Nat) (v : Value), iv = .int .i64 k ∧ k ≤ n ∧ WSt w0 b v0 wr v (l ++ f k)

theorem layN_take {α : Type} {f : Fmt α} {xs : List α} {k : Nat} (h : k < xs.length) : layN f (xs.take (k + 1)) = layN f (xs.take k) ++ f.lay xs[k] := by
  unfold layN; rw [List.take_succ_eq_append_getElem h, List.flatMap_append]; simp
theorem layN_le {α : Type} {f : Fmt α} {xs : List α} {k : Nat} (h : k < xs.length) : (layN f (xs.take k)).length + (f.lay xs[k]).length ≤ (layN f xs).length := by
  have h1 := layN_take (f := f) h
  have h2 : layN f xs = layN f (xs.take (k + 1)) ++ layN f (xs.drop (k + 1)) := by
    simp only [layN, ← List.flatMap_append, List.take_append_drop]
  rw [h2, h1]
  simp only [List.length_append]
  omega

theorem putNums_any (ns : List Int) (sv : Value) (ok : Nat → Prop) (w : World) (b : Nat) (v : Value) (l : List UInt8) (hW : WAt w b v l) (hL : ListR intE w ok 1 sv ns) (hd : Disj ok (WS b v)) (hl : l.length + (layN numF ns).length ≤ 144900000000000) :
    Calls Try.prog 72 #[.pointer (some ⟨b, 0, none⟩), sv] w (WPost w b v (l ++ layN numF ns)) := by
  obtain ⟨rows, ⟨A, c, rfl, hlc, hm, hat⟩, hlen, hel⟩ := hL
  unfold maxLen at hm
  have hlen1 : rows.length ≤ ns.length := by omega
  have hlen2 : ns.length ≤ rows.length := by omega
  clear hlen
  go_enter Try.func72, Try.ntmps72
  go_wp2_with fail
  go_loopw [8] (fun iv wr => PutRelL w b v l ns.length (fun k => layN numF (ns.take k)) iv wr) (fun iv _ => ns.length - (intOf iv).toNat)
  case atStart => exact ⟨0, v, rfl, Nat.zero_le _, by simpa [layN] using WSt.start hW⟩
  case round =>
    obtain ⟨k, v1, rfl, hk, S1⟩ := hrel.ex
    clear hrel
    by_cases hlt : k < ns.length
    · have hkr : k < rows.length := by omega
      rcases hat with h0 | ⟨g, off, rfl, hok, hg, hc⟩
      · subst h0; simp at hkr
      have hx := (hel k hlt hkr).1
      have hi := (hel k hlt hkr).2
      have hcell := (hc k hkr).2 0 (by rw [hx]; simp)
      simp only [hx, List.getElem_cons_zero, Nat.mul_one, Nat.add_zero] at hcell
      have hcell1 : wr.cell? ⟨g, off + k, none⟩ = some (.int .i64 ns[k]) := by
        rw [← hcell]; exact World.cell?_of_block (S1.kept.block g hg (hd g hok.1))
      have hle := layN_le (f := numF) hlt
      have HTK := Lib.hid (layN_take (f := numF) hlt)
      generalize ns[k] = x at hcell1 hi hle HTK
      clear hcell hx hc hel
      have hkl : (k : Int) < (rows.length : Int) := by omega
      go_wp2_with fail
      refine (wnum_wide x _ b v1 _ S1.at_ hi.1 hi.2 (by simp only [List.length_append]; omega)).mono ?_
      rintro e w2 h2
      obtain ⟨v2, rfl, S2⟩ := S1.step h2
      clear S1 h2
      go_wp2_with fail
      go_roundw
      case rel => exact ⟨k + 1, v2, rfl, hlt, by rw [HTK.out, ← List.append_assoc]; exact S2⟩
      case measure => simp [intOf]; omega
    · have hkl : ¬ (k : Int) < (rows.length : Int) := by omega
      obtain rfl : k = ns.length := by omega
      go_wp2_with fail
      go_end0
      exact S1.fin (by rw [List.take_length])
end Go.Proofs.Ytngcfnffbggniaa
