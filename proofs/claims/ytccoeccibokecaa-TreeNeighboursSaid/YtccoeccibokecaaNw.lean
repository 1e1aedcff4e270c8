/- Two maps of nodes compared; Same. -/
import Derived.Test.YtccoeccibokecaaNv
namespace Go.Proofs.Ytccoeccibokecaa
open Go.ChangeShapes Go.WideShapes Go.ChangeAt Go.RowKit Go.Maps
set_option linter.unusedVariables false
set_option linter.unusedSimpArgs false
theorem grown_none {w w' : World} (h : Kept (fun _ => False) w w') : w.grownBy w' none := ⟨h.os, h.tape, h.output, h.size, fun k hk _ => h.block k hk (fun f => f)⟩
section
variable {Z Z' : Nat → Prop} {w w' : World} {q r : TB} {M N : TM} {c c' : Nat} {D E D' E' : DV}
theorem TD.hasN (h : TD Z w q M c D E) (k : List UInt8) : has D (.string k) = (M.N k).isSome := by
  rw [← lookV_isSome]; exact (h.N k).same
theorem nodes_size (h : TD Z w q M c D E) (g : TD Z' w r N c' D' E') (e : M.N = N.N) : size D = size D' :=
  size_same (h.n.entries keyS) (g.n.entries keyS) (fun kl => by
    rw [Bool.eq_iff_iff]
    constructor
    · intro hh
      obtain ⟨key, hk⟩ := owns_key h.n hh
      obtain ⟨x, _, rfl, _⟩ := keyOf_string_inv hk
      rw [g.hasN, ← e, ← h.hasN]; exact hh
    · intro hh
      obtain ⟨key, hk⟩ := owns_key g.n hh
      obtain ⟨x, _, rfl, _⟩ := keyOf_string_inv hk
      rw [h.hasN, e, ← g.hasN]; exact hh)
theorem nodes_back (h : TD Z w q M c D E) (g : TD Z' w r N c' D' E') (hs : size D = size D') (he : ∀ k, (M.N k).isSome = true → N.N k = M.N k) : M.N = N.N := by
  funext k
  cases hm : M.N k with
  | some nd => rw [he k (by rw [hm]; rfl), hm]
  | none =>
    have hb := has_back (h.n.entries keyS) (g.n.entries keyS) hs (fun kl hkl => by
      obtain ⟨key, hk⟩ := owns_key h.n hkl
      obtain ⟨x, _, rfl, _⟩ := keyOf_string_inv hk
      have h1 := h.hasN x.data.toList
      rw [hkl] at h1
      rw [g.hasN, he _ h1.symm]; exact h1.symm) (.string k)
    rw [h.hasN, hm, g.hasN] at hb
    cases hn : N.N k with
    | none => rfl
    | some nd => rw [hn] at hb; cases hb
set_option maxRecDepth 100000 in
set_option maxHeartbeats 2000000 in
theorem nodeseq_any (h : TD Z w q M c D E) (g : TD Z' w r N c' D' E') (hc : c ≤ 9223372036854775807) (hc' : c' ≤ 9223372036854775807) :
    Calls Try.prog 36 #[.map (some q.n), .map (some r.n), .func (.func 37) #[] #[]] w (BoolPost w (M.N = N.N)) := by
  have HD := Lib.hid h
  have HG := Lib.hid g
  have hown := h.n
  have hown' := g.n
  have hs1 := h.n.size_le
  have hs2 := g.n.size_le
  by_cases hsz : size D = size D'
  · have HSZ := Lib.hid hsz
    clear hsz h g
    go_enter Try.func36, Try.ntmps36
    go_wp2_with (first
      | (at_len; refine wpList_len_own _ rfl _ 75 rfl 9 85 Try.underlying75 tok q.n c D rfl hown ?_; rw [HSZ.out])
      | (at_len; refine wpList_len_own _ rfl _ 75 rfl 9 85 Try.underlying75 tok r.n c' D' rfl hown' ?_)
      | (at_range; refine wpList_range_own _ rfl _ 75 rfl 9 85 keyS Try.underlying75 _ q.n c _ rfl hown ?_; intro w0 hrg0 hg0 hs0)
      | go_in)
    go_frame
    go_loopw [7, 8, 9, 10] (fun _ _ _ _ wr => ∃ (left : Lit → Bool) (cnt : Nat), wr.ranges Try.prog 9 tok q.n w.heap.size c D left cnt ∧ Kept (fun _ => False) w wr ∧
        (∀ k, (M.N k).isSome = true → left (.string k) = false → N.N k = M.N k) ∧ (∀ kl, left kl = true → has D kl = true))
      (fun _ _ _ _ wr => wr.rangeLeft q.n w.heap.size)
    case atStart =>
      exact ⟨_, _, hrg0, (Kept.of_grownBy hg0).mono (fun k _ e => by simp at e), fun k h1 h2 => absurd ((HD.out.hasN k).trans h1 |>.symm.trans h2) (by simp), fun kl h1 => h1⟩
    case round =>
      obtain ⟨left, cnt, hrg, hkw, hI', hJ⟩ := hrel
      have HI' := Lib.hid hI'
      have HJ := Lib.hid hJ
      have HKW := Lib.hid hkw
      clear hI' hJ hkw
      go_wp2_with (first
        | (at_next; refine wpList_next_ranges _ rfl _ rfl 9 keyS tok (fun x : ByteArray => Value.string x) id (fun key kl hkey => by obtain ⟨x, rfl, _⟩ := keyOf_string_inv hkey; exact ⟨x, rfl⟩) (fun v _ _ => ⟨v, rfl⟩) q.n w.heap.size c _ _ _ rfl hrg ?_ ?_)
        | go_in)
      · intro _ hl0
        go_wp2
        go_ret
        have hall : M.N = N.N := nodes_back HD.out HG.out HSZ.out (fun k hk => HI'.out k hk (hl0 _))
        exact ⟨true, rfl, by simpa using hall, HKW.out⟩
      · intro x v kl yd yp w1 cnt1 hkey hlx hv hat hrg1 hlt1 hg1 hs1' hen
        obtain ⟨x', ex, rfl, hx⟩ := keyOf_string_inv hkey
        cases ex
        obtain ⟨rfl, _⟩ := tok_inj hv
        have hlv : lookV D (.string x.data.toList) = some v := lookV_some hat
        obtain ⟨nd, av, hMs, rfl, ha⟩ : ∃ nd av, M.N x.data.toList = some nd ∧ v = nodeV nd av ∧ AclAt w Z av nd.acl := by
          rcases HD.out.look x.data.toList with ⟨nd, av, h1, h2, h3⟩ | ⟨h1, h2⟩
          · rw [hlv] at h2; injection h2 with h2; exact ⟨nd, av, h1, h2, h3⟩
          · rw [hlv] at h2; cases h2
        have hxs : x.size ≤ 140737488355328 := by
          have h1 := HD.out.okk x.data.toList (by rw [hMs]; exact fun e => nomatch e)
          have : x.size = x.data.toList.length := (Array.length_toList (xs := x.data)).symm
          omega
        obtain ⟨va, vn, vc, rfl⟩ := ha.shape
        have hkr : Kept (fun k => k = w.heap.size) _ w1 := kept_grown hg1 rfl
        have hkw1 : Kept (fun _ => False) w w1 := HKW.out.trans' hkr (fun k hk e => by omega)
        have hk2 : Kept (fun _ => False) w (w1.alloc (nodeO nd.data va vn vc nd.st)) := hkw1.alloc _
        have hrun := (HG.out.kept0 hk2).lookNode x hxs
        have HK1 := Lib.hid hkw1
        have HHX : Hid (has D (.string x.data.toList) = true) := Lib.hid (HJ.out _ hlx)
        have HIX := Lib.hid (fun (kl : Lit) (e : kl.sameKey (.string x.data.toList) = true) => WideAt.sameKey_eq e)
        have HRA := Lib.hid ha.rows
        clear hkr hkw1 hk2 hs1' hv hat hlv ha
        unfold nodeV at *
        rcases HG.out.look x.data.toList with ⟨nd2, av2, hn, hL2, ha2⟩ | ⟨hn, hL2⟩
        · obtain ⟨vb, vm, vd, rfl⟩ := ha2.shape
          rw [hL2] at hrun
          simp only [Option.getD_some, Option.isSome_some, nodeV] at hrun
          have hk3 : Kept (fun _ => False) w ((w1.alloc (nodeO nd.data va vn vc nd.st)).alloc (nodeO nd2.data vb vm vd nd2.st)) := (HK1.out.alloc _).alloc _
          have HSN := Lib.hid (samenode_any (n1 := nd) (n2 := nd2) (HRA.out.kept0 hk3) (ha2.rows.kept0 hk3))
          have HK3 := Lib.hid hk3
          have hrg3 := (hrg1.alloc (nodeO nd.data va vn vc nd.st)).alloc (nodeO nd2.data vb vm vd nd2.st)
          unfold nodeV at HSN
          by_cases hnn : nd = nd2
          · rw [decide_eq_true hnn] at HSN
            have HEQ : Hid (N.N x.data.toList = M.N x.data.toList) := Lib.hid (by rw [hn, hMs, hnn])
            clear hL2 ha2 hn hMs hnn hk3
            go_wp2_with (first
              | (go_at_call 37; refine HSN.out.mono ?_; rintro e w5 ⟨rfl, hk5⟩; have hrg5 := hrg3.kept (grown_none hk5) (by simp) (by simp); have HK5 := Lib.hid (HK3.out.trans hk5); clear hk5)
              | go_in)
            go_roundw
            case rel =>
              refine ⟨_, cnt1, hrg5, HK5.out, fun k h1 h2 => ?_, fun kl hk => HJ.out kl (by simp at hk; exact hk.1)⟩
              by_cases e : k = x.data.toList
              · subst e; exact HEQ.out
              · have h9 : (Lit.string k).sameKey (.string x.data.toList) = false := by
                  cases hh : (Lit.string k).sameKey (.string x.data.toList) with
                  | false => rfl
                  | true => exact absurd (by have := HIX.out _ hh; injection this) e
                rw [h9] at h2
                exact HI'.out k h1 (by simpa using h2)
            case measure => rw [hrg5.left_eq, hrg.left_eq]; exact hlt1
          · rw [decide_eq_false hnn] at HSN
            have HNO : Hid (¬ M.N = N.N) := Lib.hid (fun e => hnn (by rw [e, hn] at hMs; injection hMs with e1; exact e1.symm))
            clear hL2 ha2 hn hMs hnn hk3
            go_wp2_with (first
              | (go_at_call 37; refine HSN.out.mono ?_; rintro e w5 ⟨rfl, hk5⟩; have HK5 := Lib.hid (HK3.out.trans hk5); clear hk5)
              | go_in)
            go_ret
            exact ⟨false, rfl, by simpa using HNO.out, HK5.out⟩
        · rw [hL2] at hrun
          simp only [Option.getD_none, Option.isSome_none, node0] at hrun
          have HNO : Hid (¬ M.N = N.N) := Lib.hid (fun e => by rw [e, hn] at hMs; cases hMs)
          clear hL2 hn hMs
          go_wp2
          go_ret
          exact ⟨false, rfl, by simpa using HNO.out, (HK1.out.alloc _).alloc _⟩
  · have b1 : ((size D : Int) != (size D' : Int)) = true := by simp; omega
    have HN : Hid (¬ M.N = N.N) := Lib.hid (fun e => hsz (nodes_size h g e))
    clear hsz h g
    go_enter Try.func36, Try.ntmps36
    go_wp2_with (first
      | (at_len; refine wpList_len_own _ rfl _ 75 rfl 9 85 Try.underlying75 tok q.n c D rfl hown ?_)
      | (at_len; refine wpList_len_own _ rfl _ 75 rfl 9 85 Try.underlying75 tok r.n c' D' rfl hown' ?_))
    go_ret
    exact ⟨false, rfl, by simpa using HN.out, Kept.refl _ _⟩
end
end Go.Proofs.Ytccoeccibokecaa
