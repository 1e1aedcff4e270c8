/- Two maps of sessions compared. Two maps of nodes compared; Same. Same. -/
import Derived.Test.YtenbdoceaabecaaGreatP09
namespace Go.Proofs.YtenbdoceaabecaaGreat
open Go.ChangeShapes Go.WideShapes Go.ChangeAt Go.RowKit Go.Maps
set_option linter.unusedVariables false
set_option linter.unusedSimpArgs false
theorem owns_key {P : Program} {k : TypeId} {w : World} {b n : Nat} {D : DV} (h : w.ownsMap P k tok b n D) {kl : Lit} (hh : has D kl = true) : ∃ key, keyOf P k key = some kl := by
  obtain ⟨es, clock, _, F, _, rfl⟩ := h
  obtain ⟨p, hm, hs⟩ := List.any_eq_true.1 hh
  obtain ⟨x, hx, rfl⟩ := List.mem_map.1 (mem_sorted.1 hm)
  obtain ⟨y, hy⟩ := F.reads x hx
  rw [WideElems.rg_of hy] at hs
  have := WideAt.sameKey_eq hs
  exact ⟨_, this ▸ WideElems.rd_key hy⟩
/-- maps that read alike have as many entries -/
theorem size_eq {P : Program} {k : TypeId} {w : World} {b n b' n' : Nat} {D D' : DV} (K : Keyed P k) (h : w.ownsMap P k tok b n D) (h' : w.ownsMap P k tok b' n' D') (he : ∀ key kl, keyOf P k key = some kl → lookV D kl = lookV D' kl) : size D = size D' :=
  size_same (h.entries K) (h'.entries K) (fun kl => by
    rw [Bool.eq_iff_iff]
    constructor
    · intro hh
      obtain ⟨key, hk⟩ := owns_key h hh
      rw [← lookV_isSome, ← he _ _ hk, lookV_isSome]; exact hh
    · intro hh
      obtain ⟨key, hk⟩ := owns_key h' hh
      rw [← lookV_isSome, he _ _ hk, lookV_isSome]; exact hh)
/-- as many entries, and what the one has the other has alike: they read alike -/
theorem look_back {P : Program} {k : TypeId} {w : World} {b n b' n' : Nat} {D D' : DV} (K : Keyed P k) (h : w.ownsMap P k tok b n D) (h' : w.ownsMap P k tok b' n' D') (hs : size D = size D') (he : ∀ kl, has D kl = true → lookV D' kl = lookV D kl) (kl : Lit) : lookV D kl = lookV D' kl := by
  have hb := has_back (h.entries K) (h'.entries K) hs (fun k hk => by rw [← lookV_isSome, he k hk, lookV_isSome]; exact hk) kl
  cases hh : has D kl with
  | true => exact (he kl hh).symm
  | false =>
    rw [hh] at hb
    have h1 := lookV_isSome D kl
    have h2 := lookV_isSome D' kl
    rw [hh] at h1; rw [← hb] at h2
    rw [Option.isSome_eq_false_iff, Option.isNone_iff_eq_none] at h1 h2
    rw [h1, h2]
def BoolPost (w : World) (p : Prop) (e : Ending) (w' : World) : Prop := ∃ b, e = .returned (.bool b) ∧ (b = true ↔ p) ∧ Kept (fun _ => False) w w'
theorem sessV_inj {s t : Int × ByteArray} (h : sessV s = sessV t) : s = t := by
  obtain ⟨a, b⟩ := s; obtain ⟨c, d⟩ := t
  simp only [sessV, Value.agg.injEq] at h
  simp at h
  exact Prod.ext h.1 h.2
section
variable {Z : Nat → Prop} {w w' : World} {q r : TB} {M N : TM} {c c' : Nat} {D E D' E' : DV}
theorem TD.lookSess (h : TD Z w q M c D E) (i : Int) (hi : (Lit.int .i64 i).wf = true) : (Instr.lookup 84 (.map (some q.s)) (.int .i64 i) true).run Tryz.prog w = .ok (.tuple #[(lookV E (.int .i64 i)).getD sess0, .bool (lookV E (.int .i64 i)).isSome]) w :=
  owns_look h.s (t := 84) (e := 101) keyI Tryz.underlying84 (zero_sess w) (keyOf_int_mk Tryz.underlying3 hi)
theorem sess_iff (h : TD Z w q M c D E) (g : TD Z w r N c' D' E') : (M.S = N.S) ↔ ∀ i, lookV E (.int .i64 i) = lookV E' (.int .i64 i) := by
  constructor
  · intro e i; rw [h.S, g.S, e]
  · intro e; funext i
    have := e i
    rw [h.S, g.S] at this
    cases hm : M.S i <;> cases hn : N.S i <;> rw [hm, hn] at this <;> simp at this <;> first | rfl | exact congrArg some (sessV_inj this)
set_option maxRecDepth 100000 in
set_option maxHeartbeats 2000000 in
theorem sesseq_any (h : TD Z w q M c D E) (g : TD Z w r N c' D' E') (hc : c ≤ 9223372036854775807) (hc' : c' ≤ 9223372036854775807) :
    Calls Tryz.prog 48 #[.map (some q.s), .map (some r.s)] w (BoolPost w (M.S = N.S)) := by
  have HD := Lib.hid h
  have HG := Lib.hid g
  have hown := h.s
  have hown' := g.s
  have HI := Lib.hid (sess_iff h g)
  have hs1 := h.s.size_le
  have hs2 := g.s.size_le
  clear h g
  by_cases hsz : size E = size E'
  · have HSZ := Lib.hid hsz
    clear hsz
    go_enter Tryz.func48, Tryz.ntmps48
    go_wp2_with (first
      | (at_len; refine wpList_len_own _ rfl _ 84 rfl 3 101 Tryz.underlying84 tok q.s c E rfl hown ?_; rw [HSZ.out])
      | (at_len; refine wpList_len_own _ rfl _ 84 rfl 3 101 Tryz.underlying84 tok r.s c' E' rfl hown' ?_)
      | (at_range; refine wpList_range_own _ rfl _ 84 rfl 3 101 keyI Tryz.underlying84 _ q.s c _ rfl hown ?_; intro w0 hrg0 hg0 hs0)
      | go_in)
    go_frame
    go_loopw [5, 6, 7, 8] (fun _ _ _ _ wr => ∃ (left : Lit → Bool) (cnt : Nat), wr.ranges Tryz.prog 3 tok q.s w.heap.size c E left cnt ∧ Kept (fun _ => False) w wr ∧
        (∀ kl, has E kl = true → left kl = false → lookV E' kl = lookV E kl) ∧ (∀ kl, left kl = true → has E kl = true))
      (fun _ _ _ _ wr => wr.rangeLeft q.s w.heap.size)
    case atStart =>
      exact ⟨_, _, hrg0, (Kept.of_grownBy hg0).mono (fun k _ e => by simp at e), fun kl h1 h2 => absurd (h1.symm.trans h2) (by simp), fun kl h1 => h1⟩
    case round =>
      obtain ⟨left, cnt, hrg, hkw, hI', hJ⟩ := hrel
      have HI' := Lib.hid hI'
      have HJ := Lib.hid hJ
      have HKW := Lib.hid hkw
      clear hI' hJ hkw
      go_wp2_with (first
        | (at_next; refine wpList_next_ranges _ rfl _ rfl 3 keyI tok (fun x : Int => Value.int .i64 x) id (fun key kl hkey => by obtain ⟨x, rfl, _⟩ := keyOf_int_inv Tryz.underlying3 hkey; exact ⟨x, rfl⟩) (fun v _ _ => ⟨v, rfl⟩) q.s w.heap.size c _ _ _ rfl hrg ?_ ?_)
        | go_in)
      · intro _ hl0
        go_wp2
        go_ret
        have hall : M.S = N.S := HI.out.2 (fun i => look_back keyI hown hown' HSZ.out (fun kl hkl => HI'.out kl hkl (hl0 kl)) _)
        exact ⟨true, rfl, by simpa using hall, HKW.out⟩
      · intro x v kl yd yp w1 cnt1 hkey hlx hv hat hrg1 hlt1 hg1 hs1 hen
        obtain ⟨x', ex, rfl, hx⟩ := keyOf_int_inv Tryz.underlying3 hkey
        cases ex
        obtain ⟨rfl, _⟩ := tok_inj hv
        have hlv : lookV E (.int .i64 x) = some v := lookV_some hat
        obtain ⟨⟨t, sec⟩, hMs, rfl⟩ : ∃ s, M.S x = some s ∧ v = sessV s := by
          have := HD.out.S x
          rw [hlv] at this
          cases hm : M.S x with
          | none => rw [hm] at this; cases this
          | some s => rw [hm] at this; simp only [Option.map_some, Option.some.injEq] at this; exact ⟨s, rfl, this⟩
        have hkr : Kept (fun k => k = w.heap.size) _ w1 := kept_grown hg1 rfl
        have hkw1 : Kept (fun _ => False) w w1 := HKW.out.trans' hkr (fun k hk e => by omega)
        have hk2 : Kept (fun _ => False) w (w1.alloc (.cells #[.int .i64 t, .string sec] 101)) := hkw1.alloc _
        have hrun := (HG.out.kept0 hk2).lookSess x hx
        have HK1 := Lib.hid hkw1
        have HMS := Lib.hid hMs
        have HHX : Hid (has E (.int .i64 x) = true) := Lib.hid (HJ.out _ hlx)
        have HLV := Lib.hid hlv
        have HIx : ∀ kl : Lit, kl.sameKey (.int .i64 x) = true → kl = .int .i64 x := fun kl e => WideAt.sameKey_eq e
        have HIX := Lib.hid HIx
        have hgs := HG.out.S x
        clear hkr hkw1 hk2 hs1 hv hat hlv HIx
        unfold sessV at *
        cases hn : N.S x with
        | none =>
          rw [hn] at hgs
          rw [hgs] at hrun
          simp only [Option.map_none, Option.getD_none, Option.isSome_none, sess0] at hrun
          have HNE : Hid (¬ M.S = N.S) := Lib.hid (fun e => by rw [e, hn] at hMs; cases hMs)
          clear hMs hn hgs
          go_wp2
          go_ret
          exact ⟨false, rfl, by simpa using HNE.out, (HK1.out.alloc _).alloc _⟩
        | some s2 =>
          obtain ⟨t2, sec2⟩ := s2
          rw [hn] at hgs
          rw [hgs] at hrun
          simp only [Option.map_some, Option.getD_some, Option.isSome_some, sessV] at hrun
          have HEQ : Hid (t = t2 → sec.toList = sec2.toList → lookV E' (.int .i64 x) = lookV E (.int .i64 x)) := Lib.hid (fun e1 e2 => by
            rw [Lib.toList_data, Lib.toList_data] at e2
            rw [HLV.out, hgs, e1, ba_inj e2]; rfl)
          have HNE : Hid (¬ (t = t2 ∧ sec.toList = sec2.toList) → ¬ M.S = N.S) := Lib.hid (fun h e => by
            rw [e, hn] at hMs
            simp only [Option.some.injEq, Prod.mk.injEq] at hMs
            exact h ⟨hMs.1.symm, by rw [hMs.2]⟩)
          clear hMs hn hgs
          by_cases h1 : t = t2
          · by_cases h2 : sec.toList = sec2.toList
            · have HE2 := Lib.hid (HEQ.out h1 h2)
              rw [Lib.toList_data, Lib.toList_data] at h2
              have h3 := ba_inj h2
              clear h2 HEQ HNE
              subst h1
              subst h3
              go_wp2
              have hr2 := (hrg1.alloc (.cells #[.int .i64 t, .string sec] 101)).alloc (.cells #[.int .i64 t, .string sec] 101)
              go_roundw
              case rel =>
                refine ⟨_, cnt1, hr2, (HK1.out.alloc _).alloc _, fun kl h1 h2 => ?_, fun kl hk => HJ.out kl (by simp at hk; exact hk.1)⟩
                by_cases e : kl = .int .i64 x
                · subst e; exact HE2.out
                · have h9 : kl.sameKey (.int .i64 x) = false := by
                    cases hh : kl.sameKey (.int .i64 x) with
                    | false => rfl
                    | true => exact absurd (HIX.out _ hh) e
                  rw [h9] at h2
                  exact HI'.out kl h1 (by simpa using h2)
              case measure => rw [hr2.left_eq, hrg.left_eq]; exact hlt1
            · have HNO := Lib.hid (HNE.out (fun h => h2 h.2))
              subst h1
              go_wp2
              go_ret
              exact ⟨false, rfl, by simpa using HNO.out, (HK1.out.alloc _).alloc _⟩
          · have HNO := Lib.hid (HNE.out (fun h => h1 h.1))
            go_wp2
            go_ret
            exact ⟨false, rfl, by simpa using HNO.out, (HK1.out.alloc _).alloc _⟩
  · have b1 : ((size E : Int) != (size E' : Int)) = true := by simp; omega
    have HN : Hid (¬ M.S = N.S) := Lib.hid (fun e => hsz (size_eq keyI hown hown' (fun key kl hk => by
      obtain ⟨i, _, rfl, _⟩ := keyOf_int_inv Tryz.underlying3 hk
      exact HI.out.1 e i)))
    clear hsz
    go_enter Tryz.func48, Tryz.ntmps48
    go_wp2_with (first
      | (at_len; refine wpList_len_own _ rfl _ 84 rfl 3 101 Tryz.underlying84 tok q.s c E rfl hown ?_)
      | (at_len; refine wpList_len_own _ rfl _ 84 rfl 3 101 Tryz.underlying84 tok r.s c' E' rfl hown' ?_))
    go_ret
    exact ⟨false, rfl, by simpa using HN.out, Kept.refl _ _⟩
end
end Go.Proofs.YtenbdoceaabecaaGreat

namespace Go.Proofs.YtenbdoceaabecaaGreat
open Go.ChangeShapes Go.WideShapes Go.ChangeAt Go.RowKit Go.Maps
set_option linter.unusedVariables false
set_option linter.unusedSimpArgs false
theorem grown_none {w w' : World} (h : Kept (fun _ => False) w w') : w.grownBy w' none := ⟨h.os, h.tape, h.output, h.size, fun k hk _ => h.block k hk (fun f => f)⟩
section
variable {Z Z' : Nat → Prop} {w w' : World} {q r : TB} {M N : TM} {c c' : Nat} {D E D' E' : DV}
theorem TD.hasN (h : TD Z w q M c D E) (k : List UInt8) : has D (.string k) = (M.N k).isSome := by
  rw [← lookV_isSome]; exact (h.N k).same
theorem nodes_size (h : TD Z w q M c D E) (g : TD Z' w r N c' D' E') (e : M.N = N.N) : size D = size D' :=
  size_same (h.n.entries keyS) (g.n.entries keyS) (fun kl => by
    rw [Bool.eq_iff_iff]
    constructor
    · intro hh
      obtain ⟨key, hk⟩ := owns_key h.n hh
      obtain ⟨x, _, rfl, _⟩ := keyOf_string_inv hk
      rw [g.hasN, ← e, ← h.hasN]; exact hh
    · intro hh
      obtain ⟨key, hk⟩ := owns_key g.n hh
      obtain ⟨x, _, rfl, _⟩ := keyOf_string_inv hk
      rw [h.hasN, e, ← g.hasN]; exact hh)
theorem nodes_back (h : TD Z w q M c D E) (g : TD Z' w r N c' D' E') (hs : size D = size D') (he : ∀ k, (M.N k).isSome = true → N.N k = M.N k) : M.N = N.N := by
  funext k
  cases hm : M.N k with
  | some nd => rw [he k (by rw [hm]; rfl), hm]
  | none =>
    have hb := has_back (h.n.entries keyS) (g.n.entries keyS) hs (fun kl hkl => by
      obtain ⟨key, hk⟩ := owns_key h.n hkl
      obtain ⟨x, _, rfl, _⟩ := keyOf_string_inv hk
      have h1 := h.hasN x.data.toList
      rw [hkl] at h1
      rw [g.hasN, he _ h1.symm]; exact h1.symm) (.string k)
    rw [h.hasN, hm, g.hasN] at hb
    cases hn : N.N k with
    | none => rfl
    | some nd => rw [hn] at hb; cases hb
set_option maxRecDepth 100000 in
set_option maxHeartbeats 2000000 in
theorem nodeseq_any (h : TD Z w q M c D E) (g : TD Z' w r N c' D' E') (hc : c ≤ 9223372036854775807) (hc' : c' ≤ 9223372036854775807) :
    Calls Tryz.prog 49 #[.map (some q.n), .map (some r.n), .func (.func 50) #[] #[]] w (BoolPost w (M.N = N.N)) := by
  have HD := Lib.hid h
  have HG := Lib.hid g
  have hown := h.n
  have hown' := g.n
  have hs1 := h.n.size_le
  have hs2 := g.n.size_le
  by_cases hsz : size D = size D'
  · have HSZ := Lib.hid hsz
    clear hsz h g
    go_enter Tryz.func49, Tryz.ntmps49
    go_wp2_with (first
      | (at_len; refine wpList_len_own _ rfl _ 83 rfl 9 98 Tryz.underlying83 tok q.n c D rfl hown ?_; rw [HSZ.out])
      | (at_len; refine wpList_len_own _ rfl _ 83 rfl 9 98 Tryz.underlying83 tok r.n c' D' rfl hown' ?_)
      | (at_range; refine wpList_range_own _ rfl _ 83 rfl 9 98 keyS Tryz.underlying83 _ q.n c _ rfl hown ?_; intro w0 hrg0 hg0 hs0)
      | go_in)
    go_frame
    go_loopw [7, 8, 9, 10] (fun _ _ _ _ wr => ∃ (left : Lit → Bool) (cnt : Nat), wr.ranges Tryz.prog 9 tok q.n w.heap.size c D left cnt ∧ Kept (fun _ => False) w wr ∧
        (∀ k, (M.N k).isSome = true → left (.string k) = false → N.N k = M.N k) ∧ (∀ kl, left kl = true → has D kl = true))
      (fun _ _ _ _ wr => wr.rangeLeft q.n w.heap.size)
    case atStart =>
      exact ⟨_, _, hrg0, (Kept.of_grownBy hg0).mono (fun k _ e => by simp at e), fun k h1 h2 => absurd ((HD.out.hasN k).trans h1 |>.symm.trans h2) (by simp), fun kl h1 => h1⟩
    case round =>
      obtain ⟨left, cnt, hrg, hkw, hI', hJ⟩ := hrel
      have HI' := Lib.hid hI'
      have HJ := Lib.hid hJ
      have HKW := Lib.hid hkw
      clear hI' hJ hkw
      go_wp2_with (first
        | (at_next; refine wpList_next_ranges _ rfl _ rfl 9 keyS tok (fun x : ByteArray => Value.string x) id (fun key kl hkey => by obtain ⟨x, rfl, _⟩ := keyOf_string_inv hkey; exact ⟨x, rfl⟩) (fun v _ _ => ⟨v, rfl⟩) q.n w.heap.size c _ _ _ rfl hrg ?_ ?_)
        | go_in)
      · intro _ hl0
        go_wp2
        go_ret
        have hall : M.N = N.N := nodes_back HD.out HG.out HSZ.out (fun k hk => HI'.out k hk (hl0 _))
        exact ⟨true, rfl, by simpa using hall, HKW.out⟩
      · intro x v kl yd yp w1 cnt1 hkey hlx hv hat hrg1 hlt1 hg1 hs1' hen
        obtain ⟨x', ex, rfl, hx⟩ := keyOf_string_inv hkey
        cases ex
        obtain ⟨rfl, _⟩ := tok_inj hv
        have hlv : lookV D (.string x.data.toList) = some v := lookV_some hat
        obtain ⟨nd, av, hMs, rfl, ha⟩ : ∃ nd av, M.N x.data.toList = some nd ∧ v = nodeV nd av ∧ AclAt w Z av nd.acl := by
          rcases HD.out.look x.data.toList with ⟨nd, av, h1, h2, h3⟩ | ⟨h1, h2⟩
          · rw [hlv] at h2; injection h2 with h2; exact ⟨nd, av, h1, h2, h3⟩
          · rw [hlv] at h2; cases h2
        have hxs : x.size ≤ 140737488355328 := by
          have h1 := HD.out.okk x.data.toList (by rw [hMs]; exact fun e => nomatch e)
          have : x.size = x.data.toList.length := (Array.length_toList (xs := x.data)).symm
          omega
        obtain ⟨va, vn, vc, rfl⟩ := ha.shape
        have hkr : Kept (fun k => k = w.heap.size) _ w1 := kept_grown hg1 rfl
        have hkw1 : Kept (fun _ => False) w w1 := HKW.out.trans' hkr (fun k hk e => by omega)
        have hk2 : Kept (fun _ => False) w (w1.alloc (nodeO nd.data va vn vc nd.st)) := hkw1.alloc _
        have hrun := (HG.out.kept0 hk2).lookNode x hxs
        have HK1 := Lib.hid hkw1
        have HHX : Hid (has D (.string x.data.toList) = true) := Lib.hid (HJ.out _ hlx)
        have HIX := Lib.hid (fun (kl : Lit) (e : kl.sameKey (.string x.data.toList) = true) => WideAt.sameKey_eq e)
        have HRA := Lib.hid ha.rows
        clear hkr hkw1 hk2 hs1' hv hat hlv ha
        unfold nodeV at *
        rcases HG.out.look x.data.toList with ⟨nd2, av2, hn, hL2, ha2⟩ | ⟨hn, hL2⟩
        · obtain ⟨vb, vm, vd, rfl⟩ := ha2.shape
          rw [hL2] at hrun
          simp only [Option.getD_some, Option.isSome_some, nodeV] at hrun
          have hk3 : Kept (fun _ => False) w ((w1.alloc (nodeO nd.data va vn vc nd.st)).alloc (nodeO nd2.data vb vm vd nd2.st)) := (HK1.out.alloc _).alloc _
          have HSN := Lib.hid (samenode_any (n1 := nd) (n2 := nd2) (HRA.out.kept0 hk3) (ha2.rows.kept0 hk3))
          have HK3 := Lib.hid hk3
          have hrg3 := (hrg1.alloc (nodeO nd.data va vn vc nd.st)).alloc (nodeO nd2.data vb vm vd nd2.st)
          unfold nodeV at HSN
          by_cases hnn : nd = nd2
          · rw [decide_eq_true hnn] at HSN
            have HEQ : Hid (N.N x.data.toList = M.N x.data.toList) := Lib.hid (by rw [hn, hMs, hnn])
            clear hL2 ha2 hn hMs hnn hk3
            go_wp2_with (first
              | (go_at_call 50; refine HSN.out.mono ?_; rintro e w5 ⟨rfl, hk5⟩; have hrg5 := hrg3.kept (grown_none hk5) (by simp) (by simp); have HK5 := Lib.hid (HK3.out.trans hk5); clear hk5)
              | go_in)
            go_roundw
            case rel =>
              refine ⟨_, cnt1, hrg5, HK5.out, fun k h1 h2 => ?_, fun kl hk => HJ.out kl (by simp at hk; exact hk.1)⟩
              by_cases e : k = x.data.toList
              · subst e; exact HEQ.out
              · have h9 : (Lit.string k).sameKey (.string x.data.toList) = false := by
                  cases hh : (Lit.string k).sameKey (.string x.data.toList) with
                  | false => rfl
                  | true => exact absurd (by have := HIX.out _ hh; injection this) e
                rw [h9] at h2
                exact HI'.out k h1 (by simpa using h2)
            case measure => rw [hrg5.left_eq, hrg.left_eq]; exact hlt1
          · rw [decide_eq_false hnn] at HSN
            have HNO : Hid (¬ M.N = N.N) := Lib.hid (fun e => hnn (by rw [e, hn] at hMs; injection hMs with e1; exact e1.symm))
            clear hL2 ha2 hn hMs hnn hk3
            go_wp2_with (first
              | (go_at_call 50; refine HSN.out.mono ?_; rintro e w5 ⟨rfl, hk5⟩; have HK5 := Lib.hid (HK3.out.trans hk5); clear hk5)
              | go_in)
            go_ret
            exact ⟨false, rfl, by simpa using HNO.out, HK5.out⟩
        · rw [hL2] at hrun
          simp only [Option.getD_none, Option.isSome_none, node0] at hrun
          have HNO : Hid (¬ M.N = N.N) := Lib.hid (fun e => by rw [e, hn] at hMs; cases hMs)
          clear hL2 hn hMs
          go_wp2
          go_ret
          exact ⟨false, rfl, by simpa using HNO.out, (HK1.out.alloc _).alloc _⟩
  · have b1 : ((size D : Int) != (size D' : Int)) = true := by simp; omega
    have HN : Hid (¬ M.N = N.N) := Lib.hid (fun e => hsz (nodes_size h g e))
    clear hsz h g
    go_enter Tryz.func49, Tryz.ntmps49
    go_wp2_with (first
      | (at_len; refine wpList_len_own _ rfl _ 83 rfl 9 98 Tryz.underlying83 tok q.n c D rfl hown ?_)
      | (at_len; refine wpList_len_own _ rfl _ 83 rfl 9 98 Tryz.underlying83 tok r.n c' D' rfl hown' ?_))
    go_ret
    exact ⟨false, rfl, by simpa using HN.out, Kept.refl _ _⟩
end
end Go.Proofs.YtenbdoceaabecaaGreat

namespace Go.Proofs.YtenbdoceaabecaaGreat
open Go.ChangeShapes Go.WideShapes Go.ChangeAt Go.RowKit Go.Maps
set_option linter.unusedVariables false
set_option linter.unusedSimpArgs false
def QPost (b : Bool) (w : World) (e : Ending) (w' : World) : Prop := e = .returned (.bool b) ∧ Kept (fun _ => False) w w'
theorem bool_true {P : Program} {f : Nat} {args : Array Value} {w : World} {p : Prop} (h : Calls P f args w (BoolPost w p)) (hp : p) : Calls P f args w (QPost true w) :=
  h.mono (fun e w' ⟨b, he, hb, hk⟩ => by have := hb.2 hp; subst this; exact ⟨he, hk⟩)
theorem bool_false {P : Program} {f : Nat} {args : Array Value} {w : World} {p : Prop} (h : Calls P f args w (BoolPost w p)) (hp : ¬ p) : Calls P f args w (QPost false w) :=
  h.mono (fun e w' ⟨b, he, hb, hk⟩ => by
    cases b
    · exact ⟨he, hk⟩
    · exact absurd (hb.1 rfl) hp)
section
variable {Z Z' : Nat → Prop} {w w' : World} {q r : TB} {M N : TM} {c c' : Nat} {D E D' E' : DV}
/-- two trees' own cells -/
abbrev Cells6 (q r : TB) (N : TM) (w : World) : Prop := w.cell? ⟨q.t, 0, none⟩ = some (.map (some q.n)) ∧ w.cell? ⟨q.t, 1, none⟩ = some (.map (some q.s)) ∧ w.cell? ⟨q.t, 2, none⟩ = some (.int .i64 N.z) ∧ w.cell? ⟨r.t, 0, none⟩ = some (.map (some r.n)) ∧ w.cell? ⟨r.t, 1, none⟩ = some (.map (some r.s)) ∧ w.cell? ⟨r.t, 2, none⟩ = some (.int .i64 N.z)
theorem cells6 (h : TAt Z w q M c) (g : TAt Z w r N c') (hz : M.z = N.z) : Cells6 q r N w := by
  obtain ⟨D, E, h⟩ := h
  obtain ⟨D', E', g⟩ := g
  exact ⟨h.three.c0, h.three.c1, hz ▸ h.three.c2, g.three.c0, g.three.c1, g.three.c2⟩
set_option maxRecDepth 100000 in
set_option maxHeartbeats 2000000 in
theorem same_true (h : TAt Z w q M c) (g : TAt Z w r N c') (hc : c ≤ 9223372036854775807) (hc' : c' ≤ 9223372036854775807) (hz : M.z = N.z) (hS : M.S = N.S) (hN : M.N = N.N) :
    Calls Tryz.prog 12 #[.pointer (some ⟨q.t, 0, none⟩), .pointer (some ⟨r.t, 0, none⟩)] w (QPost true w) := by
  have HH := Lib.hid (And.intro h g)
  obtain ⟨D, E, h⟩ := h
  obtain ⟨D', E', g⟩ := g
  have HS := Lib.hid (bool_true (sesseq_any h.drew g.drew hc hc') hS)
  have HN := Lib.hid (fun (W : World) (hk : Kept (fun _ => False) w W) => bool_true (nodeseq_any (h.kept0 hk) (g.kept0 hk) hc hc') hN)
  unfold QPost at HS HN
  obtain ⟨t0, t1, t2, t3, t4, t5⟩ := cells6 (w := w.drew) (HH.out.1.kept0 (Kept.refl _ w).drew) (HH.out.2.kept0 (Kept.refl _ w).drew) hz
  have HZ := Lib.hid hz
  clear h g hc hc' hz hS hN
  go_enter Tryz.func12, Tryz.ntmps12
  go_wp2_with fail
  go_region_held3 (fun w' => w'.cell? ⟨q.t, 0, none⟩ = some (.map (some q.n)) ∧ w'.cell? ⟨q.t, 1, none⟩ = some (.map (some q.s)) ∧ w'.cell? ⟨q.t, 2, none⟩ = some (.int .i64 N.z) ∧ w'.cell? ⟨r.t, 0, none⟩ = some (.map (some r.n)) ∧ w'.cell? ⟨r.t, 1, none⟩ = some (.map (some r.s)) ∧ w'.cell? ⟨r.t, 2, none⟩ = some (.int .i64 N.z))
    (first | assumption | go_keep)
    (first
      | (go_at_call 48; with_reducible refine HS.out.mono ?_; rintro e w5 ⟨rfl, hk5⟩; have HK5 := Lib.hid ((Kept.refl (fun _ => False) w).drew.trans hk5); clear t0 t1 t2 t3 t4 t5 hk5; obtain ⟨t0, t1, t2, t3, t4, t5⟩ := cells6 (HH.out.1.kept0 HK5.out) (HH.out.2.kept0 HK5.out) HZ.out)
      | (go_at_call 49; with_reducible refine (HN.out _ HK5.out).mono ?_; rintro e w6 ⟨rfl, hk6⟩; have HK6 := Lib.hid (HK5.out.trans hk6); clear t0 t1 t2 t3 t4 t5 hk6; obtain ⟨t0, t1, t2, t3, t4, t5⟩ := cells6 (HH.out.1.kept0 HK6.out) (HH.out.2.kept0 HK6.out) HZ.out))
  go_wp2_with fail
  go_ret
  exact ⟨rfl, HK6.out⟩
end
end Go.Proofs.YtenbdoceaabecaaGreat
