/- Two maps of sessions compared. -/
import Derived.Test.YtccoeccibokecaaNu
namespace Go.Proofs.Ytccoeccibokecaa
open Go.ChangeShapes Go.WideShapes Go.ChangeAt Go.RowKit Go.Maps
set_option linter.unusedVariables false
set_option linter.unusedSimpArgs false
theorem owns_key {P : Program} {k : TypeId} {w : World} {b n : Nat} {D : DV} (h : w.ownsMap P k tok b n D) {kl : Lit} (hh : has D kl = true) : ∃ key, keyOf P k key = some kl := by
  obtain ⟨es, clock, _, F, _, rfl⟩ := h
  obtain ⟨p, hm, hs⟩ := List.any_eq_true.1 hh
  obtain ⟨x, hx, rfl⟩ := List.mem_map.1 (mem_sorted.1 hm)
  obtain ⟨y, hy⟩ := F.reads x hx
  rw [WideElems.rg_of hy] at hs
  have := WideAt.sameKey_eq hs
  exact ⟨_, this ▸ WideElems.rd_key hy⟩
/-- maps that read alike have as many entries -/
theorem size_eq {P : Program} {k : TypeId} {w : World} {b n b' n' : Nat} {D D' : DV} (K : Keyed P k) (h : w.ownsMap P k tok b n D) (h' : w.ownsMap P k tok b' n' D') (he : ∀ key kl, keyOf P k key = some kl → lookV D kl = lookV D' kl) : size D = size D' :=
  size_same (h.entries K) (h'.entries K) (fun kl => by
    rw [Bool.eq_iff_iff]
    constructor
    · intro hh
      obtain ⟨key, hk⟩ := owns_key h hh
      rw [← lookV_isSome, ← he _ _ hk, lookV_isSome]; exact hh
    · intro hh
      obtain ⟨key, hk⟩ := owns_key h' hh
      rw [← lookV_isSome, he _ _ hk, lookV_isSome]; exact hh)
/-- as many entries, and what the one has the other has alike: they read alike -/
theorem look_back {P : Program} {k : TypeId} {w : World} {b n b' n' : Nat} {D D' : DV} (K : Keyed P k) (h : w.ownsMap P k tok b n D) (h' : w.ownsMap P k tok b' n' D') (hs : size D = size D') (he : ∀ kl, has D kl = true → lookV D' kl = lookV D kl) (kl : Lit) : lookV D kl = lookV D' kl := by
  have hb := has_back (h.entries K) (h'.entries K) hs (fun k hk => by rw [← lookV_isSome, he k hk, lookV_isSome]; exact hk) kl
  cases hh : has D kl with
  | true => exact (he kl hh).symm
  | false =>
    rw [hh] at hb
    have h1 := lookV_isSome D kl
    have h2 := lookV_isSome D' kl
    rw [hh] at h1; rw [← hb] at h2
    rw [Option.isSome_eq_false_iff, Option.isNone_iff_eq_none] at h1 h2
    rw [h1, h2]
def BoolPost (w : World) (p : Prop) (e : Ending) (w' : World) : Prop := ∃ b, e = .returned (.bool b) ∧ (b = true ↔ p) ∧ Kept (fun _ => False) w w'
theorem sessV_inj {s t : Int × ByteArray} (h : sessV s = sessV t) : s = t := by
  obtain ⟨a, b⟩ := s; obtain ⟨c, d⟩ := t
  simp only [sessV, Value.agg.injEq] at h
  simp at h
  exact Prod.ext h.1 h.2
section
variable {Z : Nat → Prop} {w w' : World} {q r : TB} {M N : TM} {c c' : Nat} {D E D' E' : DV}
theorem TD.lookSess (h : TD Z w q M c D E) (i : Int) (hi : (Lit.int .i64 i).wf = true) : (Instr.lookup 76 (.map (some q.s)) (.int .i64 i) true).run Try.prog w = .ok (.tuple #[(lookV E (.int .i64 i)).getD sess0, .bool (lookV E (.int .i64 i)).isSome]) w :=
  owns_look h.s (t := 76) (e := 88) keyI Try.underlying76 (zero_sess w) (keyOf_int_mk Try.underlying3 hi)
theorem sess_iff (h : TD Z w q M c D E) (g : TD Z w r N c' D' E') : (M.S = N.S) ↔ ∀ i, lookV E (.int .i64 i) = lookV E' (.int .i64 i) := by
  constructor
  · intro e i; rw [h.S, g.S, e]
  · intro e; funext i
    have := e i
    rw [h.S, g.S] at this
    cases hm : M.S i <;> cases hn : N.S i <;> rw [hm, hn] at this <;> simp at this <;> first | rfl | exact congrArg some (sessV_inj this)
set_option maxRecDepth 100000 in
set_option maxHeartbeats 2000000 in
theorem sesseq_any (h : TD Z w q M c D E) (g : TD Z w r N c' D' E') (hc : c ≤ 9223372036854775807) (hc' : c' ≤ 9223372036854775807) :
    Calls Try.prog 35 #[.map (some q.s), .map (some r.s)] w (BoolPost w (M.S = N.S)) := by
  have HD := Lib.hid h
  have HG := Lib.hid g
  have hown := h.s
  have hown' := g.s
  have HI := Lib.hid (sess_iff h g)
  have hs1 := h.s.size_le
  have hs2 := g.s.size_le
  clear h g
  by_cases hsz : size E = size E'
  · have HSZ := Lib.hid hsz
    clear hsz
    go_enter Try.func35, Try.ntmps35
    go_wp2_with (first
      | (at_len; refine wpList_len_own _ rfl _ 76 rfl 3 88 Try.underlying76 tok q.s c E rfl hown ?_; rw [HSZ.out])
      | (at_len; refine wpList_len_own _ rfl _ 76 rfl 3 88 Try.underlying76 tok r.s c' E' rfl hown' ?_)
      | (at_range; refine wpList_range_own _ rfl _ 76 rfl 3 88 keyI Try.underlying76 _ q.s c _ rfl hown ?_; intro w0 hrg0 hg0 hs0)
      | go_in)
    go_frame
    go_loopw [5, 6, 7, 8] (fun _ _ _ _ wr => ∃ (left : Lit → Bool) (cnt : Nat), wr.ranges Try.prog 3 tok q.s w.heap.size c E left cnt ∧ Kept (fun _ => False) w wr ∧
        (∀ kl, has E kl = true → left kl = false → lookV E' kl = lookV E kl) ∧ (∀ kl, left kl = true → has E kl = true))
      (fun _ _ _ _ wr => wr.rangeLeft q.s w.heap.size)
    case atStart =>
      exact ⟨_, _, hrg0, (Kept.of_grownBy hg0).mono (fun k _ e => by simp at e), fun kl h1 h2 => absurd (h1.symm.trans h2) (by simp), fun kl h1 => h1⟩
    case round =>
      obtain ⟨left, cnt, hrg, hkw, hI', hJ⟩ := hrel
      have HI' := Lib.hid hI'
      have HJ := Lib.hid hJ
      have HKW := Lib.hid hkw
      clear hI' hJ hkw
      go_wp2_with (first
        | (at_next; refine wpList_next_ranges _ rfl _ rfl 3 keyI tok (fun x : Int => Value.int .i64 x) id (fun key kl hkey => by obtain ⟨x, rfl, _⟩ := keyOf_int_inv Try.underlying3 hkey; exact ⟨x, rfl⟩) (fun v _ _ => ⟨v, rfl⟩) q.s w.heap.size c _ _ _ rfl hrg ?_ ?_)
        | go_in)
      · intro _ hl0
        go_wp2
        go_ret
        have hall : M.S = N.S := HI.out.2 (fun i => look_back keyI hown hown' HSZ.out (fun kl hkl => HI'.out kl hkl (hl0 kl)) _)
        exact ⟨true, rfl, by simpa using hall, HKW.out⟩
      · intro x v kl yd yp w1 cnt1 hkey hlx hv hat hrg1 hlt1 hg1 hs1 hen
        obtain ⟨x', ex, rfl, hx⟩ := keyOf_int_inv Try.underlying3 hkey
        cases ex
        obtain ⟨rfl, _⟩ := tok_inj hv
        have hlv : lookV E (.int .i64 x) = some v := lookV_some hat
        obtain ⟨⟨t, sec⟩, hMs, rfl⟩ : ∃ s, M.S x = some s ∧ v = sessV s := by
          have := HD.out.S x
          rw [hlv] at this
          cases hm : M.S x with
          | none => rw [hm] at this; cases this
          | some s => rw [hm] at this; simp only [Option.map_some, Option.some.injEq] at this; exact ⟨s, rfl, this⟩
        have hkr : Kept (fun k => k = w.heap.size) _ w1 := kept_grown hg1 rfl
        have hkw1 : Kept (fun _ => False) w w1 := HKW.out.trans' hkr (fun k hk e => by omega)
        have hk2 : Kept (fun _ => False) w (w1.alloc (.cells #[.int .i64 t, .string sec] 88)) := hkw1.alloc _
        have hrun := (HG.out.kept0 hk2).lookSess x hx
        have HK1 := Lib.hid hkw1
        have HMS := Lib.hid hMs
        have HHX : Hid (has E (.int .i64 x) = true) := Lib.hid (HJ.out _ hlx)
        have HLV := Lib.hid hlv
        have HIx : ∀ kl : Lit, kl.sameKey (.int .i64 x) = true → kl = .int .i64 x := fun kl e => WideAt.sameKey_eq e
        have HIX := Lib.hid HIx
        have hgs := HG.out.S x
        clear hkr hkw1 hk2 hs1 hv hat hlv HIx
        unfold sessV at *
        cases hn : N.S x with
        | none =>
          rw [hn] at hgs
          rw [hgs] at hrun
          simp only [Option.map_none, Option.getD_none, Option.isSome_none, sess0] at hrun
          have HNE : Hid (¬ M.S = N.S) := Lib.hid (fun e => by rw [e, hn] at hMs; cases hMs)
          clear hMs hn hgs
          go_wp2
          go_ret
          exact ⟨false, rfl, by simpa using HNE.out, (HK1.out.alloc _).alloc _⟩
        | some s2 =>
          obtain ⟨t2, sec2⟩ := s2
          rw [hn] at hgs
          rw [hgs] at hrun
          simp only [Option.map_some, Option.getD_some, Option.isSome_some, sessV] at hrun
          have HEQ : Hid (t = t2 → sec.toList = sec2.toList → lookV E' (.int .i64 x) = lookV E (.int .i64 x)) := Lib.hid (fun e1 e2 => by
            rw [Lib.toList_data, Lib.toList_data] at e2
            rw [HLV.out, hgs, e1, ba_inj e2]; rfl)
          have HNE : Hid (¬ (t = t2 ∧ sec.toList = sec2.toList) → ¬ M.S = N.S) := Lib.hid (fun h e => by
            rw [e, hn] at hMs
            simp only [Option.some.injEq, Prod.mk.injEq] at hMs
            exact h ⟨hMs.1.symm, by rw [hMs.2]⟩)
          clear hMs hn hgs
          by_cases h1 : t = t2
          · by_cases h2 : sec.toList = sec2.toList
            · have HE2 := Lib.hid (HEQ.out h1 h2)
              rw [Lib.toList_data, Lib.toList_data] at h2
              have h3 := ba_inj h2
              clear h2 HEQ HNE
              subst h1
              subst h3
              go_wp2
              have hr2 := (hrg1.alloc (.cells #[.int .i64 t, .string sec] 88)).alloc (.cells #[.int .i64 t, .string sec] 88)
              go_roundw
              case rel =>
                refine ⟨_, cnt1, hr2, (HK1.out.alloc _).alloc _, fun kl h1 h2 => ?_, fun kl hk => HJ.out kl (by simp at hk; exact hk.1)⟩
                by_cases e : kl = .int .i64 x
                · subst e; exact HE2.out
                · have h9 : kl.sameKey (.int .i64 x) = false := by
                    cases hh : kl.sameKey (.int .i64 x) with
                    | false => rfl
                    | true => exact absurd (HIX.out _ hh) e
                  rw [h9] at h2
                  exact HI'.out kl h1 (by simpa using h2)
              case measure => rw [hr2.left_eq, hrg.left_eq]; exact hlt1
            · have HNO := Lib.hid (HNE.out (fun h => h2 h.2))
              subst h1
              go_wp2
              go_ret
              exact ⟨false, rfl, by simpa using HNO.out, (HK1.out.alloc _).alloc _⟩
          · have HNO := Lib.hid (HNE.out (fun h => h1 h.1))
            go_wp2
            go_ret
            exact ⟨false, rfl, by simpa using HNO.out, (HK1.out.alloc _).alloc _⟩
  · have b1 : ((size E : Int) != (size E' : Int)) = true := by simp; omega
    have HN : Hid (¬ M.S = N.S) := Lib.hid (fun e => hsz (size_eq keyI hown hown' (fun key kl hk => by
      obtain ⟨i, _, rfl, _⟩ := keyOf_int_inv Try.underlying3 hk
      exact HI.out.1 e i)))
    clear hsz
    go_enter Try.func35, Try.ntmps35
    go_wp2_with (first
      | (at_len; refine wpList_len_own _ rfl _ 76 rfl 3 88 Try.underlying76 tok q.s c E rfl hown ?_)
      | (at_len; refine wpList_len_own _ rfl _ 76 rfl 3 88 Try.underlying76 tok r.s c' E' rfl hown' ?_))
    go_ret
    exact ⟨false, rfl, by simpa using HN.out, Kept.refl _ _⟩
end
end Go.Proofs.Ytccoeccibokecaa
