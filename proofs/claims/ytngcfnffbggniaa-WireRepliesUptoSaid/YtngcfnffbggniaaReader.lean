/- The reader's calls. -/
import Derived.Test.YtngcfnffbggniaaSeek
import Derived.Deep.QuietTactic
import Derived.BigQuiet
namespace Go.Proofs.Ytngcfnffbggniaa
open Go.ChangeShapes Go.WideShapes Go.ChangeAt Go.RowKit
set_option linter.unusedVariables false

/-- block b is a reader of the bytes l, at place pos, e wrong -/
structure RAt (w : World) (b : Nat) (v : Value) (l : List UInt8) (pos e : Nat) : Prop where
  at_ : w.heap[b]? = some (.cells #[v, .int .i64 pos, .int .i64 e] 182 (0, 0))
  row : Reads w v l
  apart : v.ownBlock ≠ some b
  le : pos ≤ l.length

theorem RAt.c0 {w : World} {b : Nat} {v : Value} {l : List UInt8} {pos e : Nat} (h : RAt w b v l pos e) : w.cell? ⟨b, 0, none⟩ = some v := by simp [World.cell?, h.at_]
theorem RAt.c1 {w : World} {b : Nat} {v : Value} {l : List UInt8} {pos e : Nat} (h : RAt w b v l pos e) : w.cell? ⟨b, 1, none⟩ = some (.int .i64 pos) := by simp [World.cell?, h.at_]
theorem RAt.c2 {w : World} {b : Nat} {v : Value} {l : List UInt8} {pos e : Nat} (h : RAt w b v l pos e) : w.cell? ⟨b, 2, none⟩ = some (.int .i64 e) := by simp [World.cell?, h.at_]
theorem RAt.f1 {w : World} {b : Nat} {v : Value} {l : List UInt8} {pos e : Nat} (h : RAt w b v l pos e) : w.frozen? ⟨b, 1, none⟩ = false := by simp [World.frozen?, h.at_]
theorem RAt.f2 {w : World} {b : Nat} {v : Value} {l : List UInt8} {pos e : Nat} (h : RAt w b v l pos e) : w.frozen? ⟨b, 2, none⟩ = false := by simp [World.frozen?, h.at_]

theorem RAt.kept {S : Nat → Prop} {w w' : World} {b : Nat} {v : Value} {l : List UInt8} {pos e : Nat} (h : RAt w b v l pos e) (hk : Kept S w w') (hb : ¬ S b) (hn : ∀ k, v.ownBlock = some k → ¬ S k) : RAt w' b v l pos e :=
  ⟨by rw [hk.block b (lt_of_block h.at_) hb]; exact h.at_, h.row.kept hk hn, h.apart, h.le⟩
theorem RAt.drewN {w : World} {b : Nat} {v : Value} {l : List UInt8} {pos e : Nat} (h : RAt w b v l pos e) (n : Nat) : RAt (w.drewN n) b v l pos e :=
  ⟨h.at_, h.row.drewN n, h.apart, h.le⟩

/-- a reader's own block -/
def RS (b : Nat) : Nat → Prop := fun k => k = b

theorem cells3_set {w : World} {b : Nat} {x0 x1 x2 : Value} {t : TypeId} (h : w.heap[b]? = some (.cells #[x0, x1, x2] t (0, 0))) (u : Value) :
    (w.setCell ⟨b, 1, none⟩ u).heap[b]? = some (.cells #[x0, u, x2] t (0, 0)) ∧ (w.setCell ⟨b, 2, none⟩ u).heap[b]? = some (.cells #[x0, x1, u] t (0, 0)) := by
  have hlt := lt_of_block h
  have h' : w.heap[b] = .cells #[x0, x1, x2] t (0, 0) := by simpa [Array.getElem?_eq_getElem hlt] using h
  constructor
  · show (w.heap.modify b _)[b]? = _
    rw [Array.getElem?_eq_getElem (by simpa using hlt), Array.getElem_modify_self, h']
    rfl
  · show (w.heap.modify b _)[b]? = _
    rw [Array.getElem?_eq_getElem (by simpa using hlt), Array.getElem_modify_self, h']
    rfl

theorem kept_set {w : World} {b o : Nat} (u : Value) : Kept (RS b) w (w.setCell ⟨b, o, none⟩ u) :=
  Kept.setCell (S := RS b) (Kept.refl _ _) (a := ⟨b, o, none⟩) (Or.inl rfl) u

theorem RAt.set1 {w : World} {b : Nat} {v : Value} {l : List UInt8} {pos e : Nat} (h : RAt w b v l pos e) (p : Nat) (hp : p ≤ l.length) : RAt (w.setCell ⟨b, 1, none⟩ (.int .i64 p)) b v l p e :=
  ⟨(cells3_set h.at_ _).1, h.row.kept (kept_set _) (fun k hk e => h.apart (by rw [hk, show k = b from e])), h.apart, hp⟩
theorem RAt.set2 {w : World} {b : Nat} {v : Value} {l : List UInt8} {pos e : Nat} (h : RAt w b v l pos e) (x : Nat) : RAt (w.setCell ⟨b, 2, none⟩ (.int .i64 x)) b v l pos x :=
  ⟨(cells3_set h.at_ _).2, h.row.kept (kept_set _) (fun k hk e => h.apart (by rw [hk, show k = b from e])), h.apart, h.le⟩

/-- behind a call: the answer, the reader, all else kept -/
def RPost (w : World) (b : Nat) (v : Value) (l : List UInt8) (r : Value) (pos e : Nat) (en : Ending) (w' : World) : Prop :=
  en = .returned r ∧ RAt w' b v l pos e ∧ Kept (RS b) w w'

/-- the first wrong stays -/
def wr (e x : Nat) : Nat := if e = 0 then x else e

theorem rfail_any (x : Nat) (w : World) (b : Nat) (v : Value) (l : List UInt8) (pos e : Nat) (hR : RAt w b v l pos e) :
    Calls Try.prog 145 #[.pointer (some ⟨b, 0, none⟩), .int .i64 x] w (RPost w b v l (.tuple #[]) pos (wr e x)) := by
  have hc := hR.c2
  have hf := hR.f2
  by_cases he : e = 0
  · subst he
    go_enter Try.func145, Try.ntmps145
    go_wp2
    go_end0
    exact ⟨rfl, hR.set2 x, kept_set _⟩
  · have hb : ((e : Int) == 0) = false := by simp; omega
    have hwr : wr e x = e := if_neg he
    rw [hwr]
    go_enter Try.func145, Try.ntmps145
    go_wp2
    go_end0
    exact ⟨rfl, hR, Kept.refl _ _⟩

/-- what sevens answers, and the state behind it -/
def rSev (l : List UInt8) (pos e : Nat) : Nat × Nat × Nat :=
  if e = 0 then ((seek 0 0 (l.drop pos)).1, pos + (seek 0 0 (l.drop pos)).2.1, (seek 0 0 (l.drop pos)).2.2) else (0, pos, e)

/-- the call of getSevens that sevens makes, at each of the reader's states -/
theorem rsev_get (w : World) (p1 : Option Addr) (l : List UInt8) (c1 pos : Nat) (hle : pos ≤ l.length) (hlc : l.length ≤ c1) (hm : c1 ≤ 9223372036854775807)
    (hp : (p1 = none ∧ c1 = 0) ∨ ∃ g, p1 = some ⟨g, 0, none⟩ ∧ g < w.heap.size ∧ ∀ i (h : i < l.length), w.cell? ⟨g, i, none⟩ = some (.int .u8 (l[i].toNat : Int))) (m : Nat) (n k x : Nat) (hr : seek 0 0 (l.drop pos) = (n, k, x)) :
    Calls Try.prog 158 #[.slice (if c1 = pos then p1 else Option.map (fun x => x.add pos) p1) (l.length - pos) (c1 - pos)] (w.drewN m) fun e w' => e = .returned (.tuple #[.int .u64 n, .int .i64 k, .int .i64 x]) ∧ w.drewN m = w' := by
  have hdl : (l.drop pos).length = l.length - pos := List.length_drop
  have nil : l.length - pos = 0 → ∀ a c, Calls Try.prog 158 #[.slice a (l.length - pos) c] (w.drewN m) fun e w' => e = .returned (.tuple #[.int .u64 n, .int .i64 k, .int .i64 x]) ∧ w.drewN m = w' := by
    intro h0 a c
    have h := get_nil (w.drewN m) a c
    have hd : l.drop pos = [] := List.eq_nil_of_length_eq_zero (by omega)
    rw [hd] at hr
    rw [hr] at h
    rw [h0]
    exact h
  rcases hp with ⟨rfl, hc0⟩ | ⟨g, rfl, hg, hcell⟩
  · exact nil (by omega) _ _
  · by_cases hcp : c1 = pos
    · exact nil (by omega) _ _
    · rw [if_neg hcp]
      have h := get_any (w.drewN m) g pos (c1 - pos) (l.drop pos) (by omega) (fun i hi => by
        have := hcell (pos + i) (by omega)
        rw [List.getElem_drop]
        exact this)
      rw [hdl, hr] at h
      have hadd : (⟨g, 0, none⟩ : Addr).add pos = ⟨g, pos, none⟩ := by unfold Addr.add; split <;> simp_all
      show Calls _ _ #[.slice (some ((⟨g, 0, none⟩ : Addr).add pos)) _ _] _ _
      rw [hadd]
      exact h

theorem rsev_any (w : World) (b : Nat) (v : Value) (l : List UInt8) (pos e : Nat) (hR : RAt w b v l pos e) :
    Calls Try.prog 147 #[.pointer (some ⟨b, 0, none⟩)] w (RPost w b v l (.int .u64 (rSev l pos e).1) (rSev l pos e).2.1 (rSev l pos e).2.2) := by
  have hc0 := hR.c0
  have hc1 := hR.c1
  have hc2 := hR.c2
  by_cases he : e = 0
  · subst he
    have hs : rSev l pos 0 = ((seek 0 0 (l.drop pos)).1, pos + (seek 0 0 (l.drop pos)).2.1, (seek 0 0 (l.drop pos)).2.2) := if_pos rfl
    rw [hs]
    clear hs
    have hf1 := hR.f1
    have hf2 := hR.f2
    have hle := hR.le
    have hex := hR.row.ex
    have hfit : (seek 0 0 (l.drop pos)).2.1 ≤ l.length - pos := by
      have hdl : (l.drop pos).length = l.length - pos := List.length_drop
      rcases seek_err (l.drop pos) 0 0 with h | h | h
      · have := h.2; omega
      · rw [h]; simp
      · rw [h]; simp
    rcases hr : seek 0 0 (l.drop pos) with ⟨n, k, x⟩
    rw [hr] at hfit
    simp only at hfit ⊢
    have HFin : ∀ (m : Nat), RAt ((((w.drewN m).setCell ⟨b, 1, none⟩ (.int .i64 ((pos : Int) + (k : Nat))))).setCell ⟨b, 2, none⟩ (.int .i64 (x : Nat))) b v l (pos + k) x ∧ Kept (RS b) w ((((w.drewN m).setCell ⟨b, 1, none⟩ (.int .i64 ((pos : Int) + (k : Nat))))).setCell ⟨b, 2, none⟩ (.int .i64 (x : Nat))) := by
      intro m
      have h1 := (((hR.drewN m).set1 (pos + k) (by omega)).set2 x)
      exact ⟨h1, ((Kept.refl _ _).drewN m).trans ((kept_set _).trans (kept_set _))⟩
    have HFIN := Lib.hid HFin; clear HFin
    obtain ⟨p1, c1, hv, hlc, hm, hp⟩ := hex
    unfold maxLen at hm
    have HG : Hid (∀ m, _) := fun m => rsev_get w p1 l c1 pos hle hlc (by omega) hp m n k x hr
    have HR := Lib.hid hr; clear hr
    subst hv
    rcases hp with ⟨rfl, hcz⟩ | ⟨g, rfl, hg, hcell⟩
    · have hl0 : l = [] := List.eq_nil_of_length_eq_zero (by omega)
      subst hl0
      simp only [List.length_nil] at hle
      obtain rfl : pos = 0 := by omega
      subst hcz
      go_enter Try.func147, Try.ntmps147
      go_wp2_with fail
      go_quiet ((go_at_call 158; go_loud (exact quiet_same (HG.out _))))
      go_wp2_with fail
      go_ret
      have h := HFIN.out nq
      simp only [Int.natCast_zero, Int.zero_add] at h
      exact ⟨rfl, h.1, h.2⟩
    · by_cases hcp : c1 = pos
      · obtain rfl : l.length = pos := by omega
        subst hcp
        simp only [if_pos, Nat.sub_self] at HG
        go_enter Try.func147, Try.ntmps147
        go_wp2_with fail
        go_quiet ((go_at_call 158; go_loud (exact quiet_same (HG.out _))))
        go_wp2_with fail
        go_ret
        exact ⟨rfl, (HFIN.out nq).1, (HFIN.out nq).2⟩
      · have hadd : (⟨g, 0, none⟩ : Addr).add pos = ⟨g, pos, none⟩ := by unfold Addr.add; split <;> simp_all
        simp only [if_neg hcp, Option.map_some, hadd] at HG
        clear hadd
        go_enter Try.func147, Try.ntmps147
        go_wp2_with fail
        go_quiet ((go_at_call 158; go_loud (exact quiet_same (HG.out _))))
        go_wp2_with fail
        go_ret
        exact ⟨rfl, (HFIN.out nq).1, (HFIN.out nq).2⟩
  · have hb : ((e : Int) == 0) = false := by simp; omega
    have hs : rSev l pos e = (0, pos, e) := if_neg he
    rw [hs]
    go_enter Try.func147, Try.ntmps147
    go_wp2
    go_ret
    exact ⟨rfl, hR, Kept.refl _ _⟩

theorem seek_fit (l : List UInt8) (pos : Nat) : (seek 0 0 (l.drop pos)).1 ≤ 18446744073709551615 := seek_fits _ 0 0 (by omega) (by decide)
theorem rSev_fit (l : List UInt8) (pos e : Nat) : (rSev l pos e).1 ≤ 18446744073709551615 := by
  unfold rSev; split
  · exact seek_fit l pos
  · simp

theorem rnum_any (w : World) (b : Nat) (v : Value) (l : List UInt8) (pos e : Nat) (hR : RAt w b v l pos e) :
    Calls Try.prog 111 #[.pointer (some ⟨b, 0, none⟩)] w (RPost w b v l (.int .i64 (unzz (rSev l pos e).1)) (rSev l pos e).2.1 (rSev l pos e).2.2) := by
  have hfit := rSev_fit l pos e
  have h1 := unzz_lo hfit
  have h2 := unzz_hi hfit
  have hs := rsev_any w b v l pos e hR
  rcases hr : rSev l pos e with ⟨n, p, x⟩
  rw [hr] at hs hfit h1 h2
  simp only at hs hfit h1 h2
  have HS := Lib.hid hs; clear hs
  have HR := Lib.hid hr; clear hr
  go_enter Try.func111, Try.ntmps111
  go_wp2_with (first | (go_at_call 147; refine HS.out.mono ?_; rintro en w1 ⟨rfl, hR1, hk1⟩) | (go_at_call 146; refine (unzig_any n _ hfit).mono ?_; rintro en w2 ⟨rfl, rfl⟩))
  go_ret
  exact ⟨rfl, hR1, hk1⟩

/-- what Count answers, and the state behind it -/
def rCount (l : List UInt8) (most : Int) (pos e : Nat) : Nat × Nat × Nat :=
  if most.toNat < (rSev l pos e).1 then (0, (rSev l pos e).2.1, wr (rSev l pos e).2.2 12) else rSev l pos e

theorem rcount_any (most : Int) (w : World) (b : Nat) (v : Value) (l : List UInt8) (pos e : Nat) (hR : RAt w b v l pos e) (hm1 : -9223372036854775808 ≤ most) (hm2 : most ≤ 9223372036854775807) :
    Calls Try.prog 150 #[.pointer (some ⟨b, 0, none⟩), .int .i64 most] w (RPost w b v l (.int .i64 (rCount l most pos e).1) (rCount l most pos e).2.1 (rCount l most pos e).2.2) := by
  have hfit := rSev_fit l pos e
  have hs := rsev_any w b v l pos e hR
  unfold rCount
  rcases hr : rSev l pos e with ⟨n, p, x⟩
  rw [hr] at hs hfit
  simp only at hs hfit ⊢
  have HS := Lib.hid hs; clear hs
  have HR := Lib.hid hr; clear hr
  by_cases hn : most.toNat < n
  · rw [if_pos hn]
    by_cases h0 : 0 ≤ most
    · go_enter Try.func150, Try.ntmps150
      go_wp2_with (first | (go_at_call 147; refine HS.out.mono ?_; rintro en w1 ⟨rfl, hR1, hk1⟩) | (go_at_call 145; refine (rfail_any 12 _ b v l p x (by assumption)).mono ?_; rintro en w2 ⟨rfl, hR2, hk2⟩))
      go_ret
      exact ⟨rfl, hR2, hk1.trans hk2⟩
    · go_enter Try.func150, Try.ntmps150
      go_wp2_with (first | (go_at_call 147; refine HS.out.mono ?_; rintro en w1 ⟨rfl, hR1, hk1⟩) | (go_at_call 145; refine (rfail_any 12 _ b v l p x (by assumption)).mono ?_; rintro en w2 ⟨rfl, hR2, hk2⟩))
      go_ret
      exact ⟨rfl, hR2, hk1.trans hk2⟩
  · rw [if_neg hn]
    by_cases h0 : 0 ≤ most
    · go_enter Try.func150, Try.ntmps150
      go_wp2_with (first | (go_at_call 147; refine HS.out.mono ?_; rintro en w1 ⟨rfl, hR1, hk1⟩))
      go_ret
      exact ⟨rfl, hR1, hk1⟩
    · go_enter Try.func150, Try.ntmps150
      go_wp2_with (first | (go_at_call 147; refine HS.out.mono ?_; rintro en w1 ⟨rfl, hR1, hk1⟩))
      go_ret
      exact ⟨rfl, hR1, hk1⟩

theorem size_q (w : World) (b : Nat) (v : Value) (l : List UInt8) (n : Nat) (hc : w.cell? ⟨b, 0, none⟩ = some v) (hrow : Reads w v l) :
    Calls Try.prog 120 #[.pointer (some ⟨b, 0, none⟩)] (w.drewN n) fun e w' => e = .returned (.int .i64 l.length) ∧ ∃ m, w' = w.drewN m :=
  quiet_same (size_any _ b v l (cell_drewN hc _) (hrow.drewN _))

theorem rend_any (w : World) (b : Nat) (v : Value) (l : List UInt8) (pos e : Nat) (hR : RAt w b v l pos e) :
    Calls Try.prog 110 #[.pointer (some ⟨b, 0, none⟩)] w (RPost w b v l (.int .i64 (if pos = l.length then e else wr e 11)) pos (if pos = l.length then e else wr e 11)) := by
  have hc0 := hR.c0
  have hc1 := hR.c1
  have hrd := hR.row
  have hle := hR.le
  obtain ⟨p1, c1, hv, hlc, hm, _⟩ := hrd.ex
  clear hv
  unfold maxLen at hm
  by_cases hp : pos = l.length
  · rw [if_pos hp]
    subst hp
    have hc2 := hR.c2
    go_enter Try.func110, Try.ntmps110
    go_wp2_with fail
    go_quiet ((go_at_call 120; exact size_q _ _ v l _ hc0 hrd))
    go_wp2_with fail
    go_ret
    exact ⟨rfl, hR.drewN _, (Kept.refl _ _).drewN _⟩
  · rw [if_neg hp]
    have hne : ((pos : Int) == (l.length : Int)) = false := by simp; omega
    go_enter Try.func110, Try.ntmps110
    go_wp2_with fail
    go_quiet ((go_at_call 120; exact size_q _ _ v l _ hc0 hrd))
    go_wp2_with (go_at_call 145; refine (rfail_any 11 _ b v l pos e (hR.drewN _)).mono ?_; rintro en w2 ⟨rfl, hR2, hk2⟩; have hc2 := hR2.c2)
    go_ret
    exact ⟨rfl, hR2, ((Kept.refl _ _).drewN _).trans hk2⟩

/-- what Flag answers, and the state behind it -/
def rFlag (l : List UInt8) (pos e : Nat) : Bool × Nat × Nat :=
  if h : pos < l.length then
    if 1 < l[pos].toNat then (false, pos, wr e 11)
    else if e = 0 then (l[pos].toNat == 1, pos + 1, 0)
    else (false, pos, e)
  else (false, pos, wr e 10)

theorem wr_ne {e x : Nat} (hx : x ≠ 0) : ((wr e x : Nat) : Int) ≠ 0 := by unfold wr; split <;> omega

set_option maxRecDepth 100000 in
theorem rflag_any (w : World) (b : Nat) (v : Value) (l : List UInt8) (pos e : Nat) (hR : RAt w b v l pos e) :
    Calls Try.prog 155 #[.pointer (some ⟨b, 0, none⟩)] w (RPost w b v l (.bool (rFlag l pos e).1) (rFlag l pos e).2.1 (rFlag l pos e).2.2) := by
  have hc0 := hR.c0
  have hc1 := hR.c1
  have hf1 := hR.f1
  have hrd := hR.row
  have hle := hR.le
  obtain ⟨p1, c1, hv, hlc, hm, hp⟩ := hrd.ex
  unfold maxLen at hm
  by_cases hpl : pos < l.length
  · rcases hp with ⟨_, h0⟩ | ⟨g, rfl, hg, hcell⟩
    · omega
    subst hv
    have hx := hcell pos hpl
    have hne : ((pos : Int) == (l.length : Int)) = false := by simp; omega
    have hgb : g ≠ b := fun e => hR.apart (by rw [← e]; rfl)
    unfold rFlag
    rw [dif_pos hpl]
    generalize hxx : l[pos].toNat = x at hx ⊢
    have hx256 : x < 256 := by rw [← hxx]; exact l[pos].toNat_lt
    clear hcell hxx
    by_cases h1 : 1 < x
    · have hwr := wr_ne (e := e) (x := 11) (by decide)
      have hwb : (((wr e 11 : Nat) : Int) == 0) = false := by simpa using hwr
      rw [if_pos h1]
      go_enter Try.func155, Try.ntmps155
      go_wp2_with fail
      go_quiet ((go_at_call 120; exact size_q _ _ _ l _ hc0 hrd))
      go_wp2_with fail
      go_quiet (fail)
      go_wp2_with (go_at_call 145; refine (rfail_any 11 _ b _ l pos e (hR.drewN _)).mono ?_; rintro en w2 ⟨rfl, hR2, hk2⟩; have hc2 := hR2.c2)
      go_ret
      exact ⟨rfl, hR2, ((Kept.refl _ _).drewN _).trans hk2⟩
    · rw [if_neg h1]
      have hc2 := hR.c2
      by_cases he : e = 0
      · rw [if_pos he]
        subst he
        have HFin : ∀ n, RAt ((w.drewN n).setCell ⟨b, 1, none⟩ (.int .i64 ((pos : Int) + 1))) b (.slice (some ⟨g, 0, none⟩) l.length c1) l (pos + 1) 0 ∧ Kept (RS b) w ((w.drewN n).setCell ⟨b, 1, none⟩ (.int .i64 ((pos : Int) + 1))) := fun n =>
          ⟨(hR.drewN n).set1 (pos + 1) (by omega), ((Kept.refl _ _).drewN _).trans (kept_set _)⟩
        have HFIN := Lib.hid HFin; clear HFin
        have hcb := hR.at_
        go_enter Try.func155, Try.ntmps155
        go_wp2_with fail
        go_quiet ((go_at_call 120; exact size_q _ _ _ l _ hc0 hrd))
        go_wp2_with fail
        go_quiet (fail)
        go_wp2_with fail
        go_quiet (fail)
        go_wp2_with fail
        go_ret
        exact ⟨ret_val (congrArg Value.bool (by rw [Bool.eq_iff_iff]; simp; omega)), (HFIN.out _).1.drewN _, (HFIN.out _).2.drewN _⟩
      · rw [if_neg he]
        have heb : ((e : Int) == 0) = false := by simp; omega
        go_enter Try.func155, Try.ntmps155
        go_wp2_with fail
        go_quiet ((go_at_call 120; exact size_q _ _ _ l _ hc0 hrd))
        go_wp2_with fail
        go_quiet (fail)
        go_wp2_with fail
        go_ret
        exact ⟨rfl, hR.drewN _, (Kept.refl _ _).drewN _⟩
  · clear hv
    have hpe : pos = l.length := by omega
    have hwr := wr_ne (e := e) (x := 10) (by decide)
    have hwb : (((wr e 10 : Nat) : Int) == 0) = false := by simpa using hwr
    unfold rFlag
    rw [dif_neg hpl]
    subst hpe
    clear hpl
    go_enter Try.func155, Try.ntmps155
    go_wp2_with fail
    go_quiet ((go_at_call 120; exact size_q _ _ _ l _ hc0 hrd))
    go_wp2_with (go_at_call 145; refine (rfail_any 10 _ b _ l l.length e (hR.drewN _)).mono ?_; rintro en w2 ⟨rfl, hR2, hk2⟩; have hc2 := hR2.c2)
    go_ret
    exact ⟨rfl, hR2, ((Kept.refl _ _).drewN _).trans hk2⟩

/-- what Text answers, and the state behind it -/
def rText (l : List UInt8) (most : Int) (pos e : Nat) : List UInt8 × Nat × Nat :=
  if l.length - (rCount l most pos e).2.1 < (rCount l most pos e).1 then ([], (rCount l most pos e).2.1, wr (rCount l most pos e).2.2 10)
  else if (rCount l most pos e).2.2 = 0 then ((l.drop (rCount l most pos e).2.1).take (rCount l most pos e).1, (rCount l most pos e).2.1 + (rCount l most pos e).1, 0)
  else ([], (rCount l most pos e).2.1, (rCount l most pos e).2.2)

theorem rCount_le (l : List UInt8) (most : Int) (pos e : Nat) : (rCount l most pos e).1 ≤ most.toNat := by
  unfold rCount; split
  · simp
  · omega

set_option maxRecDepth 100000 in
theorem rtext_any (most : Int) (w : World) (b : Nat) (v : Value) (l : List UInt8) (pos e : Nat) (hR : RAt w b v l pos e) (hm1 : -9223372036854775808 ≤ most) (hm2 : most ≤ 9223372036854775807) :
    Calls Try.prog 115 #[.pointer (some ⟨b, 0, none⟩), .int .i64 most] w (RPost w b v l (.string ⟨(rText l most pos e).1.toArray⟩) (rText l most pos e).2.1 (rText l most pos e).2.2) := by
  have hcl := rCount_le l most pos e
  have hs := rcount_any most w b v l pos e hR hm1 hm2
  unfold rText
  rcases hr : rCount l most pos e with ⟨n, p, x⟩
  rw [hr] at hs hcl
  simp only at hs hcl ⊢
  have HS := Lib.hid hs; clear hs
  have HR := Lib.hid hr; clear hr
  have hnn : (n : Int) ≤ 9223372036854775807 := by omega
  have hll : l.length ≤ 9223372036854775807 := by
    obtain ⟨p1, c1, hv, hlc, hm, _⟩ := hR.row.ex
    unfold maxLen at hm
    omega
  clear hm1 hm2 hcl
  by_cases hlt : l.length - p < n
  · have hwr := wr_ne (e := x) (x := 10) (by decide)
    have hwb : (((wr x 10 : Nat) : Int) == 0) = false := by simpa using hwr
    rw [if_pos hlt]
    go_enter Try.func115, Try.ntmps115
    go_wp2_with fail
    refine HS.out.mono ?_
    rintro en w1 ⟨rfl, hR1, hk1⟩
    have hc0 := hR1.c0
    have hc1 := hR1.c1
    have hle := hR1.le
    go_wp2_with fail
    go_quiet ((go_at_call 120; exact size_q _ _ _ l _ hc0 hR1.row))
    go_wp2_with (go_at_call 145; refine (rfail_any 10 _ b _ l p x (hR1.drewN _)).mono ?_; rintro en w2 ⟨rfl, hR2, hk2⟩; have hc2 := hR2.c2)
    go_ret
    exact ⟨rfl, hR2, hk1.trans (((Kept.refl _ _).drewN _).trans hk2)⟩
  · rw [if_neg hlt]
    by_cases hx : x = 0
    · rw [if_pos hx]
      subst hx
      go_enter Try.func115, Try.ntmps115
      go_wp2_with fail
      refine HS.out.mono ?_
      rintro en w1 ⟨rfl, hR1, hk1⟩
      have hc0 := hR1.c0
      have hc1 := hR1.c1
      have hle := hR1.le
      have hc2 := hR1.c2
      have hf1 := hR1.f1
      have HFin : ∀ m, RAt ((w1.drewN m).setCell ⟨b, 1, none⟩ (.int .i64 ((p : Int) + n))) b v l (p + n) 0 ∧ Kept (RS b) w ((w1.drewN m).setCell ⟨b, 1, none⟩ (.int .i64 ((p : Int) + n))) := fun m =>
        ⟨(hR1.drewN m).set1 (p + n) (by omega), hk1.trans (((Kept.refl _ _).drewN _).trans (kept_set _))⟩
      have HPC : Hid (∀ m k, _) := fun m k => piece_any ((((w1.drewN m).setCell ⟨b, 1, none⟩ (.int .i64 ((p : Int) + n)))).drewN k) b v l p (p + n) (cell_drewN (HFin m).1.c0 k) ((HFin m).1.row.drewN k) (by omega) (by omega)
      have hres : (l.take (p + n)).drop p = (l.drop p).take n := by rw [List.drop_take]; congr 1; omega
      rw [hres] at HPC
      clear hres
      have HFIN := Lib.hid HFin; clear HFin
      go_wp2_with fail
      go_quiet ((go_at_call 120; exact size_q _ _ _ l _ hc0 hR1.row))
      go_wp2_with fail
      go_quiet ((go_at_call 119; go_loud (exact quiet_same (HPC.out _ _))))
      go_wp2_with fail
      go_ret
      exact ⟨rfl, (HFIN.out _).1.drewN _, (HFIN.out _).2.drewN _⟩
    · rw [if_neg hx]
      have heb : ((x : Int) == 0) = false := by simp; omega
      go_enter Try.func115, Try.ntmps115
      go_wp2_with fail
      refine HS.out.mono ?_
      rintro en w1 ⟨rfl, hR1, hk1⟩
      have hc0 := hR1.c0
      have hc1 := hR1.c1
      have hle := hR1.le
      have hc2 := hR1.c2
      go_wp2_with fail
      go_quiet ((go_at_call 120; exact size_q _ _ _ l _ hc0 hR1.row))
      go_wp2_with fail
      go_ret
      exact ⟨rfl, hR1.drewN _, hk1.trans ((Kept.refl _ _).drewN _)⟩
end Go.Proofs.Ytngcfnffbggniaa
