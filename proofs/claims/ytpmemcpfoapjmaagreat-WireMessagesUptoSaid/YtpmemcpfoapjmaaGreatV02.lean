/- The reader's calls. What is taken up is laid again, call by call: in plain mathematics. Read: a reader of a text. Footprints: which blocks a writer and a reader have; what a call on one leaves of the others. A number of 64 bits. Things as bytes: what they are laid as, what is taken up of bytes, and that the two fit. Plain mathematics. -/
import Derived.Test.YtpmemcpfoapjmaaGreatV01
import Derived.Deep.QuietTactic
import Derived.BigQuiet
import Derived.Laws.IdiomStrings
namespace Go.Proofs.YtpmemcpfoapjmaaGreat
open Go.ChangeShapes Go.WideShapes Go.ChangeAt Go.RowKit
set_option linter.unusedVariables false

/-- block b is a reader of the bytes l, at place pos, e wrong -/
structure RAt (w : World) (b : Nat) (v : Value) (l : List UInt8) (pos e : Nat) : Prop where
  at_ : w.heap[b]? = some (.cells #[v, .int .i64 pos, .int .i64 e] 166 (0, 0))
  row : Reads w v l
  apart : v.ownBlock ≠ some b
  le : pos ≤ l.length

theorem RAt.c0 {w : World} {b : Nat} {v : Value} {l : List UInt8} {pos e : Nat} (h : RAt w b v l pos e) : w.cell? ⟨b, 0, none⟩ = some v := by simp [World.cell?, h.at_]
theorem RAt.c1 {w : World} {b : Nat} {v : Value} {l : List UInt8} {pos e : Nat} (h : RAt w b v l pos e) : w.cell? ⟨b, 1, none⟩ = some (.int .i64 pos) := by simp [World.cell?, h.at_]
theorem RAt.c2 {w : World} {b : Nat} {v : Value} {l : List UInt8} {pos e : Nat} (h : RAt w b v l pos e) : w.cell? ⟨b, 2, none⟩ = some (.int .i64 e) := by simp [World.cell?, h.at_]
theorem RAt.f1 {w : World} {b : Nat} {v : Value} {l : List UInt8} {pos e : Nat} (h : RAt w b v l pos e) : w.frozen? ⟨b, 1, none⟩ = false := by simp [World.frozen?, h.at_]
theorem RAt.f2 {w : World} {b : Nat} {v : Value} {l : List UInt8} {pos e : Nat} (h : RAt w b v l pos e) : w.frozen? ⟨b, 2, none⟩ = false := by simp [World.frozen?, h.at_]

theorem RAt.kept {S : Nat → Prop} {w w' : World} {b : Nat} {v : Value} {l : List UInt8} {pos e : Nat} (h : RAt w b v l pos e) (hk : Kept S w w') (hb : ¬ S b) (hn : ∀ k, v.ownBlock = some k → ¬ S k) : RAt w' b v l pos e :=
  ⟨by rw [hk.block b (lt_of_block h.at_) hb]; exact h.at_, h.row.kept hk hn, h.apart, h.le⟩
theorem RAt.drewN {w : World} {b : Nat} {v : Value} {l : List UInt8} {pos e : Nat} (h : RAt w b v l pos e) (n : Nat) : RAt (w.drewN n) b v l pos e :=
  ⟨h.at_, h.row.drewN n, h.apart, h.le⟩

/-- a reader's own block -/
def RS (b : Nat) : Nat → Prop := fun k => k = b

theorem cells3_set {w : World} {b : Nat} {x0 x1 x2 : Value} {t : TypeId} (h : w.heap[b]? = some (.cells #[x0, x1, x2] t (0, 0))) (u : Value) :
    (w.setCell ⟨b, 1, none⟩ u).heap[b]? = some (.cells #[x0, u, x2] t (0, 0)) ∧ (w.setCell ⟨b, 2, none⟩ u).heap[b]? = some (.cells #[x0, x1, u] t (0, 0)) := by
  have hlt := lt_of_block h
  have h' : w.heap[b] = .cells #[x0, x1, x2] t (0, 0) := by simpa [Array.getElem?_eq_getElem hlt] using h
  constructor
  · show (w.heap.modify b _)[b]? = _
    rw [Array.getElem?_eq_getElem (by simpa using hlt), Array.getElem_modify_self, h']
    rfl
  · show (w.heap.modify b _)[b]? = _
    rw [Array.getElem?_eq_getElem (by simpa using hlt), Array.getElem_modify_self, h']
    rfl

theorem kept_set {w : World} {b o : Nat} (u : Value) : Kept (RS b) w (w.setCell ⟨b, o, none⟩ u) :=
  Kept.setCell (S := RS b) (Kept.refl _ _) (a := ⟨b, o, none⟩) (Or.inl rfl) u

theorem RAt.set1 {w : World} {b : Nat} {v : Value} {l : List UInt8} {pos e : Nat} (h : RAt w b v l pos e) (p : Nat) (hp : p ≤ l.length) : RAt (w.setCell ⟨b, 1, none⟩ (.int .i64 p)) b v l p e :=
  ⟨(cells3_set h.at_ _).1, h.row.kept (kept_set _) (fun k hk e => h.apart (by rw [hk, show k = b from e])), h.apart, hp⟩
theorem RAt.set2 {w : World} {b : Nat} {v : Value} {l : List UInt8} {pos e : Nat} (h : RAt w b v l pos e) (x : Nat) : RAt (w.setCell ⟨b, 2, none⟩ (.int .i64 x)) b v l pos x :=
  ⟨(cells3_set h.at_ _).2, h.row.kept (kept_set _) (fun k hk e => h.apart (by rw [hk, show k = b from e])), h.apart, h.le⟩

/-- behind a call: the answer, the reader, all else kept -/
def RPost (w : World) (b : Nat) (v : Value) (l : List UInt8) (r : Value) (pos e : Nat) (en : Ending) (w' : World) : Prop :=
  en = .returned r ∧ RAt w' b v l pos e ∧ Kept (RS b) w w'

/-- the first wrong stays -/
def wr (e x : Nat) : Nat := if e = 0 then x else e

theorem rfail_any (x : Nat) (w : World) (b : Nat) (v : Value) (l : List UInt8) (pos e : Nat) (hR : RAt w b v l pos e) :
    Calls Tryz.prog 125 #[.pointer (some ⟨b, 0, none⟩), .int .i64 x] w (RPost w b v l (.tuple #[]) pos (wr e x)) := by
  have hc := hR.c2
  have hf := hR.f2
  by_cases he : e = 0
  · subst he
    go_enter Tryz.func125, Tryz.ntmps125
    go_wp2
    go_end0
    exact ⟨rfl, hR.set2 x, kept_set _⟩
  · have hb : ((e : Int) == 0) = false := by simp; omega
    have hwr : wr e x = e := if_neg he
    rw [hwr]
    go_enter Tryz.func125, Tryz.ntmps125
    go_wp2
    go_end0
    exact ⟨rfl, hR, Kept.refl _ _⟩

/-- what sevens answers, and the state behind it -/
def rSev (l : List UInt8) (pos e : Nat) : Nat × Nat × Nat :=
  if e = 0 then ((seek 0 0 (l.drop pos)).1, pos + (seek 0 0 (l.drop pos)).2.1, (seek 0 0 (l.drop pos)).2.2) else (0, pos, e)

/-- the call of getSevens that sevens makes, at each of the reader's states -/
theorem rsev_get (w : World) (p1 : Option Addr) (l : List UInt8) (c1 pos : Nat) (hle : pos ≤ l.length) (hlc : l.length ≤ c1) (hm : c1 ≤ 9223372036854775807)
    (hp : (p1 = none ∧ c1 = 0) ∨ ∃ g, p1 = some ⟨g, 0, none⟩ ∧ g < w.heap.size ∧ ∀ i (h : i < l.length), w.cell? ⟨g, i, none⟩ = some (.int .u8 (l[i].toNat : Int))) (m : Nat) (n k x : Nat) (hr : seek 0 0 (l.drop pos) = (n, k, x)) :
    Calls Tryz.prog 143 #[.slice (if c1 = pos then p1 else Option.map (fun x => x.add pos) p1) (l.length - pos) (c1 - pos)] (w.drewN m) fun e w' => e = .returned (.tuple #[.int .u64 n, .int .i64 k, .int .i64 x]) ∧ w.drewN m = w' := by
  have hdl : (l.drop pos).length = l.length - pos := List.length_drop
  have nil : l.length - pos = 0 → ∀ a c, Calls Tryz.prog 143 #[.slice a (l.length - pos) c] (w.drewN m) fun e w' => e = .returned (.tuple #[.int .u64 n, .int .i64 k, .int .i64 x]) ∧ w.drewN m = w' := by
    intro h0 a c
    have h := get_nil (w.drewN m) a c
    have hd : l.drop pos = [] := List.eq_nil_of_length_eq_zero (by omega)
    rw [hd] at hr
    rw [hr] at h
    rw [h0]
    exact h
  rcases hp with ⟨rfl, hc0⟩ | ⟨g, rfl, hg, hcell⟩
  · exact nil (by omega) _ _
  · by_cases hcp : c1 = pos
    · exact nil (by omega) _ _
    · rw [if_neg hcp]
      have h := get_any (w.drewN m) g pos (c1 - pos) (l.drop pos) (by omega) (fun i hi => by
        have := hcell (pos + i) (by omega)
        rw [List.getElem_drop]
        exact this)
      rw [hdl, hr] at h
      have hadd : (⟨g, 0, none⟩ : Addr).add pos = ⟨g, pos, none⟩ := by unfold Addr.add; split <;> simp_all
      show Calls _ _ #[.slice (some ((⟨g, 0, none⟩ : Addr).add pos)) _ _] _ _
      rw [hadd]
      exact h

theorem rsev_any (w : World) (b : Nat) (v : Value) (l : List UInt8) (pos e : Nat) (hR : RAt w b v l pos e) :
    Calls Tryz.prog 127 #[.pointer (some ⟨b, 0, none⟩)] w (RPost w b v l (.int .u64 (rSev l pos e).1) (rSev l pos e).2.1 (rSev l pos e).2.2) := by
  have hc0 := hR.c0
  have hc1 := hR.c1
  have hc2 := hR.c2
  by_cases he : e = 0
  · subst he
    have hs : rSev l pos 0 = ((seek 0 0 (l.drop pos)).1, pos + (seek 0 0 (l.drop pos)).2.1, (seek 0 0 (l.drop pos)).2.2) := if_pos rfl
    rw [hs]
    clear hs
    have hf1 := hR.f1
    have hf2 := hR.f2
    have hle := hR.le
    have hex := hR.row.ex
    have hfit : (seek 0 0 (l.drop pos)).2.1 ≤ l.length - pos := by
      have hdl : (l.drop pos).length = l.length - pos := List.length_drop
      rcases seek_err (l.drop pos) 0 0 with h | h | h
      · have := h.2; omega
      · rw [h]; simp
      · rw [h]; simp
    rcases hr : seek 0 0 (l.drop pos) with ⟨n, k, x⟩
    rw [hr] at hfit
    simp only at hfit ⊢
    have HFin : ∀ (m : Nat), RAt ((((w.drewN m).setCell ⟨b, 1, none⟩ (.int .i64 ((pos : Int) + (k : Nat))))).setCell ⟨b, 2, none⟩ (.int .i64 (x : Nat))) b v l (pos + k) x ∧ Kept (RS b) w ((((w.drewN m).setCell ⟨b, 1, none⟩ (.int .i64 ((pos : Int) + (k : Nat))))).setCell ⟨b, 2, none⟩ (.int .i64 (x : Nat))) := by
      intro m
      have h1 := (((hR.drewN m).set1 (pos + k) (by omega)).set2 x)
      exact ⟨h1, ((Kept.refl _ _).drewN m).trans ((kept_set _).trans (kept_set _))⟩
    have HFIN := Lib.hid HFin; clear HFin
    obtain ⟨p1, c1, hv, hlc, hm, hp⟩ := hex
    unfold maxLen at hm
    have HG : Hid (∀ m, _) := fun m => rsev_get w p1 l c1 pos hle hlc (by omega) hp m n k x hr
    have HR := Lib.hid hr; clear hr
    subst hv
    rcases hp with ⟨rfl, hcz⟩ | ⟨g, rfl, hg, hcell⟩
    · have hl0 : l = [] := List.eq_nil_of_length_eq_zero (by omega)
      subst hl0
      simp only [List.length_nil] at hle
      obtain rfl : pos = 0 := by omega
      subst hcz
      go_enter Tryz.func127, Tryz.ntmps127
      go_wp2_with fail
      go_quiet ((go_at_call 143; go_loud (exact quiet_same (HG.out _))))
      go_wp2_with fail
      go_ret
      have h := HFIN.out nq
      simp only [Int.natCast_zero, Int.zero_add] at h
      exact ⟨rfl, h.1, h.2⟩
    · by_cases hcp : c1 = pos
      · obtain rfl : l.length = pos := by omega
        subst hcp
        simp only [if_pos, Nat.sub_self] at HG
        go_enter Tryz.func127, Tryz.ntmps127
        go_wp2_with fail
        go_quiet ((go_at_call 143; go_loud (exact quiet_same (HG.out _))))
        go_wp2_with fail
        go_ret
        exact ⟨rfl, (HFIN.out nq).1, (HFIN.out nq).2⟩
      · have hadd : (⟨g, 0, none⟩ : Addr).add pos = ⟨g, pos, none⟩ := by unfold Addr.add; split <;> simp_all
        simp only [if_neg hcp, Option.map_some, hadd] at HG
        clear hadd
        go_enter Tryz.func127, Tryz.ntmps127
        go_wp2_with fail
        go_quiet ((go_at_call 143; go_loud (exact quiet_same (HG.out _))))
        go_wp2_with fail
        go_ret
        exact ⟨rfl, (HFIN.out nq).1, (HFIN.out nq).2⟩
  · have hb : ((e : Int) == 0) = false := by simp; omega
    have hs : rSev l pos e = (0, pos, e) := if_neg he
    rw [hs]
    go_enter Tryz.func127, Tryz.ntmps127
    go_wp2
    go_ret
    exact ⟨rfl, hR, Kept.refl _ _⟩

theorem seek_fit (l : List UInt8) (pos : Nat) : (seek 0 0 (l.drop pos)).1 ≤ 18446744073709551615 := seek_fits _ 0 0 (by omega) (by decide)
theorem rSev_fit (l : List UInt8) (pos e : Nat) : (rSev l pos e).1 ≤ 18446744073709551615 := by
  unfold rSev; split
  · exact seek_fit l pos
  · simp

theorem rnum_any (w : World) (b : Nat) (v : Value) (l : List UInt8) (pos e : Nat) (hR : RAt w b v l pos e) :
    Calls Tryz.prog 90 #[.pointer (some ⟨b, 0, none⟩)] w (RPost w b v l (.int .i64 (unzz (rSev l pos e).1)) (rSev l pos e).2.1 (rSev l pos e).2.2) := by
  have hfit := rSev_fit l pos e
  have h1 := unzz_lo hfit
  have h2 := unzz_hi hfit
  have hs := rsev_any w b v l pos e hR
  rcases hr : rSev l pos e with ⟨n, p, x⟩
  rw [hr] at hs hfit h1 h2
  simp only at hs hfit h1 h2
  have HS := Lib.hid hs; clear hs
  have HR := Lib.hid hr; clear hr
  go_enter Tryz.func90, Tryz.ntmps90
  go_wp2_with (first | (go_at_call 127; refine HS.out.mono ?_; rintro en w1 ⟨rfl, hR1, hk1⟩) | (go_at_call 126; refine (unzig_any n _ hfit).mono ?_; rintro en w2 ⟨rfl, rfl⟩))
  go_ret
  exact ⟨rfl, hR1, hk1⟩

/-- what Count answers, and the state behind it -/
def rCount (l : List UInt8) (most : Int) (pos e : Nat) : Nat × Nat × Nat :=
  if most.toNat < (rSev l pos e).1 then (0, (rSev l pos e).2.1, wr (rSev l pos e).2.2 12) else rSev l pos e

theorem rcount_any (most : Int) (w : World) (b : Nat) (v : Value) (l : List UInt8) (pos e : Nat) (hR : RAt w b v l pos e) (hm1 : -9223372036854775808 ≤ most) (hm2 : most ≤ 9223372036854775807) :
    Calls Tryz.prog 135 #[.pointer (some ⟨b, 0, none⟩), .int .i64 most] w (RPost w b v l (.int .i64 (rCount l most pos e).1) (rCount l most pos e).2.1 (rCount l most pos e).2.2) := by
  have hfit := rSev_fit l pos e
  have hs := rsev_any w b v l pos e hR
  unfold rCount
  rcases hr : rSev l pos e with ⟨n, p, x⟩
  rw [hr] at hs hfit
  simp only at hs hfit ⊢
  have HS := Lib.hid hs; clear hs
  have HR := Lib.hid hr; clear hr
  by_cases hn : most.toNat < n
  · rw [if_pos hn]
    by_cases h0 : 0 ≤ most
    · go_enter Tryz.func135, Tryz.ntmps135
      go_wp2_with (first | (go_at_call 127; refine HS.out.mono ?_; rintro en w1 ⟨rfl, hR1, hk1⟩) | (go_at_call 125; refine (rfail_any 12 _ b v l p x (by assumption)).mono ?_; rintro en w2 ⟨rfl, hR2, hk2⟩))
      go_ret
      exact ⟨rfl, hR2, hk1.trans hk2⟩
    · go_enter Tryz.func135, Tryz.ntmps135
      go_wp2_with (first | (go_at_call 127; refine HS.out.mono ?_; rintro en w1 ⟨rfl, hR1, hk1⟩) | (go_at_call 125; refine (rfail_any 12 _ b v l p x (by assumption)).mono ?_; rintro en w2 ⟨rfl, hR2, hk2⟩))
      go_ret
      exact ⟨rfl, hR2, hk1.trans hk2⟩
  · rw [if_neg hn]
    by_cases h0 : 0 ≤ most
    · go_enter Tryz.func135, Tryz.ntmps135
      go_wp2_with (first | (go_at_call 127; refine HS.out.mono ?_; rintro en w1 ⟨rfl, hR1, hk1⟩))
      go_ret
      exact ⟨rfl, hR1, hk1⟩
    · go_enter Tryz.func135, Tryz.ntmps135
      go_wp2_with (first | (go_at_call 127; refine HS.out.mono ?_; rintro en w1 ⟨rfl, hR1, hk1⟩))
      go_ret
      exact ⟨rfl, hR1, hk1⟩

theorem size_q (w : World) (b : Nat) (v : Value) (l : List UInt8) (n : Nat) (hc : w.cell? ⟨b, 0, none⟩ = some v) (hrow : Reads w v l) :
    Calls Tryz.prog 93 #[.pointer (some ⟨b, 0, none⟩)] (w.drewN n) fun e w' => e = .returned (.int .i64 l.length) ∧ ∃ m, w' = w.drewN m :=
  quiet_same (size_any _ b v l (cell_drewN hc _) (hrow.drewN _))

theorem rend_any (w : World) (b : Nat) (v : Value) (l : List UInt8) (pos e : Nat) (hR : RAt w b v l pos e) :
    Calls Tryz.prog 89 #[.pointer (some ⟨b, 0, none⟩)] w (RPost w b v l (.int .i64 (if pos = l.length then e else wr e 11)) pos (if pos = l.length then e else wr e 11)) := by
  have hc0 := hR.c0
  have hc1 := hR.c1
  have hrd := hR.row
  have hle := hR.le
  obtain ⟨p1, c1, hv, hlc, hm, _⟩ := hrd.ex
  clear hv
  unfold maxLen at hm
  by_cases hp : pos = l.length
  · rw [if_pos hp]
    subst hp
    have hc2 := hR.c2
    go_enter Tryz.func89, Tryz.ntmps89
    go_wp2_with fail
    go_quiet ((go_at_call 93; exact size_q _ _ v l _ hc0 hrd))
    go_wp2_with fail
    go_ret
    exact ⟨rfl, hR.drewN _, (Kept.refl _ _).drewN _⟩
  · rw [if_neg hp]
    have hne : ((pos : Int) == (l.length : Int)) = false := by simp; omega
    go_enter Tryz.func89, Tryz.ntmps89
    go_wp2_with fail
    go_quiet ((go_at_call 93; exact size_q _ _ v l _ hc0 hrd))
    go_wp2_with (go_at_call 125; refine (rfail_any 11 _ b v l pos e (hR.drewN _)).mono ?_; rintro en w2 ⟨rfl, hR2, hk2⟩; have hc2 := hR2.c2)
    go_ret
    exact ⟨rfl, hR2, ((Kept.refl _ _).drewN _).trans hk2⟩

/-- what Flag answers, and the state behind it -/
def rFlag (l : List UInt8) (pos e : Nat) : Bool × Nat × Nat :=
  if h : pos < l.length then
    if 1 < l[pos].toNat then (false, pos, wr e 11)
    else if e = 0 then (l[pos].toNat == 1, pos + 1, 0)
    else (false, pos, e)
  else (false, pos, wr e 10)

theorem wr_ne {e x : Nat} (hx : x ≠ 0) : ((wr e x : Nat) : Int) ≠ 0 := by unfold wr; split <;> omega

set_option maxRecDepth 100000 in
theorem rflag_any (w : World) (b : Nat) (v : Value) (l : List UInt8) (pos e : Nat) (hR : RAt w b v l pos e) :
    Calls Tryz.prog 140 #[.pointer (some ⟨b, 0, none⟩)] w (RPost w b v l (.bool (rFlag l pos e).1) (rFlag l pos e).2.1 (rFlag l pos e).2.2) := by
  have hc0 := hR.c0
  have hc1 := hR.c1
  have hf1 := hR.f1
  have hrd := hR.row
  have hle := hR.le
  obtain ⟨p1, c1, hv, hlc, hm, hp⟩ := hrd.ex
  unfold maxLen at hm
  by_cases hpl : pos < l.length
  · rcases hp with ⟨_, h0⟩ | ⟨g, rfl, hg, hcell⟩
    · omega
    subst hv
    have hx := hcell pos hpl
    have hne : ((pos : Int) == (l.length : Int)) = false := by simp; omega
    have hgb : g ≠ b := fun e => hR.apart (by rw [← e]; rfl)
    unfold rFlag
    rw [dif_pos hpl]
    generalize hxx : l[pos].toNat = x at hx ⊢
    have hx256 : x < 256 := by rw [← hxx]; exact l[pos].toNat_lt
    clear hcell hxx
    by_cases h1 : 1 < x
    · have hwr := wr_ne (e := e) (x := 11) (by decide)
      have hwb : (((wr e 11 : Nat) : Int) == 0) = false := by simpa using hwr
      rw [if_pos h1]
      go_enter Tryz.func140, Tryz.ntmps140
      go_wp2_with fail
      go_quiet ((go_at_call 93; exact size_q _ _ _ l _ hc0 hrd))
      go_wp2_with fail
      go_quiet (fail)
      go_wp2_with (go_at_call 125; refine (rfail_any 11 _ b _ l pos e (hR.drewN _)).mono ?_; rintro en w2 ⟨rfl, hR2, hk2⟩; have hc2 := hR2.c2)
      go_ret
      exact ⟨rfl, hR2, ((Kept.refl _ _).drewN _).trans hk2⟩
    · rw [if_neg h1]
      have hc2 := hR.c2
      by_cases he : e = 0
      · rw [if_pos he]
        subst he
        have HFin : ∀ n, RAt ((w.drewN n).setCell ⟨b, 1, none⟩ (.int .i64 ((pos : Int) + 1))) b (.slice (some ⟨g, 0, none⟩) l.length c1) l (pos + 1) 0 ∧ Kept (RS b) w ((w.drewN n).setCell ⟨b, 1, none⟩ (.int .i64 ((pos : Int) + 1))) := fun n =>
          ⟨(hR.drewN n).set1 (pos + 1) (by omega), ((Kept.refl _ _).drewN _).trans (kept_set _)⟩
        have HFIN := Lib.hid HFin; clear HFin
        have hcb := hR.at_
        go_enter Tryz.func140, Tryz.ntmps140
        go_wp2_with fail
        go_quiet ((go_at_call 93; exact size_q _ _ _ l _ hc0 hrd))
        go_wp2_with fail
        go_quiet (fail)
        go_wp2_with fail
        go_quiet (fail)
        go_wp2_with fail
        go_ret
        exact ⟨ret_val (congrArg Value.bool (by rw [Bool.eq_iff_iff]; simp; omega)), (HFIN.out _).1.drewN _, (HFIN.out _).2.drewN _⟩
      · rw [if_neg he]
        have heb : ((e : Int) == 0) = false := by simp; omega
        go_enter Tryz.func140, Tryz.ntmps140
        go_wp2_with fail
        go_quiet ((go_at_call 93; exact size_q _ _ _ l _ hc0 hrd))
        go_wp2_with fail
        go_quiet (fail)
        go_wp2_with fail
        go_ret
        exact ⟨rfl, hR.drewN _, (Kept.refl _ _).drewN _⟩
  · clear hv
    have hpe : pos = l.length := by omega
    have hwr := wr_ne (e := e) (x := 10) (by decide)
    have hwb : (((wr e 10 : Nat) : Int) == 0) = false := by simpa using hwr
    unfold rFlag
    rw [dif_neg hpl]
    subst hpe
    clear hpl
    go_enter Tryz.func140, Tryz.ntmps140
    go_wp2_with fail
    go_quiet ((go_at_call 93; exact size_q _ _ _ l _ hc0 hrd))
    go_wp2_with (go_at_call 125; refine (rfail_any 10 _ b _ l l.length e (hR.drewN _)).mono ?_; rintro en w2 ⟨rfl, hR2, hk2⟩; have hc2 := hR2.c2)
    go_ret
    exact ⟨rfl, hR2, ((Kept.refl _ _).drewN _).trans hk2⟩

/-- what Text answers, and the state behind it -/
def rText (l : List UInt8) (most : Int) (pos e : Nat) : List UInt8 × Nat × Nat :=
  if l.length - (rCount l most pos e).2.1 < (rCount l most pos e).1 then ([], (rCount l most pos e).2.1, wr (rCount l most pos e).2.2 10)
  else if (rCount l most pos e).2.2 = 0 then ((l.drop (rCount l most pos e).2.1).take (rCount l most pos e).1, (rCount l most pos e).2.1 + (rCount l most pos e).1, 0)
  else ([], (rCount l most pos e).2.1, (rCount l most pos e).2.2)

theorem rCount_le (l : List UInt8) (most : Int) (pos e : Nat) : (rCount l most pos e).1 ≤ most.toNat := by
  unfold rCount; split
  · simp
  · omega

set_option maxRecDepth 100000 in
theorem rtext_any (most : Int) (w : World) (b : Nat) (v : Value) (l : List UInt8) (pos e : Nat) (hR : RAt w b v l pos e) (hm1 : -9223372036854775808 ≤ most) (hm2 : most ≤ 9223372036854775807) :
    Calls Tryz.prog 110 #[.pointer (some ⟨b, 0, none⟩), .int .i64 most] w (RPost w b v l (.string ⟨(rText l most pos e).1.toArray⟩) (rText l most pos e).2.1 (rText l most pos e).2.2) := by
  have hcl := rCount_le l most pos e
  have hs := rcount_any most w b v l pos e hR hm1 hm2
  unfold rText
  rcases hr : rCount l most pos e with ⟨n, p, x⟩
  rw [hr] at hs hcl
  simp only at hs hcl ⊢
  have HS := Lib.hid hs; clear hs
  have HR := Lib.hid hr; clear hr
  have hnn : (n : Int) ≤ 9223372036854775807 := by omega
  have hll : l.length ≤ 9223372036854775807 := by
    obtain ⟨p1, c1, hv, hlc, hm, _⟩ := hR.row.ex
    unfold maxLen at hm
    omega
  clear hm1 hm2 hcl
  by_cases hlt : l.length - p < n
  · have hwr := wr_ne (e := x) (x := 10) (by decide)
    have hwb : (((wr x 10 : Nat) : Int) == 0) = false := by simpa using hwr
    rw [if_pos hlt]
    go_enter Tryz.func110, Tryz.ntmps110
    go_wp2_with fail
    refine HS.out.mono ?_
    rintro en w1 ⟨rfl, hR1, hk1⟩
    have hc0 := hR1.c0
    have hc1 := hR1.c1
    have hle := hR1.le
    go_wp2_with fail
    go_quiet ((go_at_call 93; exact size_q _ _ _ l _ hc0 hR1.row))
    go_wp2_with (go_at_call 125; refine (rfail_any 10 _ b _ l p x (hR1.drewN _)).mono ?_; rintro en w2 ⟨rfl, hR2, hk2⟩; have hc2 := hR2.c2)
    go_ret
    exact ⟨rfl, hR2, hk1.trans (((Kept.refl _ _).drewN _).trans hk2)⟩
  · rw [if_neg hlt]
    by_cases hx : x = 0
    · rw [if_pos hx]
      subst hx
      go_enter Tryz.func110, Tryz.ntmps110
      go_wp2_with fail
      refine HS.out.mono ?_
      rintro en w1 ⟨rfl, hR1, hk1⟩
      have hc0 := hR1.c0
      have hc1 := hR1.c1
      have hle := hR1.le
      have hc2 := hR1.c2
      have hf1 := hR1.f1
      have HFin : ∀ m, RAt ((w1.drewN m).setCell ⟨b, 1, none⟩ (.int .i64 ((p : Int) + n))) b v l (p + n) 0 ∧ Kept (RS b) w ((w1.drewN m).setCell ⟨b, 1, none⟩ (.int .i64 ((p : Int) + n))) := fun m =>
        ⟨(hR1.drewN m).set1 (p + n) (by omega), hk1.trans (((Kept.refl _ _).drewN _).trans (kept_set _))⟩
      have HPC : Hid (∀ m k, _) := fun m k => piece_any ((((w1.drewN m).setCell ⟨b, 1, none⟩ (.int .i64 ((p : Int) + n)))).drewN k) b v l p (p + n) (cell_drewN (HFin m).1.c0 k) ((HFin m).1.row.drewN k) (by omega) (by omega)
      have hres : (l.take (p + n)).drop p = (l.drop p).take n := by rw [List.drop_take]; congr 1; omega
      rw [hres] at HPC
      clear hres
      have HFIN := Lib.hid HFin; clear HFin
      go_wp2_with fail
      go_quiet ((go_at_call 93; exact size_q _ _ _ l _ hc0 hR1.row))
      go_wp2_with fail
      go_quiet ((go_at_call 92; go_loud (exact quiet_same (HPC.out _ _))))
      go_wp2_with fail
      go_ret
      exact ⟨rfl, (HFIN.out _).1.drewN _, (HFIN.out _).2.drewN _⟩
    · rw [if_neg hx]
      have heb : ((x : Int) == 0) = false := by simp; omega
      go_enter Tryz.func110, Tryz.ntmps110
      go_wp2_with fail
      refine HS.out.mono ?_
      rintro en w1 ⟨rfl, hR1, hk1⟩
      have hc0 := hR1.c0
      have hc1 := hR1.c1
      have hle := hR1.le
      have hc2 := hR1.c2
      go_wp2_with fail
      go_quiet ((go_at_call 93; exact size_q _ _ _ l _ hc0 hR1.row))
      go_wp2_with fail
      go_ret
      exact ⟨rfl, hR1.drewN _, hk1.trans ((Kept.refl _ _).drewN _)⟩
end Go.Proofs.YtpmemcpfoapjmaaGreat

namespace Go.Proofs.YtpmemcpfoapjmaaGreat
open Go.ChangeShapes Go.WideShapes Go.ChangeAt Go.RowKit
set_option linter.unusedVariables false

/-- as long as nothing is wrong, what is laid is what was taken up; each wrong one lays one byte -/
structure Good (l : List UInt8) (pos e : Nat) (la : List UInt8) (k : Nat) : Prop where
  same : e = 0 → la = l.take pos
  len : la.length ≤ l.length + k

theorem sev_zero : sev 0 = [0] := by rw [sev_lt (by omega)]; rfl

theorem Good.wrong {l la : List UInt8} {pos e k q x : Nat} (h : Good l pos e la k) (b : UInt8) (hx : x ≠ 0) : Good l q x (la ++ [b]) (k + 1) :=
  ⟨fun e => absurd e hx, by have := h.len; simp only [List.length_append, List.length_cons, List.length_nil]; omega⟩
theorem Good.right {l la : List UInt8} {pos k n : Nat} (h : Good l pos 0 la k) {B : List UInt8} (hB : B = (l.drop pos).take n) : Good l (pos + n) 0 (la ++ B) (k + 1) := by
  have e : la ++ B = l.take (pos + n) := by rw [h.same rfl, hB, List.take_add]
  exact ⟨fun _ => e, by rw [e, List.length_take]; omega⟩

theorem good_num {l la : List UInt8} {pos e k : Nat} (h : Good l pos e la k) : Good l (rSev l pos e).2.1 (rSev l pos e).2.2 (la ++ sev (rSev l pos e).1) (k + 1) := by
  by_cases he : e = 0
  · subst he
    have hs : rSev l pos 0 = ((seek 0 0 (l.drop pos)).1, pos + (seek 0 0 (l.drop pos)).2.1, (seek 0 0 (l.drop pos)).2.2) := if_pos rfl
    rw [hs]
    rcases hk : seek 0 0 (l.drop pos) with ⟨n, j, x⟩
    rcases seek_err (l.drop pos) 0 0 with h1 | h1 | h1
    · rw [hk] at h1
      obtain rfl : x = 0 := h1.1
      obtain ⟨m, e1, e2, e3, e4, _⟩ := seek_found _ _ _ _ _ hk
      obtain rfl : n = m := by rw [e1]; simp
      obtain rfl : j = (sev n).length := by omega
      exact h.right e3.symm
    · rw [hk] at h1
      simp only [Prod.mk.injEq] at h1
      obtain ⟨rfl, rfl, rfl⟩ := h1
      simp only [sev_zero]
      exact h.wrong 0 (by decide)
    · rw [hk] at h1
      simp only [Prod.mk.injEq] at h1
      obtain ⟨rfl, rfl, rfl⟩ := h1
      simp only [sev_zero]
      exact h.wrong 0 (by decide)
  · have hs : rSev l pos e = (0, pos, e) := if_neg he
    rw [hs]
    simp only [sev_zero]
    exact h.wrong 0 he

theorem wr_ne' {e x : Nat} (hx : x ≠ 0) : wr e x ≠ 0 := by unfold wr; split <;> omega

theorem good_count {l la : List UInt8} {most : Int} {pos e k : Nat} (h : Good l pos e la k) : Good l (rCount l most pos e).2.1 (rCount l most pos e).2.2 (la ++ sev (rCount l most pos e).1) (k + 1) := by
  unfold rCount
  split
  · simp only [sev_zero]
    exact h.wrong 0 (wr_ne' (by decide))
  · exact good_num h

theorem good_flag {l la : List UInt8} {pos e k : Nat} (h : Good l pos e la k) : Good l (rFlag l pos e).2.1 (rFlag l pos e).2.2 (la ++ [if (rFlag l pos e).1 then 1 else 0]) (k + 1) := by
  unfold rFlag
  split
  · rename_i hlt
    split
    · exact h.wrong _ (wr_ne' (by decide))
    · split
      · rename_i hx he
        subst he
        refine h.right (n := 1) ?_
        rw [List.drop_eq_getElem_cons hlt, List.take_succ_cons, List.take_zero]
        congr 1
        apply UInt8.toNat_inj.1
        simp only
        by_cases h1 : l[pos].toNat = 1
        · rw [h1]; rfl
        · rw [show l[pos].toNat = 0 from by omega]; rfl
      · exact h.wrong _ (by assumption)
  · exact h.wrong _ (wr_ne' (by decide))

theorem good_text {l la : List UInt8} {most : Int} {pos e k : Nat} (h : Good l pos e la k) : Good l (rText l most pos e).2.1 (rText l most pos e).2.2 (la ++ (sev (rText l most pos e).1.length ++ (rText l most pos e).1)) (k + 1) := by
  have hc := good_count (most := most) h
  unfold rText
  rcases hr : rCount l most pos e with ⟨n, q, x⟩
  rw [hr] at hc
  simp only at hc ⊢
  by_cases hlt : l.length - q < n
  · rw [if_pos hlt]
    simp only [List.length_nil, List.append_nil, sev_zero]
    exact h.wrong 0 (wr_ne' (by decide))
  · rw [if_neg hlt]
    by_cases hx : x = 0
    · rw [if_pos hx]
      subst hx
      have hl : ((l.drop q).take n).length = n := by rw [List.length_take, List.length_drop]; omega
      have e : la ++ (sev n ++ (l.drop q).take n) = l.take (q + n) := by rw [← List.append_assoc, hc.same rfl, List.take_add]
      refine ⟨fun _ => ?_, ?_⟩
      · simp only; rw [hl]; exact e
      · simp only; rw [hl, e, List.length_take]; omega
    · rw [if_neg hx]
      simp only [List.length_nil, List.append_nil, sev_zero]
      exact h.wrong 0 hx

theorem good_none {l la : List UInt8} {pos e k : Nat} (h : Good l pos e la k) : Good l pos e la (k + 1) := ⟨h.same, by have := h.len; omega⟩

theorem rText_len {l la : List UInt8} {most : Int} {pos e k : Nat} (h : Good l pos e la k) : la.length + (rText l most pos e).1.length ≤ l.length + (k + 1) := by
  have := (good_text (most := most) h).len
  simp only [List.length_append] at this
  omega
theorem rText_le {l : List UInt8} {most : Int} {pos e : Nat} : (rText l most pos e).1.length ≤ l.length := by
  unfold rText
  split
  · simp
  · split
    · simp only [List.length_take, List.length_drop]; omega
    · simp

theorem rSev_lay {l r : List UInt8} {pos n : Nat} (h : l.drop pos = sev n ++ r) (hn : n ≤ 18446744073709551615) : rSev l pos 0 = (n, pos + (sev n).length, 0) := by
  unfold rSev; rw [if_pos rfl, h, seek_lay hn]

theorem rCount_lay {l r : List UInt8} {pos n : Nat} {most : Int} (h : l.drop pos = sev n ++ r) (hn : n ≤ 18446744073709551615) (hm : n ≤ most.toNat) : rCount l most pos 0 = (n, pos + (sev n).length, 0) := by
  unfold rCount; rw [rSev_lay h hn, if_neg (by omega)]

theorem drop_more {l a r : List UInt8} {pos : Nat} (h : l.drop pos = a ++ r) : l.drop (pos + a.length) = r := by
  rw [← List.drop_drop, h, List.drop_left]

theorem rText_lay {l r s : List UInt8} {pos : Nat} {most : Int} (h : l.drop pos = (sev s.length ++ s) ++ r) (hn : s.length ≤ 18446744073709551615) (hm : s.length ≤ most.toNat) :
    rText l most pos 0 = (s, pos + (sev s.length ++ s).length, 0) := by
  rw [List.append_assoc] at h
  unfold rText
  rw [rCount_lay h hn hm]
  have h2 := drop_more h
  have hlen : l.length - (pos + (sev s.length).length) = s.length + r.length := by
    rw [← List.length_drop, h2, List.length_append]
  simp only
  rw [if_neg (by omega), if_pos trivial, h2, List.take_left, List.length_append, Nat.add_assoc]

theorem rFlag_lay {l r : List UInt8} {pos : Nat} {f : Bool} (h : l.drop pos = [if f then 1 else 0] ++ r) : rFlag l pos 0 = (f, pos + 1, 0) := by
  have hlt : pos < l.length := by
    rcases Nat.lt_or_ge pos l.length with h1 | h1
    · exact h1
    · rw [List.drop_of_length_le h1] at h; simp at h
  have hx : l[pos] = if f then 1 else 0 := by
    rw [List.drop_eq_getElem_cons hlt] at h
    simpa using (List.cons.inj h).1
  unfold rFlag
  rw [dif_pos hlt, hx]
  cases f <;> simp
end Go.Proofs.YtpmemcpfoapjmaaGreat

namespace Go.Proofs.YtpmemcpfoapjmaaGreat
open Go.ChangeShapes Go.WideShapes Go.ChangeAt Go.RowKit
set_option linter.unusedVariables false

/-- a new reader -/
def ReadPost (w : World) (s : ByteArray) (e : Ending) (w' : World) : Prop :=
  ∃ b v, e = .returned (.pointer (some ⟨b, 0, none⟩)) ∧ RAt w' b v s.data.toList 0 0 ∧ w.heap.size ≤ b ∧ (∀ k, v.ownBlock = some k → w.heap.size ≤ k) ∧ Kept (fun _ => False) w w'

theorem bytesRow_get (s : ByteArray) (c i : Nat) (h : i < s.data.toList.length) : (bytesRow s c)[i]? = some (.int .u8 (s.data.toList[i].toNat : Int)) := by
  have hi : i < s.data.size := by simpa using h
  unfold bytesRow
  rw [Array.getElem?_append_left (by simpa using hi)]
  simp [Array.getElem?_eq_getElem hi]

theorem read_at (s : ByteArray) (w : World) (hs : s.size ≤ maxLen) (C : Array Value) (hC : bytesRow s (grownCap w s.size 0 5) = C) :
    RAt (((w.alloc (.cells C 5 (C.size, C.size + 1))).alloc (.cells #[.slice (some ⟨w.heap.size, 0, none⟩) s.size (grownCap w s.size 0 5), .int .i64 0, .int .i64 0] 166)).drew)
      (w.heap.size + 1) (.slice (some ⟨w.heap.size, 0, none⟩) s.size (grownCap w s.size 0 5)) s.data.toList 0 0 := by
  have hsz : s.data.toList.length = s.size := by simp
  have e1 : (w.alloc (.cells C 5 (C.size, C.size + 1))).heap.size = w.heap.size + 1 := by simp
  refine ⟨?_, ⟨_, _, by rw [hsz], ?_, grownCap_le_maxLen _ _ _ _ hs, Or.inr ⟨w.heap.size, rfl, ?_, fun i hi => ?_⟩⟩, ?_, Nat.zero_le _⟩
  · have := heap_alloc_new (w.alloc (.cells C 5 (C.size, C.size + 1))) (.cells #[.slice (some ⟨w.heap.size, 0, none⟩) s.size (grownCap w s.size 0 5), .int .i64 0, .int .i64 0] 166)
    rw [e1] at this
    exact this
  · rw [hsz]; exact grownCap_ge _ _ _ _
  · show w.heap.size < (((w.heap.push _).push _)).size
    simp
    omega
  · have h2 := World.cell?_alloc_mark w C 5 (C.size, C.size + 1) i
    rw [← hC, bytesRow_get s _ i hi, hC] at h2
    rw [← h2]
    exact World.cell?_of_block (w := w.alloc (.cells C 5 (C.size, C.size + 1))) (Below.heap_alloc _ _ _ (by simp))
  · simp [Value.ownBlock]

theorem read_any (s : ByteArray) (w : World) (hs : s.size ≤ maxLen) :
    Calls Tryz.prog 88 #[.string s] w (ReadPost w s) := by
  have hconv := run_bytes_of_string (P := Tryz.prog) w 9 136 5 s Tryz.underlying9 Tryz.underlying136 Tryz.underlying5
  generalize hC : bytesRow s (grownCap w s.size 0 5) = C at hconv
  have HC := Lib.hid hC; clear hC
  go_enter Tryz.func88, Tryz.ntmps88
  go_wp2
  go_ret
  refine ⟨_, _, rfl, read_at s w hs C HC.out, by omega, fun k hk => ?_, (((Kept.refl _ _).alloc _).alloc _).drew⟩
  simp only [Value.ownBlock, Option.some.injEq] at hk
  omega
end Go.Proofs.YtpmemcpfoapjmaaGreat

namespace Go.Proofs.YtpmemcpfoapjmaaGreat
open Go.ChangeShapes Go.WideShapes Go.ChangeAt Go.RowKit
set_option linter.unusedVariables false

def Disj (S T : Nat → Prop) : Prop := ∀ k, S k → ¬ T k
def In (w : World) (S : Nat → Prop) : Prop := ∀ k, S k → k < w.heap.size
def Off (base : Nat) (S : Nat → Prop) : Prop := ∀ k, S k → base ≤ k

theorem Disj.symm {S T : Nat → Prop} (h : Disj S T) : Disj T S := fun k t s => h k s t
theorem In.kept {S T : Nat → Prop} {w w' : World} (h : In w S) (hk : Kept T w w') : In w' S := fun k s => Nat.lt_of_lt_of_le (h k s) hk.size
theorem Off.disj {S T : Nat → Prop} {w : World} (h : Off w.heap.size S) (hi : In w T) : Disj S T := fun k s t => by have := h k s; have := hi k t; omega

theorem WAt.inn {w : World} {b : Nat} {v : Value} {l : List UInt8} (h : WAt w b v l) : In w (WS b v) := by
  intro k hk
  rcases hk with rfl | hk
  · exact lt_of_block h.at_
  · exact (World.ownsRow.lt h.row k hk.symm).2
theorem RAt.inn {w : World} {b : Nat} {v : Value} {l : List UInt8} {p e : Nat} (h : RAt w b v l p e) : In w (WS b v) := by
  intro k hk
  rcases hk with rfl | hk
  · exact lt_of_block h.at_
  · obtain ⟨p1, c, rfl, _, _, hp⟩ := h.row.ex
    rcases hp with ⟨rfl, _⟩ | ⟨g, rfl, hg, _⟩
    · simp [Value.ownBlock] at hk
    · simp only [Value.ownBlock, Option.some.injEq] at hk; omega

theorem WAt.keep {S : Nat → Prop} {w w' : World} {b : Nat} {v : Value} {l : List UInt8} (h : WAt w b v l) (hk : Kept S w w') (hd : Disj (WS b v) S) : WAt w' b v l :=
  h.kept hk (hd b (Or.inl rfl)) (fun k e => hd k (Or.inr e.symm))
theorem RAt.keep {S : Nat → Prop} {w w' : World} {b : Nat} {v : Value} {l : List UInt8} {p e : Nat} (h : RAt w b v l p e) (hk : Kept S w w') (hd : Disj (WS b v) S) : RAt w' b v l p e :=
  h.kept hk (hd b (Or.inl rfl)) (fun k e => hd k (Or.inr e.symm))

theorem disj_none (S : Nat → Prop) : Disj S (fun _ => False) := fun _ _ f => f
theorem Disj.rs {S : Nat → Prop} {b : Nat} {v : Value} (h : Disj S (WS b v)) : Disj S (RS b) := fun k s e => h k s (Or.inl e)

/-- a writer's new footprint is apart from whatever the old one was apart from -/
theorem Disj.sep {T : Nat → Prop} {w : World} {b : Nat} {v v' : Value} (h : Disj (WS b v) T) (hi : In w T) (hs : Sep w v.ownBlock v') : Disj (WS b v') T := by
  intro k hk ht
  have hlt := hi k ht
  rcases hk with rfl | hk
  · exact h k (Or.inl rfl) ht
  · rcases hs with hs | hs
    · exact h k (Or.inr (by rw [hk, hs])) ht
    · have := hs k hk.symm; omega
theorem Off.sep {base : Nat} {w : World} {b : Nat} {v v' : Value} (h : Off base (WS b v)) (hb : base ≤ w.heap.size) (hs : Sep w v.ownBlock v') : Off base (WS b v') := by
  intro k hk
  rcases hk with rfl | hk
  · exact h k (Or.inl rfl)
  · rcases hs with hs | hs
    · exact h k (Or.inr (by rw [hk, hs]))
    · have := hs k hk.symm; omega

/-- since w0 nothing that was there has turned -/
def Old (w0 w : World) : Prop := Kept (fun _ => False) w0 w
theorem Old.refl (w : World) : Old w w := Kept.refl _ _
theorem Old.step {S : Nat → Prop} {w0 w w' : World} (h : Old w0 w) (hk : Kept S w w') (ho : Off w0.heap.size S) : Old w0 w' :=
  Kept.trans' h hk (fun k hk s => by have := ho k s; omega)
theorem Old.rs {w0 w w' : World} {b : Nat} {v : Value} (h : Old w0 w) (hk : Kept (RS b) w w') (ho : Off w0.heap.size (WS b v)) : Old w0 w' :=
  h.step hk (fun k s => ho k (Or.inl s))
theorem Old.drewN {w0 w : World} (h : Old w0 w) (n : Nat) : Old w0 (w.drewN n) := Kept.drewN h n
theorem Old.none {w0 w w' : World} (h : Old w0 w) (hk : Kept (fun _ => False) w w') : Old w0 w' := h.step hk (fun _ f => f.elim)
theorem Old.below {w w' : World} (h : Old w w') : Below w.heap.size w w' := ⟨h.os, h.tape, h.output, h.size, fun k hk => h.block k hk id⟩

theorem new_off (w0 w : World) (h : Old w0 w) : Off w0.heap.size (WS w.heap.size (.slice none 0 0)) := by
  intro k hk
  rcases hk with rfl | hk
  · exact h.size
  · simp [Value.ownBlock] at hk
theorem new_off' (w : World) : Off w.heap.size (WS w.heap.size (.slice none 0 0)) := new_off w w (Old.refl w)
theorem off_of {w0 w : World} {b : Nat} {v : Value} (h : Old w0 w) (hb : w.heap.size ≤ b) (hv : ∀ k, v.ownBlock = some k → w.heap.size ≤ k) : Off w0.heap.size (WS b v) := by
  intro k hk
  have := h.size
  rcases hk with rfl | hk
  · omega
  · have := hv k hk.symm; omega
theorem WAt.drewN {w : World} {b : Nat} {v : Value} {l : List UInt8} (h : WAt w b v l) (n : Nat) : WAt (w.drewN n) b v l := ⟨h.at_, h.row, h.apart⟩
end Go.Proofs.YtpmemcpfoapjmaaGreat

namespace Go.Proofs.YtpmemcpfoapjmaaGreat
open Go.ChangeShapes Go.WideShapes Go.ChangeAt Go.RowKit

def I64 (x : Int) : Prop := -9223372036854775808 ≤ x ∧ x ≤ 9223372036854775807
theorem I64.of_wf {x : Int} (h : (Lit.int .i64 x).wf = true) : I64 x := by
  simp [Lit.wf, IntKind.min, IntKind.max, IntKind.bits, IntKind.signed] at h
  unfold I64; omega

end Go.Proofs.YtpmemcpfoapjmaaGreat

namespace Go.Proofs.YtpmemcpfoapjmaaGreat
open Go.RowKit
set_option linter.unusedVariables false

/-- a kind of thing: its bytes, which ones fit, what is taken up at a place -/
structure Fmt (α : Type) where
  lay : α → List UInt8
  fits : α → Prop
  get : List UInt8 → Nat → Nat → α × Nat × Nat

structure Fmt.Ok {α : Type} (f : Fmt α) : Prop where
  pf : ∀ a b r r', f.lay a ++ r = f.lay b ++ r' → a = b ∧ r = r'
  le : ∀ l pos e, pos ≤ l.length → (f.get l pos e).2.1 ≤ l.length
  back : ∀ l pos e, pos ≤ l.length → (f.get l pos e).2.2 = 0 → e = 0 ∧ l.take (f.get l pos e).2.1 = l.take pos ++ f.lay (f.get l pos e).1 ∧ f.fits (f.get l pos e).1
  fwd : ∀ x l pos r, f.fits x → l.drop pos = f.lay x ++ r → f.get l pos 0 = (x, pos + (f.lay x).length, 0)
  stays : ∀ l pos e, e ≠ 0 → (f.get l pos e).2.2 = e

theorem byte_ne {n m : Nat} (h : n < 128) : UInt8.ofNat n ≠ UInt8.ofNat (m % 128 + 128) := by
  intro e
  have := congrArg UInt8.toNat e
  rw [toNat_ofNat_lt (by omega), toNat_ofNat_lt (by omega)] at this
  omega

theorem sev_pf : ∀ (f n m : Nat) (r r' : List UInt8), n < f → sev n ++ r = sev m ++ r' → n = m ∧ r = r' := by
  intro f
  induction f with
  | zero => intro n m r r' h; omega
  | succ f ih =>
    intro n m r r' hn h
    by_cases h1 : n < 128
    · by_cases h2 : m < 128
      · rw [sev_lt h1, sev_lt h2] at h
        simp only [List.cons_append, List.nil_append, List.cons.injEq] at h
        have := congrArg UInt8.toNat h.1
        rw [toNat_ofNat_lt (by omega), toNat_ofNat_lt (by omega)] at this
        exact ⟨this, h.2⟩
      · rw [sev_lt h1, sev_ge (n := m) (by omega)] at h
        simp only [List.cons_append, List.nil_append, List.cons.injEq] at h
        exact absurd h.1 (byte_ne h1)
    · by_cases h2 : m < 128
      · rw [sev_lt h2, sev_ge (n := n) (by omega)] at h
        simp only [List.cons_append, List.nil_append, List.cons.injEq] at h
        exact absurd h.1.symm (byte_ne h2)
      · rw [sev_ge (n := n) (by omega), sev_ge (n := m) (by omega)] at h
        simp only [List.cons_append, List.cons.injEq] at h
        have h3 := congrArg UInt8.toNat h.1
        rw [toNat_ofNat_lt (by omega), toNat_ofNat_lt (by omega)] at h3
        have h4 := ih (n / 128) (m / 128) r r' (by omega) h.2
        exact ⟨by omega, h4.2⟩

theorem good_at (l : List UInt8) (pos e : Nat) : Good l pos e (l.take pos) 0 := ⟨fun _ => rfl, by rw [List.length_take]; omega⟩

theorem rSev_le {l : List UInt8} {pos e : Nat} (h : pos ≤ l.length) : (rSev l pos e).2.1 ≤ l.length := by
  unfold rSev
  split
  · rcases seek_err (l.drop pos) 0 0 with h1 | h1 | h1
    · have := h1.2; rw [List.length_drop] at this; simp only; omega
    · rw [h1]; exact h
    · rw [h1]; exact h
  · exact h
theorem rSev_stays {l : List UInt8} {pos e : Nat} (h : e ≠ 0) : rSev l pos e = (0, pos, e) := if_neg h
theorem wr_stays {e x : Nat} (h : e ≠ 0) : wr e x = e := if_neg h
theorem rCount_le' {l : List UInt8} {most : Int} {pos e : Nat} (h : pos ≤ l.length) : (rCount l most pos e).2.1 ≤ l.length := by
  unfold rCount; split <;> exact rSev_le h
theorem rCount_stays {l : List UInt8} {most : Int} {pos e : Nat} (h : e ≠ 0) : rCount l most pos e = (0, pos, e) := by
  unfold rCount; rw [rSev_stays h, if_neg (by simp)]
theorem rText_le' {l : List UInt8} {most : Int} {pos e : Nat} (h : pos ≤ l.length) : (rText l most pos e).2.1 ≤ l.length := by
  have := rCount_le' (most := most) (e := e) h
  unfold rText; split
  · exact this
  · split
    · simp only; omega
    · exact this
theorem rText_stays {l : List UInt8} {most : Int} {pos e : Nat} (h : e ≠ 0) : rText l most pos e = ([], pos, e) := by
  unfold rText; rw [rCount_stays h, if_neg (by simp), if_neg h]
theorem rFlag_le' {l : List UInt8} {pos e : Nat} (h : pos ≤ l.length) : (rFlag l pos e).2.1 ≤ l.length := by
  unfold rFlag
  split
  · split
    · exact h
    · split
      · simp only; omega
      · exact h
  · exact h
theorem rFlag_stays {l : List UInt8} {pos e : Nat} (h : e ≠ 0) : (rFlag l pos e).2.2 = e := by
  unfold rFlag
  split
  · split
    · exact wr_stays h
    · first | rfl | rw [if_neg h]
  · exact wr_stays h

def numF : Fmt Int := ⟨fun n => sev (zz n), I64, fun l p e => (unzz (rSev l p e).1, (rSev l p e).2.1, (rSev l p e).2.2)⟩
theorem numF_ok : numF.Ok where
  pf a b r r' h := by
    have := sev_pf _ _ _ r r' (Nat.lt_succ_self _) h
    exact ⟨by rw [← unzz_zz a, ← unzz_zz b, this.1], this.2⟩
  le l pos e h := rSev_le h
  back l pos e h he := by
    have hf := rSev_fit l pos e
    refine ⟨?_, ?_, unzz_lo hf, unzz_hi hf⟩
    · rcases Nat.eq_zero_or_pos e with h0 | h0
      · exact h0
      · have := rSev_stays (l := l) (pos := pos) (e := e) (by omega)
        simp only [numF, this] at he
        exact he
    · have := (good_num (good_at l pos e)).same he
      simp only [numF, zz_unzz]
      exact this.symm
  fwd x l pos r hx h := by
    have := rSev_lay h (zz_le hx.1 hx.2)
    simp only [numF, this, unzz_zz]
  stays l pos e h := by simp only [numF, rSev_stays h]

def flagF : Fmt Bool := ⟨fun x => [if x then 1 else 0], fun _ => True, rFlag⟩
theorem flagF_ok : flagF.Ok where
  pf a b r r' h := by
    simp only [flagF, List.cons_append, List.nil_append, List.cons.injEq] at h
    refine ⟨?_, h.2⟩
    cases a <;> cases b <;> simp_all
  le l pos e h := rFlag_le' h
  back l pos e h he := by
    refine ⟨?_, ?_, trivial⟩
    · rcases Nat.eq_zero_or_pos e with h0 | h0
      · exact h0
      · have := rFlag_stays (l := l) (pos := pos) (e := e) (by omega)
        simp only [flagF] at he
        omega
    · exact ((good_flag (good_at l pos e)).same he).symm
  fwd x l pos r hx h := by
    have := rFlag_lay h
    simpa only [flagF, List.length_singleton] using this
  stays l pos e h := rFlag_stays h

theorem str_eq {a b : ByteArray} (h : a.data.toList = b.data.toList) : a = b := by
  obtain ⟨⟨a⟩⟩ := a; obtain ⟨⟨b⟩⟩ := b; simp at h; rw [h]
theorem str_len (s : ByteArray) : s.data.toList.length = s.size := by simp
theorem mk_size (l : List UInt8) : (⟨l.toArray⟩ : ByteArray).size = l.length := by simp [ByteArray.size]

def textF (most : Nat) : Fmt ByteArray := ⟨fun s => sev s.size ++ s.data.toList, fun s => s.size ≤ most, fun l p e => (⟨(rText l most p e).1.toArray⟩, (rText l most p e).2.1, (rText l most p e).2.2)⟩
theorem textF_ok {most : Nat} (hm : most ≤ 9223372036854775807) : (textF most).Ok where
  pf a b r r' h := by
    simp only [textF, List.append_assoc] at h
    have h1 := sev_pf _ _ _ _ _ (Nat.lt_succ_self _) h
    have h2 := List.append_inj h1.2 (by rw [str_len, str_len]; exact h1.1)
    exact ⟨str_eq h2.1, h2.2⟩
  le l pos e h := rText_le' h
  back l pos e h he := by
    refine ⟨?_, ?_, ?_⟩
    · rcases Nat.eq_zero_or_pos e with h0 | h0
      · exact h0
      · have := rText_stays (l := l) (most := most) (pos := pos) (e := e) (by omega)
        simp only [textF, this] at he
        exact he
    · have := (good_text (most := most) (good_at l pos e)).same he
      simp only [textF, mk_size]
      exact this.symm
    · simp only [textF, mk_size]
      have := rCount_le l most pos e
      unfold rText
      split
      · simp
      · split
        · simp only [List.length_take]; omega
        · simp
  fwd x l pos r hx h := by
    have hx' : x.size ≤ most := hx
    have h' : l.drop pos = (sev x.data.toList.length ++ x.data.toList) ++ r := by rw [str_len]; exact h
    have := rText_lay (most := most) h' (by rw [str_len]; omega) (by rw [str_len]; omega)
    simp only [textF, this, str_len]
  stays l pos e h := by simp only [textF, rText_stays h]

/-- the one and then the other -/
def seqF {α β : Type} (f : Fmt α) (g : Fmt β) : Fmt (α × β) :=
  ⟨fun x => f.lay x.1 ++ g.lay x.2, fun x => f.fits x.1 ∧ g.fits x.2, fun l p e =>
    (((f.get l p e).1, (g.get l (f.get l p e).2.1 (f.get l p e).2.2).1), (g.get l (f.get l p e).2.1 (f.get l p e).2.2).2)⟩
theorem seqF_ok {α β : Type} {f : Fmt α} {g : Fmt β} (hf : f.Ok) (hg : g.Ok) : (seqF f g).Ok where
  pf a b r r' h := by
    simp only [seqF, List.append_assoc] at h
    have h1 := hf.pf _ _ _ _ h
    have h2 := hg.pf _ _ _ _ h1.2
    exact ⟨Prod.ext h1.1 h2.1, h2.2⟩
  le l pos e h := hg.le _ _ _ (hf.le _ _ _ h)
  back l pos e h he := by
    have h1 := hg.back _ _ _ (hf.le l pos e h) he
    have h2 := hf.back _ _ _ h h1.1
    exact ⟨h2.1, by simp only [seqF]; rw [h1.2.1, h2.2.1, List.append_assoc], h2.2.2, h1.2.2⟩
  fwd x l pos r hx h := by
    simp only [seqF, List.append_assoc] at h
    have h1 := hf.fwd _ _ _ _ hx.1 h
    have h2 := hg.fwd x.2 l (pos + (f.lay x.1).length) r hx.2 (drop_more h)
    simp only [seqF, h1, h2, List.length_append, Nat.add_assoc]
  stays l pos e h := by
    have h1 := hf.stays l pos e h
    simp only [seqF, h1]
    exact hg.stays _ _ _ h

/-- the same under other names -/
def isoF {α β : Type} (f : Fmt α) (to : α → β) (from_ : β → α) : Fmt β :=
  ⟨fun x => f.lay (from_ x), fun x => f.fits (from_ x), fun l p e => (to (f.get l p e).1, (f.get l p e).2)⟩
theorem isoF_ok {α β : Type} {f : Fmt α} {to : α → β} {from_ : β → α} (hf : f.Ok) (h1 : ∀ a, from_ (to a) = a) (h2 : ∀ b, to (from_ b) = b) : (isoF f to from_).Ok where
  pf a b r r' h := by
    have := hf.pf _ _ _ _ h
    exact ⟨by rw [← h2 a, ← h2 b, this.1], this.2⟩
  le l pos e h := hf.le _ _ _ h
  back l pos e h he := by
    have := hf.back _ _ _ h he
    simp only [isoF, h1]
    exact this
  fwd x l pos r hx h := by
    have := hf.fwd _ _ _ _ hx h
    simp only [isoF, this, h2]
  stays l pos e h := hf.stays _ _ _ h

/-- n of them -/
def getN {α : Type} (g : List UInt8 → Nat → Nat → α × Nat × Nat) : Nat → List UInt8 → Nat → Nat → List α × Nat × Nat
  | 0, _, p, e => ([], p, e)
  | n + 1, l, p, e => ((g l p e).1 :: (getN g n l (g l p e).2.1 (g l p e).2.2).1, (getN g n l (g l p e).2.1 (g l p e).2.2).2)

theorem getN_snoc {α : Type} (g : List UInt8 → Nat → Nat → α × Nat × Nat) : ∀ (n : Nat) (l : List UInt8) (p e : Nat),
    getN g (n + 1) l p e = ((getN g n l p e).1 ++ [(g l (getN g n l p e).2.1 (getN g n l p e).2.2).1], (g l (getN g n l p e).2.1 (getN g n l p e).2.2).2) := by
  intro n
  induction n with
  | zero => intro l p e; rfl
  | succ n ih =>
    intro l p e
    rw [getN, ih]
    rfl
theorem getN_len {α : Type} (g : List UInt8 → Nat → Nat → α × Nat × Nat) : ∀ (n : Nat) (l : List UInt8) (p e : Nat), (getN g n l p e).1.length = n := by
  intro n
  induction n with
  | zero => intro l p e; rfl
  | succ n ih => intro l p e; simp only [getN, List.length_cons, ih]

def layN {α : Type} (f : Fmt α) (x : List α) : List UInt8 := x.flatMap f.lay

theorem getN_le {α : Type} {f : Fmt α} (hf : f.Ok) : ∀ (n : Nat) (l : List UInt8) (p e : Nat), p ≤ l.length → (getN f.get n l p e).2.1 ≤ l.length := by
  intro n
  induction n with
  | zero => intro l p e h; exact h
  | succ n ih => intro l p e h; exact ih l _ _ (hf.le _ _ _ h)
theorem getN_stays {α : Type} {f : Fmt α} (hf : f.Ok) : ∀ (n : Nat) (l : List UInt8) (p e : Nat), e ≠ 0 → (getN f.get n l p e).2.2 = e := by
  intro n
  induction n with
  | zero => intro l p e h; rfl
  | succ n ih =>
    intro l p e h
    have h1 := hf.stays l p e h
    simp only [getN]
    rw [h1]
    exact ih l _ _ h
theorem getN_back {α : Type} {f : Fmt α} (hf : f.Ok) : ∀ (n : Nat) (l : List UInt8) (p e : Nat), p ≤ l.length → (getN f.get n l p e).2.2 = 0 →
    e = 0 ∧ l.take (getN f.get n l p e).2.1 = l.take p ++ layN f (getN f.get n l p e).1 ∧ ∀ x ∈ (getN f.get n l p e).1, f.fits x := by
  intro n
  induction n with
  | zero => intro l p e h he; exact ⟨he, by simp [getN, layN], by simp [getN]⟩
  | succ n ih =>
    intro l p e h he
    have h1 := ih l _ _ (hf.le l p e h) he
    have h2 := hf.back l p e h h1.1
    refine ⟨h2.1, ?_, ?_⟩
    · simp only [getN, layN, List.flatMap_cons]
      rw [h1.2.1, h2.2.1, List.append_assoc, layN]
    · intro x hx
      simp only [getN, List.mem_cons] at hx
      rcases hx with rfl | hx
      · exact h2.2.2
      · exact h1.2.2 x hx
theorem getN_fwd {α : Type} {f : Fmt α} (hf : f.Ok) : ∀ (x : List α) (l : List UInt8) (p : Nat) (r : List UInt8), (∀ y ∈ x, f.fits y) → l.drop p = layN f x ++ r →
    getN f.get x.length l p 0 = (x, p + (layN f x).length, 0) := by
  intro x
  induction x with
  | nil => intro l p r _ _; simp [getN, layN]
  | cons y x ih =>
    intro l p r hx h
    simp only [layN, List.flatMap_cons, List.append_assoc] at h
    have h1 := hf.fwd y l p _ (hx y (by simp)) h
    have h2 := ih l (p + (f.lay y).length) r (fun z hz => hx z (by simp [hz])) (drop_more h)
    simp only [List.length_cons, getN, h1, h2, layN, List.flatMap_cons, List.length_append, Nat.add_assoc]
theorem layN_pf {α : Type} {f : Fmt α} (hf : f.Ok) : ∀ (x y : List α) (r r' : List UInt8), x.length = y.length → layN f x ++ r = layN f y ++ r' → x = y ∧ r = r' := by
  intro x
  induction x with
  | nil => intro y r r' hl h; obtain rfl : y = [] := List.eq_nil_of_length_eq_zero hl.symm; exact ⟨rfl, h⟩
  | cons a x ih =>
    intro y r r' hl h
    cases y with
    | nil => simp at hl
    | cons b y =>
      simp only [layN, List.flatMap_cons, List.append_assoc] at h
      have h1 := hf.pf _ _ _ _ h
      have h2 := ih y r r' (by simpa using hl) h1.2
      exact ⟨by rw [h1.1, h2.1], h2.2⟩

/-- a list: how many, and each one -/
def listF {α : Type} (f : Fmt α) : Fmt (List α) :=
  ⟨fun x => sev x.length ++ layN f x, fun x => x.length ≤ 256 ∧ ∀ y ∈ x, f.fits y, fun l p e =>
    getN f.get (rCount l 256 p e).1 l (rCount l 256 p e).2.1 (rCount l 256 p e).2.2⟩
theorem listF_ok {α : Type} {f : Fmt α} (hf : f.Ok) : (listF f).Ok where
  pf a b r r' h := by
    simp only [listF, List.append_assoc] at h
    have h1 := sev_pf _ _ _ _ _ (Nat.lt_succ_self _) h
    exact layN_pf hf _ _ _ _ h1.1 h1.2
  le l pos e h := getN_le hf _ _ _ _ (rCount_le' h)
  back l pos e h he := by
    have h1 := getN_back hf _ _ _ _ (rCount_le' (most := 256) (e := e) h) he
    have h2 := (good_count (most := 256) (good_at l pos e)).same h1.1
    refine ⟨?_, ?_, ?_, h1.2.2⟩
    · rcases Nat.eq_zero_or_pos e with h0 | h0
      · exact h0
      · have := rCount_stays (l := l) (most := 256) (pos := pos) (e := e) (by omega)
        rw [this] at h1
        exact h1.1
    · simp only [listF, getN_len]
      rw [h1.2.1, ← h2, List.append_assoc]
    · simp only [listF, getN_len]
      exact rCount_le l 256 pos e
  fwd x l pos r hx h := by
    simp only [listF, List.append_assoc] at h
    have h1 := rCount_lay (most := 256) h (by have := hx.1; omega) hx.1
    have h2 := getN_fwd hf x l _ r hx.2 (drop_more h)
    simp only [listF, h1, h2, List.length_append, Nat.add_assoc]
  stays l pos e h := by
    simp only [listF, rCount_stays h]
    exact getN_stays hf _ _ _ _ h
end Go.Proofs.YtpmemcpfoapjmaaGreat
