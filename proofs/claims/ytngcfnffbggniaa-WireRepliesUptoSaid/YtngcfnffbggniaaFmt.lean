/- Things as bytes: what they are laid as, what is taken up of bytes, and that the two fit. Plain mathematics. -/
import Derived.Test.YtngcfnffbggniaaGood
import Derived.Test.YtngcfnffbggniaaI64
namespace Go.Proofs.Ytngcfnffbggniaa
open Go.RowKit
set_option linter.unusedVariables false

/-- a kind of thing: its bytes, which ones fit, what is taken up at a place -/
structure Fmt (α : Type) where
  lay : α → List UInt8
  fits : α → Prop
  get : List UInt8 → Nat → Nat → α × Nat × Nat

structure Fmt.Ok {α : Type} (f : Fmt α) : Prop where
  pf : ∀ a b r r', f.lay a ++ r = f.lay b ++ r' → a = b ∧ r = r'
  le : ∀ l pos e, pos ≤ l.length → (f.get l pos e).2.1 ≤ l.length
  back : ∀ l pos e, pos ≤ l.length → (f.get l pos e).2.2 = 0 → e = 0 ∧ l.take (f.get l pos e).2.1 = l.take pos ++ f.lay (f.get l pos e).1 ∧ f.fits (f.get l pos e).1
  fwd : ∀ x l pos r, f.fits x → l.drop pos = f.lay x ++ r → f.get l pos 0 = (x, pos + (f.lay x).length, 0)
  stays : ∀ l pos e, e ≠ 0 → (f.get l pos e).2.2 = e

theorem byte_ne {n m : Nat} (h : n < 128) : UInt8.ofNat n ≠ UInt8.ofNat (m % 128 + 128) := by
  intro e
  have := congrArg UInt8.toNat e
  rw [toNat_ofNat_lt (by omega), toNat_ofNat_lt (by omega)] at this
  omega

theorem sev_pf : ∀ (f n m : Nat) (r r' : List UInt8), n < f → sev n ++ r = sev m ++ r' → n = m ∧ r = r' := by
  intro f
  induction f with
  | zero => intro n m r r' h; omega
  | succ f ih =>
    intro n m r r' hn h
    by_cases h1 : n < 128
    · by_cases h2 : m < 128
      · rw [sev_lt h1, sev_lt h2] at h
        simp only [List.cons_append, List.nil_append, List.cons.injEq] at h
        have := congrArg UInt8.toNat h.1
        rw [toNat_ofNat_lt (by omega), toNat_ofNat_lt (by omega)] at this
        exact ⟨this, h.2⟩
      · rw [sev_lt h1, sev_ge (n := m) (by omega)] at h
        simp only [List.cons_append, List.nil_append, List.cons.injEq] at h
        exact absurd h.1 (byte_ne h1)
    · by_cases h2 : m < 128
      · rw [sev_lt h2, sev_ge (n := n) (by omega)] at h
        simp only [List.cons_append, List.nil_append, List.cons.injEq] at h
        exact absurd h.1.symm (byte_ne h2)
      · rw [sev_ge (n := n) (by omega), sev_ge (n := m) (by omega)] at h
        simp only [List.cons_append, List.cons.injEq] at h
        have h3 := congrArg UInt8.toNat h.1
        rw [toNat_ofNat_lt (by omega), toNat_ofNat_lt (by omega)] at h3
        have h4 := ih (n / 128) (m / 128) r r' (by omega) h.2
        exact ⟨by omega, h4.2⟩

theorem good_at (l : List UInt8) (pos e : Nat) : Good l pos e (l.take pos) 0 := ⟨fun _ => rfl, by rw [List.length_take]; omega⟩

theorem rSev_le {l : List UInt8} {pos e : Nat} (h : pos ≤ l.length) : (rSev l pos e).2.1 ≤ l.length := by
  unfold rSev
  split
  · rcases seek_err (l.drop pos) 0 0 with h1 | h1 | h1
    · have := h1.2; rw [List.length_drop] at this; simp only; omega
    · rw [h1]; exact h
    · rw [h1]; exact h
  · exact h
theorem rSev_stays {l : List UInt8} {pos e : Nat} (h : e ≠ 0) : rSev l pos e = (0, pos, e) := if_neg h
theorem wr_stays {e x : Nat} (h : e ≠ 0) : wr e x = e := if_neg h
theorem rCount_le' {l : List UInt8} {most : Int} {pos e : Nat} (h : pos ≤ l.length) : (rCount l most pos e).2.1 ≤ l.length := by
  unfold rCount; split <;> exact rSev_le h
theorem rCount_stays {l : List UInt8} {most : Int} {pos e : Nat} (h : e ≠ 0) : rCount l most pos e = (0, pos, e) := by
  unfold rCount; rw [rSev_stays h, if_neg (by simp)]
theorem rText_le' {l : List UInt8} {most : Int} {pos e : Nat} (h : pos ≤ l.length) : (rText l most pos e).2.1 ≤ l.length := by
  have := rCount_le' (most := most) (e := e) h
  unfold rText; split
  · exact this
  · split
    · simp only; omega
    · exact this
theorem rText_stays {l : List UInt8} {most : Int} {pos e : Nat} (h : e ≠ 0) : rText l most pos e = ([], pos, e) := by
  unfold rText; rw [rCount_stays h, if_neg (by simp), if_neg h]
theorem rFlag_le' {l : List UInt8} {pos e : Nat} (h : pos ≤ l.length) : (rFlag l pos e).2.1 ≤ l.length := by
  unfold rFlag
  split
  · split
    · exact h
    · split
      · simp only; omega
      · exact h
  · exact h
theorem rFlag_stays {l : List UInt8} {pos e : Nat} (h : e ≠ 0) : (rFlag l pos e).2.2 = e := by
  unfold rFlag
  split
  · split
    · exact wr_stays h
    · first | rfl | rw [if_neg h]
  · exact wr_stays h

def numF : Fmt Int := ⟨fun n => sev (zz n), I64, fun l p e => (unzz (rSev l p e).1, (rSev l p e).2.1, (rSev l p e).2.2)⟩
theorem numF_ok : numF.Ok where
  pf a b r r' h := by
    have := sev_pf _ _ _ r r' (Nat.lt_succ_self _) h
    exact ⟨by rw [← unzz_zz a, ← unzz_zz b, this.1], this.2⟩
  le l pos e h := rSev_le h
  back l pos e h he := by
    have hf := rSev_fit l pos e
    refine ⟨?_, ?_, unzz_lo hf, unzz_hi hf⟩
    · rcases Nat.eq_zero_or_pos e with h0 | h0
      · exact h0
      · have := rSev_stays (l := l) (pos := pos) (e := e) (by omega)
        simp only [numF, this] at he
        exact he
    · have := (good_num (good_at l pos e)).same he
      simp only [numF, zz_unzz]
      exact this.symm
  fwd x l pos r hx h := by
    have := rSev_lay h (zz_le hx.1 hx.2)
    simp only [numF, this, unzz_zz]
  stays l pos e h := by simp only [numF, rSev_stays h]

def flagF : Fmt Bool := ⟨fun x => [if x then 1 else 0], fun _ => True, rFlag⟩
theorem flagF_ok : flagF.Ok where
  pf a b r r' h := by
    simp only [flagF, List.cons_append, List.nil_append, List.cons.injEq] at h
    refine ⟨?_, h.2⟩
    cases a <;> cases b <;> simp_all
  le l pos e h := rFlag_le' h
  back l pos e h he := by
    refine ⟨?_, ?_, trivial⟩
    · rcases Nat.eq_zero_or_pos e with h0 | h0
      · exact h0
      · have := rFlag_stays (l := l) (pos := pos) (e := e) (by omega)
        simp only [flagF] at he
        omega
    · exact ((good_flag (good_at l pos e)).same he).symm
  fwd x l pos r hx h := by
    have := rFlag_lay h
    simpa only [flagF, List.length_singleton] using this
  stays l pos e h := rFlag_stays h

theorem str_eq {a b : ByteArray} (h : a.data.toList = b.data.toList) : a = b := by
  obtain ⟨⟨a⟩⟩ := a; obtain ⟨⟨b⟩⟩ := b; simp at h; rw [h]
theorem str_len (s : ByteArray) : s.data.toList.length = s.size := by simp
theorem mk_size (l : List UInt8) : (⟨l.toArray⟩ : ByteArray).size = l.length := by simp [ByteArray.size]

def textF (most : Nat) : Fmt ByteArray := ⟨fun s => sev s.size ++ s.data.toList, fun s => s.size ≤ most, fun l p e => (⟨(rText l most p e).1.toArray⟩, (rText l most p e).2.1, (rText l most p e).2.2)⟩
theorem textF_ok {most : Nat} (hm : most ≤ 9223372036854775807) : (textF most).Ok where
  pf a b r r' h := by
    simp only [textF, List.append_assoc] at h
    have h1 := sev_pf _ _ _ _ _ (Nat.lt_succ_self _) h
    have h2 := List.append_inj h1.2 (by rw [str_len, str_len]; exact h1.1)
    exact ⟨str_eq h2.1, h2.2⟩
  le l pos e h := rText_le' h
  back l pos e h he := by
    refine ⟨?_, ?_, ?_⟩
    · rcases Nat.eq_zero_or_pos e with h0 | h0
      · exact h0
      · have := rText_stays (l := l) (most := most) (pos := pos) (e := e) (by omega)
        simp only [textF, this] at he
        exact he
    · have := (good_text (most := most) (good_at l pos e)).same he
      simp only [textF, mk_size]
      exact this.symm
    · simp only [textF, mk_size]
      have := rCount_le l most pos e
      unfold rText
      split
      · simp
      · split
        · simp only [List.length_take]; omega
        · simp
  fwd x l pos r hx h := by
    have hx' : x.size ≤ most := hx
    have h' : l.drop pos = (sev x.data.toList.length ++ x.data.toList) ++ r := by rw [str_len]; exact h
    have := rText_lay (most := most) h' (by rw [str_len]; omega) (by rw [str_len]; omega)
    simp only [textF, this, str_len]
  stays l pos e h := by simp only [textF, rText_stays h]

/-- the one and then the other -/
def seqF {α β : Type} (f : Fmt α) (g : Fmt β) : Fmt (α × β) :=
  ⟨fun x => f.lay x.1 ++ g.lay x.2, fun x => f.fits x.1 ∧ g.fits x.2, fun l p e =>
    (((f.get l p e).1, (g.get l (f.get l p e).2.1 (f.get l p e).2.2).1), (g.get l (f.get l p e).2.1 (f.get l p e).2.2).2)⟩
theorem seqF_ok {α β : Type} {f : Fmt α} {g : Fmt β} (hf : f.Ok) (hg : g.Ok) : (seqF f g).Ok where
  pf a b r r' h := by
    simp only [seqF, List.append_assoc] at h
    have h1 := hf.pf _ _ _ _ h
    have h2 := hg.pf _ _ _ _ h1.2
    exact ⟨Prod.ext h1.1 h2.1, h2.2⟩
  le l pos e h := hg.le _ _ _ (hf.le _ _ _ h)
  back l pos e h he := by
    have h1 := hg.back _ _ _ (hf.le l pos e h) he
    have h2 := hf.back _ _ _ h h1.1
    exact ⟨h2.1, by simp only [seqF]; rw [h1.2.1, h2.2.1, List.append_assoc], h2.2.2, h1.2.2⟩
  fwd x l pos r hx h := by
    simp only [seqF, List.append_assoc] at h
    have h1 := hf.fwd _ _ _ _ hx.1 h
    have h2 := hg.fwd x.2 l (pos + (f.lay x.1).length) r hx.2 (drop_more h)
    simp only [seqF, h1, h2, List.length_append, Nat.add_assoc]
  stays l pos e h := by
    have h1 := hf.stays l pos e h
    simp only [seqF, h1]
    exact hg.stays _ _ _ h

/-- the same under other names -/
def isoF {α β : Type} (f : Fmt α) (to : α → β) (from_ : β → α) : Fmt β :=
  ⟨fun x => f.lay (from_ x), fun x => f.fits (from_ x), fun l p e => (to (f.get l p e).1, (f.get l p e).2)⟩
theorem isoF_ok {α β : Type} {f : Fmt α} {to : α → β} {from_ : β → α} (hf : f.Ok) (h1 : ∀ a, from_ (to a) = a) (h2 : ∀ b, to (from_ b) = b) : (isoF f to from_).Ok where
  pf a b r r' h := by
    have := hf.pf _ _ _ _ h
    exact ⟨by rw [← h2 a, ← h2 b, this.1], this.2⟩
  le l pos e h := hf.le _ _ _ h
  back l pos e h he := by
    have := hf.back _ _ _ h he
    simp only [isoF, h1]
    exact this
  fwd x l pos r hx h := by
    have := hf.fwd _ _ _ _ hx h
    simp only [isoF, this, h2]
  stays l pos e h := hf.stays _ _ _ h

/-- n of them -/
def getN {α : Type} (g : List UInt8 → Nat → Nat → α × Nat × Nat) : Nat → List UInt8 → Nat → Nat → List α × Nat × Nat
  | 0, _, p, e => ([], p, e)
  | n + 1, l, p, e => ((g l p e).1 :: (getN g n l (g l p e).2.1 (g l p e).2.2).1, (getN g n l (g l p e).2.1 (g l p e).2.2).2)

theorem getN_snoc {α : Type} (g : List UInt8 → Nat → Nat → α × Nat × Nat) : ∀ (n : Nat) (l : List UInt8) (p e : Nat),
    getN g (n + 1) l p e = ((getN g n l p e).1 ++ [(g l (getN g n l p e).2.1 (getN g n l p e).2.2).1], (g l (getN g n l p e).2.1 (getN g n l p e).2.2).2) := by
  intro n
  induction n with
  | zero => intro l p e; rfl
  | succ n ih =>
    intro l p e
    rw [getN, ih]
    rfl
theorem getN_len {α : Type} (g : List UInt8 → Nat → Nat → α × Nat × Nat) : ∀ (n : Nat) (l : List UInt8) (p e : Nat), (getN g n l p e).1.length = n := by
  intro n
  induction n with
  | zero => intro l p e; rfl
  | succ n ih => intro l p e; simp only [getN, List.length_cons, ih]

def layN {α : Type} (f : Fmt α) (x : List α) : List UInt8 := x.flatMap f.lay

theorem getN_le {α : Type} {f : Fmt α} (hf : f.Ok) : ∀ (n : Nat) (l : List UInt8) (p e : Nat), p ≤ l.length → (getN f.get n l p e).2.1 ≤ l.length := by
  intro n
  induction n with
  | zero => intro l p e h; exact h
  | succ n ih => intro l p e h; exact ih l _ _ (hf.le _ _ _ h)
theorem getN_stays {α : Type} {f : Fmt α} (hf : f.Ok) : ∀ (n : Nat) (l : List UInt8) (p e : Nat), e ≠ 0 → (getN f.get n l p e).2.2 = e := by
  intro n
  induction n with
  | zero => intro l p e h; rfl
  | succ n ih =>
    intro l p e h
    have h1 := hf.stays l p e h
    simp only [getN]
    rw [h1]
    exact ih l _ _ h
theorem getN_back {α : Type} {f : Fmt α} (hf : f.Ok) : ∀ (n : Nat) (l : List UInt8) (p e : Nat), p ≤ l.length → (getN f.get n l p e).2.2 = 0 →
    e = 0 ∧ l.take (getN f.get n l p e).2.1 = l.take p ++ layN f (getN f.get n l p e).1 ∧ ∀ x ∈ (getN f.get n l p e).1, f.fits x := by
  intro n
  induction n with
  | zero => intro l p e h he; exact ⟨he, by simp [getN, layN], by simp [getN]⟩
  | succ n ih =>
    intro l p e h he
    have h1 := ih l _ _ (hf.le l p e h) he
    have h2 := hf.back l p e h h1.1
    refine ⟨h2.1, ?_, ?_⟩
    · simp only [getN, layN, List.flatMap_cons]
      rw [h1.2.1, h2.2.1, List.append_assoc, layN]
    · intro x hx
      simp only [getN, List.mem_cons] at hx
      rcases hx with rfl | hx
      · exact h2.2.2
      · exact h1.2.2 x hx
theorem getN_fwd {α : Type} {f : Fmt α} (hf : f.Ok) : ∀ (x : List α) (l : List UInt8) (p : Nat) (r : List UInt8), (∀ y ∈ x, f.fits y) → l.drop p = layN f x ++ r →
    getN f.get x.length l p 0 = (x, p + (layN f x).length, 0) := by
  intro x
  induction x with
  | nil => intro l p r _ _; simp [getN, layN]
  | cons y x ih =>
    intro l p r hx h
    simp only [layN, List.flatMap_cons, List.append_assoc] at h
    have h1 := hf.fwd y l p _ (hx y (by simp)) h
    have h2 := ih l (p + (f.lay y).length) r (fun z hz => hx z (by simp [hz])) (drop_more h)
    simp only [List.length_cons, getN, h1, h2, layN, List.flatMap_cons, List.length_append, Nat.add_assoc]
theorem layN_pf {α : Type} {f : Fmt α} (hf : f.Ok) : ∀ (x y : List α) (r r' : List UInt8), x.length = y.length → layN f x ++ r = layN f y ++ r' → x = y ∧ r = r' := by
  intro x
  induction x with
  | nil => intro y r r' hl h; obtain rfl : y = [] := List.eq_nil_of_length_eq_zero hl.symm; exact ⟨rfl, h⟩
  | cons a x ih =>
    intro y r r' hl h
    cases y with
    | nil => simp at hl
    | cons b y =>
      simp only [layN, List.flatMap_cons, List.append_assoc] at h
      have h1 := hf.pf _ _ _ _ h
      have h2 := ih y r r' (by simpa using hl) h1.2
      exact ⟨by rw [h1.1, h2.1], h2.2⟩

/-- a list: how many, and each one -/
def listF {α : Type} (f : Fmt α) : Fmt (List α) :=
  ⟨fun x => sev x.length ++ layN f x, fun x => x.length ≤ 256 ∧ ∀ y ∈ x, f.fits y, fun l p e =>
    getN f.get (rCount l 256 p e).1 l (rCount l 256 p e).2.1 (rCount l 256 p e).2.2⟩
theorem listF_ok {α : Type} {f : Fmt α} (hf : f.Ok) : (listF f).Ok where
  pf a b r r' h := by
    simp only [listF, List.append_assoc] at h
    have h1 := sev_pf _ _ _ _ _ (Nat.lt_succ_self _) h
    exact layN_pf hf _ _ _ _ h1.1 h1.2
  le l pos e h := getN_le hf _ _ _ _ (rCount_le' h)
  back l pos e h he := by
    have h1 := getN_back hf _ _ _ _ (rCount_le' (most := 256) (e := e) h) he
    have h2 := (good_count (most := 256) (good_at l pos e)).same h1.1
    refine ⟨?_, ?_, ?_, h1.2.2⟩
    · rcases Nat.eq_zero_or_pos e with h0 | h0
      · exact h0
      · have := rCount_stays (l := l) (most := 256) (pos := pos) (e := e) (by omega)
        rw [this] at h1
        exact h1.1
    · simp only [listF, getN_len]
      rw [h1.2.1, ← h2, List.append_assoc]
    · simp only [listF, getN_len]
      exact rCount_le l 256 pos e
  fwd x l pos r hx h := by
    simp only [listF, List.append_assoc] at h
    have h1 := rCount_lay (most := 256) h (by have := hx.1; omega) hx.1
    have h2 := getN_fwd hf x l _ r hx.2 (drop_more h)
    simp only [listF, h1, h2, List.length_append, Nat.add_assoc]
  stays l pos e h := by
    simp only [listF, rCount_stays h]
    exact getN_stays hf _ _ _ _ h
end Go.Proofs.Ytngcfnffbggniaa
