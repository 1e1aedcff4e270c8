/- The law's helpers size and lay. -/
import Derived.Test.YtkfpkfbahkmakaaRefw
import Derived.Test.YtkfpkfbahkmakaaAwake
namespace Go.Proofs.Ytkfpkfbahkmakaa
open Go.ChangeShapes Go.WideShapes Go.ChangeAt Go.RowKit
set_option linter.unusedVariables false

/-- what an item is laid as -/
def Item.bytes (x : Item) : List UInt8 :=
  if x.kind = 1 then sev (zz x.n)
  else if x.kind = 2 then [if x.flag then 1 else 0]
  else if x.kind = 3 then sev x.s.size ++ x.s.data.toList
  else if x.kind = 4 then sev x.n.toNat
  else []

theorem Item.bytes_le (x : Item) (h : x.Fits) (hs : x.s.size ≤ 60000000000) : x.bytes.length ≤ x.s.size + 10 := by
  unfold Item.bytes
  have h1 := h.n.1
  have h2 := h.n.2
  split
  · have := sev_length_u64 (zz_le h1 h2); omega
  · split
    · simp
    · split
      · have := sev_length_u64 (n := x.s.size) (by omega)
        simp only [List.length_append, Array.length_toList]
        have : x.s.data.size = x.s.size := rfl
        omega
      · split
        · have := sev_length_u64 (n := x.n.toNat) (by omega); omega
        · simp

def LayPost (w : World) (b : Nat) (v : Value) (l : List UInt8) (r : List UInt8) (e : Ending) (w' : World) : Prop :=
  ∃ v', e = .returned (.string ⟨r.toArray⟩) ∧ WAt w' b v' (l ++ r) ∧ Kept (WS b v) w w' ∧ Sep w v.ownBlock v'

/-- the item's own block, behind a call of the writer -/
theorem box_cells {w w1 : World} {k n : Int} {f : Bool} {s : ByteArray} {S : Nat → Prop} (hk : Kept S (w.alloc (.cells #[.int .i64 k, .int .i64 n, .bool f, .string s] 29)) w1) (hS : ¬ S w.heap.size) :
    w1.cell? ⟨w.heap.size, 0, none⟩ = some (.int .i64 k) ∧ w1.cell? ⟨w.heap.size, 1, none⟩ = some (.int .i64 n) ∧ w1.cell? ⟨w.heap.size, 2, none⟩ = some (.bool f) ∧ w1.cell? ⟨w.heap.size, 3, none⟩ = some (.string s) := by
  have h := hk.block w.heap.size (by simp) hS
  rw [heap_alloc_new] at h
  simp [World.cell?, h]

set_option maxRecDepth 100000 in
theorem lay_any (x : Item) (w : World) (b : Nat) (v : Value) (l : List UInt8) (hW : WAt w b v l) (hx : x.Fits) (hs : x.s.size ≤ 60000000000) (hl : l.length ≤ 60000000000) :
    Calls Try.prog 14 #[.pointer (some ⟨b, 0, none⟩), .agg #[.int .i64 x.kind, .int .i64 x.n, .bool x.flag, .string x.s]] w (LayPost w b v l x.bytes) := by
  obtain ⟨k, n, f, s⟩ := x
  obtain ⟨hk, hn, _⟩ := hx
  have hK0 : Kept (fun _ => False) w (w.alloc (.cells #[.int .i64 k, .int .i64 n, .bool f, .string s] 29)) := (Kept.refl _ w).alloc _
  have hW0 := hW.keep hK0 (disj_none _)
  have hnot : ¬ WS b v w.heap.size := fun h => by have := hW.inn _ h; omega
  unfold Item.bytes
  simp only at hs hk hn ⊢
  have hfin : ∀ (w1 : World) (v1 : Value) (r : List UInt8), WAt w1 b v1 (l ++ r) → Kept (WS b v) (w.alloc (.cells #[.int .i64 k, .int .i64 n, .bool f, .string s] 29)) w1 → Sep (w.alloc (.cells #[.int .i64 k, .int .i64 n, .bool f, .string s] 29)) v.ownBlock v1 →
      ∀ w2, Old w1 w2 → LayPost w b v l r (.returned (.string ⟨r.toArray⟩)) w2 := by
    intro w1 v1 r h1 h2 h3 w2 h4
    exact ⟨v1, rfl, h1.keep h4 (disj_none _), (Kept.trans' (hK0.mono (fun _ _ f => f.elim)) h2 (fun _ _ h => h)).trans (h4.mono (fun _ _ f => f.elim)), h3.mono (by simp)⟩
  have HF := Lib.hid hfin; clear hfin
  by_cases h1 : k = 1
  · rw [if_pos h1]
    subst h1
    go_enter Try.func14, Try.ntmps14
    go_wp2_with (first | (go_at_call 24; refine (wnum_any n _ b v l hW0 hn.1 hn.2 (by omega)).mono ?_; rintro e w1 ⟨v1, rfl, hW1, hk1, hs1⟩; obtain ⟨c0, c1, c2, c3⟩ := box_cells hk1 hnot) | (go_at_call 31; refine (refnum_any n _ hn).mono ?_; rintro e w2 ⟨rfl, hO⟩))
    go_ret
    exact HF.out _ _ _ hW1 hk1 hs1 _ hO
  · by_cases h2 : k = 2
    · rw [if_neg h1, if_pos h2]
      subst h2
      cases f
      · go_enter Try.func14, Try.ntmps14
        go_wp2_with (first | (go_at_call 25; refine (wflag_any false _ b v l hW0 (by omega)).mono ?_; rintro e w1 ⟨v1, rfl, hW1, hk1, hs1⟩; obtain ⟨c0, c1, c2, c3⟩ := box_cells hk1 hnot) | (go_at_call 32; refine (refflag_any false _).mono ?_; rintro e w2 ⟨rfl, hO⟩))
        go_ret
        exact HF.out _ _ _ hW1 hk1 hs1 _ hO
      · go_enter Try.func14, Try.ntmps14
        go_wp2_with (first | (go_at_call 25; refine (wflag_any true _ b v l hW0 (by omega)).mono ?_; rintro e w1 ⟨v1, rfl, hW1, hk1, hs1⟩; obtain ⟨c0, c1, c2, c3⟩ := box_cells hk1 hnot) | (go_at_call 32; refine (refflag_any true _).mono ?_; rintro e w2 ⟨rfl, hO⟩))
        go_ret
        exact HF.out _ _ _ hW1 hk1 hs1 _ hO
    · by_cases h3 : k = 3
      · rw [if_neg h1, if_neg h2, if_pos h3]
        subst h3
        go_enter Try.func14, Try.ntmps14
        go_wp2_with (first | (go_at_call 26; refine (wtext_any s _ b v l hW0 hs hl).mono ?_; rintro e w1 ⟨v1, rfl, hW1, hk1, hs1⟩; obtain ⟨c0, c1, c2, c3⟩ := box_cells hk1 hnot) | (go_at_call 33; refine (reftext_any s _ (by omega)).mono ?_; rintro e w2 ⟨rfl, hO⟩))
        go_ret
        exact HF.out _ _ _ hW1 hk1 hs1 _ hO
      · by_cases h4 : k = 4
        · rw [if_neg h1, if_neg h2, if_neg h3, if_pos h4]
          subst h4
          go_enter Try.func14, Try.ntmps14
          go_wp2_with (first | (go_at_call 27; refine (wcount_any n _ b v l hW0 hn.1 hn.2 (by omega)).mono ?_; rintro e w1 ⟨v1, rfl, hW1, hk1, hs1⟩; obtain ⟨c0, c1, c2, c3⟩ := box_cells hk1 hnot) | (go_at_call 34; refine (refcount_any n _ hn).mono ?_; rintro e w2 ⟨rfl, hO⟩))
          go_ret
          exact HF.out _ _ _ hW1 hk1 hs1 _ hO
        · rw [if_neg h1, if_neg h2, if_neg h3, if_neg h4]
          go_enter Try.func14, Try.ntmps14
          go_wp2
          go_ret
          exact HF.out _ v [] (by rw [List.append_nil]; exact hW0) (Kept.refl _ _) (Sep.refl _ _) _ (Old.refl _)

/-! size -/
def tot : List Item → Nat
  | [] => 0
  | x :: r => x.s.size + 11 + tot r
def szF (most : Nat) : Nat → List Item → Nat
  | acc, [] => acc
  | acc, x :: r => if acc ≤ most then (if most < x.s.size then most + 1 else szF most (acc + x.s.size + 11) r) else acc

theorem szF_tot (most : Nat) : ∀ (l : List Item) (acc : Nat), szF most acc l ≤ most → acc + tot l ≤ most := by
  intro l
  induction l with
  | nil => intro acc h; simpa [szF, tot] using h
  | cons x r ih =>
    intro acc h
    simp only [szF] at h
    by_cases h1 : acc ≤ most
    · rw [if_pos h1] at h
      by_cases h2 : most < x.s.size
      · rw [if_pos h2] at h; omega
      · rw [if_neg h2] at h
        have := ih _ h
        simp only [tot]
        omega
    · rw [if_neg h1] at h; omega

structure SizeRel (most : Nat) (its : List Item) (acc i : Value) : Prop where
  ex : ∃ (k n : Nat), i = .int .i64 k ∧ acc = .int .i64 n ∧ k ≤ its.length ∧ n ≤ 2 * most + 11 ∧ szF most n (its.drop k) = szF most 0 its

theorem szF_drop {most : Nat} {its : List Item} {k : Nat} (h : k < its.length) (acc : Nat) :
    szF most acc (its.drop k) = if acc ≤ most then (if most < its[k].s.size then most + 1 else szF most (acc + its[k].s.size + 11) (its.drop (k + 1))) else acc := by
  rw [List.drop_eq_getElem_cons h]; rfl

set_option maxRecDepth 100000 in
theorem sizes_any (most : Nat) (w : World) (a : Option Addr) (len cap : Nat) (its : List Item) (hI : ItemsAt w a len its) (hm : most ≤ 4611686018427387000) :
    Calls Try.prog 12 #[.slice a len cap, .int .i64 most] w fun e w' => e = .returned (.int .i64 (szF most 0 its)) ∧ w = w' := by
  obtain ⟨hlen, hfits, hroom, hat⟩ := hI
  subst hlen
  go_enter Try.func12, Try.ntmps12
  go_wp2
  go_loop [5, 6] (fun acc i => SizeRel most its acc i) (fun _ i => its.length - (intOf i).toNat)
  case atStart => exact ⟨0, 0, rfl, rfl, Nat.zero_le _, by omega, rfl⟩
  case round =>
    obtain ⟨k, n, rfl, rfl, hk, hn, hs⟩ := hrel.ex
    clear hrel
    by_cases hlt : k < its.length
    · rcases hat with h0 | ⟨b, off, rfl, hb, hc⟩
      · omega
      have HD := Lib.hid (szF_drop (most := most) hlt n)
      have HS := Lib.hid hs; clear hs
      have hcell := (hc k hlt).2.2.2
      have hsz := (hfits _ (List.getElem_mem hlt)).s
      unfold maxLen at hsz
      clear hc hfits
      by_cases h1 : n ≤ most
      · by_cases h2 : most < its[k].s.size
        · have HF : Hid (szF most 0 its = most + 1) := by rw [← HS.out, HD.out, if_pos h1, if_pos h2]; exact rfl
          go_wp2
          go_ret
          exact ⟨ret_int (by rw [HF.out]; rfl), rfl⟩
        · have HF : Hid (szF most (n + its[k].s.size + 11) (its.drop (k + 1)) = szF most 0 its) := by rw [← HS.out, HD.out, if_pos h1, if_neg h2]; exact rfl
          go_wp2
          exact ⟨⟨k + 1, n + its[k].s.size + 11, rfl, rfl, by omega, by omega, HF.out⟩, by simp [intOf]; omega⟩
      · have HF : Hid (szF most 0 its = n) := by rw [← HS.out, HD.out, if_neg h1]; exact rfl
        go_wp2
        go_ret
        exact ⟨ret_int (by rw [HF.out]), rfl⟩
    · have HF : Hid (szF most 0 its = n) := by rw [← hs, List.drop_of_length_le (by omega)]; exact rfl
      clear hs
      go_wp2
      go_ret
      exact ⟨ret_int (by rw [HF.out]), rfl⟩
end Go.Proofs.Ytkfpkfbahkmakaa
