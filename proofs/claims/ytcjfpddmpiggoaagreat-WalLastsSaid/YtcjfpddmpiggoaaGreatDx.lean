/- One disk beside other blocks; rows of 32 sectors as strings; what lasts. -/
import Derived.Test.YtcjfpddmpiggoaaGreatDo
import Derived.Laws.AppendOwn
import Derived.ChangeSlices
namespace Go.Proofs.YtcjfpddmpiggoaaGreat
open Go.ChangeShapes Go.WideShapes Go.ChangeAt Go.RowKit
open Go.Maps Go.Sort Go.Shelf Go.Proofs
set_option linter.unusedVariables false
set_option linter.unusedSimpArgs false

/-- a disk at b whose blocks lie at B or past it, and are none of X -/
structure Dx (B : Nat) (X : Nat → Prop) (w : World) (b : Nat) (d : DSt) : Prop where
  ex : ∃ sb mb nn, DAt w b sb mb nn d ∧ (B ≤ b ∧ B ≤ sb ∧ B ≤ mb) ∧ ∀ k, X k → k < w.heap.size ∧ ¬ DB b sb mb k
def OutX (B : Nat) (X : Nat → Prop) : Nat → Prop := fun k => B ≤ k ∧ ¬ X k
theorem Dx.le {B : Nat} {X : Nat → Prop} {w : World} {b : Nat} {d : DSt} (h : Dx B X w b d) : B ≤ w.heap.size := by
  obtain ⟨sb, mb, nn, hD, h1, h2⟩ := h.ex
  have := hD.inn b (.inl rfl); omega
theorem Dx.kept {B : Nat} {X Y : Nat → Prop} {w w' : World} {b : Nat} {d : DSt} (h : Dx B X w b d) (hk : Kept Y w w') (hY : ∀ k, k < w.heap.size → Y k → X k) : Dx B X w' b d := by
  obtain ⟨sb, mb, nn, hD, h1, h2⟩ := h.ex
  exact ⟨sb, mb, nn, hD.kept hk (fun k hk hy => (h2 k (hY k (hD.inn k hk) hy)).2 hk), h1, fun k hx => ⟨Nat.lt_of_lt_of_le (h2 k hx).1 hk.size, (h2 k hx).2⟩⟩
theorem Dx.kept0 {B : Nat} {X : Nat → Prop} {w w' : World} {b : Nat} {d : DSt} (h : Dx B X w b d) (hk : Kept (fun _ => False) w w') : Dx B X w' b d := h.kept hk (fun _ _ f => f.elim)
theorem Dx.more {B : Nat} {X : Nat → Prop} {w w' : World} {b g : Nat} {d : DSt} (h : Dx B X w b d) (hk : Kept (fun _ => False) w w') (h1 : w.heap.size ≤ g) (h2 : g < w'.heap.size) : Dx B (fun k => X k ∨ k = g) w' b d := by
  obtain ⟨sb, mb, nn, hD, h3, h4⟩ := h.ex
  refine ⟨sb, mb, nn, hD.kept hk (fun _ _ f => f), h3, fun k hx => ?_⟩
  rcases hx with hx | rfl
  · exact ⟨Nat.lt_of_lt_of_le (h4 k hx).1 hk.size, (h4 k hx).2⟩
  · exact ⟨h2, fun hb => by have := hD.inn k hb; omega⟩
theorem Kept.toX {B : Nat} {X : Nat → Prop} {w w' : World} (h : Kept (fun _ => False) w w') : Kept (OutX B X) w w' := h.mono (fun _ _ f => f.elim)
theorem Kept.belX {B : Nat} {X : Nat → Prop} {w w' : World} (h : Kept (OutX B X) w w') (hB : B ≤ w.heap.size) : Below B w w' := h.below (fun _ f => f.1) hB

section
variable {B : Nat} {X : Nat → Prop} {w : World} {b : Nat} {d : DSt}
theorem dx_write (h : Dx B X w b d) (k : Int) (s : ByteArray) (ha : d.acts < 9223372036854775807) : Calls Tryz.prog 24 #[.pointer (some ⟨b, 0, none⟩), .int .i64 k, .string s] w fun e w' =>
    e = .returned (.int .i64 (writeD d k s.data.toList).2) ∧ Dx B X w' b (writeD d k s.data.toList).1 ∧ Kept (OutX B X) w w' := by
  obtain ⟨sb, mb, nn, hD, h1, h2⟩ := h.ex
  refine (write_any hD k s ha).mono ?_
  rintro e w' ⟨he, ⟨nn', hD'⟩, hk⟩
  exact ⟨he, ⟨sb, mb, nn', hD', h1, fun k hx => ⟨Nat.lt_of_lt_of_le (h2 k hx).1 hk.size, (h2 k hx).2⟩⟩, hk.mono (fun k _ hb => ⟨by rcases hb with rfl | rfl | rfl <;> omega, fun hx => (h2 k hx).2 hb⟩)⟩
theorem dx_sync (h : Dx B X w b d) (ha : d.acts < 9223372036854775807) : Calls Tryz.prog 50 #[.pointer (some ⟨b, 0, none⟩)] w fun e w' =>
    e = .returned (.int .i64 (syncD d).2) ∧ Dx B X w' b (syncD d).1 ∧ Kept (OutX B X) w w' := by
  have hle := h.le
  obtain ⟨sb, mb, nn, hD, h1, h2⟩ := h.ex
  refine (sync_any hD ha).mono ?_
  rintro e w' ⟨he, ⟨mb', nn', hD', hmb⟩, hk⟩
  refine ⟨he, ⟨sb, mb', nn', hD', ⟨h1.1, h1.2.1, by rcases hmb with rfl | hmb <;> omega⟩, fun k hx => ⟨Nat.lt_of_lt_of_le (h2 k hx).1 hk.size, ?_⟩⟩, hk.mono (fun k _ e => ⟨by have e : k = b := e; omega, fun hx => (h2 k hx).2 (.inl e)⟩)⟩
  have hlt := (h2 k hx).1
  have hno := (h2 k hx).2
  rintro (e | e | e)
  · exact hno (.inl e)
  · exact hno (.inr (.inl e))
  · rcases hmb with rfl | hmb
    · exact hno (.inr (.inr e))
    · omega
theorem dx_arm (h : Dx B X w b d) (k : Int) (hk : k ≤ 9223372036854775807) : Calls Tryz.prog 9 #[.pointer (some ⟨b, 0, none⟩), .int .i64 k] w fun e w' =>
    e = .returned (.int .i64 (armD d k).2) ∧ Dx B X w' b (armD d k).1 ∧ Kept (OutX B X) w w' := by
  obtain ⟨sb, mb, nn, hD, h1, h2⟩ := h.ex
  refine (arm_any hD k hk).mono ?_
  rintro e w' ⟨he, hD', hk⟩
  exact ⟨he, ⟨sb, mb, nn, hD', h1, fun k hx => ⟨Nat.lt_of_lt_of_le (h2 k hx).1 hk.size, (h2 k hx).2⟩⟩, hk.mono (fun k _ e => ⟨by have e : k = b := e; omega, fun hx => (h2 k hx).2 (.inl e)⟩)⟩
theorem dx_read (h : Dx B X w b d) (k : Int) : Calls Tryz.prog 19 #[.pointer (some ⟨b, 0, none⟩), .int .i64 k] w fun e w' => e = .returned (.tuple #[.string ⟨(readD d k).1.toArray⟩, .int .i64 (readD d k).2]) ∧ w = w' := by
  obtain ⟨sb, mb, nn, hD, h1, h2⟩ := h.ex
  exact read_any hD k
theorem dx_pending (h : Dx B X w b d) : Calls Tryz.prog 34 #[.pointer (some ⟨b, 0, none⟩)] w fun e w' => ∃ a cap, e = .returned (.slice a (pendL d.n d.O).length cap) ∧ Dx B X w' b d ∧ Kept (OutX B X) w w' := by
  have H := Lib.hid h
  obtain ⟨sb, mb, nn, hD, h1, h2⟩ := h.ex
  refine (pending_any hD).mono ?_
  rintro e w' ⟨v, he, hrow, hnil, hb⟩
  rcases hrow.2 with ⟨rfl, hl0⟩ | ⟨g, cap, cur, rfl, r⟩
  · exact ⟨none, 0, by rw [hl0]; exact he, H.out.kept0 (keptBelow hb), (keptBelow hb).toX⟩
  · exact ⟨_, _, he, H.out.kept0 (keptBelow hb), (keptBelow hb).toX⟩
theorem dx_crash (h : Dx B X w b d) {hv : Value} {how : List Int} (hh : HowAt w (fun k => k < B ∨ X k) hv how) : Calls Tryz.prog 14 #[.pointer (some ⟨b, 0, none⟩), hv] w fun e w' =>
    e = .returned (.tuple #[]) ∧ Dx B X w' b (crashD d how) ∧ Kept (OutX B X) w w' := by
  have hle := h.le
  obtain ⟨sb, mb, nn, hD, h1, h2⟩ := h.ex
  refine (crash_any hD (hh.mono (ok' := fun k => ¬ DB b sb mb k) (fun k hk => ?_))).mono ?_
  · rcases hk with hk | hk
    · rintro (rfl | rfl | rfl) <;> omega
    · exact (h2 k hk).2
  · rintro e w' ⟨he, ⟨mb', hD', hmb⟩, hk⟩
    refine ⟨he, ⟨sb, mb', 0, hD', ⟨h1.1, h1.2.1, by omega⟩, fun k hx => ⟨Nat.lt_of_lt_of_le (h2 k hx).1 hk.size, ?_⟩⟩, hk.mono (fun k _ e => ⟨by rcases e with rfl | rfl <;> omega, fun hx => (h2 k hx).2 (by rcases e with e | e; exact .inl e; exact .inr (.inl e))⟩)⟩
    have hlt := (h2 k hx).1
    have hno := (h2 k hx).2
    rintro (e | e | e)
    · exact hno (.inl e)
    · exact hno (.inr (.inl e))
    · omega
end

theorem ints_of {H : Type} {enc : TypeId × Value → H} {W : World} {base fuel : Nat} {held : Bool} {a : Option Addr} {len cap : Nat} {x : DataW H × List MemPlace}
    (h : DataW.trod enc Tryz.prog W base (fun _ => true) held fuel 32 [.slice a len cap] = some x) : ∃ zs aa cap1, Value.slice a len cap = .slice aa (List.length zs) cap1 ∧ HowAt W (fun k => k < W.heap.size) (.slice aa (List.length zs) cap1) zs ∧ zs.length ≤ cap1 ∧ cap1 ≤ maxLen := by
  rcases open_ints Tryz.underlying32 Tryz.underlying3 (by kernel_rfl) h with ⟨hc, _⟩ | ⟨a', len', cap', zs, hc, hb, hl, hm, hz, hx, hi, hwf⟩
  · simp only [List.cons.injEq, Value.slice.injEq, and_true] at hc
    obtain ⟨rfl, rfl, rfl⟩ := hc
    exact ⟨[], Option.none, 0, rfl, HowAt.nil _ _ _ _, Nat.le_refl _, Nat.zero_le _⟩
  · simp only [List.cons.injEq, Value.slice.injEq, and_true] at hc
    obtain ⟨rfl, rfl, rfl⟩ := hc
    simp only [if_true] at hz
    have e : (zs.take len).length = len := by rw [List.length_take]; omega
    refine ⟨zs.take len, some a', cap, by rw [e], ⟨⟨_, _, rfl, fun i hi0 => ?_⟩, fun x hx => ?_⟩, by omega, hm⟩
    · have hil : i < len := by omega
      have hcell := hi i (by omega)
      obtain ⟨b, off, spot⟩ := a'
      have hspot : spot = Option.none := by simpa [Addr.add] using World.cell?_spot (hi 0 (by omega))
      subst hspot
      have hadd : (⟨b, off, Option.none⟩ : Addr).add i = ⟨b, off + i, Option.none⟩ := by unfold Addr.add; split <;> simp_all
      rw [hadd] at hcell
      refine ⟨b, off, rfl, World.block_lt_of_cell? W _ hcell, ?_⟩
      rw [hcell, List.getElem_take]
      simp [List.getD, List.getElem?_eq_getElem (show i < zs.length by omega)]
    · have := hwf x (List.mem_of_mem_take hx)
      simp [Lit.wf, IntKind.min, IntKind.max, IntKind.bits, IntKind.signed] at this
      omega

/-! ### 32 sectors as strings -/
def strV (L : Nat → List UInt8) : List Value := (List.range 32).map fun i => Value.string ⟨(L i).toArray⟩
theorem strV_len (L : Nat → List UInt8) : (strV L).length = 32 := by simp [strV]
theorem strV_get (L : Nat → List UInt8) {i : Nat} (h : i < 32) : (strV L)[i]? = some (.string ⟨(L i).toArray⟩) := by
  simp only [strV, List.getElem?_map, List.getElem?_range h, Option.map_some]
theorem strV_one (L : Nat → List UInt8) : ∀ v ∈ strV L, v.oneCell' = true := by
  intro v hv
  obtain ⟨b, _, rfl⟩ := List.mem_map.1 hv
  rfl
theorem strV_set (L : Nat → List UInt8) (r : List Value) {i : Nat} (h : i < 32) (l : List UInt8) : (strV L ++ r).set i (.string ⟨l.toArray⟩) = strV (upd L i l) ++ r := by
  apply List.ext_getElem?
  intro j
  by_cases e : j = i
  · subst e
    rw [List.getElem?_set_self (by simp [strV_len]; omega), List.getElem?_append_left (by rw [strV_len]; exact h), strV_get _ h, upd_same]
  · rw [List.getElem?_set_ne (Ne.symm e)]
    by_cases hj : j < 32
    · rw [List.getElem?_append_left (by rw [strV_len]; exact hj), List.getElem?_append_left (by rw [strV_len]; exact hj), strV_get _ hj, strV_get _ hj, upd_other _ _ _ e]
    · rw [List.getElem?_append_right (by rw [strV_len]; omega), List.getElem?_append_right (by rw [strV_len]; omega), strV_len, strV_len]
structure StrsAt (w : World) (g : Nat) (L : Nat → List UInt8) : Prop where
  at_ : ∃ r : List Value, w.heap[g]? = some (.cells (strV L ++ r).toArray 9 (0, 0))
  len : ∀ i, i < 32 → (L i).length = 64
theorem StrsAt.lt {w : World} {g : Nat} {L : Nat → List UInt8} (h : StrsAt w g L) : g < w.heap.size := by
  obtain ⟨r, hr⟩ := h.at_; exact lt_of_block hr
theorem StrsAt.cell {w : World} {g : Nat} {L : Nat → List UInt8} (h : StrsAt w g L) {i : Nat} (hi : i < 32) : w.cell? ⟨g, i, none⟩ = some (.string ⟨(L i).toArray⟩) := by
  obtain ⟨r, hr⟩ := h.at_
  rw [cell_of_row w g i _ _ (0, 0) hr, List.getElem?_toArray, List.getElem?_append_left (by rw [strV_len]; exact hi), strV_get _ hi]
theorem StrsAt.frozen {w : World} {g : Nat} {L : Nat → List UInt8} (h : StrsAt w g L) (i : Nat) : w.frozen? ⟨g, i, none⟩ = false := by
  obtain ⟨r, hr⟩ := h.at_
  simp [World.frozen?, hr]
theorem StrsAt.kept {X : Nat → Prop} {w w' : World} {g : Nat} {L : Nat → List UInt8} (h : StrsAt w g L) (hk : Kept X w w') (hx : ¬ X g) : StrsAt w' g L := by
  obtain ⟨r, hr⟩ := h.at_
  exact ⟨⟨r, by rw [hk.block g (lt_of_block hr) hx]; exact hr⟩, h.len⟩
theorem StrsAt.set {w : World} {g : Nat} {L : Nat → List UInt8} (h : StrsAt w g L) {i : Nat} (hi : i < 32) {l : List UInt8} (hl : l.length = 64) : StrsAt (w.setCell ⟨g, i, none⟩ (.string ⟨l.toArray⟩)) g (upd L i l) := by
  obtain ⟨r, hr⟩ := h.at_
  refine ⟨⟨r, ?_⟩, fun k hk => ?_⟩
  · rw [heap_set _ hr, strV_set L r hi l]
  · by_cases e : k = i
    · subst e; rw [upd_same]; exact hl
    · rw [upd_other _ _ _ e]; exact h.len k hk
theorem StrsAt.of_row {w : World} {base : Nat} {v : Value} {L : Nat → List UInt8} (h : w.ownsRow base 9 1 v 32 (strV L)) (hl : ∀ i, i < 32 → (L i).length = 64) : ∃ g cap, v = .slice (some ⟨g, 0, none⟩) 32 cap ∧ base ≤ g ∧ 32 ≤ cap ∧ cap ≤ maxLen ∧ StrsAt w g L := by
  rcases h.2 with ⟨_, h0⟩ | ⟨g, cap, cur, rfl, hb, hh, hnc, hcm, hcs, htake⟩
  · omega
  · refine ⟨g, cap, rfl, hb, hnc, hcm, ⟨⟨cur.toList.drop 32, ?_⟩, hl⟩⟩
    rw [hh]
    congr 2
    rw [← htake]
    show cur = (List.take (32 * 1) cur.toList ++ List.drop 32 cur.toList).toArray
    rw [show 32 * 1 = 32 from rfl, List.take_append_drop]
theorem StrsAt.range {w : World} {g : Nat} {L : Nat → List UInt8} (h : StrsAt w g L) : ∀ j u, (strV L)[j]? = some u → w.cell? ((⟨g, 0, none⟩ : Addr).add j) = some u := by
  intro j u hj
  have hj2 : j < 32 := by have := (List.getElem?_eq_some_iff.1 hj).1; rwa [strV_len] at this
  rw [strV_get _ hj2] at hj
  obtain rfl := Option.some.inj hj
  rw [Addr.add_mid, Nat.zero_add]
  exact h.cell hj2
theorem string_info : (Tryz.prog.info? 9).map (fun i => (i.zero, i.size, i.bytes)) = some (some (.string ByteArray.empty), 1, 16) := by kernel_rfl

/-! ### what a disk lasts -/
/-- the first writes: nothing dies -/
structure La1 (d : DSt) (k : Nat) (L : Nat → List UInt8) : Prop where
  n : d.n = 32
  dead : d.dead = false
  left : d.left = 0
  acts : d.acts = k
  S : ∀ i, i < 32 → d.S i = L i
theorem la1_new : La1 (newD 32) 0 (fun _ => zeros) := ⟨rfl, rfl, rfl, rfl, fun _ _ => rfl⟩
theorem la1_write {d : DSt} {k : Nat} {L : Nat → List UInt8} (h : La1 d k L) {i : Nat} (hi : i < 32) {s : List UInt8} (hs : s.length = 64) : (writeD d (i : Int) s).2 = 0 ∧ La1 (writeD d (i : Int) s).1 (k + 1) (upd L i s) := by
  have hh : hasD d (i : Int) = true := (hasD_iff d _).2 ⟨by omega, by rw [h.n]; omega⟩
  unfold writeD
  rw [if_neg (by simp [h.dead]), if_neg (by simp [hh, hs])]
  unfold actD
  rw [if_pos h.left]
  refine ⟨rfl, h.n, h.dead, h.left, by simp [h.acts], fun q hq => ?_⟩
  simp only [Int.toNat_natCast]
  by_cases e : q = i
  · subst e; rw [upd_same, upd_same]
  · rw [upd_other _ _ _ e, upd_other _ _ _ e]; exact h.S q hq

/-- the later writes -/
structure La2 (d : DSt) (m : Nat) (old last : Nat → List UInt8) : Prop where
  n : d.n = 32
  acts : d.acts ≤ m
  S : ∀ i, i < 32 → d.S i = last i
  none : ∀ i, i < 32 → d.O i = none → last i = old i
  some : ∀ i l, i < 32 → d.O i = some l → l = old i
theorem la2_start {d : DSt} {k : Nat} {L : Nat → List UInt8} (h : La1 d k L) (x : Nat) : (syncD d).2 = 0 ∧ (armD (syncD d).1 (x : Int)).2 = 0 ∧ La2 (armD (syncD d).1 (x : Int)).1 (k + 1) L L ∧ (armD (syncD d).1 (x : Int)).1.dead = false ∧ (syncD d).1.acts = k + 1 := by
  have e0 : actD d = ({ d with acts := d.acts + 1 }, 0) := by unfold actD; rw [if_pos h.left]
  have e : syncD d = ({ d with acts := d.acts + 1, O := fun _ => Option.none }, 0) := by
    unfold syncD
    rw [if_neg (by simp [h.dead]), e0, if_pos rfl]
  rw [e]
  have e2 : armD ({ d with acts := d.acts + 1, O := fun _ => Option.none }, (0 : Int)).1 (x : Int) = ({ d with acts := d.acts + 1, O := fun _ => Option.none, left := x }, 0) := by
    unfold armD
    rw [if_neg (by simp [h.dead]), if_neg (by omega)]
    simp
  rw [e2]
  exact ⟨rfl, rfl, ⟨h.n, by simp [h.acts], h.S, fun _ _ _ => rfl, fun i l _ hl => by simp at hl⟩, h.dead, by simp [h.acts]⟩
theorem la2_write {d : DSt} {m : Nat} {old last : Nat → List UInt8} (h : La2 d m old last) (ha : d.dead = false) {i : Nat} (hi : i < 32) {s : List UInt8} (hs : s.length = 64) :
    (writeD d (i : Int) s).2 = (if (writeD d (i : Int) s).1.dead then 2 else 0) ∧ La2 (writeD d (i : Int) s).1 (m + 1) old (upd last i s) := by
  have hh : hasD d (i : Int) = true := (hasD_iff d _).2 ⟨by omega, by rw [h.n]; omega⟩
  unfold writeD
  rw [if_neg (by simp [ha]), if_neg (by simp [hh, hs])]
  have key : ∀ x : DSt, x.n = 32 → x.acts ≤ m + 1 → x.S = upd d.S i s → x.O = (if (d.O i).isSome then d.O else upd d.O i (some (d.S i))) → La2 x (m + 1) old (upd last i s) := by
    intro x h1 h2 h3 h4
    refine ⟨h1, h2, fun q hq => ?_, fun q hq hn => ?_, fun q l hq hl => ?_⟩
    · rw [h3]
      by_cases e : q = i
      · subst e; rw [upd_same, upd_same]
      · rw [upd_other _ _ _ e, upd_other _ _ _ e]; exact h.S q hq
    · rw [h4] at hn
      by_cases e : q = i
      · subst e
        by_cases hp : (d.O q).isSome = true
        · rw [if_pos hp] at hn; rw [hn] at hp; simp at hp
        · rw [if_neg hp, upd_same] at hn; simp at hn
      · rw [upd_other _ _ _ e]
        refine h.none q hq ?_
        by_cases hp : (d.O i).isSome = true
        · rwa [if_pos hp] at hn
        · rwa [if_neg hp, upd_other _ _ _ e] at hn
    · rw [h4] at hl
      by_cases hp : (d.O i).isSome = true
      · rw [if_pos hp] at hl; exact h.some q l hq hl
      · rw [if_neg hp] at hl
        by_cases e : q = i
        · subst e
          rw [upd_same] at hl
          obtain rfl := Option.some.inj hl
          rw [h.S q hq]
          exact h.none q hq (by simpa using hp)
        · rw [upd_other _ _ _ e] at hl; exact h.some q l hq hl
  have hac := h.acts
  unfold actD
  simp only [Int.toNat_natCast]
  split
  · exact ⟨by simp [ha], key _ h.n (by simp; omega) rfl rfl⟩
  · split
    · exact ⟨by simp, key _ h.n (by simp; omega) rfl rfl⟩
    · exact ⟨by simp [ha], key _ h.n (by simp; omega) rfl rfl⟩
theorem writeD_dead {d : DSt} (h : d.dead = true) (k : Int) (s : List UInt8) : writeD d k s = (d, 2) := by unfold writeD; simp [h]

theorem crashF_out (O : Nat → Option (List UInt8)) (how : List Int) : ∀ (l : List Nat) (S : Nat → List UInt8) (k i : Nat), i ∉ l → crashF O how S l k i = S i
  | [], _, _, _, _ => rfl
  | x :: r, S, k, i, h => by
    simp only [List.mem_cons, not_or] at h
    rw [crashF, crashF_out O how r _ _ i h.2, upd_other _ _ _ h.1]
theorem crashF_in (O : Nat → Option (List UInt8)) (how : List Int) : ∀ (l : List Nat) (S : Nat → List UInt8) (k i : Nat), l.Nodup → i ∈ l → ∃ f, crashF O how S l k i = behindL f (oldL O i) (S i)
  | [], _, _, _, _, h => by simp at h
  | x :: r, S, k, i, hn, h => by
    rw [List.nodup_cons] at hn
    rw [crashF]
    by_cases e : i = x
    · subst e
      exact ⟨fateOf how k, by rw [crashF_out O how r _ _ i hn.1, upd_same]⟩
    · have hr : i ∈ r := by rcases List.mem_cons.1 h with h | h; exact absurd h e; exact h
      obtain ⟨f, hf⟩ := crashF_in O how r (upd S x (behindL (fateOf how k) (oldL O x) (S x))) (k + 1) i hn.2 hr
      exact ⟨f, by rw [hf, upd_other _ _ _ e]⟩
theorem pend_nodupN (n : Nat) (O : Nat → Option (List UInt8)) : (pendL n O).Nodup := List.Pairwise.filter _ List.nodup_range

/-- behind a crash: a beginning of what was written last, the end of what it had -/
theorem la_crash {d : DSt} {m : Nat} {old last : Nat → List UInt8} (h : La2 d m old last) (how : List Int) (hl : ∀ i, i < 32 → (last i).length = 64) (ho2 : ∀ i, i < 32 → (old i).length = 64) {i : Nat} (hi : i < 32) :
    ∃ b, b ≤ 64 ∧ (crashD d how).S i = (last i).take b ++ (old i).drop b := by
  show ∃ b, b ≤ 64 ∧ crashF d.O how d.S (pendL d.n d.O) 0 i = (last i).take b ++ (old i).drop b
  cases hO : d.O i with
  | none =>
    rw [crashF_out _ _ _ _ _ _ (by rw [pend_mem]; simp [hO]), h.S i hi, ← h.none i hi hO]
    exact ⟨64, Nat.le_refl _, by rw [List.take_append_drop]⟩
  | some l =>
    obtain ⟨f, hf⟩ := crashF_in d.O how (pendL d.n d.O) d.S 0 i (pend_nodupN _ _) ((pend_mem _ _ _).2 ⟨by rw [h.n]; exact hi, by simp [hO]⟩)
    rw [hf, h.S i hi]
    have ho : oldL d.O i = old i := by unfold oldL; rw [hO]; exact h.some i l hi hO
    rw [ho]
    unfold behindL
    split
    · exact ⟨64, Nat.le_refl _, by rw [List.take_of_length_le (Nat.le_of_eq (hl i hi)), List.drop_of_length_le (Nat.le_of_eq (ho2 i hi)), List.append_nil]⟩
    · split
      · exact ⟨fateN f / 3 % 65, by omega, rfl⟩
      · exact ⟨0, by omega, by simp⟩
end Go.Proofs.YtcjfpddmpiggoaaGreat
