/- A disk's small calls: has, Read, Dead, Acts, Size, Arm, act, settle, Sync. -/
import Derived.Test.YtmfngbgdmlnlcaaDm
import Derived.Laws.IdiomStrings
namespace Go.Proofs.Ytmfngbgdmlnlcaa
open Go.ChangeShapes Go.WideShapes Go.ChangeAt Go.RowKit
set_option linter.unusedVariables false
set_option linter.unusedSimpArgs false

/-- what a disk is -/
structure DSt where
  n : Nat
  S : Nat → List UInt8
  O : Nat → Option (List UInt8)
  left : Nat
  acts : Nat
  dead : Bool

def pendL (n : Nat) (O : Nat → Option (List UInt8)) : List Nat := (List.range n).filter fun k => (O k).isSome

structure DAt (w : World) (b sb mb nn : Nat) (d : DSt) : Prop where
  at_ : w.heap[b]? = some (.cells [.slice (some ⟨sb, 0, none⟩) d.n d.n, .map (some mb), .int .i64 d.left, .int .i64 d.acts, .bool d.dead].toArray 57 (0, 0))
  sec : Sec w sb d.n d.S
  old : OldAt w mb nn d.O
  a1 : b ≠ sb
  a2 : b ≠ mb
  a3 : sb ≠ mb
  sup : ∀ k l, d.O k = some l → k < d.n ∧ l.length = 64
  few : nn ≤ (pendL d.n d.O).length
  lo : 16 ≤ d.n
  hi : d.n ≤ 32768
  lft : d.left ≤ 9223372036854775807

/-- its blocks -/
def DB (b sb mb : Nat) : Nat → Prop := fun k => k = b ∨ k = sb ∨ k = mb

theorem DAt.kept {X : Nat → Prop} {w w' : World} {b sb mb nn : Nat} {d : DSt} (h : DAt w b sb mb nn d) (hk : Kept X w w') (hx : ∀ k, DB b sb mb k → ¬ X k) : DAt w' b sb mb nn d :=
  ⟨by rw [hk.block b (lt_of_block h.at_) (hx b (.inl rfl))]; exact h.at_, h.sec.kept hk (hx sb (.inr (.inl rfl))), h.old.kept hk (hx mb (.inr (.inr rfl))), h.a1, h.a2, h.a3, h.sup, h.few, h.lo, h.hi, h.lft⟩
theorem DAt.inn {w : World} {b sb mb nn : Nat} {d : DSt} (h : DAt w b sb mb nn d) : ∀ k, DB b sb mb k → k < w.heap.size := by
  rintro k (rfl | rfl | rfl)
  · exact lt_of_block h.at_
  · exact lt_of_block h.sec.at_
  · exact h.old.lt
theorem DAt.drewN {w : World} {b sb mb nn : Nat} {d : DSt} (h : DAt w b sb mb nn d) (m : Nat) : DAt (w.drewN m) b sb mb nn d :=
  h.kept ((Kept.refl (fun _ => False) w).drewN m) (fun _ _ f => f)

/-- the five cells -/
structure Five (w : World) (b sb mb : Nat) (d : DSt) : Prop where
  c0 : w.cell? ⟨b, 0, none⟩ = some (.slice (some ⟨sb, 0, none⟩) d.n d.n)
  c1 : w.cell? ⟨b, 1, none⟩ = some (.map (some mb))
  c2 : w.cell? ⟨b, 2, none⟩ = some (.int .i64 d.left)
  c3 : w.cell? ⟨b, 3, none⟩ = some (.int .i64 d.acts)
  c4 : w.cell? ⟨b, 4, none⟩ = some (.bool d.dead)
  f : ∀ i, w.frozen? ⟨b, i, none⟩ = false
theorem DAt.five {w : World} {b sb mb nn : Nat} {d : DSt} (h : DAt w b sb mb nn d) : Five w b sb mb d :=
  ⟨by rw [cell_of_row w b 0 _ _ (0, 0) h.at_]; rfl, by rw [cell_of_row w b 1 _ _ (0, 0) h.at_]; rfl, by rw [cell_of_row w b 2 _ _ (0, 0) h.at_]; rfl,
   by rw [cell_of_row w b 3 _ _ (0, 0) h.at_]; rfl, by rw [cell_of_row w b 4 _ _ (0, 0) h.at_]; rfl, fun i => by simp [World.frozen?, h.at_]⟩

theorem heap_set {w : World} {g i : Nat} {c : List Value} {T : TypeId} (v : Value) (h : w.heap[g]? = some (.cells c.toArray T (0, 0))) : (w.setCell ⟨g, i, none⟩ v).heap[g]? = some (.cells (c.set i v).toArray T (0, 0)) := by
  rw [setCell_row h]; exact setRow_heap _ _ _ _ _ _ h
theorem kept_set (w : World) (b i : Nat) (v : Value) : Kept (fun k => k = b) w (w.setCell ⟨b, i, none⟩ v) := (Kept.refl (fun k => k = b) w).setCell (a := ⟨b, i, none⟩) (.inl (show (⟨b, i, none⟩ : Addr).block = b from rfl)) v

theorem DAt.setLeft {w : World} {b sb mb nn : Nat} {d : DSt} (h : DAt w b sb mb nn d) (x : Nat) (hx : x ≤ 9223372036854775807) : DAt (w.setCell ⟨b, 2, none⟩ (.int .i64 x)) b sb mb nn { d with left := x } :=
  ⟨heap_set _ h.at_, h.sec.kept (kept_set w b 2 _) (fun e => h.a1 e.symm), h.old.kept (kept_set w b 2 _) (fun e => h.a2 e.symm), h.a1, h.a2, h.a3, h.sup, h.few, h.lo, h.hi, hx⟩
theorem DAt.setActs {w : World} {b sb mb nn : Nat} {d : DSt} (h : DAt w b sb mb nn d) (x : Nat) : DAt (w.setCell ⟨b, 3, none⟩ (.int .i64 x)) b sb mb nn { d with acts := x } :=
  ⟨heap_set _ h.at_, h.sec.kept (kept_set w b 3 _) (fun e => h.a1 e.symm), h.old.kept (kept_set w b 3 _) (fun e => h.a2 e.symm), h.a1, h.a2, h.a3, h.sup, h.few, h.lo, h.hi, h.lft⟩
theorem DAt.setDead {w : World} {b sb mb nn : Nat} {d : DSt} (h : DAt w b sb mb nn d) (x : Bool) : DAt (w.setCell ⟨b, 4, none⟩ (.bool x)) b sb mb nn { d with dead := x } :=
  ⟨heap_set _ h.at_, h.sec.kept (kept_set w b 4 _) (fun e => h.a1 e.symm), h.old.kept (kept_set w b 4 _) (fun e => h.a2 e.symm), h.a1, h.a2, h.a3, h.sup, h.few, h.lo, h.hi, h.lft⟩

theorem made_old (w : World) : OldAt (w.alloc (.map #[] 0)) w.heap.size 0 (fun _ => none) :=
  ⟨⟨.map [], World.ownsMap_made w _ _ _, fun k => by simp [Maps.has], fun k l h => absurd h (by simp)⟩⟩
theorem DAt.settle {w : World} {b sb mb nn : Nat} {d : DSt} (h : DAt w b sb mb nn d) : DAt ((w.alloc (.map #[] 0)).setCell ⟨b, 1, none⟩ (.map (some w.heap.size))) b sb w.heap.size 0 { d with O := fun _ => none } := by
  have hk : Kept (fun _ => False) w (w.alloc (.map #[] 0)) := (Kept.refl _ w).alloc _
  have h1 := h.kept hk (fun _ _ f => f)
  have hb := lt_of_block h.at_
  have hs := lt_of_block h.sec.at_
  have hk2 := kept_set (w.alloc (.map #[] 0)) b 1 (.map (some w.heap.size))
  exact ⟨heap_set _ h1.at_, h1.sec.kept hk2 (fun e => h.a1 e.symm), (made_old w).kept hk2 (by intro e; have e : w.heap.size = b := e; omega), h.a1, by omega, by omega,
    fun k l h => absurd h (by simp), Nat.zero_le _, h.lo, h.hi, h.lft⟩

/-! ### What the calls do -/
def actD (d : DSt) : DSt × Int :=
  if d.left = 0 then ({ d with acts := d.acts + 1 }, 0) else if d.left = 1 then ({ d with acts := d.acts + 1, left := 0, dead := true }, 2) else ({ d with acts := d.acts + 1, left := d.left - 1 }, 0)
def syncD (d : DSt) : DSt × Int :=
  if d.dead then (d, 2) else if (actD d).2 = 0 then ({ (actD d).1 with O := fun _ => none }, 0) else ((actD d).1, (actD d).2)
def armD (d : DSt) (k : Int) : DSt × Int := if d.dead then (d, 2) else if k < 0 then (d, 1) else ({ d with left := k.toNat }, 0)
def hasD (d : DSt) (k : Int) : Bool := decide (0 ≤ k) && decide (k < d.n)
def readD (d : DSt) (k : Int) : List UInt8 × Int := if d.dead then ([], 2) else if hasD d k then (d.S k.toNat, 0) else ([], 20)

theorem make_map (w : World) : Sem.run Try.prog (Instr.makeMap 55 none) w = .ok (.map (some w.heap.size)) (w.alloc (.map #[] 0)) := by
  simp [Instr.makeMap, run_underlying Try.underlying55]

section
variable {w : World} {b sb mb nn : Nat} {d : DSt}

theorem acts_any (h : DAt w b sb mb nn d) : Calls Try.prog 11 #[.pointer (some ⟨b, 0, none⟩)] w fun e w' => e = .returned (.int .i64 d.acts) ∧ w = w' := by
  obtain ⟨c0, c1, c2, c3, c4, f⟩ := h.five
  go_enter Try.func11, Try.ntmps11
  go_wp2
  go_ret
  exact ⟨rfl, rfl⟩
theorem size_any (h : DAt w b sb mb nn d) : Calls Try.prog 70 #[.pointer (some ⟨b, 0, none⟩)] w fun e w' => e = .returned (.int .i64 d.n) ∧ w = w' := by
  obtain ⟨c0, c1, c2, c3, c4, f⟩ := h.five
  go_enter Try.func70, Try.ntmps70
  go_wp2
  go_ret
  exact ⟨rfl, rfl⟩
theorem has_any (h : DAt w b sb mb nn d) (k : Int) : Calls Try.prog 21 #[.pointer (some ⟨b, 0, none⟩), .int .i64 k] w fun e w' => e = .returned (.bool (hasD d k)) ∧ w = w' := by
  obtain ⟨c0, c1, c2, c3, c4, f⟩ := h.five
  have HH : Hid (hasD d k = (decide (0 ≤ k) && decide (k < d.n))) := Lib.hid rfl
  by_cases h0 : 0 ≤ k
  · go_enter Try.func21, Try.ntmps21
    go_wp2
    go_ret
    exact ⟨ret_bool (by rw [HH.out]; simp [h0]), rfl⟩
  · go_enter Try.func21, Try.ntmps21
    go_wp2
    go_ret
    exact ⟨ret_bool (by rw [HH.out, decide_eq_false (show ¬ (0 : Int) ≤ k by omega)]; rfl), rfl⟩
theorem settle_any (h : DAt w b sb mb nn d) : Calls Try.prog 68 #[.pointer (some ⟨b, 0, none⟩)] w fun e w' => e = .returned (.tuple #[]) ∧ DAt w' b sb w.heap.size 0 { d with O := fun _ => none } ∧ Kept (fun k => k = b) w w' := by
  obtain ⟨c0, c1, c2, c3, c4, f⟩ := h.five
  have HS := Lib.hid h.settle
  have f1 := f 1
  have hb := lt_of_block h.at_
  have hmk := make_map w
  go_enter Try.func68, Try.ntmps68
  go_wp2
  go_end0
  have e : (w.setCell ⟨b, 1, none⟩ (.map (some w.heap.size))).alloc (.map #[] 0) = (w.alloc (.map #[] 0)).setCell ⟨b, 1, none⟩ (.map (some w.heap.size)) := (World.setCell_alloc_past _ _ _ _ hb).symm
  refine ⟨rfl, ?_, ?_⟩
  · rw [e]; exact HS.out
  · exact (kept_set w b 1 _).alloc _
theorem act_any (h : DAt w b sb mb nn d) (ha : d.acts < 9223372036854775807) : Calls Try.prog 22 #[.pointer (some ⟨b, 0, none⟩)] w fun e w' => e = .returned (.int .i64 (actD d).2) ∧ DAt w' b sb mb nn (actD d).1 ∧ Kept (fun k => k = b) w w' := by
  obtain ⟨c0, c1, c2, c3, c4, f⟩ := h.five
  have f2 := f 2; have f3 := f 3; have f4 := f 4
  have HD := Lib.hid h
  have hl := h.lft
  clear h
  obtain ⟨n, S, O, left, acts, dead⟩ := d
  simp only at c0 c1 c2 c3 c4 ha hl
  have g3 : IntKind.i64.wrap ((acts : Int) + 1) = ((acts + 1 : Nat) : Int) := by rw [IntKind.wrap_i64]; omega
  rcases (show left = 0 ∨ left = 1 ∨ 2 ≤ left by omega) with rfl | rfl | h2
  · go_enter Try.func22, Try.ntmps22
    go_wp2
    go_ret
    exact ⟨rfl, by simpa [actD] using HD.out.setActs (acts + 1), kept_set w b 3 _⟩
  · go_enter Try.func22, Try.ntmps22
    go_wp2
    go_ret
    exact ⟨rfl, by simpa [actD] using ((HD.out.setActs (acts + 1)).setLeft 0 (by omega)).setDead true, ((kept_set w b 3 _).trans (kept_set _ b 2 _)).trans (kept_set _ b 4 _)⟩
  · have hz : ((left : Int) == 0) = false := by simp; omega
    have hg : (1 : Int) < (left : Int) := by omega
    have hw : (left : Int) - 1 = ((left - 1 : Nat) : Int) := by omega
    go_enter Try.func22, Try.ntmps22
    go_wp2
    go_ret
    have h3 := (HD.out.setActs (acts + 1)).setLeft (left - 1) (by omega)
    have e : actD ⟨n, S, O, left, acts, dead⟩ = (⟨n, S, O, left - 1, acts + 1, dead⟩, 0) := by simp only [actD]; rw [if_neg (by omega), if_neg (by omega)]
    rw [e]
    exact ⟨rfl, by simpa using h3, (kept_set w b 3 _).trans (kept_set _ b 2 _)⟩
/-- what Sync leaves: the same blocks, or another map -/
def SyncPost (w : World) (b sb mb nn : Nat) (d : DSt) (e : Ending) (w' : World) : Prop :=
  e = .returned (.int .i64 (syncD d).2) ∧ (∃ mb' nn', DAt w' b sb mb' nn' (syncD d).1 ∧ (mb' = mb ∨ w.heap.size ≤ mb')) ∧ Kept (fun k => k = b) w w'

theorem sync_any (h : DAt w b sb mb nn d) (ha : d.acts < 9223372036854775807) : Calls Try.prog 52 #[.pointer (some ⟨b, 0, none⟩)] w (SyncPost w b sb mb nn d) := by
  obtain ⟨c0, c1, c2, c3, c4, f⟩ := h.five
  have HD := Lib.hid h
  clear h
  cases hd : d.dead
  · rw [hd] at c4
    by_cases h0 : (actD d).2 = 0
    · have HS : Hid (syncD d = ({ (actD d).1 with O := fun _ => none }, 0)) := Lib.hid (by unfold syncD; simp [hd, h0])
      have HA := Lib.hid (act_any HD.out ha)
      rw [h0] at HA
      clear h0
      go_enter Try.func52, Try.ntmps52
      go_wp2_with fail
      refine HA.out.mono ?_
      rintro e w1 ⟨rfl, h1, hk1⟩
      have H1 := Lib.hid h1
      go_wp2_with fail
      refine (settle_any h1).mono ?_
      rintro e w2 ⟨rfl, h2, hk2⟩
      have H2 := Lib.hid h2
      clear h1 h2
      go_wp2_with fail
      go_ret
      exact ⟨by rw [HS.out]; rfl, ⟨_, _, by rw [HS.out]; exact H2.out, .inr hk1.size⟩, hk1.trans hk2⟩
    · have HS : Hid (syncD d = ((actD d).1, (actD d).2)) := Lib.hid (by unfold syncD; simp [hd, h0])
      have HA := Lib.hid (act_any HD.out ha)
      obtain ⟨x, hx⟩ : ∃ x, (actD d).2 = x := ⟨_, rfl⟩
      rw [hx] at h0 HA HS
      have h1 : (x != 0) = true := by simpa using h0
      clear h0 hx
      go_enter Try.func52, Try.ntmps52
      go_wp2_with fail
      refine HA.out.mono ?_
      rintro e w1 ⟨rfl, h1, hk1⟩
      have H1 := Lib.hid h1
      clear h1
      go_wp2_with fail
      go_ret
      exact ⟨by rw [HS.out]; rfl, ⟨_, _, by rw [HS.out]; exact H1.out, .inl rfl⟩, hk1⟩
  · rw [hd] at c4
    have HS : Hid (syncD d = (d, 2)) := Lib.hid (by unfold syncD; simp [hd])
    go_enter Try.func52, Try.ntmps52
    go_wp2
    go_ret
    exact ⟨by rw [HS.out]; rfl, ⟨_, _, by rw [HS.out]; exact HD.out, .inl rfl⟩, Kept.refl _ _⟩

theorem hasD_iff (d : DSt) (k : Int) : hasD d k = true ↔ 0 ≤ k ∧ k < d.n := by simp [hasD]

theorem sector_conv {w : World} {sb n : Nat} {S : Nat → List UInt8} (h : Sec w sb n S) {i : Nat} (hi : i < n) :
    Sem.run Try.prog (convert 31 9 (.slice (some ⟨sb, i * 64, none⟩) 64 64)) w = .ok (.string ⟨(S i).toArray⟩) w := by
  have hl := h.len i hi
  have := run_convert_bytes_back (P := Try.prog) w 31 9 5 ⟨sb, i * 64, none⟩ 64 (S i) Try.underlying31 Try.underlying5 Try.underlying9 (fun j hj => by
    rw [Addr.add_mid]
    exact h.range hi j _ (by simp [secL, bcell, hj]))
  rw [hl] at this
  exact this

theorem read_any (h : DAt w b sb mb nn d) (k : Int) : Calls Try.prog 16 #[.pointer (some ⟨b, 0, none⟩), .int .i64 k] w fun e w' => e = .returned (.tuple #[.string ⟨(readD d k).1.toArray⟩, .int .i64 (readD d k).2]) ∧ w = w' := by
  obtain ⟨c0, c1, c2, c3, c4, f⟩ := h.five
  have HD := Lib.hid h
  have HH := Lib.hid (has_any h k)
  have HR : Hid (readD d k = if d.dead then ([], 2) else if hasD d k then (d.S k.toNat, 0) else ([], 20)) := Lib.hid rfl
  have hhi := h.hi
  clear h
  cases hd : d.dead
  · rw [hd] at c4 HR
    by_cases hh : hasD d k = true
    · have e : Hid (readD d k = (d.S k.toNat, 0)) := Lib.hid (by rw [HR.out]; simp [hh])
      rw [e.out]
      obtain ⟨h1, h2⟩ := (hasD_iff d k).1 hh
      obtain ⟨i, rfl⟩ := Int.eq_ofNat_of_zero_le h1
      have hi : i < d.n := by omega
      have hc := sector_conv HD.out.sec hi
      have hti : ((i : Int)).toNat = i := by omega
      rw [hti]
      rw [hh] at HH
      clear hh h1 h2
      go_enter Try.func16, Try.ntmps16
      go_wp2_with fail
      refine HH.out.mono ?_
      rintro e w' ⟨rfl, rfl⟩
      go_wp2_with fail
      go_ret2
      exact ⟨rfl, rfl⟩
    · have hh' : hasD d k = false := by simpa using hh
      have e : Hid (readD d k = ([], 20)) := Lib.hid (by rw [HR.out]; simp [hh'])
      rw [e.out]
      rw [hh'] at HH
      clear hh hh'
      go_enter Try.func16, Try.ntmps16
      go_wp2_with fail
      refine HH.out.mono ?_
      rintro e w' ⟨rfl, rfl⟩
      go_wp2_with fail
      go_ret2
      exact ⟨rfl, rfl⟩
  · rw [hd] at c4 HR
    have e : Hid (readD d k = ([], 2)) := Lib.hid (by rw [HR.out]; rfl)
    rw [e.out]
    go_enter Try.func16, Try.ntmps16
    go_wp2
    go_ret2
    exact ⟨rfl, rfl⟩
end
end Go.Proofs.Ytmfngbgdmlnlcaa
