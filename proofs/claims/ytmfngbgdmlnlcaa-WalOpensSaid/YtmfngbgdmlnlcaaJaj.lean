/- Format of a disk that does not die. -/
import Derived.Test.YtmfngbgdmlnlcaaJai
import Derived.Test.YtmfngbgdmlnlcaaJp
namespace Go.Proofs.Ytmfngbgdmlnlcaa
open Go.ChangeShapes Go.WideShapes Go.ChangeAt Go.RowKit
set_option linter.unusedVariables false
set_option linter.unusedSimpArgs false
set_option maxRecDepth 100000 in
set_option maxHeartbeats 1000000 in
theorem format_door {eb pb : Nat} {w : World} (he : w.cell? ⟨eb, 0, none⟩ = some (.int .i64 0)) (u : FrameMode) :
    CallsD Try.prog 31 #[.pointer (some ⟨eb, 0, none⟩), .pointer (some ⟨pb, 0, none⟩)] u w fun e u' w' => u' = u ∧ e = .returned (.tuple #[]) ∧ w = w' := by
  go_enter_d Try.func31, Try.ntmps31
  go_wp2
  go_end0
  exact ⟨rfl, rfl⟩
def log0 : LSt := ⟨⟨0, 0, 0, 0, 0, 0⟩, [], 0, false⟩
def forD (d : DSt) : DSt := (advD log0 (writeD d 0 zeros).1).1
theorem Wl.born {Z : Nat → Prop} {w : World} {lb db sb mb nn : Nat} {d : DSt} (hD : DAt w db sb mb nn d) (hl : w.heap[lb]? = some (.cells (log0.cells db (.slice none 0 0)).toArray 75 (0, 0))) (hz : ∀ k, DB db sb mb k → Z k) (hzl : Z lb) (hno : ¬ DB db sb mb lb) (hn : ∀ k, w.heap.size ≤ k → Z k) : Wl Z w lb db log0 d :=
  ⟨sb, mb, nn, _, hD, ⟨hl, World.ownsRow_nil _ _ _ _⟩, ⟨hzl, hz, fun k hk => by simp [Value.ownBlock] at hk⟩, hno, hn⟩
theorem last_at (W : World) (o : Obj) (k : Nat) (h : k = W.heap.size) : (W.alloc o).heap[k]? = some o := by subst h; exact heap_alloc_last W o
/-- the boxes of the two results -/
structure Bx (w : World) (pb eb lb : Nat) : Prop where
  p : w.heap[pb]? = some (.cells [.pointer (some ⟨lb, 0, none⟩)].toArray 34 (0, 0))
  e : w.heap[eb]? = some (.cells [.int .i64 0].toArray 25 (0, 0))
theorem Bx.kept {X : Nat → Prop} {w w' : World} {pb eb lb : Nat} (h : Bx w pb eb lb) (hk : Kept X w w') (h1 : ¬ X pb) (h2 : ¬ X eb) : Bx w' pb eb lb :=
  ⟨by rw [hk.block pb (lt_of_block h.p) h1]; exact h.p, by rw [hk.block eb (lt_of_block h.e) h2]; exact h.e⟩
theorem Bx.four {w : World} {pb eb lb : Nat} (h : Bx w pb eb lb) : w.cell? ⟨pb, 0, none⟩ = some (.pointer (some ⟨lb, 0, none⟩)) ∧ w.cell? ⟨eb, 0, none⟩ = some (.int .i64 0) ∧ w.frozen? ⟨pb, 0, none⟩ = false ∧ w.frozen? ⟨eb, 0, none⟩ = false :=
  ⟨by rw [cell_of_row w pb 0 _ _ (0, 0) h.p]; rfl, by rw [cell_of_row w eb 0 _ _ (0, 0) h.e]; rfl, by unfold World.frozen?; rw [h.p]; rfl, by unfold World.frozen?; rw [h.e]; rfl⟩
theorem Bx.setp {w : World} {pb eb lb : Nat} (h : Bx w pb eb lb) (hne : pb ≠ eb) : Bx (w.setCell ⟨pb, 0, none⟩ (.pointer (some ⟨lb, 0, none⟩))) pb eb lb :=
  ⟨heap_set _ h.p, by rw [(kept_set w pb 0 _).block eb (lt_of_block h.e) (fun e => hne e.symm)]; exact h.e⟩
theorem Bx.sete {w : World} {pb eb lb : Nat} (h : Bx w pb eb lb) (hne : pb ≠ eb) : Bx (w.setCell ⟨eb, 0, none⟩ (.int .i64 0)) pb eb lb :=
  ⟨by rw [(kept_set w eb 0 _).block pb (lt_of_block h.p) hne]; exact h.p, heap_set _ h.e⟩
section
variable {Z Z' : Nat → Prop} {w w' : World} {lb db sb mb nn : Nat} {d d' : DSt}
set_option maxRecDepth 100000 in
set_option maxHeartbeats 4000000 in
theorem format_go (hD : DAt w db sb mb nn d) (hz : ∀ k, DB db sb mb k → Z k) (hn : ∀ k, w.heap.size ≤ k → Z k) (hd : d.dead = false) (hleft : d.left = 0) (ha : d.acts < 1000000) :
    Calls Try.prog 12 #[.pointer (some ⟨db, 0, none⟩)] w fun e w' => ∃ lb, 
    e = .returned (.tuple #[.pointer (some ⟨lb, 0, none⟩), .int .i64 0]) ∧ Wl Z w' lb db log0.bump (forD d) ∧ w.heap.size ≤ lb ∧ Kept Z w w' := by
  have hmf : ∀ (fn : Fn) (first cap : Array Value) (w : World), (Instr.makeFunc fn first cap).run Try.prog w = .ok (.func fn first cap) w := fun _ _ _ _ => rfl
  have hlt := hD.inn
  obtain ⟨pb, hpb⟩ : ∃ pb, w.heap.size = pb := ⟨_, rfl⟩
  have h1 : ∃ W, (((w.alloc (.cells #[.pointer (some ⟨w.heap.size + 1 + 1, 0, none⟩)] 34)).alloc (.cells #[.int .i64 0] 25)).alloc (.cells #[.pointer (some ⟨db, 0, none⟩), .int .i64 0, .int .i64 0, .int .i64 0, .int .i64 0, .int .i64 0, .int .i64 0, .slice none 0 0, .int .i64 0, .bool false] 75)) = W := ⟨_, rfl⟩
  obtain ⟨W, hW⟩ := h1
  have hkW : Kept (fun _ => False) w W := by rw [← hW]; exact (((Kept.refl _ w).alloc _).alloc _).alloc _
  have hWs : W.heap.size = pb + 3 := by rw [← hW, ← hpb]; simp
  have hwl : Wl (fun k => Z k ∧ k ≠ pb ∧ k ≠ pb + 1) W (pb + 1 + 1) db log0 d := by
    refine Wl.born (hD.kept hkW (fun _ _ f => f)) ?_ (fun k hk => ⟨hz k hk, ?_, ?_⟩) ⟨hn _ (by omega), by omega, by omega⟩ (fun hk => ?_) (fun k hk => ⟨hn k (by omega), by omega, by omega⟩)
    · rw [← hW, ← hpb]
      exact last_at _ _ _ (by simp)
    · have := hlt k hk; omega
    · have := hlt k hk; omega
    · have := hlt _ hk; omega
  have hbx : Bx W pb (pb + 1) (pb + 1 + 1) := by
    rw [← hW, ← hpb]
    refine ⟨?_, ?_⟩
    · rw [Below.heap_alloc _ _ _ (by simp; omega), Below.heap_alloc _ _ _ (by simp)]
      exact heap_alloc_new w _
    · rw [Below.heap_alloc _ _ _ (by simp)]
      have := heap_alloc_last (w.alloc (.cells #[.pointer (some ⟨w.heap.size + 1 + 1, 0, none⟩)] 34)) (.cells #[.int .i64 0] 25)
      simpa using this
  have hn0 : 0 < d.n := by have := hD.lo; omega
  obtain ⟨x1, x2, x3, x4, x5, x6⟩ := writeD_in (d := d) (k := 0) (s := zeros) hn0 (by simp [zeros]) hd
  obtain ⟨d1, hd1⟩ : ∃ d1, (writeD d 0 zeros).1 = d1 := ⟨_, rfl⟩
  have hv0 : (writeD d 0 zeros).2 = 0 := by
    have e : writeD d 0 zeros = writeD d ((0 : Nat) : Int) zeros := rfl
    rw [e, x4, (x5 hleft).2]; rfl
  have hl1 : d1.left = 0 ∧ d1.dead = false ∧ d1.acts = d.acts + 1 ∧ d1.n = d.n := by
    rw [← hd1]; exact ⟨(x5 hleft).1, (x5 hleft).2, x6, x3⟩
  have hk1 : 1 < d1.n := by have := hD.lo; omega
  have hadv : (advD log0 d1).2 = 0 := by
    obtain ⟨y1, y2, y3, y4, y5, y6⟩ := writeD_in (d := d1) (k := 1) (s := markL log0.bump.m) hk1 (markL_len _) hl1.2.1
    have e : advD log0 d1 = if (writeD d1 ((1 : Nat) : Int) (markL log0.bump.m)).2 = 0 then syncD (writeD d1 ((1 : Nat) : Int) (markL log0.bump.m)).1 else writeD d1 ((1 : Nat) : Int) (markL log0.bump.m) := rfl
    rw [e, y4, (y5 hl1.1).2]
    have sy := syncD_ok (y5 hl1.1).2
    rcases sy.v with ⟨s1, _⟩ | ⟨s1, _, s3, _⟩
    · simpa using s1
    · exact absurd (y5 hl1.1).1 s3
  have hfd : (advD log0 d1).1 = forD d := by rw [← hd1]; rfl
  have HF := Lib.hid hfd
  have HADV := Lib.hid hadv
  have HL1 : Hid (d1.acts < 4611686018427387902) := Lib.hid (by omega)
  have HV0 := Lib.hid hv0
  have HD1 := Lib.hid hd1
  have HKW : Hid (Kept Z w W) := Lib.hid (hkW.mono (fun _ _ f => f.elim))
  have HWL := Lib.hid hwl
  have HBX := Lib.hid hbx
  have HW := Lib.hid hW
  have HPB := Lib.hid hpb
  have HZ := Lib.hid hn
  have hacts : d.acts < 9223372036854775807 := by omega
  clear hD hz hn hkW hwl hbx hW hd1 hv0 hadv hfd x1 x2 x3 x4 x5 x6 hk1 hn0 hlt hWs hl1 hpb
  go_enter_defers Try.func12, Try.ntmps12
  go_wp2_with fail
  rw [HW.out, HPB.out]
  refine (blank_any 64 _ (by decide)).mono ?_
  rintro e w1 ⟨rfl, hk1⟩
  obtain ⟨sb2, mb2, nn2, rv2, hp⟩ := (HWL.out.kept0 hk1).open_
  have HBX1 := Lib.hid (HBX.out.kept hk1 id id)
  have HK1 := Lib.hid (HKW.out.trans (hk1.mono (fun _ _ f => f.elim)))
  have HP := Lib.hid hp
  clear hk1 hp HWL HBX HKW
  go_wp2_with fail
  refine (wr_any HP.out.d 0 _ (l := zeros) rfl HV0.out hacts).mono ?_
  rintro e w2 ⟨rfl, ⟨nn3, hd3⟩, hk2⟩
  rw [HD1.out] at hd3
  have HP2 := Lib.hid (HP.out.disk hk2 hd3)
  have HBX2 := Lib.hid (HBX1.out.kept hk2 (fun hh => (HP.out.b2 _ hh).2.1 rfl) (fun hh => (HP.out.b2 _ hh).2.2 rfl))
  have HK2 := Lib.hid (HK1.out.trans (hk2.mono (fun k _ hh => (HP.out.b2 k hh).1)))
  clear hk2 hd3 HP HBX1 HK1
  go_wp2_with fail
  have hp3 := HP2.out.kept0 ((Kept.refl _ w2).drew)
  have hb3 := HBX2.out.kept ((Kept.refl (fun _ => False) w2).drew) id id
  have hk3 : Kept Z w w2.drew := HK2.out.drew
  have hwl3 := hp3.close
  clear hp3
  obtain ⟨b1, b2, b3, b4⟩ := hb3.four
  go_region_held3 (fun w' => w'.cell? ⟨pb, 0, none⟩ = some (.pointer (some ⟨pb + 1 + 1, 0, none⟩)))
    (first | assumption | go_keep)
    ((go_at_call 33; refine (advance_any hwl3 (by constructor <;> decide) HL1.out).mono ?_; rw [HADV.out]; rintro e w5 ⟨rfl, hw5, hk5⟩; replace hb3 := hb3.kept hk5 (fun hh => hh.2.1 rfl) (fun hh => hh.2.2 rfl); replace hk3 := hk3.trans (hk5.mono (fun k _ hh => hh.1)); clear hk5 b1 b2 b3 b4; obtain ⟨b1, b2, b3, b4⟩ := hb3.four; have hb4 := hb3.setp (by omega); obtain ⟨b5, b6, b7, b8⟩ := hb4.four; have hb5 := hb4.sete (by omega); obtain ⟨b9, b10, b11, b12⟩ := hb5.four))
  all_goals (
    have HW9 := Lib.hid ((hw5.kept (kept_set w5 pb 0 (.pointer (some ⟨pb + 1 + 1, 0, none⟩))) (fun k hz e => hz.2.1 e)).kept (kept_set _ (pb + 1) 0 (.int .i64 0)) (fun k hz e => hz.2.2 e))
    have HK9 : Hid (Kept Z w ((w5.setCell ⟨pb, 0, none⟩ (.pointer (some ⟨pb + 1 + 1, 0, none⟩))).setCell ⟨pb + 1, 0, none⟩ (.int .i64 0))) := Lib.hid ((hk3.setCell (a := ⟨pb, 0, none⟩) (.inr (by have := HPB.out; show w.heap.size ≤ pb; omega)) _).setCell (a := ⟨pb + 1, 0, none⟩) (.inr (by have := HPB.out; show w.heap.size ≤ pb + 1; omega)) _)
    clear b1 b2 b3 b4 b5 b6 b7 b8 b9 b10 b11 b12 hb3 hb4 hk3 hw5 hwl3 HBX2 HP2
    generalize ((w5.setCell ⟨pb, 0, none⟩ (.pointer (some ⟨pb + 1 + 1, 0, none⟩))).setCell ⟨pb + 1, 0, none⟩ (.int .i64 0)) = w6 at hb5 HW9 HK9 ⊢
    go_wp2_with fail
    refine leaves_cons (f := 31) (args := #[.pointer (some ⟨pb + 1, 0, none⟩), .pointer (some ⟨pb, 0, none⟩)]) (by simp) (by simp [go_sem]) ?_
    refine (format_door hb5.four.2.1 .returning).mono ?_
    rintro e u' w7 ⟨rfl, rfl, rfl⟩
    obtain ⟨b1, b2, b3, b4⟩ := hb5.four
    simp [Leaves, settle, results, Try.results12, go_sem, b1, b2]
    refine ⟨?_, ?_, HK9.out⟩
    · rw [← HF.out]; exact HW9.out.mono (fun k hz => hz.1)
    · have := HPB.out; omega)
end
end Go.Proofs.Ytmfngbgdmlnlcaa
