/- The program's tracker and the document's, side by side: the law's do. -/
import Derived.Test.YtlfcccckghnffaaSo
import Derived.Test.YtlfcccckghnffaaSl
import Derived.Deep.RegionHeld3
namespace Go.Proofs.Ytlfcccckghnffaa
open Go.ChangeShapes Go.WideShapes Go.ChangeAt Go.RowKit Go.Maps
set_option linter.unusedVariables false
set_option linter.unusedSimpArgs false
structure PD (w : World) (q : SQ) (tr : Nat) (v : Value) (B : Nat) (L M : SL) (c : Nat) : Prop where
  a : SAt w q L c
  b : RD w tr v B M
  d : ∀ k, SQs q k → ¬ RBs tr v k
def PBs (q : SQ) (tr : Nat) (v : Value) : Nat → Prop := fun k => SQs q k ∨ RBs tr v k
section
variable {w w0 w' : World} {q q0 : SQ} {tr : Nat} {v v0 : Value} {B : Nat} {L M L' : SL} {c c' : Nat}
theorem PD.lt (h : PD w q tr v B L M c) : ∀ k, PBs q tr v k → k < w.heap.size := by
  rintro k (h1 | h1)
  · exact h.a.lt k h1
  · exact h.b.lt k h1
theorem PD.kept {X : Nat → Prop} (h : PD w q tr v B L M c) (hk : Kept X w w') (hx : ∀ k, PBs q tr v k → ¬ X k) : PD w' q tr v B L M c :=
  ⟨h.a.kept hk (fun k h1 => hx k (.inl h1)), h.b.kept hk (fun k h1 => hx k (.inr h1)), h.d⟩
theorem PD.kept0 (h : PD w q tr v B L M c) (hk : Kept (fun _ => False) w w') : PD w' q tr v B L M c := h.kept hk (fun _ _ f => f)
theorem PD.mono (h : PD w q tr v B L M c) (hc : c ≤ c') : PD w q tr v B L M c' := ⟨h.a.mono hc, h.b, h.d⟩
/-- the pair, as it is behind some calls -/
def PMoved (w0 : World) (q0 : SQ) (tr : Nat) (v0 : Value) (L M : SL) (c : Nat) (w : World) : Prop :=
  ∃ q v B, PD w q tr v B L M c ∧ q.t = q0.t ∧ (∀ k, PBs q tr v k → PBs q0 tr v0 k ∨ w0.heap.size ≤ k) ∧ Kept (PBs q0 tr v0) w0 w
theorem PD.left (h : PD w q tr v B L M c) (hm : Moved w q L' c' w') (hc : c ≤ c') : PMoved w q tr v L' M c' w' := by
  obtain ⟨q', h1, h2, h3, h4⟩ := hm
  have hlt := h.b.lt
  refine ⟨q', v, B, ⟨h1, h.b.kept h4 (fun k hk hq => h.d k hq hk), fun k hk hr => ?_⟩, h2, ?_, h4.mono (fun k _ hk => .inl hk)⟩
  · rcases h3 k hk with h5 | h5
    · exact h.d k h5 hr
    · have := hlt k hr; omega
  · rintro k (hk | hk)
    · rcases h3 k hk with h5 | h5
      · exact .inl (.inl h5)
      · exact .inr h5
    · exact .inl (.inr hk)
theorem PD.right (h : PD w q tr v B L M c) (hm : RMoved w tr v L' w') : PMoved w q tr v L L' c w' := by
  obtain ⟨v', B', h1, h3, h4⟩ := hm
  have hlt := h.a.lt
  refine ⟨q, v', B', ⟨h.a.kept h4 (fun k hk hq => h.d k hk hq), h1, fun k hk hr => ?_⟩, rfl, ?_, h4.mono (fun k _ hk => .inr hk)⟩
  · rcases h3 k hr with h5 | h5
    · exact h.d k hk h5
    · have := hlt k hk; omega
  · rintro k (hk | hk)
    · exact .inl (.inl hk)
    · rcases h3 k hk with h5 | h5
      · exact .inl (.inr h5)
      · exact .inr h5
/-- beside the box of the call's own -/
structure Dx (w0 : World) (q0 : SQ) (tr : Nat) (v0 : Value) (s : St4) (L M : SL) (c : Nat) (w : World) : Prop where
  ex : ∃ q v B, PD w q tr v B L M c ∧ q.t = q0.t ∧ (∀ k, PBs q tr v k → PBs q0 tr v0 k ∨ w0.heap.size ≤ k) ∧ Kept (PBs q0 tr v0) w0 w ∧ ¬ PBs q tr v w0.heap.size
  box : w.heap[w0.heap.size]? = some (.cells #[.int .i64 s.what, .int .i64 s.id, .int .i64 s.to, .int .i64 s.now] 31 (0, 0))
theorem four_cells {b : Nat} {s : St4} {T : TypeId} (hb : w.heap[b]? = some (.cells #[.int .i64 s.what, .int .i64 s.id, .int .i64 s.to, .int .i64 s.now] T (0, 0))) : w.cell? ⟨b, 0, none⟩ = some (.int .i64 s.what) ∧ w.cell? ⟨b, 1, none⟩ = some (.int .i64 s.id) ∧ w.cell? ⟨b, 2, none⟩ = some (.int .i64 s.to) ∧ w.cell? ⟨b, 3, none⟩ = some (.int .i64 s.now) := by
  refine ⟨?_, ?_, ?_, ?_⟩ <;> simp [World.cell?, hb]
variable {s : St4}
theorem Dx.four (h : Dx w0 q0 tr v0 s L M c w) : w.cell? ⟨w0.heap.size, 0, none⟩ = some (.int .i64 s.what) ∧ w.cell? ⟨w0.heap.size, 1, none⟩ = some (.int .i64 s.id) ∧ w.cell? ⟨w0.heap.size, 2, none⟩ = some (.int .i64 s.to) ∧ w.cell? ⟨w0.heap.size, 3, none⟩ = some (.int .i64 s.now) := four_cells h.box
theorem Dx.mk0 (h : PD w0 q0 tr v0 B L M c) : Dx w0 q0 tr v0 s L M c (w0.alloc (.cells #[.int .i64 s.what, .int .i64 s.id, .int .i64 s.to, .int .i64 s.now] 31)) :=
  ⟨⟨q0, v0, B, h.kept0 ((Kept.refl _ w0).alloc _), rfl, fun k hk => .inl hk, (Kept.refl _ w0).alloc _, fun hx => by have := h.lt _ hx; omega⟩, World.alloc_heap_new w0 _⟩
theorem Dx.kept0 (h : Dx w0 q0 tr v0 s L M c w) (hk : Kept (fun _ => False) w w') : Dx w0 q0 tr v0 s L M c w' := by
  obtain ⟨q, v, B, h1, h2, h3, h4, h5⟩ := h.ex
  exact ⟨⟨q, v, B, h1.kept0 hk, h2, h3, h4.trans (hk.mono (fun _ _ f => f.elim)), h5⟩, by rw [hk.block _ (lt_of_block h.box) (fun f => f)]; exact h.box⟩
theorem Dx.drew (h : Dx w0 q0 tr v0 s L M c w) : Dx w0 q0 tr v0 s L M c w.drew := h.kept0 ((Kept.refl _ w).drew)
theorem Dx.go (h : Dx w0 q0 tr v0 s L M c w) {M' : SL} {q : SQ} {v : Value} {B : Nat} (h1 : PD w q tr v B L M c) (h2 : q.t = q0.t) (h3 : ∀ k, PBs q tr v k → PBs q0 tr v0 k ∨ w0.heap.size ≤ k) (h4 : Kept (PBs q0 tr v0) w0 w) (h5 : ¬ PBs q tr v w0.heap.size) (hm : PMoved w q tr v L' M' c' w') : Dx w0 q0 tr v0 s L' M' c' w' := by
  obtain ⟨q', v', B', g1, g2, g3, g4⟩ := hm
  have hb := lt_of_block h.box
  refine ⟨⟨q', v', B', g1, g2.trans h2, fun k hk => ?_, h4.trans' g4 (fun k hk hp => ?_), fun hx => ?_⟩, by rw [g4.block _ hb h5]; exact h.box⟩
  · rcases g3 k hk with h6 | h6
    · exact h3 k h6
    · have := h4.size; exact .inr (by omega)
  · rcases h3 k hp with h6 | h6
    · exact h6
    · omega
  · rcases g3 _ hx with h6 | h6
    · exact h5 h6
    · omega
theorem dx_touch (h : Dx w0 q0 tr v0 s L M c w) (i now : Int) (hi : I64 i) (hc : c < 4611686018427387904) {a : Int} (ha : touchE L i now = a) :
    Calls Try.prog 19 #[.pointer (some ⟨q0.t, 0, none⟩), .int .i64 i, .int .i64 now] w fun e w' => e = .returned (.int .i64 a) ∧ Dx w0 q0 tr v0 s (touchL L i now) M (c + 1) w' := by
  obtain ⟨q, v, B, h1, h2, h3, h4, h5⟩ := h.ex
  rw [← h2, ← ha]
  exact (touch_any h1.a i now hi hc).mono fun e w' ⟨he, hm⟩ => ⟨he, h.go h1 h2 h3 h4 h5 (h1.left hm (Nat.le_succ c))⟩
theorem dx_close (h : Dx w0 q0 tr v0 s L M c w) (i : Int) (hi : I64 i) {a : Int} (ha : closeE L i = a) :
    Calls Try.prog 20 #[.pointer (some ⟨q0.t, 0, none⟩), .int .i64 i] w fun e w' => e = .returned (.int .i64 a) ∧ Dx w0 q0 tr v0 s (delL L i) M c w' := by
  obtain ⟨q, v, B, h1, h2, h3, h4, h5⟩ := h.ex
  rw [← h2, ← ha]
  exact (close_any h1.a i hi).mono fun e w' ⟨he, hm⟩ => ⟨he, h.go h1 h2 h3 h4 h5 (h1.left hm (Nat.le_refl c))⟩
theorem dx_open (h : Dx w0 q0 tr v0 s L M c w) (i to now : Int) (hi : I64 i) (hc : c < 4611686018427387904) {a : Int} (ha : openE L i to now = a) :
    Calls Try.prog 18 #[.pointer (some ⟨q0.t, 0, none⟩), .int .i64 i, .int .i64 to, .int .i64 now] w fun e w' => e = .returned (.int .i64 a) ∧ Dx w0 q0 tr v0 s (openL L i to now) M (c + 1) w' := by
  obtain ⟨q, v, B, h1, h2, h3, h4, h5⟩ := h.ex
  rw [← h2, ← ha]
  exact (open_any h1.a i to now hi hc).mono fun e w' ⟨he, hm⟩ => ⟨he, h.go h1 h2 h3 h4 h5 (h1.left hm (Nat.le_succ c))⟩
theorem dx_rtouch (h : Dx w0 q0 tr v0 s L M c w) (i now : Int) {a : Int} (ha : touchE M i now = a) :
    Calls Try.prog 21 #[.pointer (some ⟨tr, 0, none⟩), .int .i64 i, .int .i64 now] w fun e w' => e = .returned (.int .i64 a) ∧ Dx w0 q0 tr v0 s L (touchL M i now) c w' := by
  obtain ⟨q, v, B, h1, h2, h3, h4, h5⟩ := h.ex
  rw [← ha]
  exact (rtouch_any h1.b i now).mono fun e w' ⟨he, hm⟩ => ⟨he, h.go h1 h2 h3 h4 h5 (h1.right hm)⟩
theorem dx_rclose (h : Dx w0 q0 tr v0 s L M c w) (i : Int) {a : Int} (ha : closeE M i = a) :
    Calls Try.prog 22 #[.pointer (some ⟨tr, 0, none⟩), .int .i64 i] w fun e w' => e = .returned (.int .i64 a) ∧ Dx w0 q0 tr v0 s L (delL M i) c w' := by
  obtain ⟨q, v, B, h1, h2, h3, h4, h5⟩ := h.ex
  rw [← ha]
  exact (rclose_any h1.b i).mono fun e w' ⟨he, hm⟩ => ⟨he, h.go h1 h2 h3 h4 h5 (h1.right hm)⟩
theorem dx_ropen (h : Dx w0 q0 tr v0 s L M c w) (i to now : Int) {a : Int} (ha : openE M i to now = a) :
    Calls Try.prog 23 #[.pointer (some ⟨tr, 0, none⟩), .int .i64 i, .int .i64 to, .int .i64 now] w fun e w' => e = .returned (.int .i64 a) ∧ Dx w0 q0 tr v0 s L (openL M i to now) c w' := by
  obtain ⟨q, v, B, h1, h2, h3, h4, h5⟩ := h.ex
  rw [← ha]
  exact (ropen_any h1.b i to now).mono fun e w' ⟨he, hm⟩ => ⟨he, h.go h1 h2 h3 h4 h5 (h1.right hm)⟩
def doL (s : St4) (L : SL) : SL := if absN s.what % 5 = 2 ∨ absN s.what % 5 = 3 then touchL L s.id s.now else if absN s.what % 5 = 4 then delL L s.id else openL L s.id s.to s.now
def DoPost (w0 : World) (q0 : SQ) (tr : Nat) (v0 : Value) (L : SL) (c : Nat) (e : Ending) (w : World) : Prop := e = .returned (.bool true) ∧ PMoved w0 q0 tr v0 L L c w
theorem Dx.post (h : Dx w0 q0 tr v0 s L M c w) (hL : L = L') (hM : M = L') (hc : c ≤ c') {b : Bool} (hb : b = true) : DoPost w0 q0 tr v0 L' c' (.returned (.bool b)) w := by
  obtain ⟨q, v, B, h1, h2, h3, h4, h5⟩ := h.ex
  subst hL; subst hM; subst hb
  exact ⟨rfl, q, v, B, h1.mono hc, h2, h3, h4⟩
set_option maxRecDepth 100000 in
set_option maxHeartbeats 4000000 in
theorem do_touch (h : PD w q0 tr v0 B L L c) (s : St4) (h64 : I64 s.what ∧ I64 s.id ∧ I64 s.to ∧ I64 s.now) (hc : c < 4611686018427387904) (hw : absN s.what % 5 = 2 ∨ absN s.what % 5 = 3) :
    Calls Try.prog 10 #[.pointer (some ⟨q0.t, 0, none⟩), .pointer (some ⟨tr, 0, none⟩), .agg #[.int .i64 s.what, .int .i64 s.id, .int .i64 s.to, .int .i64 s.now]] w (DoPost w q0 tr v0 (doL s L) (c + 1)) := by
  have HL : Hid (doL s L = touchL L s.id s.now) := Lib.hid (by unfold doL; rw [if_pos hw])
  rw [HL.out]
  obtain ⟨a, ha⟩ : ∃ a, touchE L s.id s.now = a := ⟨_, rfl⟩
  have HA := Lib.hid ha
  have HDX := Lib.hid (Dx.mk0 (s := s) h)
  have hi := h64.2.1
  have HI := Lib.hid hi
  clear ha h hi
  have HP : Hid (∀ V, Calls Try.prog 9 #[.int .i64 s.what, .int .i64 5] V fun e w' => (e = .returned (.int .i64 2) ∨ e = .returned (.int .i64 3)) ∧ V = w') := Lib.hid (fun V => by
    rcases hw with h | h
    · exact (pick_nat s.what 5 V h64.1 (by decide) (by decide) h).mono fun e w' ⟨h1, h2⟩ => ⟨.inl h1, h2⟩
    · exact (pick_nat s.what 5 V h64.1 (by decide) (by decide) h).mono fun e w' ⟨h1, h2⟩ => ⟨.inr h1, h2⟩)
  clear h64 hw
  go_enter Try.func10, Try.ntmps10
  go_wp2_with fail
  refine (HP.out _).mono ?_
  generalize w.alloc _ = wb at HDX ⊢
  rintro e w5 ⟨rfl | rfl, rfl⟩
  all_goals
    obtain ⟨y0, y1, y2, y3⟩ := HDX.out.four
    have hd0 := HDX.out.drew
    have hd1 := HDX.out
    go_wp2_with fail
    go_region_held3 (fun w' => w'.cell? ⟨w.heap.size, 1, none⟩ = some (.int .i64 s.id) ∧ w'.cell? ⟨w.heap.size, 3, none⟩ = some (.int .i64 s.now)) (first | assumption | go_keep | exact ⟨(Dx.four (by assumption)).2.1, (Dx.four (by assumption)).2.2.2⟩)
      (first
        | (go_at_call 19; refine (dx_touch (by assumption) _ _ HI.out hc HA.out).mono ?_; rintro e w6 ⟨rfl, hp6⟩)
        | (go_at_call 21; refine (dx_rtouch (by assumption) _ _ HA.out).mono ?_; rintro e w6 ⟨rfl, hp6⟩))
    all_goals go_wp2_with fail
    all_goals go_ret
    all_goals exact Dx.post (by assumption) rfl rfl (Nat.le_refl _) (by simp)
set_option maxRecDepth 100000 in
set_option maxHeartbeats 4000000 in
theorem do_close (h : PD w q0 tr v0 B L L c) (s : St4) (h64 : I64 s.what ∧ I64 s.id ∧ I64 s.to ∧ I64 s.now) (hw : absN s.what % 5 = 4) :
    Calls Try.prog 10 #[.pointer (some ⟨q0.t, 0, none⟩), .pointer (some ⟨tr, 0, none⟩), .agg #[.int .i64 s.what, .int .i64 s.id, .int .i64 s.to, .int .i64 s.now]] w (DoPost w q0 tr v0 (doL s L) (c + 1)) := by
  have HL : Hid (doL s L = delL L s.id) := Lib.hid (by unfold doL; rw [if_neg (by omega), if_pos hw])
  rw [HL.out]
  obtain ⟨a, ha⟩ : ∃ a, closeE L s.id = a := ⟨_, rfl⟩
  have HA := Lib.hid ha
  have HDX := Lib.hid (Dx.mk0 (s := s) h)
  have hi := h64.2.1
  have HI := Lib.hid hi
  clear ha h hi
  have HP := Lib.hid (fun V => pick_nat s.what 5 V h64.1 (by decide) (by decide) hw)
  clear h64 hw
  go_enter Try.func10, Try.ntmps10
  go_wp2_with fail
  refine (HP.out _).mono ?_
  generalize w.alloc _ = wb at HDX ⊢
  rintro e w5 ⟨rfl, rfl⟩
  all_goals
    obtain ⟨y0, y1, y2, y3⟩ := HDX.out.four
    have hd0 := HDX.out.drew
    have hd1 := HDX.out
    go_wp2_with fail
    go_region_held3 (fun w' => w'.cell? ⟨w.heap.size, 1, none⟩ = some (.int .i64 s.id)) (first | assumption | go_keep | exact (Dx.four (by assumption)).2.1)
      (first
        | (go_at_call 20; refine (dx_close (by assumption) _ HI.out HA.out).mono ?_; rintro e w6 ⟨rfl, hp6⟩)
        | (go_at_call 22; refine (dx_rclose (by assumption) _ HA.out).mono ?_; rintro e w6 ⟨rfl, hp6⟩))
    all_goals go_wp2_with fail
    all_goals go_ret
    all_goals exact Dx.post (by assumption) rfl rfl (Nat.le_succ _) (by simp)
set_option maxRecDepth 100000 in
set_option maxHeartbeats 4000000 in
theorem do_open (h : PD w q0 tr v0 B L L c) (s : St4) (h64 : I64 s.what ∧ I64 s.id ∧ I64 s.to ∧ I64 s.now) (hc : c < 4611686018427387904) (hw : absN s.what % 5 = 0 ∨ absN s.what % 5 = 1) :
    Calls Try.prog 10 #[.pointer (some ⟨q0.t, 0, none⟩), .pointer (some ⟨tr, 0, none⟩), .agg #[.int .i64 s.what, .int .i64 s.id, .int .i64 s.to, .int .i64 s.now]] w (DoPost w q0 tr v0 (doL s L) (c + 1)) := by
  have HL : Hid (doL s L = openL L s.id s.to s.now) := Lib.hid (by unfold doL; rw [if_neg (by omega), if_neg (by omega)])
  rw [HL.out]
  obtain ⟨a, ha⟩ : ∃ a, openE L s.id s.to s.now = a := ⟨_, rfl⟩
  have HA := Lib.hid ha
  have HDX := Lib.hid (Dx.mk0 (s := s) h)
  have hi := h64.2.1
  have HI := Lib.hid hi
  clear ha h hi
  have HP : Hid (∀ V, Calls Try.prog 9 #[.int .i64 s.what, .int .i64 5] V fun e w' => (e = .returned (.int .i64 0) ∨ e = .returned (.int .i64 1)) ∧ V = w') := Lib.hid (fun V => by
    rcases hw with h | h
    · exact (pick_nat s.what 5 V h64.1 (by decide) (by decide) h).mono fun e w' ⟨h1, h2⟩ => ⟨.inl h1, h2⟩
    · exact (pick_nat s.what 5 V h64.1 (by decide) (by decide) h).mono fun e w' ⟨h1, h2⟩ => ⟨.inr h1, h2⟩)
  clear h64 hw
  go_enter Try.func10, Try.ntmps10
  go_wp2_with fail
  refine (HP.out _).mono ?_
  generalize w.alloc _ = wb at HDX ⊢
  rintro e w5 ⟨rfl | rfl, rfl⟩
  all_goals
    obtain ⟨y0, y1, y2, y3⟩ := HDX.out.four
    have hd0 := HDX.out.drew
    have hd1 := HDX.out
    go_wp2_with fail
    go_region_held3 (fun w' => w'.cell? ⟨w.heap.size, 1, none⟩ = some (.int .i64 s.id) ∧ w'.cell? ⟨w.heap.size, 2, none⟩ = some (.int .i64 s.to) ∧ w'.cell? ⟨w.heap.size, 3, none⟩ = some (.int .i64 s.now)) (first | assumption | go_keep | exact (Dx.four (by assumption)).2)
      (first
        | (go_at_call 18; refine (dx_open (by assumption) _ _ _ HI.out hc HA.out).mono ?_; rintro e w6 ⟨rfl, hp6⟩)
        | (go_at_call 23; refine (dx_ropen (by assumption) _ _ _ HA.out).mono ?_; rintro e w6 ⟨rfl, hp6⟩))
    all_goals go_wp2_with fail
    all_goals go_ret
    all_goals exact Dx.post (by assumption) rfl rfl (Nat.le_refl _) (by simp)
theorem do_any (h : PD w q0 tr v0 B L L c) (s : St4) (h64 : I64 s.what ∧ I64 s.id ∧ I64 s.to ∧ I64 s.now) (hc : c < 4611686018427387904) :
    Calls Try.prog 10 #[.pointer (some ⟨q0.t, 0, none⟩), .pointer (some ⟨tr, 0, none⟩), .agg #[.int .i64 s.what, .int .i64 s.id, .int .i64 s.to, .int .i64 s.now]] w (DoPost w q0 tr v0 (doL s L) (c + 1)) := by
  rcases (show (absN s.what % 5 = 2 ∨ absN s.what % 5 = 3) ∨ absN s.what % 5 = 4 ∨ (absN s.what % 5 = 0 ∨ absN s.what % 5 = 1) by omega) with hw | hw | hw
  · exact do_touch h s h64 hc hw
  · exact do_close h s h64 hw
  · exact do_open h s h64 hc hw
end
end Go.Proofs.Ytlfcccckghnffaa
