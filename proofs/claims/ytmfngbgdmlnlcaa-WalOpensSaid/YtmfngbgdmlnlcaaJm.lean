/- The next mark is written, and the disk synced. -/
import Derived.Test.YtmfngbgdmlnlcaaJk
namespace Go.Proofs.Ytmfngbgdmlnlcaa
open Go.ChangeShapes Go.WideShapes Go.ChangeAt Go.RowKit
set_option linter.unusedVariables false
set_option linter.unusedSimpArgs false

theorem LgAt.range {w : World} {lb db : Nat} {rv : Value} {g : LSt} (h : LgAt w lb db rv g) : w.rangeAt lb 1 g.m.cells := fun j v hj => by
  rw [h.cell (1 + j)]
  have : j < 6 := (List.getElem?_eq_some_iff.1 hj).1
  match j, this with
  | 0, _ | 1, _ | 2, _ | 3, _ | 4, _ | 5, _ => exact hj
theorem LgAt.kept {w w' : World} {lb db : Nat} {rv : Value} {g : LSt} {Y : Nat → Prop} (h : LgAt w lb db rv g) (hk : Kept Y w w') (h1 : ¬ Y lb) (h2 : ∀ k, rv.ownBlock = some k → ¬ Y k) : LgAt w' lb db rv g :=
  ⟨by rw [hk.block lb (lt_of_block h.at_) h1]; exact h.at_, rowOwn h.row hk h2⟩
theorem LgAt.own_ne {w : World} {lb db : Nat} {rv : Value} {g : LSt} (h : LgAt w lb db rv g) {b : Nat} {cs : Array Value} {T : TypeId} {fr : Nat × Nat} (hb : w.heap[b]? = some (.cells cs T fr)) (hT : T ≠ 9) : rv.ownBlock ≠ some b :=
  Lib.ownBlock_ne h.row hb hT
/-- a store into the log itself -/
theorem LgAt.set {w : World} {lb db : Nat} {rv : Value} {g g' : LSt} (h : LgAt w lb db rv g) (i : Nat) (v : Value) (hc : (g.cells db rv).set i v = g'.cells db rv) (hr : g'.recs = g.recs) : LgAt (w.setCell ⟨lb, i, none⟩ v) lb db rv g' := by
  have hk := kept_set w lb i v
  refine ⟨by rw [← hc]; exact heap_set _ h.at_, ?_⟩
  rw [hr]
  refine ⟨h.row.1, ?_⟩
  rcases h.row.2 with hx | ⟨gg, cap, cur, rfl, hb, hh, r⟩
  · exact .inl hx
  · have hne : gg ≠ lb := fun e => h.own_ne h.at_ (by decide) (by rw [← e]; rfl)
    exact .inr ⟨gg, cap, cur, rfl, hb, by rw [hk.block gg (lt_of_block hh) hne]; exact hh, r⟩
def LSt.bump (g : LSt) : LSt := { g with m := { g.m with c := g.m.c + 1 } }
def advD (g : LSt) (d : DSt) : DSt × Int :=
  if (writeD d ((g.bump.m.c % 2 : Nat) : Int) (markL g.bump.m)).2 = 0 then syncD (writeD d ((g.bump.m.c % 2 : Nat) : Int) (markL g.bump.m)).1 else writeD d ((g.bump.m.c % 2 : Nat) : Int) (markL g.bump.m)

/-- a log whose parts are named -/
structure Wp (Z : Nat → Prop) (w : World) (lb db sb mb nn : Nat) (rv : Value) (g : LSt) (d : DSt) : Prop where
  d : DAt w db sb mb nn d
  l : LgAt w lb db rv g
  b1 : Z lb
  b2 : ∀ k, DB db sb mb k → Z k
  b3 : ∀ k, rv.ownBlock = some k → Z k
  ap : ¬ DB db sb mb lb
  ow : ∀ k, DB db sb mb k → rv.ownBlock ≠ some k
  nw : ∀ k, w.heap.size ≤ k → Z k
section
variable {Z : Nat → Prop} {w w' : World} {lb db sb mb nn : Nat} {rv : Value} {g g' : LSt} {d d' : DSt}
theorem OldAt.isMap {O : Nat → Option (List UInt8)} (h : OldAt w mb nn O) : ∃ a c, w.heap[mb]? = some (.map a c) := by
  obtain ⟨D, ⟨es, clock, hb, r⟩, _, _⟩ := h.ex
  exact ⟨_, _, hb⟩
theorem Wl.open_ (h : Wl Z w lb db g d) : ∃ sb mb nn rv, Wp Z w lb db sb mb nn rv g d := by
  obtain ⟨sb, mb, nn, rv, hD, hL, hBB, hN, hNW⟩ := h.ex
  refine ⟨sb, mb, nn, rv, hD, hL, hBB.1, hBB.2.1, hBB.2.2, hN, ?_, hNW⟩
  rintro k (e1 | e1 | e1)
  · rw [e1]; exact hL.own_ne hD.at_ (by decide)
  · rw [e1]; exact hL.own_ne hD.sec.at_ (by decide)
  · rw [e1]
    intro e
    obtain ⟨a, c, hm⟩ := hD.old.isMap
    rcases hL.row.2 with ⟨hv, _⟩ | ⟨gg, cap, cur, hv, hb, hh, r⟩
    · rw [hv] at e; cases e
    · have e2 : gg = mb := by rw [hv] at e; simpa [Value.ownBlock] using e
      rw [e2, hm] at hh; cases hh
theorem Wp.close (h : Wp Z w lb db sb mb nn rv g d) : Wl Z w lb db g d := ⟨sb, mb, nn, rv, h.d, h.l, ⟨h.b1, h.b2, h.b3⟩, h.ap, h.nw⟩
theorem Wp.kept0 (h : Wp Z w lb db sb mb nn rv g d) (hk : Kept (fun _ => False) w w') : Wp Z w' lb db sb mb nn rv g d :=
  ⟨h.d.kept hk (fun _ _ f => f), h.l.kept hk id (fun _ _ f => f), h.b1, h.b2, h.b3, h.ap, h.ow, fun k hk' => h.nw k (Nat.le_trans hk.size hk')⟩
/-- the disk has turned -/
theorem Wp.disk {nn' : Nat} (h : Wp Z w lb db sb mb nn rv g d) (hk : Kept (DB db sb mb) w w') (hd : DAt w' db sb mb nn' d') : Wp Z w' lb db sb mb nn' rv g d' :=
  ⟨hd, h.l.kept hk h.ap (fun k hr hy => h.ow k hy hr), h.b1, h.b2, h.b3, h.ap, h.ow, fun k hk' => h.nw k (Nat.le_trans hk.size hk')⟩
/-- the log has turned -/
theorem Wp.log (h : Wp Z w lb db sb mb nn rv g d) (i : Nat) (v : Value) (hc : (g.cells db rv).set i v = g'.cells db rv) (hr : g'.recs = g.recs) : Wp Z (w.setCell ⟨lb, i, none⟩ v) lb db sb mb nn rv g' d :=
  ⟨h.d.kept (kept_set w lb i v) (fun k hk e => by have e : k = lb := e; subst e; exact h.ap hk), h.l.set i v hc hr, h.b1, h.b2, h.b3, h.ap, h.ow, fun k hk' => h.nw k (Nat.le_trans (kept_set w lb i v).size hk')⟩
/-- the disk has been synced -/
theorem Wp.sync {mb' nn' : Nat} (h : Wp Z w lb db sb mb nn rv g d) (hk : Kept (fun k => k = db) w w') (hd : DAt w' db sb mb' nn' d') (hm : mb' = mb ∨ w.heap.size ≤ mb') : Wp Z w' lb db sb mb' nn' rv g d' := by
  have hl : LgAt w' lb db rv g := h.l.kept hk (fun e => h.ap (.inl e)) (fun k hr e => h.ow k (.inl e) hr)
  have hlt := lt_of_block h.l.at_
  refine ⟨hd, hl, h.b1, ?_, h.b3, ?_, ?_, fun k hk' => h.nw k (Nat.le_trans hk.size hk')⟩
  · rintro k (e | e | e)
    · exact h.b2 k (.inl e)
    · exact h.b2 k (.inr (.inl e))
    · rcases hm with hm | hm
      · exact h.b2 k (.inr (.inr (by rw [e, hm])))
      · exact h.nw k (by omega)
  · rintro (e | e | e)
    · exact h.ap (.inl e)
    · exact h.ap (.inr (.inl e))
    · rcases hm with hm | hm
      · exact h.ap (.inr (.inr (by rw [e, hm])))
      · omega
  · rintro k (e | e | e)
    · exact h.ow k (.inl e)
    · exact h.ow k (.inr (.inl e))
    · rcases hm with hm | hm
      · exact h.ow k (.inr (.inr (by rw [e, hm])))
      · intro hr; have := (h.l.row.lt k hr).2; omega
theorem Wp.keptB {Y : Nat → Prop} (h : Wp Z w lb db sb mb nn rv g d) (hk : Kept Y w w') (hY : ∀ k, Y k → DB db sb mb k ∨ k = lb) : Kept Z w w' :=
  hk.mono (fun k _ hy => (hY k hy).elim (h.b2 k) (fun e => by rw [e]; exact h.b1))
theorem Wp.seven (h : Wp Z w lb db sb mb nn rv g d) : w.cell? ⟨lb, 0, none⟩ = some (.pointer (some ⟨db, 0, none⟩)) ∧ w.cell? ⟨lb, 1, none⟩ = some (.int .i64 g.m.c) ∧ w.cell? ⟨lb, 2, none⟩ = some (.int .i64 g.m.ar) ∧ w.cell? ⟨lb, 3, none⟩ = some (.int .i64 g.m.le) ∧
    w.cell? ⟨lb, 4, none⟩ = some (.int .i64 g.m.nu) ∧ w.cell? ⟨lb, 5, none⟩ = some (.int .i64 g.m.a) ∧ w.cell? ⟨lb, 6, none⟩ = some (.int .i64 g.m.b) :=
  ⟨h.l.cell 0, h.l.cell 1, h.l.cell 2, h.l.cell 3, h.l.cell 4, h.l.cell 5, h.l.cell 6⟩

theorem actD_sameW (d : DSt) : (actD d).1.n = d.n ∧ (actD d).1.acts = d.acts + 1 := by
  unfold actD; split
  · exact ⟨rfl, rfl⟩
  · split <;> exact ⟨rfl, rfl⟩
theorem writeD_le (d : DSt) (k : Int) (s : List UInt8) : (writeD d k s).1.acts ≤ d.acts + 1 ∧ (writeD d k s).1.n = d.n := by
  unfold writeD
  split
  · exact ⟨by simp, rfl⟩
  · split
    · exact ⟨by simp, rfl⟩
    · obtain ⟨h1, h4⟩ := actD_sameW { d with S := upd d.S k.toNat s, O := if (d.O k.toNat).isSome then d.O else upd d.O k.toNat (some (d.S k.toNat)) }
      exact ⟨by rw [h4]; exact Nat.le_refl _, h1⟩
theorem syncD_le (d : DSt) : (syncD d).1.acts ≤ d.acts + 1 ∧ (syncD d).1.n = d.n := by
  unfold syncD
  obtain ⟨h1, h4⟩ := actD_sameW d
  split
  · exact ⟨by simp, rfl⟩
  · split
    · exact ⟨by show (actD d).1.acts ≤ _; omega, h1⟩
    · exact ⟨by show (actD d).1.acts ≤ _; omega, h1⟩
theorem wr_any (h : DAt w db sb mb nn d) (k : Int) (s : ByteArray) {l : List UInt8} (hl : s.data.toList = l) {v : Int} (hv : (writeD d k l).2 = v) (ha : d.acts < 9223372036854775807) : Calls Try.prog 7 #[.pointer (some ⟨db, 0, none⟩), .int .i64 k, .string s] w fun e w' =>
    e = .returned (.int .i64 v) ∧ (∃ nn', DAt w' db sb mb nn' (writeD d k l).1) ∧ Kept (DB db sb mb) w w' := by
  rw [← hv, ← hl]; exact write_any h k s ha
set_option maxRecDepth 100000 in
set_option maxHeartbeats 2000000 in
theorem advance_any (h : Wl Z w lb db g d) (hm : g.bump.m.Fits) (ha : d.acts < 4611686018427387902) : Calls Try.prog 33 #[.pointer (some ⟨lb, 0, none⟩)] w fun e w' =>
    e = .returned (.int .i64 (advD g d).2) ∧ Wl Z w' lb db g.bump (advD g d).1 ∧ Kept Z w w' := by
  obtain ⟨sb, mb, nn, rv, hW⟩ := h.open_
  have c1 : w.cell? ⟨lb, 1, none⟩ = some (.int .i64 g.m.c) := hW.l.cell 1
  have f1 : w.frozen? ⟨lb, 1, none⟩ = false := by simp [World.frozen?, hW.l.at_]
  have hc : g.m.c + 1 ≤ 9223372036854775807 := hm.c
  obtain ⟨c, hcc⟩ : ∃ c, g.m.c + 1 = c := ⟨_, rfl⟩
  have HC : Hid ((g.m.c : Int) + 1 = (c : Int)) := Lib.hid (by omega)
  have hset := hW.log (g' := g.bump) 1 (.int .i64 (c : Int)) (by rw [← hcc]; rfl) rfl
  have hkset : Kept Z w (w.setCell ⟨lb, 1, none⟩ (.int .i64 (c : Int))) := (kept_set w lb 1 _).mono (fun k _ e => by have e : k = lb := e; subst e; exact hW.b1)
  have HS := Lib.hid hset
  have HKS := Lib.hid hkset
  clear h hset hkset hW
  go_enter Try.func33, Try.ntmps33
  go_wp2_with fail
  rw [HC.out]
  have hs := HS.out
  have hks := HKS.out
  generalize w.setCell ⟨lb, 1, none⟩ (.int .i64 (c : Int)) = w1 at hs hks ⊢
  clear HS HKS c1 f1
  have hgc : g.bump.m.c = c := hcc
  have HAD : Hid (advD g d = if (writeD d ((c % 2 : Nat) : Int) (markL g.bump.m)).2 = 0 then syncD (writeD d ((c % 2 : Nat) : Int) (markL g.bump.m)).1 else writeD d ((c % 2 : Nat) : Int) (markL g.bump.m)) := Lib.hid (by unfold advD; rw [hgc])
  obtain ⟨G, hG⟩ : ∃ G, g.bump = G := ⟨_, rfl⟩
  rw [hG] at hs hgc hm
  rw [hG] at HAD
  have HG := Lib.hid hG
  clear HC hcc hc
  subst hgc
  obtain ⟨z1, z2, z3, z4, z5, z6⟩ := hm
  have hp := hs.kept0 ((Kept.refl _ w1).drew)
  have HKS1 := Lib.hid hks
  have hrem : (G.m.c : Int).tmod 2 = ((G.m.c % 2 : Nat) : Int) := by
    rw [Int.tmod_eq_emod_of_nonneg (by omega)]; omega
  have HMB := Lib.hid (markB_list G.m)
  obtain ⟨v, hv⟩ : ∃ v, (writeD d ((G.m.c % 2 : Nat) : Int) (markL G.m)).2 = v := ⟨_, rfl⟩
  have hda : (writeD d ((G.m.c % 2 : Nat) : Int) (markL G.m)).1.acts < 9223372036854775807 := by
    have := (writeD_le d ((G.m.c % 2 : Nat) : Int) (markL G.m)).1; omega
  rw [hv] at HAD
  have HV := Lib.hid hv
  clear hv
  clear hs hG hks
  obtain ⟨t0, t1, t2, t3, t4, t5, t6⟩ := hp.seven
  have hk0 : Kept Z w w1.drew := HKS1.out.drew
  clear HKS1
  go_region_held3 (fun w' => w'.cell? ⟨lb, 0, none⟩ = some (.pointer (some ⟨db, 0, none⟩)) ∧ w'.cell? ⟨lb, 1, none⟩ = some (.int .i64 G.m.c) ∧ w'.cell? ⟨lb, 2, none⟩ = some (.int .i64 G.m.ar) ∧ w'.cell? ⟨lb, 3, none⟩ = some (.int .i64 G.m.le) ∧ w'.cell? ⟨lb, 4, none⟩ = some (.int .i64 G.m.nu) ∧ w'.cell? ⟨lb, 5, none⟩ = some (.int .i64 G.m.a) ∧ w'.cell? ⟨lb, 6, none⟩ = some (.int .i64 G.m.b))
    (first | assumption | go_keep)
    (first
      | (go_at_call 51; refine (mlaid_at _ _ _ _ _ _ _ z1 z2 z3 z4 z5 z6).mono ?_; rintro e w5 ⟨rfl, hk5⟩; replace hp := hp.kept0 hk5; replace hk0 := hk0.trans (hk5.mono (fun _ _ f => f.elim)); clear hk5 t0 t1 t2 t3 t4 t5 t6; obtain ⟨t0, t1, t2, t3, t4, t5, t6⟩ := hp.seven)
      | (go_at_call 7; refine (wr_any hp.d _ _ HMB.out HV.out (by omega)).mono ?_; rintro e w5 ⟨rfl, ⟨nn5, hd5⟩, hk5⟩; replace hk0 := hk0.trans (hp.keptB hk5 (fun k hk => .inl hk)); replace hp := hp.disk hk5 hd5; clear hd5 hk5 t0 t1 t2 t3 t4 t5 t6; obtain ⟨t0, t1, t2, t3, t4, t5, t6⟩ := hp.seven))
  generalize hD1 : (writeD d ((G.m.c % 2 : Nat) : Int) (markL G.m)).1 = d1 at hp hda HAD
  have HP := Lib.hid hp
  have HK := Lib.hid hk0
  clear hp hk0 t1 t2 t3 t4 t5 t6 hrem
  by_cases hv0 : v = 0
  · subst hv0
    go_wp2_with fail
    refine (sync_any HP.out.d (by omega)).mono ?_
    rintro e w9 ⟨rfl, ⟨mb9, nn9, hd9, hm9⟩, hk9⟩
    go_wp2_with fail
    go_ret
    rw [HAD.out, HG.out, if_pos trivial]
    exact ⟨rfl, (HP.out.sync hk9 hd9 hm9).close, HK.out.trans (HP.out.keptB hk9 (fun k e => .inl (.inl e)))⟩
  · have hvb : (v == 0) = false := by simpa using hv0
    go_wp2_with fail
    go_ret
    rw [HAD.out, HG.out, if_neg hv0]
    refine ⟨ret_int HV.out.symm, ?_, HK.out⟩
    rw [hD1]; exact HP.out.close
end
end Go.Proofs.Ytmfngbgdmlnlcaa
