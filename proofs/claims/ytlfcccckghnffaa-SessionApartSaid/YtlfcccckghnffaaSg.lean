/- Two trackers; SessionApart, walked. -/
import Derived.Test.YtlfcccckghnffaaSo
namespace Go.Proofs.Ytlfcccckghnffaa
open Go.ChangeShapes Go.WideShapes Go.ChangeAt Go.RowKit Go.Maps
set_option linter.unusedVariables false
set_option linter.unusedSimpArgs false
/-- two trackers and a step in a box -/
structure Px (w0 wr : World) (q r : SQ) (L M : SL) (c xb : Nat) (s : St4) : Prop where
  a : SAt wr q L c
  b : SAt wr r M c
  d : ∀ k, SQs q k → ¬ SQs r k
  qa : ∀ k, SQs q k → w0.heap.size ≤ k
  rb : ∀ k, SQs r k → w0.heap.size ≤ k
  k : Kept (fun _ => False) w0 wr
  box : wr.heap[xb]? = some (.cells #[.int .i64 s.what, .int .i64 s.id, .int .i64 s.to, .int .i64 s.now] 31 (0, 0))
  xq : ¬ SQs q xb
  xr : ¬ SQs r xb
  xn : w0.heap.size ≤ xb
section
variable {w0 wr w' : World} {q r : SQ} {L M L' : SL} {c c' xb : Nat} {s : St4}
theorem Px.four (h : Px w0 wr q r L M c xb s) : wr.cell? ⟨xb, 0, none⟩ = some (.int .i64 s.what) ∧ wr.cell? ⟨xb, 1, none⟩ = some (.int .i64 s.id) ∧ wr.cell? ⟨xb, 2, none⟩ = some (.int .i64 s.to) ∧ wr.cell? ⟨xb, 3, none⟩ = some (.int .i64 s.now) ∧ wr.frozen? ⟨xb, 1, none⟩ = false := by
  have hb := h.box
  refine ⟨?_, ?_, ?_, ?_, ?_⟩ <;> simp [World.cell?, World.frozen?, hb]
theorem Px.kept0 (h : Px w0 wr q r L M c xb s) (hk : Kept (fun _ => False) wr w') : Px w0 w' q r L M c xb s :=
  ⟨h.a.kept0 hk, h.b.kept0 hk, h.d, h.qa, h.rb, h.k.trans hk, by rw [hk.block xb (lt_of_block h.box) (fun f => f)]; exact h.box, h.xq, h.xr, h.xn⟩
theorem Px.left (h : Px w0 wr q r L M c xb s) (hm : Moved wr q L' c' w') (hc : c ≤ c') : ∃ q', q'.t = q.t ∧ Px w0 w' q' r L' M c' xb s := by
  obtain ⟨q', h1, h2, h3, h4⟩ := hm
  have hlt := h.b.lt
  refine ⟨q', h2, h1, (h.b.kept h4 (fun k hk hq => h.d k hq hk)).mono hc, fun k hk hr => ?_, fun k hk => ?_, h.rb, h.k.trans' h4 (fun k hk hs => by have := h.qa k hs; omega), by rw [h4.block xb (lt_of_block h.box) h.xq]; exact h.box, fun hx => ?_, h.xr, h.xn⟩
  · rcases h3 k hk with h5 | h5
    · exact h.d k h5 hr
    · have := hlt k hr; omega
  · rcases h3 k hk with h5 | h5
    · exact h.qa k h5
    · have := h.k.size; omega
  · rcases h3 xb hx with h5 | h5
    · exact h.xq h5
    · have := lt_of_block h.box; omega
theorem Px.swap (h : Px w0 wr q r L M c xb s) : Px w0 wr r q M L c xb s := ⟨h.b, h.a, fun k h1 h2 => h.d k h2 h1, h.rb, h.qa, h.k, h.box, h.xr, h.xq, h.xn⟩
theorem Px.right (h : Px w0 wr q r L M c xb s) (hm : Moved wr r L' c' w') (hc : c ≤ c') : ∃ r', r'.t = r.t ∧ Px w0 w' q r' L L' c' xb s := by
  obtain ⟨r', h1, h2⟩ := h.swap.left hm hc
  exact ⟨r', h1, h2.swap⟩
theorem Px.mono (h : Px w0 wr q r L M c xb s) (hc : c ≤ c') : Px w0 wr q r L M c' xb s := ⟨h.a.mono hc, h.b.mono hc, h.d, h.qa, h.rb, h.k, h.box, h.xq, h.xr, h.xn⟩
/-! what is told of session 1 -/
structure Ap (L M : SL) : Prop where
  lo : ∀ s ∈ L, 1 ≤ s.id ∧ s.id ≤ 16
  one : ∀ s ∈ M, s.id = 1
  same : getL L 1 = getL M 1
theorem upto16 {L : SL} (hL : Rising L) (h : ∀ s ∈ L, 1 ≤ s.id ∧ s.id ≤ 16) {i : Int} (h1 : 1 ≤ i) (h2 : i ≤ 16) (hn : getL L i = none) : L.length < 16 := by
  have := sub_len (i :: allL L) [1, 2, 3, 4, 5, 6, 7, 8, 9, 10, 11, 12, 13, 14, 15, 16] (List.nodup_cons.2 ⟨fun hm => by
    obtain ⟨s, hs, e⟩ := List.mem_map.1 hm
    exact getL_none.1 hn s hs e, List.pairwise_map.2 (hL.imp (fun h => by omega))⟩) (fun x hx => by
    have : 1 ≤ x ∧ x ≤ 16 := by
      rcases List.mem_cons.1 hx with rfl | hx
      · exact ⟨h1, h2⟩
      · obtain ⟨s, hs, rfl⟩ := List.mem_map.1 hx
        exact h s hs
    simp only [List.mem_cons, List.not_mem_nil, or_false]; omega)
  simp only [List.length_cons, length_all, List.length_nil] at this
  omega
theorem few1 {M : SL} (hM : Rising M) (h : ∀ s ∈ M, s.id = 1) : M.length ≤ 1 := by
  match M, hM, h with
  | [], _, _ => exact Nat.zero_le _
  | [x], _, _ => exact Nat.le_refl _
  | x :: y :: r, hM, h =>
    have h1 := (rising_cons.1 hM).1 y (List.mem_cons_self ..)
    have h2 := h x (List.mem_cons_self ..)
    have h3 := h y (List.mem_cons_of_mem _ (List.mem_cons_self ..))
    omega
theorem open_not_full {L : SL} {i to now : Int} (h : getL L i = none → L.length < 16) : openE L i to now = (if okOpen i to now = true then 0 else 1) ∧ openL L i to now = (if okOpen i to now = true then putL L ⟨i, to, endsI now to⟩ else L) := by
  have hn : ¬ ((getL L i).isSome = false ∧ 16 ≤ L.length) := fun ⟨h1, h2⟩ => by
    rw [Option.isSome_eq_false_iff, Option.isNone_iff_eq_none] at h1
    have := h h1; omega
  unfold openE openL
  rw [if_neg hn, if_neg hn]
  exact ⟨rfl, rfl⟩
theorem put_ids {L : SL} {P : Int → Prop} (h : ∀ s ∈ L, P s.id) {t : Se} (ht : P t.id) : ∀ s ∈ putL L t, P s.id := fun s hs => by
  rcases mem_putL hs with rfl | hs
  · exact ht
  · exact h s hs
theorem Ap.open1 (h : Ap L M) (hL : Rising L) (hM : Rising M) (to now : Int) : openE L 1 to now = openE M 1 to now ∧ Ap (openL L 1 to now) (openL M 1 to now) := by
  obtain ⟨a1, a2⟩ := open_not_full (L := L) (i := 1) (to := to) (now := now) (fun hn => upto16 hL h.lo (by omega) (by omega) hn)
  obtain ⟨b1, b2⟩ := open_not_full (L := M) (i := 1) (to := to) (now := now) (fun _ => by have := few1 hM h.one; omega)
  rw [a1, a2, b1, b2]
  refine ⟨rfl, ?_⟩
  split
  · refine ⟨put_ids (P := fun i => 1 ≤ i ∧ i ≤ 16) h.lo ⟨Int.le_refl _, (by decide : (1 : Int) ≤ 16)⟩, put_ids (P := fun i => i = 1) h.one rfl, ?_⟩
    rw [getL_put hL, getL_put hM, if_pos rfl, if_pos rfl]
  · exact h
theorem Ap.openO (h : Ap L M) (hL : Rising L) {i : Int} (h1 : 1 ≤ i) (h2 : i ≤ 16) (hi : i ≠ 1) (to now : Int) : Ap (openL L i to now) M := by
  obtain ⟨a1, a2⟩ := open_not_full (L := L) (i := i) (to := to) (now := now) (fun hn => upto16 hL h.lo h1 h2 hn)
  rw [a2]
  split
  · refine ⟨put_ids (P := fun i => 1 ≤ i ∧ i ≤ 16) h.lo ⟨h1, h2⟩, h.one, ?_⟩
    rw [getL_put hL, if_neg hi]; exact h.same
  · exact h
theorem touch_get {L : SL} (hL : Rising L) (i j now : Int) (hj : j ≠ i) : getL (touchL L i now) j = getL L j := by
  unfold touchL
  cases getL L i with
  | none => rfl
  | some s =>
    simp only
    split
    · split
      · rw [getL_put hL, if_neg (fun e => hj e.symm)]
      · rfl
    · rfl
theorem touch_ids {L : SL} {P : Int → Prop} (h : ∀ s ∈ L, P s.id) (i now : Int) (hi : P i) : ∀ s ∈ touchL L i now, P s.id := by
  unfold touchL
  cases getL L i with
  | none => exact h
  | some s =>
    simp only
    split
    · split
      · exact put_ids h hi
      · exact h
    · exact h
theorem Ap.touch1 (h : Ap L M) (hL : Rising L) (hM : Rising M) (now : Int) : touchE L 1 now = touchE M 1 now ∧ Ap (touchL L 1 now) (touchL M 1 now) := by
  refine ⟨by unfold touchE; rw [h.same], touch_ids (P := fun i => 1 ≤ i ∧ i ≤ 16) h.lo 1 now ⟨Int.le_refl _, by omega⟩, touch_ids (P := fun i => i = 1) h.one 1 now rfl, ?_⟩
  have hs := h.same
  unfold touchL
  cases hg : getL M 1 with
  | none => rw [hg] at hs; rw [hs]; exact hs.trans hg.symm
  | some t =>
    rw [hg] at hs; rw [hs]
    simp only
    split
    · split
      · rw [getL_put hL, getL_put hM, if_pos rfl, if_pos rfl]
      · exact hs.trans hg.symm
    · exact hs.trans hg.symm
theorem Ap.touchO (h : Ap L M) (hL : Rising L) {i : Int} (h1 : 1 ≤ i) (h2 : i ≤ 16) (hi : i ≠ 1) (now : Int) : Ap (touchL L i now) M :=
  ⟨touch_ids (P := fun i => 1 ≤ i ∧ i ≤ 16) h.lo i now ⟨h1, h2⟩, h.one, by rw [touch_get hL i 1 now (fun e => hi e.symm)]; exact h.same⟩
theorem Ap.close1 (h : Ap L M) : closeE L 1 = closeE M 1 ∧ Ap (delL L 1) (delL M 1) := by
  refine ⟨by unfold closeE; rw [h.same], fun s hs => h.lo s (List.mem_filter.1 hs).1, fun s hs => h.one s (List.mem_filter.1 hs).1, ?_⟩
  rw [getL_del, getL_del, if_pos rfl, if_pos rfl]
theorem Ap.closeO (h : Ap L M) {i : Int} (hi : i ≠ 1) : Ap (delL L i) M :=
  ⟨fun s hs => h.lo s (List.mem_filter.1 hs).1, h.one, by rw [getL_del, if_neg (fun e => hi e.symm)]; exact h.same⟩
theorem Ap.dead (h : Ap L M) : deadN L 1 = deadN M 1 ∧ deadE L 1 = deadE M 1 := by unfold deadN deadE; rw [h.same]; exact ⟨rfl, rfl⟩
end
structure ApRel (w : World) (tq tr len : Nat) (iv : Value) (wr : World) : Prop where
  ex : ∃ (k c : Nat) (q r : SQ) (L M : SL), iv = .int .i64 k ∧ k ≤ len ∧ c ≤ 2 * k ∧ SAt wr q L c ∧ SAt wr r M c ∧ (∀ k, SQs q k → ¬ SQs r k) ∧ (∀ k, SQs q k → w.heap.size ≤ k) ∧ (∀ k, SQs r k → w.heap.size ≤ k) ∧ Kept (fun _ => False) w wr ∧ Ap L M ∧ q.t = tq ∧ r.t = tr
theorem ap_nil : Ap [] [] := ⟨fun s h => absurd h List.not_mem_nil, fun s h => absurd h List.not_mem_nil, rfl⟩
set_option maxRecDepth 100000 in
set_option maxHeartbeats 4000000 in
theorem apart_walk (w : World) (sa : Option Addr) (scap : Nat) (os : List St4) (hos : StepsAt w sa os) :
    Calls Try.prog 5 #[.slice sa os.length scap] w fun e w' => e = .returned (.bool true) ∧ Kept (fun _ => False) w w' := by
  have HOS := Lib.hid hos
  have hol := hos.room
  have HAW := Lib.hid (awake_any w)
  clear hos
  go_enter Try.func5, Try.ntmps5
  go_wp2_with fail
  refine HAW.out.mono ?_
  rintro e w1 ⟨rfl, hk1⟩
  have HK1 := Lib.hid hk1
  clear hk1
  go_wp2_with fail
  refine (new_any _).mono ?_
  rintro e w2 ⟨q, rfl, hq2, hb2, hk2⟩
  have HQ2 := Lib.hid hq2
  have HB2 : Hid (∀ j, SQs q j → w.heap.size ≤ j) := Lib.hid (fun j hj => by have := hb2 j hj; have := HK1.out.size; omega)
  have HK2 := Lib.hid (HK1.out.trans hk2)
  clear hq2 hb2 hk2
  go_wp2_with fail
  refine (new_any _).mono ?_
  rintro e w3 ⟨r, rfl, hr3, hb3, hk3⟩
  have HR3 := Lib.hid hr3
  have HQ3 := Lib.hid (HQ2.out.kept0 hk3)
  have HB3 : Hid (∀ j, SQs r j → w.heap.size ≤ j) := Lib.hid (fun j hj => by have := hb3 j hj; have := HK2.out.size; omega)
  have HD3 : Hid (∀ j, SQs q j → ¬ SQs r j) := Lib.hid (fun j h1 h2 => by have := HQ2.out.lt j h1; have := hb3 j h2; omega)
  have HK3 := Lib.hid (HK2.out.trans hk3)
  clear hr3 hb3 hk3
  go_wp2_with fail
  go_loopw [6] (fun iv wr => ApRel w q.t r.t os.length iv wr) (fun iv _ => os.length - (Go.RowKit.intOf iv).toNat)
  case atStart => exact ⟨0, 0, q, r, [], [], rfl, by omega, by omega, HQ3.out, HR3.out, HD3.out, HB2.out, HB3.out, HK3.out, ap_nil, rfl, rfl⟩
  case round =>
    obtain ⟨k, c, q', r', L, M, rfl, hk, hc, hq, hr, hd, hbq, hbr, hkp, hap, htq, htr⟩ := hrel.ex
    clear hrel HQ3 HR3 HD3 HB2 HB3 HK3 HQ2 HK2 HK1
    rw [← htq, ← htr]
    have HAP := Lib.hid hap
    have HTQ := Lib.hid htq
    have HTR := Lib.hid htr
    by_cases hlt : k < os.length
    · have hos2 := (HOS.out.kept hkp).at_
      obtain ⟨b, off, rfl, hblt, hcells⟩ := hos2.resolve_left (by omega)
      obtain ⟨x0, x1, x2, x3⟩ := hcells k hlt
      obtain ⟨f0, f1, f2, f3⟩ := HOS.out.fits os[k] (List.getElem_mem hlt)
      obtain ⟨o, ho⟩ : ∃ o, os[k] = o := ⟨_, rfl⟩
      rw [ho] at x0 x1 x2 x3 f0 f1 f2 f3
      obtain ⟨i0, hi0⟩ : ∃ i0, absN o.id % 16 = i0 := ⟨_, rfl⟩
      have hi16 : i0 < 16 := by omega
      obtain ⟨j, hj⟩ : ∃ j : Int, 1 + (i0 : Int) = j := ⟨_, rfl⟩
      have HJ : Hid (1 ≤ j ∧ j ≤ 16) := Lib.hid (by omega)
      have HJ64 : Hid (I64 j) := Lib.hid (by unfold I64; omega)
      have HJE := Lib.hid hj
      have HI0 := Lib.hid (fun V => pick_nat o.id 16 V f1 (by decide) (by decide) hi0)
      obtain ⟨p, hp⟩ : ∃ p, absN o.what % 5 = p := ⟨_, rfl⟩
      have hp5 : p < 5 := by omega
      have hpc : (p : Int) = 0 ∨ (p : Int) = 1 ∨ (p : Int) = 2 ∨ (p : Int) = 3 ∨ (p : Int) = 4 := by omega
      have HP0 := Lib.hid (fun V => pick_nat o.what 5 V f0 (by decide) (by decide) hp)
      have hA := (Kept.refl (fun _ => False) wr).alloc (.cells #[.int .i64 o.what, .int .i64 j, .int .i64 o.to, .int .i64 o.now] 31)
      have HPX : Hid (Px w (wr.alloc (.cells #[.int .i64 o.what, .int .i64 j, .int .i64 o.to, .int .i64 o.now] 31)) q' r' L M c wr.heap.size ⟨o.what, j, o.to, o.now⟩) :=
        Lib.hid ⟨hq.kept0 hA, hr.kept0 hA, hd, hbq, hbr, hkp.trans hA, World.alloc_heap_new wr _, fun h => by have := hq.lt _ h; omega, fun h => by have := hr.lt _ h; omega, hkp.size⟩
      clear hq hr hd hbq hbr hkp hap htq htr hcells hos2 hA hi0 hp ho hj
      go_wp2_with fail
      refine (HI0.out _).mono ?_
      rintro e w4 ⟨rfl, rfl⟩
      go_wp2_with fail
      rw [HJE.out]
      by_cases hj1 : j = 1
      -- ten ways
      · subst hj1
        rcases hpc with hpc | hpc | hpc | hpc | hpc
        · have HPc := Lib.hid (fun V => by have := HP0.out V; rw [hpc] at this; exact this)
          clear hpc HP0
          refine (HPc.out _).mono ?_
          rintro e w5 ⟨rfl, rfl⟩
          generalize World.alloc _ _ = wb at HPX ⊢
          obtain ⟨y0, y1, y2, y3, y4⟩ := HPX.out.four
          go_wp2_with fail
          refine (open_any HPX.out.a 1 o.to o.now (by unfold I64; omega) (by omega)).mono ?_
          rintro e w6 ⟨rfl, hm6⟩
          obtain ⟨q6, ht6, hp6⟩ := HPX.out.left hm6 (by omega)
          have HP6 := Lib.hid hp6
          have HT6 := Lib.hid ht6
          clear y0 y1 y2 y3 y4 hm6 ht6 hp6
          obtain ⟨y0, y1, y2, y3, y4⟩ := HP6.out.four
          obtain ⟨he9, ha9⟩ := HAP.out.open1 HPX.out.a.ok.up HPX.out.b.ok.up o.to o.now
          rw [he9]
          have HA9 := Lib.hid ha9
          clear he9 ha9
          go_wp2_with fail
          refine (open_any HP6.out.b 1 o.to o.now (by unfold I64; omega) (by omega)).mono ?_
          rintro e w9 ⟨rfl, hm9⟩
          obtain ⟨r9, ht9, hp9⟩ := HP6.out.right hm9 (show _ ≤ c + 2 by omega)
          have HP9 := Lib.hid hp9
          have HT9 := Lib.hid ht9
          clear y0 y1 y2 y3 y4 hm9 ht9 hp9
          obtain ⟨y0, y1, y2, y3, y4⟩ := HP9.out.four
          go_wp2_with fail
          have hd9 := dead_any HP9.out.a 1 (by unfold I64; omega)
          rw [HT6.out] at hd9
          refine hd9.mono ?_
          clear hd9
          rintro e w10 ⟨rfl, hk10⟩
          have HP10 := Lib.hid (HP9.out.kept0 hk10)
          rw [HA9.out.dead.1, HA9.out.dead.2]
          clear y0 y1 y2 y3 y4 hk10
          obtain ⟨y0, y1, y2, y3, y4⟩ := HP10.out.four
          go_wp2_with fail
          have hd10 := dead_any HP10.out.b 1 (by unfold I64; omega)
          rw [HT9.out] at hd10
          refine hd10.mono ?_
          clear hd10
          rintro e w11 ⟨rfl, hk11⟩
          have HP11 := Lib.hid (HP10.out.kept0 hk11)
          clear y0 y1 y2 y3 y4 hk11
          obtain ⟨y0, y1, y2, y3, y4⟩ := HP11.out.four
          go_wp2_with fail
          go_roundw
          case rel => exact ⟨k + 1, c + 2, _, _, _, _, by go_num, by omega, by omega, HP11.out.a, HP11.out.b, HP11.out.d, HP11.out.qa, HP11.out.rb, HP11.out.k, HA9.out, HT6.out, HT9.out⟩
          case measure => simp [Go.RowKit.intOf]; omega
        · have HPc := Lib.hid (fun V => by have := HP0.out V; rw [hpc] at this; exact this)
          clear hpc HP0
          refine (HPc.out _).mono ?_
          rintro e w5 ⟨rfl, rfl⟩
          generalize World.alloc _ _ = wb at HPX ⊢
          obtain ⟨y0, y1, y2, y3, y4⟩ := HPX.out.four
          go_wp2_with fail
          refine (open_any HPX.out.a 1 o.to o.now (by unfold I64; omega) (by omega)).mono ?_
          rintro e w6 ⟨rfl, hm6⟩
          obtain ⟨q6, ht6, hp6⟩ := HPX.out.left hm6 (by omega)
          have HP6 := Lib.hid hp6
          have HT6 := Lib.hid ht6
          clear y0 y1 y2 y3 y4 hm6 ht6 hp6
          obtain ⟨y0, y1, y2, y3, y4⟩ := HP6.out.four
          obtain ⟨he9, ha9⟩ := HAP.out.open1 HPX.out.a.ok.up HPX.out.b.ok.up o.to o.now
          rw [he9]
          have HA9 := Lib.hid ha9
          clear he9 ha9
          go_wp2_with fail
          refine (open_any HP6.out.b 1 o.to o.now (by unfold I64; omega) (by omega)).mono ?_
          rintro e w9 ⟨rfl, hm9⟩
          obtain ⟨r9, ht9, hp9⟩ := HP6.out.right hm9 (show _ ≤ c + 2 by omega)
          have HP9 := Lib.hid hp9
          have HT9 := Lib.hid ht9
          clear y0 y1 y2 y3 y4 hm9 ht9 hp9
          obtain ⟨y0, y1, y2, y3, y4⟩ := HP9.out.four
          go_wp2_with fail
          have hd9 := dead_any HP9.out.a 1 (by unfold I64; omega)
          rw [HT6.out] at hd9
          refine hd9.mono ?_
          clear hd9
          rintro e w10 ⟨rfl, hk10⟩
          have HP10 := Lib.hid (HP9.out.kept0 hk10)
          rw [HA9.out.dead.1, HA9.out.dead.2]
          clear y0 y1 y2 y3 y4 hk10
          obtain ⟨y0, y1, y2, y3, y4⟩ := HP10.out.four
          go_wp2_with fail
          have hd10 := dead_any HP10.out.b 1 (by unfold I64; omega)
          rw [HT9.out] at hd10
          refine hd10.mono ?_
          clear hd10
          rintro e w11 ⟨rfl, hk11⟩
          have HP11 := Lib.hid (HP10.out.kept0 hk11)
          clear y0 y1 y2 y3 y4 hk11
          obtain ⟨y0, y1, y2, y3, y4⟩ := HP11.out.four
          go_wp2_with fail
          go_roundw
          case rel => exact ⟨k + 1, c + 2, _, _, _, _, by go_num, by omega, by omega, HP11.out.a, HP11.out.b, HP11.out.d, HP11.out.qa, HP11.out.rb, HP11.out.k, HA9.out, HT6.out, HT9.out⟩
          case measure => simp [Go.RowKit.intOf]; omega
        · have HPc := Lib.hid (fun V => by have := HP0.out V; rw [hpc] at this; exact this)
          clear hpc HP0
          refine (HPc.out _).mono ?_
          rintro e w5 ⟨rfl, rfl⟩
          generalize World.alloc _ _ = wb at HPX ⊢
          obtain ⟨y0, y1, y2, y3, y4⟩ := HPX.out.four
          go_wp2_with fail
          refine (touch_any HPX.out.a 1 o.now (by unfold I64; omega) (by omega)).mono ?_
          rintro e w6 ⟨rfl, hm6⟩
          obtain ⟨q6, ht6, hp6⟩ := HPX.out.left hm6 (by omega)
          have HP6 := Lib.hid hp6
          have HT6 := Lib.hid ht6
          clear y0 y1 y2 y3 y4 hm6 ht6 hp6
          obtain ⟨y0, y1, y2, y3, y4⟩ := HP6.out.four
          obtain ⟨he9, ha9⟩ := HAP.out.touch1 HPX.out.a.ok.up HPX.out.b.ok.up o.now
          rw [he9]
          have HA9 := Lib.hid ha9
          clear he9 ha9
          go_wp2_with fail
          refine (touch_any HP6.out.b 1 o.now (by unfold I64; omega) (by omega)).mono ?_
          rintro e w9 ⟨rfl, hm9⟩
          obtain ⟨r9, ht9, hp9⟩ := HP6.out.right hm9 (show _ ≤ c + 2 by omega)
          have HP9 := Lib.hid hp9
          have HT9 := Lib.hid ht9
          clear y0 y1 y2 y3 y4 hm9 ht9 hp9
          obtain ⟨y0, y1, y2, y3, y4⟩ := HP9.out.four
          go_wp2_with fail
          have hd9 := dead_any HP9.out.a 1 (by unfold I64; omega)
          rw [HT6.out] at hd9
          refine hd9.mono ?_
          clear hd9
          rintro e w10 ⟨rfl, hk10⟩
          have HP10 := Lib.hid (HP9.out.kept0 hk10)
          rw [HA9.out.dead.1, HA9.out.dead.2]
          clear y0 y1 y2 y3 y4 hk10
          obtain ⟨y0, y1, y2, y3, y4⟩ := HP10.out.four
          go_wp2_with fail
          have hd10 := dead_any HP10.out.b 1 (by unfold I64; omega)
          rw [HT9.out] at hd10
          refine hd10.mono ?_
          clear hd10
          rintro e w11 ⟨rfl, hk11⟩
          have HP11 := Lib.hid (HP10.out.kept0 hk11)
          clear y0 y1 y2 y3 y4 hk11
          obtain ⟨y0, y1, y2, y3, y4⟩ := HP11.out.four
          go_wp2_with fail
          go_roundw
          case rel => exact ⟨k + 1, c + 2, _, _, _, _, by go_num, by omega, by omega, HP11.out.a, HP11.out.b, HP11.out.d, HP11.out.qa, HP11.out.rb, HP11.out.k, HA9.out, HT6.out, HT9.out⟩
          case measure => simp [Go.RowKit.intOf]; omega
        · have HPc := Lib.hid (fun V => by have := HP0.out V; rw [hpc] at this; exact this)
          clear hpc HP0
          refine (HPc.out _).mono ?_
          rintro e w5 ⟨rfl, rfl⟩
          generalize World.alloc _ _ = wb at HPX ⊢
          obtain ⟨y0, y1, y2, y3, y4⟩ := HPX.out.four
          go_wp2_with fail
          refine (touch_any HPX.out.a 1 o.now (by unfold I64; omega) (by omega)).mono ?_
          rintro e w6 ⟨rfl, hm6⟩
          obtain ⟨q6, ht6, hp6⟩ := HPX.out.left hm6 (by omega)
          have HP6 := Lib.hid hp6
          have HT6 := Lib.hid ht6
          clear y0 y1 y2 y3 y4 hm6 ht6 hp6
          obtain ⟨y0, y1, y2, y3, y4⟩ := HP6.out.four
          obtain ⟨he9, ha9⟩ := HAP.out.touch1 HPX.out.a.ok.up HPX.out.b.ok.up o.now
          rw [he9]
          have HA9 := Lib.hid ha9
          clear he9 ha9
          go_wp2_with fail
          refine (touch_any HP6.out.b 1 o.now (by unfold I64; omega) (by omega)).mono ?_
          rintro e w9 ⟨rfl, hm9⟩
          obtain ⟨r9, ht9, hp9⟩ := HP6.out.right hm9 (show _ ≤ c + 2 by omega)
          have HP9 := Lib.hid hp9
          have HT9 := Lib.hid ht9
          clear y0 y1 y2 y3 y4 hm9 ht9 hp9
          obtain ⟨y0, y1, y2, y3, y4⟩ := HP9.out.four
          go_wp2_with fail
          have hd9 := dead_any HP9.out.a 1 (by unfold I64; omega)
          rw [HT6.out] at hd9
          refine hd9.mono ?_
          clear hd9
          rintro e w10 ⟨rfl, hk10⟩
          have HP10 := Lib.hid (HP9.out.kept0 hk10)
          rw [HA9.out.dead.1, HA9.out.dead.2]
          clear y0 y1 y2 y3 y4 hk10
          obtain ⟨y0, y1, y2, y3, y4⟩ := HP10.out.four
          go_wp2_with fail
          have hd10 := dead_any HP10.out.b 1 (by unfold I64; omega)
          rw [HT9.out] at hd10
          refine hd10.mono ?_
          clear hd10
          rintro e w11 ⟨rfl, hk11⟩
          have HP11 := Lib.hid (HP10.out.kept0 hk11)
          clear y0 y1 y2 y3 y4 hk11
          obtain ⟨y0, y1, y2, y3, y4⟩ := HP11.out.four
          go_wp2_with fail
          go_roundw
          case rel => exact ⟨k + 1, c + 2, _, _, _, _, by go_num, by omega, by omega, HP11.out.a, HP11.out.b, HP11.out.d, HP11.out.qa, HP11.out.rb, HP11.out.k, HA9.out, HT6.out, HT9.out⟩
          case measure => simp [Go.RowKit.intOf]; omega
        · have HPc := Lib.hid (fun V => by have := HP0.out V; rw [hpc] at this; exact this)
          clear hpc HP0
          refine (HPc.out _).mono ?_
          rintro e w5 ⟨rfl, rfl⟩
          generalize World.alloc _ _ = wb at HPX ⊢
          obtain ⟨y0, y1, y2, y3, y4⟩ := HPX.out.four
          go_wp2_with fail
          refine (close_any HPX.out.a 1 (by unfold I64; omega)).mono ?_
          rintro e w6 ⟨rfl, hm6⟩
          obtain ⟨q6, ht6, hp6⟩ := HPX.out.left hm6 (Nat.le_refl _)
          replace hp6 := hp6.mono (Nat.le_succ c)
          have HP6 := Lib.hid hp6
          have HT6 := Lib.hid ht6
          clear y0 y1 y2 y3 y4 hm6 ht6 hp6
          obtain ⟨y0, y1, y2, y3, y4⟩ := HP6.out.four
          obtain ⟨he9, ha9⟩ := HAP.out.close1
          rw [he9]
          have HA9 := Lib.hid ha9
          clear he9 ha9
          go_wp2_with fail
          refine (close_any HP6.out.b 1 (by unfold I64; omega)).mono ?_
          rintro e w9 ⟨rfl, hm9⟩
          obtain ⟨r9, ht9, hp9⟩ := HP6.out.right hm9 (Nat.le_refl _)
          replace hp9 := hp9.mono (show _ ≤ c + 2 by omega)
          have HP9 := Lib.hid hp9
          have HT9 := Lib.hid ht9
          clear y0 y1 y2 y3 y4 hm9 ht9 hp9
          obtain ⟨y0, y1, y2, y3, y4⟩ := HP9.out.four
          go_wp2_with fail
          have hd9 := dead_any HP9.out.a 1 (by unfold I64; omega)
          rw [HT6.out] at hd9
          refine hd9.mono ?_
          clear hd9
          rintro e w10 ⟨rfl, hk10⟩
          have HP10 := Lib.hid (HP9.out.kept0 hk10)
          rw [HA9.out.dead.1, HA9.out.dead.2]
          clear y0 y1 y2 y3 y4 hk10
          obtain ⟨y0, y1, y2, y3, y4⟩ := HP10.out.four
          go_wp2_with fail
          have hd10 := dead_any HP10.out.b 1 (by unfold I64; omega)
          rw [HT9.out] at hd10
          refine hd10.mono ?_
          clear hd10
          rintro e w11 ⟨rfl, hk11⟩
          have HP11 := Lib.hid (HP10.out.kept0 hk11)
          clear y0 y1 y2 y3 y4 hk11
          obtain ⟨y0, y1, y2, y3, y4⟩ := HP11.out.four
          go_wp2_with fail
          go_roundw
          case rel => exact ⟨k + 1, c + 2, _, _, _, _, by go_num, by omega, by omega, HP11.out.a, HP11.out.b, HP11.out.d, HP11.out.qa, HP11.out.rb, HP11.out.k, HA9.out, HT6.out, HT9.out⟩
          case measure => simp [Go.RowKit.intOf]; omega
      · have HJN := Lib.hid hj1
        have hb1 : (j == 1) = false := by simpa using hj1
        clear hj1
        rcases hpc with hpc | hpc | hpc | hpc | hpc
        · have HPc := Lib.hid (fun V => by have := HP0.out V; rw [hpc] at this; exact this)
          clear hpc HP0
          refine (HPc.out _).mono ?_
          rintro e w5 ⟨rfl, rfl⟩
          generalize World.alloc _ _ = wb at HPX ⊢
          obtain ⟨y0, y1, y2, y3, y4⟩ := HPX.out.four
          go_wp2_with fail
          refine (open_any HPX.out.a j o.to o.now HJ64.out (by omega)).mono ?_
          rintro e w6 ⟨rfl, hm6⟩
          obtain ⟨q6, ht6, hp6⟩ := HPX.out.left hm6 (by omega)
          have HP6 := Lib.hid hp6
          have HT6 := Lib.hid ht6
          clear y0 y1 y2 y3 y4 hm6 ht6 hp6
          obtain ⟨y0, y1, y2, y3, y4⟩ := HP6.out.four
          have HA9 := Lib.hid (HAP.out.openO HPX.out.a.ok.up HJ.out.1 HJ.out.2 HJN.out o.to o.now)
          have HP9 := Lib.hid (HP6.out.mono (show _ ≤ c + 2 by omega))
          go_wp2_with fail
          have hd9 := dead_any HP9.out.a 1 (by unfold I64; omega)
          rw [HT6.out] at hd9
          refine hd9.mono ?_
          clear hd9
          rintro e w10 ⟨rfl, hk10⟩
          have HP10 := Lib.hid (HP9.out.kept0 hk10)
          rw [HA9.out.dead.1, HA9.out.dead.2]
          clear y0 y1 y2 y3 y4 hk10
          obtain ⟨y0, y1, y2, y3, y4⟩ := HP10.out.four
          go_wp2_with fail
          have hd10 := dead_any HP10.out.b 1 (by unfold I64; omega)
          refine hd10.mono ?_
          clear hd10
          rintro e w11 ⟨rfl, hk11⟩
          have HP11 := Lib.hid (HP10.out.kept0 hk11)
          clear y0 y1 y2 y3 y4 hk11
          obtain ⟨y0, y1, y2, y3, y4⟩ := HP11.out.four
          go_wp2_with fail
          go_roundw
          case rel => exact ⟨k + 1, c + 2, _, _, _, _, by go_num, by omega, by omega, HP11.out.a, HP11.out.b, HP11.out.d, HP11.out.qa, HP11.out.rb, HP11.out.k, HA9.out, HT6.out, rfl⟩
          case measure => simp [Go.RowKit.intOf]; omega
        · have HPc := Lib.hid (fun V => by have := HP0.out V; rw [hpc] at this; exact this)
          clear hpc HP0
          refine (HPc.out _).mono ?_
          rintro e w5 ⟨rfl, rfl⟩
          generalize World.alloc _ _ = wb at HPX ⊢
          obtain ⟨y0, y1, y2, y3, y4⟩ := HPX.out.four
          go_wp2_with fail
          refine (open_any HPX.out.a j o.to o.now HJ64.out (by omega)).mono ?_
          rintro e w6 ⟨rfl, hm6⟩
          obtain ⟨q6, ht6, hp6⟩ := HPX.out.left hm6 (by omega)
          have HP6 := Lib.hid hp6
          have HT6 := Lib.hid ht6
          clear y0 y1 y2 y3 y4 hm6 ht6 hp6
          obtain ⟨y0, y1, y2, y3, y4⟩ := HP6.out.four
          have HA9 := Lib.hid (HAP.out.openO HPX.out.a.ok.up HJ.out.1 HJ.out.2 HJN.out o.to o.now)
          have HP9 := Lib.hid (HP6.out.mono (show _ ≤ c + 2 by omega))
          go_wp2_with fail
          have hd9 := dead_any HP9.out.a 1 (by unfold I64; omega)
          rw [HT6.out] at hd9
          refine hd9.mono ?_
          clear hd9
          rintro e w10 ⟨rfl, hk10⟩
          have HP10 := Lib.hid (HP9.out.kept0 hk10)
          rw [HA9.out.dead.1, HA9.out.dead.2]
          clear y0 y1 y2 y3 y4 hk10
          obtain ⟨y0, y1, y2, y3, y4⟩ := HP10.out.four
          go_wp2_with fail
          have hd10 := dead_any HP10.out.b 1 (by unfold I64; omega)
          refine hd10.mono ?_
          clear hd10
          rintro e w11 ⟨rfl, hk11⟩
          have HP11 := Lib.hid (HP10.out.kept0 hk11)
          clear y0 y1 y2 y3 y4 hk11
          obtain ⟨y0, y1, y2, y3, y4⟩ := HP11.out.four
          go_wp2_with fail
          go_roundw
          case rel => exact ⟨k + 1, c + 2, _, _, _, _, by go_num, by omega, by omega, HP11.out.a, HP11.out.b, HP11.out.d, HP11.out.qa, HP11.out.rb, HP11.out.k, HA9.out, HT6.out, rfl⟩
          case measure => simp [Go.RowKit.intOf]; omega
        · have HPc := Lib.hid (fun V => by have := HP0.out V; rw [hpc] at this; exact this)
          clear hpc HP0
          refine (HPc.out _).mono ?_
          rintro e w5 ⟨rfl, rfl⟩
          generalize World.alloc _ _ = wb at HPX ⊢
          obtain ⟨y0, y1, y2, y3, y4⟩ := HPX.out.four
          go_wp2_with fail
          refine (touch_any HPX.out.a j o.now HJ64.out (by omega)).mono ?_
          rintro e w6 ⟨rfl, hm6⟩
          obtain ⟨q6, ht6, hp6⟩ := HPX.out.left hm6 (by omega)
          have HP6 := Lib.hid hp6
          have HT6 := Lib.hid ht6
          clear y0 y1 y2 y3 y4 hm6 ht6 hp6
          obtain ⟨y0, y1, y2, y3, y4⟩ := HP6.out.four
          have HA9 := Lib.hid (HAP.out.touchO HPX.out.a.ok.up HJ.out.1 HJ.out.2 HJN.out o.now)
          have HP9 := Lib.hid (HP6.out.mono (show _ ≤ c + 2 by omega))
          go_wp2_with fail
          have hd9 := dead_any HP9.out.a 1 (by unfold I64; omega)
          rw [HT6.out] at hd9
          refine hd9.mono ?_
          clear hd9
          rintro e w10 ⟨rfl, hk10⟩
          have HP10 := Lib.hid (HP9.out.kept0 hk10)
          rw [HA9.out.dead.1, HA9.out.dead.2]
          clear y0 y1 y2 y3 y4 hk10
          obtain ⟨y0, y1, y2, y3, y4⟩ := HP10.out.four
          go_wp2_with fail
          have hd10 := dead_any HP10.out.b 1 (by unfold I64; omega)
          refine hd10.mono ?_
          clear hd10
          rintro e w11 ⟨rfl, hk11⟩
          have HP11 := Lib.hid (HP10.out.kept0 hk11)
          clear y0 y1 y2 y3 y4 hk11
          obtain ⟨y0, y1, y2, y3, y4⟩ := HP11.out.four
          go_wp2_with fail
          go_roundw
          case rel => exact ⟨k + 1, c + 2, _, _, _, _, by go_num, by omega, by omega, HP11.out.a, HP11.out.b, HP11.out.d, HP11.out.qa, HP11.out.rb, HP11.out.k, HA9.out, HT6.out, rfl⟩
          case measure => simp [Go.RowKit.intOf]; omega
        · have HPc := Lib.hid (fun V => by have := HP0.out V; rw [hpc] at this; exact this)
          clear hpc HP0
          refine (HPc.out _).mono ?_
          rintro e w5 ⟨rfl, rfl⟩
          generalize World.alloc _ _ = wb at HPX ⊢
          obtain ⟨y0, y1, y2, y3, y4⟩ := HPX.out.four
          go_wp2_with fail
          refine (touch_any HPX.out.a j o.now HJ64.out (by omega)).mono ?_
          rintro e w6 ⟨rfl, hm6⟩
          obtain ⟨q6, ht6, hp6⟩ := HPX.out.left hm6 (by omega)
          have HP6 := Lib.hid hp6
          have HT6 := Lib.hid ht6
          clear y0 y1 y2 y3 y4 hm6 ht6 hp6
          obtain ⟨y0, y1, y2, y3, y4⟩ := HP6.out.four
          have HA9 := Lib.hid (HAP.out.touchO HPX.out.a.ok.up HJ.out.1 HJ.out.2 HJN.out o.now)
          have HP9 := Lib.hid (HP6.out.mono (show _ ≤ c + 2 by omega))
          go_wp2_with fail
          have hd9 := dead_any HP9.out.a 1 (by unfold I64; omega)
          rw [HT6.out] at hd9
          refine hd9.mono ?_
          clear hd9
          rintro e w10 ⟨rfl, hk10⟩
          have HP10 := Lib.hid (HP9.out.kept0 hk10)
          rw [HA9.out.dead.1, HA9.out.dead.2]
          clear y0 y1 y2 y3 y4 hk10
          obtain ⟨y0, y1, y2, y3, y4⟩ := HP10.out.four
          go_wp2_with fail
          have hd10 := dead_any HP10.out.b 1 (by unfold I64; omega)
          refine hd10.mono ?_
          clear hd10
          rintro e w11 ⟨rfl, hk11⟩
          have HP11 := Lib.hid (HP10.out.kept0 hk11)
          clear y0 y1 y2 y3 y4 hk11
          obtain ⟨y0, y1, y2, y3, y4⟩ := HP11.out.four
          go_wp2_with fail
          go_roundw
          case rel => exact ⟨k + 1, c + 2, _, _, _, _, by go_num, by omega, by omega, HP11.out.a, HP11.out.b, HP11.out.d, HP11.out.qa, HP11.out.rb, HP11.out.k, HA9.out, HT6.out, rfl⟩
          case measure => simp [Go.RowKit.intOf]; omega
        · have HPc := Lib.hid (fun V => by have := HP0.out V; rw [hpc] at this; exact this)
          clear hpc HP0
          refine (HPc.out _).mono ?_
          rintro e w5 ⟨rfl, rfl⟩
          generalize World.alloc _ _ = wb at HPX ⊢
          obtain ⟨y0, y1, y2, y3, y4⟩ := HPX.out.four
          go_wp2_with fail
          refine (close_any HPX.out.a j HJ64.out).mono ?_
          rintro e w6 ⟨rfl, hm6⟩
          obtain ⟨q6, ht6, hp6⟩ := HPX.out.left hm6 (Nat.le_refl _)
          replace hp6 := hp6.mono (Nat.le_succ c)
          have HP6 := Lib.hid hp6
          have HT6 := Lib.hid ht6
          clear y0 y1 y2 y3 y4 hm6 ht6 hp6
          obtain ⟨y0, y1, y2, y3, y4⟩ := HP6.out.four
          have HA9 := Lib.hid (HAP.out.closeO HJN.out)
          have HP9 := Lib.hid (HP6.out.mono (show _ ≤ c + 2 by omega))
          go_wp2_with fail
          have hd9 := dead_any HP9.out.a 1 (by unfold I64; omega)
          rw [HT6.out] at hd9
          refine hd9.mono ?_
          clear hd9
          rintro e w10 ⟨rfl, hk10⟩
          have HP10 := Lib.hid (HP9.out.kept0 hk10)
          rw [HA9.out.dead.1, HA9.out.dead.2]
          clear y0 y1 y2 y3 y4 hk10
          obtain ⟨y0, y1, y2, y3, y4⟩ := HP10.out.four
          go_wp2_with fail
          have hd10 := dead_any HP10.out.b 1 (by unfold I64; omega)
          refine hd10.mono ?_
          clear hd10
          rintro e w11 ⟨rfl, hk11⟩
          have HP11 := Lib.hid (HP10.out.kept0 hk11)
          clear y0 y1 y2 y3 y4 hk11
          obtain ⟨y0, y1, y2, y3, y4⟩ := HP11.out.four
          go_wp2_with fail
          go_roundw
          case rel => exact ⟨k + 1, c + 2, _, _, _, _, by go_num, by omega, by omega, HP11.out.a, HP11.out.b, HP11.out.d, HP11.out.qa, HP11.out.rb, HP11.out.k, HA9.out, HT6.out, rfl⟩
          case measure => simp [Go.RowKit.intOf]; omega
    · go_wp2_with fail
      go_ret
      exact ⟨rfl, hkp⟩
end Go.Proofs.Ytlfcccckghnffaa
