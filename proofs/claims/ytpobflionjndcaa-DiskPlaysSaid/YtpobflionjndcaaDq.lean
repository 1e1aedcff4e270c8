/- step of layer 3: Crash, with a list of the caller's own. -/
import Derived.Test.YtpobflionjndcaaDi
import Derived.Deep.AppendSrc
import Derived.Deep.Upon
import Derived.IntWalk
namespace Go.Proofs.Ytpobflionjndcaa
open Go.ChangeShapes Go.WideShapes Go.ChangeAt Go.RowKit
open Go.Maps Go.Sort Go.Shelf Go.Proofs
set_option linter.unusedVariables false
set_option linter.unusedSimpArgs false

/-- append of whatever row -/
theorem run_app {P : Program} (w : World) (base : Nat) (t ty e : TypeId) (i : TypeInfo) (z : Value) (size bytes : Nat) (ht : P.underlying t = some (.slice e)) (hi : P.info? e = some i) (hz : i.zero = some z)
    (hsize : i.size = size) (hby : i.bytes = bytes) (hzs : z.cells.size = size) (hsz : 0 < size)
    {v : Value} {n : Nat} {xs : List Value} (hown : w.ownsRow base e size v n xs) {a : Option Addr} {m c : Nat} {news : List Value} (hl : news.length = m * size)
    (hn : m = 0 ∨ ∃ g off, a = some ⟨g, off, none⟩ ∧ ∀ j u, news[j]? = some u → w.cell? ⟨g, off + j, none⟩ = some u) (h1 : ∀ u ∈ news, u.oneCell' = true)
    (h63 : n + m ≤ maxLen) (hbytes : (n + m) * bytes ≤ 140737488355328) (hbase : base ≤ w.heap.size) :
    ∃ v' w', (Builtin.append_ #[t, t] ty #[v, .slice a m c]).run P w = .ok v' w' ∧ w'.ownsRow base e size v' (n + m) (xs ++ news) ∧ w.grownBy w' v.ownBlock := by
  rcases hn with rfl | ⟨g, off, rfl, hc⟩
  · have hnil : news = [] := List.eq_nil_of_length_eq_zero (by simpa using hl)
    subst hnil
    have hs : Src P i.size t (.slice a 0 c) 0 [] w := by
      cases a with
      | none => exact Src.ofNil w ht c
      | some a => exact Src.ofSlice w ht a 0 c [] (by simp) (fun j u hu => by simp at hu) (by simp)
    refine ⟨v, w, ?_, by simpa using hown, ⟨rfl, rfl, rfl, Nat.le_refl _, fun _ _ _ => rfl⟩⟩
    rcases hown.2 with ⟨rfl, _⟩ | ⟨g, cap, cur, rfl, hb, hh, hnc, hcm, hcs, htake⟩
    · exact run_append_nothing w t t ty e i ht hi none 0 0 (Nat.le_refl _) (.slice a 0 c) hs
    · exact run_append_nothing w t t ty e i ht hi (some ⟨g, 0, none⟩) n cap hnc (.slice a 0 c) hs
  · obtain ⟨v', w', hr, h2, h3, _⟩ := run_append_own (P := P) w base t ty e i z size bytes ht hi hz hsize hby hzs hsz v n xs hown ⟨g, off, none⟩ m c news hl (fun j u hj => by rw [Addr.add_mid]; exact hc j u hj) h1 h63 hbytes hbase
    exact ⟨v', w', hr, h2, h3⟩
theorem step_app {P : Program} {ops : Array Oper} {o : Oper} {a : Act} {K : Act → World → Prop} {Q : Exit → Act → World → Prop} {E : Prop} (w : World) (hgd : o.guard = none) (s x : Operand) (t : TypeId)
    (ho : o.op = .call { callee := .builtin .append, args := #[s, x], argTypes := #[t, t] })
    (base : Nat) (e : TypeId) (i : TypeInfo) (z : Value) (size bytes : Nat) (ht : P.underlying t = some (.slice e)) (hi : P.info? e = some i) (hz : i.zero = some z)
    (hsize : i.size = size) (hby : i.bytes = bytes) (hzs : z.cells.size = size) (hsz : 0 < size)
    (v : Value) (n : Nat) (xs : List Value) (hs : a.eval s = v) (hown : w.ownsRow base e size v n xs) (ad : Option Addr) (m c : Nat) (news : List Value) (hx : a.eval x = .slice ad m c) (hl : news.length = m * size)
    (hn : m = 0 ∨ ∃ g off, ad = some ⟨g, off, none⟩ ∧ ∀ j u, news[j]? = some u → w.cell? ⟨g, off + j, none⟩ = some u) (h1 : ∀ u ∈ news, u.oneCell' = true)
    (h63 : n + m ≤ maxLen) (hbytes : (n + m) * bytes ≤ 140737488355328) (hbase : base ≤ w.heap.size)
    (h : ∀ v' w', w'.ownsRow base e size v' (n + m) (xs ++ news) → w.grownBy w' v.ownBlock → K (a.put o.dst v') w') :
    if Region.wanted o (yielded ops a.tmps) = true then Oper.wp P o a w K Q else E := by
  have hw : Region.wanted o (yielded ops a.tmps) = true := by simp [Region.wanted, hgd]
  rw [if_pos hw]
  obtain ⟨v', w', hr, h2, h3⟩ := run_app (P := P) w base t o.type e i z size bytes ht hi hz hsize hby hzs hsz hown (a := ad) (c := c) hl hn h1 h63 hbytes hbase
  unfold Oper.wp execOp
  simp only [ho, resolve, invoke, builtin, Sem.run_bind, Sem.run_pure, Result.andThen_ok, List.map_toArray, List.map_cons, List.map_nil, hs, hx, hr]
  exact h v' w' h2 h3

def howV (how : List Int) : List Value := how.map (Value.int .i64)
theorem howV_one (how : List Int) : ∀ u ∈ howV how, u.oneCell' = true := by
  intro u hu
  obtain ⟨x, _, rfl⟩ := List.mem_map.1 hu; rfl
theorem how_src {w : World} {ok : Nat → Prop} {a : Option Addr} {n c : Nat} {how : List Int} (h : HowAt w ok (.slice a n c) how) : n = 0 ∨ ∃ g off, a = some ⟨g, off, none⟩ ∧ ∀ j u, (howV how)[j]? = some u → w.cell? ⟨g, off + j, none⟩ = some u := by
  obtain ⟨a', c', hv, hc⟩ := h.ex
  injection hv with h1 h2 h3
  subst h1 h2
  cases how with
  | nil => exact .inl rfl
  | cons x how =>
    right
    obtain ⟨g, off, rfl, _, _⟩ := hc 0 (by simp)
    refine ⟨g, off, rfl, fun j u hj => ?_⟩
    have hjl : j < (x :: how).length := by have := (List.getElem?_eq_some_iff.1 hj).1; simpa [howV] using this
    obtain ⟨g', off', e, _, hcell⟩ := hc j hjl
    injection e with e
    injection e with e1 e2 _
    subst e1 e2
    rw [hcell, ← hj, howV, List.getElem?_map, List.getElem?_eq_getElem hjl]; rfl
theorem keep_cells {w w' : World} (h : Kept (fun _ => False) w w') : ∀ a u, w.cell? a = some u → w'.cell? a = some u := fun a u e => by
  rw [World.cell?_of_block (w := w) (h.block a.block (World.block_lt_of_cell? w a e) id)]; exact e
/-- a list of the caller's own, and 77 behind it -/
structure Own77 (w1 : World) (how : List Int) (g cap : Nat) (w : World) : Prop where
  lo : w1.heap.size ≤ g
  lt : g < w.heap.size
  cap1 : how.length + 1 ≤ cap
  cap2 : cap ≤ maxLen
  at_ : HowAt w (fun k => k = g) (.slice (some ⟨g, 0, none⟩) how.length cap) how
  last : w.cell? ⟨g, how.length, none⟩ = some (.int .i64 77)
theorem own77 {w1 w : World} {base : Nat} {v : Value} {how : List Int} (h : w.ownsRow base 3 1 v (how.length + 1) (howV how ++ [.int .i64 77])) (hwf : ∀ x ∈ how, -9223372036854775808 ≤ x ∧ x ≤ 9223372036854775807) (hb : w1.heap.size ≤ base) :
    ∃ g cap, v = .slice (some ⟨g, 0, none⟩) (how.length + 1) cap ∧ Own77 w1 how g cap w := by
  have hcell : ∀ g, v.ownBlock = some g → ∀ j u, (howV how ++ [.int .i64 77])[j]? = some u → w.cell? ((⟨g, 0, none⟩ : Addr).add j) = some u := fun g hg => World.ownsRow.cells h (g := g) hg
  have hlt := World.ownsRow.lt h
  rcases h.2 with ⟨rfl, h0⟩ | ⟨g, cap, cur, rfl, hbg, hh, hnc, hcm, r⟩
  · omega
  · refine ⟨g, cap, rfl, by omega, (hlt g rfl).2, hnc, hcm, ⟨⟨_, _, rfl, fun i hi => ⟨g, 0, rfl, rfl, ?_⟩⟩, hwf⟩, ?_⟩
    · have := hcell g rfl i (.int .i64 how[i]) (by rw [List.getElem?_append_left (by simpa [howV] using hi)]; simp [howV, hi])
      rwa [Addr.add_mid] at this
    · have := hcell g rfl how.length (.int .i64 77) (by rw [List.getElem?_append_right (by simp [howV])]; simp [howV])
      rwa [Addr.add_mid, Nat.zero_add] at this
theorem cell77 (w : World) : ∀ j u, [Value.int .i64 77][j]? = some u → (w.alloc (.cells #[.int .i64 77] 3)).cell? ⟨w.heap.size, 0 + j, none⟩ = some u := by
  intro j u hu
  have hj : j = 0 := by have := (List.getElem?_eq_some_iff.1 hu).1; simpa using this
  subst hj
  simp only [List.getElem?_cons_zero, Option.some.injEq] at hu
  subst hu
  rw [cell_of_row _ _ _ _ _ (0, 0) (heap_alloc_new w _)]; rfl

section
variable {B : Nat} {X : Nat → Prop} {b : Nat} {q : RB4} {d : DSt} {r : RSt} {w : World}
set_option maxRecDepth 100000 in
set_option maxHeartbeats 4000000 in
theorem step_crash (h : Pq B X b q d r w) (hs : Sim d r) (o : OpS) (hf : o.Fits) (hk : o.k = 5) (hv : Value) (hh : HowAt w (fun k => k < B) hv o.how) :
    Calls Try.prog 10 #[.pointer (some ⟨b, 0, none⟩), .pointer (some ⟨q.x, 0, none⟩), .agg #[.int .i64 o.k, .int .i64 o.n, .int .i64 o.f, .bool o.short, .bool o.other, hv]] w (SPost B X b q (stepD d o) w) := by
  obtain ⟨k, n, f, short, other, how⟩ := o
  obtain rfl : k = 5 := hk
  have hlen : how.length * 8 ≤ 140737488351232 := hf.h
  have HST : Hid (stepD d ⟨5, n, f, short, other, how⟩ = crashD d how) := Lib.hid rfl
  have HSIM := Lib.hid (sim_crashX hs how)
  have hBw := h.le
  have hwf := hh.wf
  obtain ⟨ha, hcap, hhe, _⟩ := hh.ex
  have hhe : hv = .slice ha how.length hcap := hhe
  subst hhe
  have HWF := Lib.hid hwf
  have HHH := Lib.hid hh
  have HB : Hid (Ps w B X (fun k => X k ∨ k = w.heap.size) w.heap.size [.int .i64 5, .int .i64 n, .int .i64 f, .bool short, .bool other, .slice ha how.length hcap] b q d r (w.alloc (.cells #[.int .i64 5, .int .i64 n, .int .i64 f, .bool short, .bool other, .slice ha how.length hcap] 33))) := Lib.hid (h.box [.int .i64 5, .int .i64 n, .int .i64 f, .bool short, .bool other, .slice ha how.length hcap])
  have HK1 : Hid (Kept (fun _ => False) w (w.alloc (.cells #[.int .i64 5, .int .i64 n, .int .i64 f, .bool short, .bool other, .slice ha how.length hcap] 33))) := Lib.hid ((Kept.refl _ w).alloc _)
  have HFAR := Lib.hid (fun g (hx : X g) => (h.far g hx).1)
  clear hs h hf hh hwf
  obtain ⟨i0, hsi, hsz0, hss, hsb⟩ := info_parts int_info
  have HIN := Lib.hid (And.intro hsi (And.intro hsz0 (And.intro hss hsb)))
  clear hsi hsz0 hss hsb
  obtain ⟨w1, hw1⟩ : ∃ w1, w.alloc (.cells #[.int .i64 5, .int .i64 n, .int .i64 f, .bool short, .bool other, .slice ha how.length hcap] 33) = w1 := ⟨_, rfl⟩
  have HW1 := Lib.hid hw1
  rw [hw1] at HB HK1
  have hsz1 : w1.heap.size = w.heap.size + 1 := by rw [← hw1]; simp
  clear hw1
  have HSZ1 := Lib.hid hsz1
  clear hsz1
  have HH1 := Lib.hid (HHH.out.kept HK1.out (fun _ _ f => f))
  go_enter Try.func10, Try.ntmps10
  go_wp2_with fail
  rw [HW1.out]
  clear HW1
  go_cut [12] (fun v wx => ∃ g cap, v = .slice (some ⟨g, 0, none⟩) how.length cap ∧ Own77 w1 how g cap wx ∧ Kept (fun _ => False) w1 wx)
  case first =>
    have hc5 : w1.cell? ⟨w.heap.size, 5, none⟩ = some (.slice ha how.length hcap) := HB.out.cell 5
    have hc5a : w1.drew.cell? ⟨w.heap.size, 5, none⟩ = some (.slice ha how.length hcap) := hc5
    have hc5b : (w1.alloc (.cells #[.int .i64 77] 3)).drew.cell? ⟨w.heap.size, 5, none⟩ = some (.slice ha how.length hcap) := (HB.out.kept0 ((Kept.refl _ w1).alloc (.cells #[.int .i64 77] 3))).cell 5
    have hpa := HB.out.drew
    have hpb := (HB.out.kept0 ((Kept.refl _ w1).alloc (.cells #[.int .i64 77] 3))).drew
    have hha := HH1.out.kept ((Kept.refl (fun _ => False) w1).drew) (fun _ _ f => f)
    have hhb := HH1.out.kept (((Kept.refl (fun _ => False) w1).alloc (.cells #[.int .i64 77] 3)).drew) (fun _ _ f => f)
    have hka : Kept (fun _ => False) w1 w1.drew := (Kept.refl _ w1).drew
    have hkb : Kept (fun _ => False) w1 ((w1.alloc (.cells #[.int .i64 77] 3)).drew) := ((Kept.refl _ w1).alloc _).drew
    go_region_held3 (fun w' => w'.cell? ⟨w.heap.size, 5, none⟩ = some (.slice ha how.length hcap)) (first | assumption | go_keep | exact Ps.cell (by assumption) 5)
      (first
        | (refine step_app _ (by rfl) _ _ _ (by rfl) _ 3 i0 (.int .i64 0) 1 8 Try.underlying23 HIN.out.1 HIN.out.2.1 HIN.out.2.2.1 HIN.out.2.2.2 rfl (by decide) (.slice none 0 0) 0 [] (by rfl) (World.ownsRow_nil _ _ _ 1) ha how.length hcap (howV how) (by rfl) (by simp [howV]) (how_src (by assumption)) (howV_one how) (by unfold maxLen; omega) (by omega) (Nat.le_refl _) ?_; intro v2 w2 hown2 hg2; have hk2 := (Kept.of_grownBy hg2).mono (T := fun _ => False) (fun k _ e => by simp [Value.ownBlock] at e); have hp2 := Ps.kept0 (by assumption) hk2; have hc2 : w2.cell? ⟨w.heap.size, 5, none⟩ = some (.slice ha how.length hcap) := hp2.cell 5; have hkk := Kept.trans (S := fun _ => False) (by assumption) hk2; have hs2 := World.ownsRow.lt hown2; have hsz2 := hkk.size; have HOA : Hid ((w2.alloc (.cells #[.int .i64 77] 3)).ownsRow _ 3 1 v2 (0 + how.length) ([] ++ howV how)) := Lib.hid (row_kept0 hown2 ((Kept.refl _ w2).alloc _)); have HOB := Lib.hid hown2; have hcz := cell77 w2; have HCZ := Lib.hid hcz; have HKEEP := Lib.hid (keep_cells hk2); clear hcz hown2 hg2)
        | (refine step_app _ (by rfl) _ _ _ (by rfl) _ 3 i0 (.int .i64 0) 1 8 Try.underlying23 HIN.out.1 HIN.out.2.1 HIN.out.2.2.1 HIN.out.2.2.2 rfl (by decide) v2 (0 + how.length) ([] ++ howV how) (by rfl) HOA.out (some ⟨w2.heap.size, 0, none⟩) 1 1 [.int .i64 77] (by rfl) (by rfl) (.inr ⟨_, _, rfl, HCZ.out⟩) (by intro u hu; simp only [List.mem_singleton] at hu; subst hu; rfl) (by unfold maxLen; omega) (by omega) (by have := hk2.size; simp at this ⊢; omega) ?_; intro v4 w4 hown4 hg4; have hkk4 : Kept (fun _ => False) w1 w4 := (hkk.alloc _).trans' (Kept.of_grownBy hg4) (fun k hk e => by have := (hs2 k e.symm).1; simp at this; omega); obtain ⟨g, gcap, hv4, ho7⟩ := own77 (w1 := w1) (by simpa using hown4) HWF.out (by simp); subst hv4; have hp4 := HB.out.kept0 hkk4; have hc4 : w4.cell? ⟨w.heap.size, 5, none⟩ = some (.slice ha how.length hcap) := hp4.cell 5; have hcp1 := ho7.cap1; have hcpI : (how.length : Int) ≤ (gcap : Int) := (by omega); have hcp2 : gcap ≤ 9223372036854775807 := (by have := ho7.cap2; unfold maxLen at this; omega); have HO7 := Lib.hid ho7; have HK4 := Lib.hid hkk4; clear hown4 hg4 ho7 hkk4 hkk hs2 hk2)
        | (refine step_app _ (by rfl) _ _ _ (by rfl) _ 3 i0 (.int .i64 0) 1 8 Try.underlying23 HIN.out.1 HIN.out.2.1 HIN.out.2.2.1 HIN.out.2.2.2 rfl (by decide) v2 (0 + how.length) ([] ++ howV how) (by rfl) HOB.out (some ⟨w1.heap.size, 0, none⟩) 1 1 [.int .i64 77] (by rfl) (by rfl) (.inr ⟨_, _, rfl, fun j u hj => HKEEP.out _ _ (cell77 w1 j u hj)⟩) (by intro u hu; simp only [List.mem_singleton] at hu; subst hu; rfl) (by unfold maxLen; omega) (by omega) (by have := hk2.size; simp at this ⊢; omega) ?_; intro v4 w4 hown4 hg4; have hkk4 : Kept (fun _ => False) w1 w4 := (hkk).trans' (Kept.of_grownBy hg4) (fun k hk e => by have := (hs2 k e.symm).1; simp at this; omega); obtain ⟨g, gcap, hv4, ho7⟩ := own77 (w1 := w1) (by simpa using hown4) HWF.out (by simp); subst hv4; have hp4 := HB.out.kept0 hkk4; have hc4 : w4.cell? ⟨w.heap.size, 5, none⟩ = some (.slice ha how.length hcap) := hp4.cell 5; have hcp1 := ho7.cap1; have hcpI : (how.length : Int) ≤ (gcap : Int) := (by omega); have hcp2 : gcap ≤ 9223372036854775807 := (by have := ho7.cap2; unfold maxLen at this; omega); have HO7 := Lib.hid ho7; have HK4 := Lib.hid hkk4; clear hown4 hg4 ho7 hkk4 hkk hs2 hk2))
    all_goals go_wp2_with fail
    all_goals go_meet
    all_goals exact ⟨_, _, rfl, HO7.out, HK4.out⟩
  case rest =>
  obtain ⟨g, gcap, rfl, ho7, hk7⟩ := hcut
  have hpw := HB.out.more hk7 ho7.lo ho7.lt
  have HPW := Lib.hid hpw
  have HO := Lib.hid ho7
  have HHW := Lib.hid (HH1.out.kept hk7 (fun _ _ f => f))
  have hcp1 := ho7.cap1
  have hcp2 : gcap ≤ 9223372036854775807 := by have := ho7.cap2; unfold maxLen at this; omega
  clear hpw ho7 hk7
  go_wp2_with fail
  refine (ps_crash HPW.out (HO.out.at_.mono (fun k e => .inr (.inr e)))).mono ?_
  rintro e w5 ⟨rfl, hp5, hk5⟩
  have HP5 := Lib.hid hp5
  have HO5 := Lib.hid (HO.out.at_.kept hk5 (fun k e hy => hy.2 (.inr e)))
  have hl5 : w5.cell? ⟨g, how.length, none⟩ = some (.int .i64 77) := by rw [World.cell?_of_block (w := wc) (hk5.block g HO.out.lt (fun hy => hy.2 (.inr rfl)))]; exact HO.out.last
  have HL5 := Lib.hid hl5
  have HH5 := Lib.hid (HHW.out.kept hk5 (fun k hk hy => by have := hy.1; omega))
  have hc5 : w5.cell? ⟨w.heap.size, 5, none⟩ = some (.slice ha how.length hcap) := hp5.cell 5
  have hg5 : g < w5.heap.size := Nat.lt_of_lt_of_le HO.out.lt hk5.size
  have HG5 := Lib.hid hg5
  clear hp5 hk5 hl5 hg5
  go_wp2_with fail
  refine (ps_xcrash HP5.out (HH5.out.mono (fun k hk => .inl hk)) (by omega)).mono ?_
  rintro e w6 ⟨rfl, hp6, hk6⟩
  have HP6 := Lib.hid hp6
  have HO6 := Lib.hid (HO5.out.kept hk6 (fun k e hy => hy.2 (.inr e)))
  have hl6 : w6.cell? ⟨g, how.length, none⟩ = some (.int .i64 77) := by rw [World.cell?_of_block (w := w5) (hk6.block g HG5.out (fun hy => hy.2 (.inr rfl)))]; exact HL5.out
  have HH6 := Lib.hid (HH5.out.kept hk6 (fun k hk hy => by have := hy.1; omega))
  have hc6 : w6.cell? ⟨w.heap.size, 5, none⟩ = some (.slice ha how.length hcap) := hp6.cell 5
  clear hp6 hk6 hc5
  go_wp2_with fail
  refine (same_yes HO6.out HH6.out (by omega)).mono ?_
  rintro e w7 ⟨rfl, n7, rfl⟩
  have s1 : IntKind.i64.wrap ((how.length : Int) + 1) = (how.length : Int) + 1 := IntWalk.i64_in _ (by omega)
  have s2 : (0 : Int) ≤ (how.length : Int) + 1 := by omega
  have s3 : ((how.length : Int) + 1).toNat = how.length + 1 := by omega
  have s4 : (how.length : Int) + 1 ≤ (gcap : Int) := by omega
  have s5 : (how.length : Int) < (how.length : Int) + 1 := by omega
  go_wp2_with fail
  go_quiet (fail)
  go_wp2_with fail
  go_ret
  rw [HST.out]
  exact Ps.post ((HP6.out.drewN n7).drewN _) HSIM.out (by simp)
end
end Go.Proofs.Ytpobflionjndcaa
