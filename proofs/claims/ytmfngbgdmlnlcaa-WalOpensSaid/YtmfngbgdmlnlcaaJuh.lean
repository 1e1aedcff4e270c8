/- The law's asks, of both kinds. -/
import Derived.Test.YtmfngbgdmlnlcaaJue
import Derived.Test.YtmfngbgdmlnlcaaJtd
import Derived.Laws.AppendOwnNone
import Derived.BigQuiet
namespace Go.Proofs.Ytmfngbgdmlnlcaa
open Go.ChangeShapes Go.WideShapes Go.ChangeAt Go.RowKit
set_option linter.unusedVariables false
set_option linter.unusedSimpArgs false
theorem rec_size {s r t : List UInt8} (h : recN s = some (r, t)) : s.length = (6 + r.length) + t.length := by
  unfold recN at h
  split at h
  · cases h
  · split at h
    · cases h
    · split at h
      · cases h
      · split at h
        · rename_i h1 h2 h3 h4
          simp only [Option.some.injEq, Prod.mk.injEq] at h
          obtain ⟨rfl, rfl⟩ := h
          rw [List.length_take, List.length_drop, List.length_drop]
          have : 2 ≤ behN s := by unfold behN; omega
          omega
        · cases h
theorem taken_size : ∀ (f : Nat) (s : List UInt8) (l : List (List UInt8)), s.length < f → takenN f s = some l → sizeN (l.map bytesOf) = s.length
  | 0, s, l, h, _ => by omega
  | f + 1, s, l, h, ht => by
    rw [takenN] at ht
    split at ht
    · rename_i h0; cases ht; simp [sizeN, h0]
    · cases hr : recN s with
      | none => rw [hr] at ht; cases ht
      | some p =>
        obtain ⟨r, t⟩ := p
        rw [hr] at ht
        simp only [] at ht
        have hs := rec_size hr
        cases hx : takenN f t with
        | none => rw [hx] at ht; cases ht
        | some m =>
          rw [hx] at ht
          cases ht
          have := taken_size f t m (by omega) hx
          have e : sizeN (List.map bytesOf (r :: m)) = (6 + r.length) + sizeN (m.map bytesOf) := by
            unfold sizeN
            rw [List.map_cons, List.map_cons, List.sum_cons]
            rfl
          rw [e, this, hs]
set_option maxHeartbeats 1000000 in
theorem xsize_any {ok : Nat → Prop} {v : Value} {l : List ByteArray} {w : World} (h : TsAt w ok v l) (hl : l.length ≤ 4611686018427387904) (hs : sizeN l ≤ 4611686018427387904) :
    Calls Try.prog 49 #[v] w fun e w' => e = .returned (.int .i64 (sizeN l)) ∧ w = w' := by
  obtain ⟨a, cap, rfl, hc⟩ := h.ex
  have HC := Lib.hid hc
  clear h hc
  go_enter Try.func49, Try.ntmps49
  go_wp2
  go_loop [3, 4] (fun n i => ∃ k : Nat, k ≤ l.length ∧ i = .int .i64 k ∧ n = .int .i64 (sizeN (l.take k) : Nat)) (fun _ i => l.length - (Go.RowKit.intOf i).toNat)
  case atStart => exact ⟨0, Nat.zero_le _, rfl, rfl⟩
  case round =>
    obtain ⟨k, hk, rfl, rfl⟩ := hrel
    by_cases hlt : k < l.length
    · obtain ⟨g, off, rfl, _, hcell⟩ := HC.out k hlt
      have hst := sizeN_take l k hlt
      have hmo := sizeN_mono l (k + 1)
      obtain ⟨s, hse⟩ : ∃ s, l[k] = s := ⟨_, rfl⟩
      obtain ⟨n, hn⟩ : ∃ n, sizeN (l.take k) = n := ⟨_, rfl⟩
      rw [hse] at hcell hst
      rw [hn] at hst ⊢
      have HS := Lib.hid hst
      have h1 : (n : Int) + (s.size : Int) + 6 ≤ 4611686018427387904 := by omega
      clear hst hmo hse hn
      go_wp2
      go_round
      case rel => exact ⟨k + 1, by omega, by go_num, by rw [HS.out]; exact congrArg (Value.int .i64) (by omega)⟩
      case measure => simp [Go.RowKit.intOf]; omega
    · go_wp2
      go_ret
      exact ⟨ret_int (by rw [List.take_of_length_le (by omega)]), rfl⟩
theorem heap_cells8 {w : World} {yb : Nat} {a0 a1 a2 a3 a4 a5 a6 a7 : Value} {T : TypeId} (h : w.heap[yb]? = some (.cells #[a0, a1, a2, a3, a4, a5, a6, a7] T (0, 0))) (i : Nat) : w.cell? ⟨yb, i, none⟩ = ([a0, a1, a2, a3, a4, a5, a6, a7] : List Value)[i]? := by
  rw [cell_of_row w yb i _ T (0, 0) h]
  rw [← Array.getElem?_toList]
theorem YAt.kept {w w' : World} {yb x B : Nat} {m : MSt} {l : List (List UInt8)} (h : YAt w yb x B m l) {Y : Nat → Prop} (hk : Kept Y w w') (hY : ∀ k, k < w.heap.size → ¬ Y k) : YAt w' yb x B m l := by
  obtain ⟨lv, h1, h2⟩ := h.ex
  exact ⟨⟨lv, by rw [hk.block yb (lt_of_block h1) (hY _ (lt_of_block h1))]; exact h1, rowOwn h2 hk (fun k hk' => hY k (h2.lt k hk').2)⟩⟩
theorem map_str (l : List (List UInt8)) : l.map strB = (l.map bytesOf).map Value.string := by rw [List.map_map]; rfl
theorem YAt.texts {w : World} {yb x B : Nat} {m : MSt} {l : List (List UInt8)} (h : YAt w yb x B m l) : ∃ lv, w.cell? ⟨yb, 1, none⟩ = some lv ∧ TsAt w (fun k => lv.ownBlock = some k) lv (l.map bytesOf) ∧ w.ownsRow B 9 1 lv l.length ((l.map bytesOf).map Value.string) := by
  obtain ⟨lv, h1, h2⟩ := h.ex
  rw [map_str] at h2
  exact ⟨lv, heap_cells8 h1 1, ts_row (B := B) (by rw [List.length_map]; exact h2), h2⟩
theorem xroom_any {w : World} {q : RB4} {r : RSt} {yb B : Nat} {m : MSt} {l : List (List UInt8)} (h : YAt w yb q.x B m l) (hr : RfAt w q r) (h16 : 16 ≤ r.n) {sz : Nat} (hsz : sizeN (l.map bytesOf) = sz) (hb : sz ≤ 1048576) :
    Calls Try.prog 30 #[.pointer (some ⟨yb, 0, none⟩)] w fun e w' => e = .returned (.int .i64 (max (-1) (min 4000 (((((r.n - 2) / 2) * 64 : Nat) : Int) - sz - 6)))) ∧ ∃ n, w' = w.drewN n := by
  obtain ⟨lv, c1, ht, hrow⟩ := h.texts
  obtain ⟨lv', h1, h2⟩ := h.ex
  have c0 : w.cell? ⟨yb, 0, none⟩ = some (.pointer (some ⟨q.x, 0, none⟩)) := heap_cells8 h1 0
  have hlen : l.length ≤ sz := by rw [← hsz]; have := sizeN_len (l.map bytesOf); simpa using this
  have HSZ := Lib.hid (fun n => xsize_any (w := w.drewN n) (ht.kept (X := fun _ => False) ((Kept.refl _ w).drewN n) (fun _ _ f => f)) (by rw [List.length_map]; omega) (by omega))
  have HHF := Lib.hid (fun n => half_any (w := w.drewN n) (hr.drewN n) (by omega))
  have hn := hr.hi
  rw [hsz] at HSZ
  obtain ⟨hf, hhf⟩ : ∃ hf, (r.n - 2) / 2 = hf := ⟨_, rfl⟩
  rw [hhf] at HHF ⊢
  have HE : Hid ((((hf * 64 : Nat)) : Int) = 64 * (hf : Int)) := Lib.hid (by omega)
  rw [HE.out]
  have hfb : hf ≤ 16384 := by omega
  have hw1 : IntKind.i64.wrap (64 * (hf : Int)) = 64 * (hf : Int) := by rw [IntKind.wrap_i64]; omega
  have hw2 : IntKind.i64.wrap (64 * (hf : Int) - (sz : Int)) = 64 * (hf : Int) - (sz : Int) := by rw [IntKind.wrap_i64]; omega
  have hw3 : IntKind.i64.wrap (64 * (hf : Int) - (sz : Int) - 6) = 64 * (hf : Int) - (sz : Int) - 6 := by rw [IntKind.wrap_i64]; omega
  clear h ht hrow h1 h2 hr hhf hsz
  go_enter Try.func30, Try.ntmps30
  go_wp2_with fail
  go_quiet ((first
    | (go_at_call 47; exact (HHF.out _).mono fun e w' ⟨he, hw⟩ => ⟨he, _, hw.symm⟩)
    | (go_at_call 49; exact (HSZ.out _).mono fun e w' ⟨he, hw⟩ => ⟨he, _, hw.symm⟩)))
  go_wp2_with fail
  go_ret
  exact ⟨ret_int rfl, _, rfl⟩
set_option maxHeartbeats 1000000 in
theorem xrecs_any {w : World} {yb x B : Nat} {m : MSt} {l : List (List UInt8)} (h : YAt w yb x B m l) (hl : l.length ≤ 1048576) : Calls Try.prog 26 #[.pointer (some ⟨yb, 0, none⟩)] w fun e w' =>
    ∃ v', e = .returned (.tuple #[v', .int .i64 0]) ∧ w'.ownsRow w.heap.size 9 1 v' l.length ((l.map bytesOf).map Value.string) ∧ Kept (fun _ => False) w w' := by
  obtain ⟨lv, c1, ht, hrow⟩ := h.texts
  obtain ⟨lv', h1, h2⟩ := h.ex
  have c7 : w.cell? ⟨yb, 7, none⟩ = some (.bool false) := heap_cells8 h1 7
  have hlb : (l.map bytesOf).length = l.length := List.length_map _
  obtain ⟨i0, si, sz, ss, sbb⟩ := string_inf
  have HSI := Lib.hid (And.intro si (And.intro sz (And.intro ss sbb)))
  clear h h1 h2 si sz ss sbb
  rcases hrow.2 with ⟨rfl, h0⟩ | ⟨gg, cap', cur, rfl, hbb, hh, g1, g2, g3, g4⟩
  · have hl0 : l = [] := List.length_eq_zero_iff.1 h0
    subst hl0
    clear ht hrow h0 hlb
    go_enter Try.func26, Try.ntmps26
    go_wp2_with (at_builtin; refine wpList_append_own_none rfl _ _ 22 rfl w.heap.size 9 i0 1 Try.underlying22 HSI.out.1 (.slice none 0 0) 0 [] rfl (World.ownsRow_nil w _ _ 1) rfl ?_)
    go_ret2
    exact ⟨_, rfl, World.ownsRow_nil _ _ _ _, Kept.refl _ _⟩
  · have hxs := hrow.cells (g := gg) rfl
    have HXS := Lib.hid hxs
    have HLB := Lib.hid hlb
    clear hxs ht hrow hbb hh g1 g2 g3 g4 hlb
    go_enter Try.func26, Try.ntmps26
    go_wp2_with (at_builtin; refine wpList_append_own _ rfl _ _ 22 rfl w.heap.size 9 i0 (.string ByteArray.empty) 1 16 Try.underlying22 HSI.out.1 HSI.out.2.1 HSI.out.2.2.1 HSI.out.2.2.2 rfl (by decide) (.slice none 0 0) 0 [] rfl (World.ownsRow_nil w _ _ 1) ⟨gg, 0, none⟩ l.length cap' ((l.map bytesOf).map Value.string) rfl (by rw [List.length_map, HLB.out, Nat.mul_one]) HXS.out (by intro u hu; obtain ⟨x, _, rfl⟩ := List.mem_map.1 hu; rfl) (by unfold maxLen; omega) (by omega) (Nat.le_refl _) (fun v6 w6 hown6 hg6 hnil6 => ?_); rw [Nat.zero_add, List.nil_append] at hown6; have HO6 := Lib.hid hown6; have HK6 := Lib.hid ((Kept.of_grownBy hg6).mono (T := fun _ => False) (fun k _ e => by cases e)); clear hown6 hg6 hnil6)
    go_ret2
    exact ⟨_, rfl, HO6.out, HK6.out⟩
end Go.Proofs.Ytmfngbgdmlnlcaa

namespace Go.Proofs.Ytmfngbgdmlnlcaa
open Go.ChangeShapes Go.WideShapes Go.ChangeAt Go.RowKit
set_option linter.unusedVariables false
set_option linter.unusedSimpArgs false
def sideC (db : Nat) (lp : Option Addr) (x : Nat) (yp : Option Addr) : Array Value := #[.pointer (some ⟨db, 0, none⟩), .pointer lp, .pointer (some ⟨x, 0, none⟩), .pointer yp]
structure SideAt (w : World) (sk db : Nat) (lp : Option Addr) (x : Nat) (yp : Option Addr) : Prop where
  at_ : w.heap[sk]? = some (.cells #[.pointer (some ⟨db, 0, none⟩), .pointer lp, .pointer (some ⟨x, 0, none⟩), .pointer yp] 37 (0, 0))
theorem SideAt.four {w : World} {sk db : Nat} {lp : Option Addr} {x : Nat} {yp : Option Addr} (h : SideAt w sk db lp x yp) :
    w.cell? ⟨sk, 0, none⟩ = some (.pointer (some ⟨db, 0, none⟩)) ∧ w.cell? ⟨sk, 1, none⟩ = some (.pointer lp) ∧ w.cell? ⟨sk, 2, none⟩ = some (.pointer (some ⟨x, 0, none⟩)) ∧ w.cell? ⟨sk, 3, none⟩ = some (.pointer yp) ∧ (∀ i, w.frozen? ⟨sk, i, none⟩ = false) := by
  have e : ∀ i, w.cell? ⟨sk, i, none⟩ = ([.pointer (some ⟨db, 0, none⟩), .pointer lp, .pointer (some ⟨x, 0, none⟩), .pointer yp] : List Value)[i]? := fun i => by
    rw [cell_of_row w sk i _ _ (0, 0) h.at_, ← Array.getElem?_toList]
  exact ⟨e 0, e 1, e 2, e 3, fun i => by simp [World.frozen?, h.at_]⟩
theorem SideAt.kept {w w' : World} {sk db : Nat} {lp : Option Addr} {x : Nat} {yp : Option Addr} (h : SideAt w sk db lp x yp) {Y : Nat → Prop} (hk : Kept Y w w') (hY : ¬ Y sk) : SideAt w' sk db lp x yp := ⟨by rw [hk.block sk (lt_of_block h.at_) hY]; exact h.at_⟩
theorem SideAt.set1 {w : World} {sk db : Nat} {lp : Option Addr} {x : Nat} {yp : Option Addr} (h : SideAt w sk db lp x yp) (p : Option Addr) : SideAt (w.setCell ⟨sk, 1, none⟩ (.pointer p)) sk db p x yp :=
  ⟨by have := heap_set (c := [.pointer (some ⟨db, 0, none⟩), .pointer lp, .pointer (some ⟨x, 0, none⟩), .pointer yp]) (i := 1) (.pointer p) h.at_; exact this⟩
theorem SideAt.set3 {w : World} {sk db : Nat} {lp : Option Addr} {x : Nat} {yp : Option Addr} (h : SideAt w sk db lp x yp) (p : Option Addr) : SideAt (w.setCell ⟨sk, 3, none⟩ (.pointer p)) sk db lp x p :=
  ⟨by have := heap_set (c := [.pointer (some ⟨db, 0, none⟩), .pointer lp, .pointer (some ⟨x, 0, none⟩), .pointer yp]) (i := 3) (.pointer p) h.at_; exact this⟩
/-- both logs, of one mark and of the same records -/
structure Sit (w : World) (sk db lb yb : Nat) (q : RB4) (m : MSt) (l : List (List UInt8)) (d : DSt) (r : RSt) : Prop where
  side : SideAt w sk db (some ⟨lb, 0, none⟩) q.x (some ⟨yb, 0, none⟩)
  log : ∃ Z, Wl Z w lb db (openL m l) d
  y : ∃ B, YAt w yb q.x B m l
  r : RfAt w q r
theorem Wl.over {Z : Nat → Prop} {w w' : World} {lb db : Nat} {g : LSt} {d : DSt} (h : Wl Z w lb db g d) (hk : Kept (fun k => w.heap.size ≤ k) w w') : Wl (fun k => k < w.heap.size ∨ w'.heap.size ≤ k) w' lb db g d := by
  obtain ⟨sb, mb, nn, rv, hD, hL, ⟨h1, h2, h3⟩, h4, h5⟩ := h.ex
  refine ⟨sb, mb, nn, rv, hD.kept hk (fun k hk' hle => by have hle : w.heap.size ≤ k := hle; have := hD.inn k hk'; omega), ⟨?_, ?_⟩, ⟨.inl (lt_of_block hL.at_), fun k hk' => .inl (hD.inn k hk'), fun k hk' => .inl (hL.row.lt k hk').2⟩, h4, fun k hk' => .inr hk'⟩
  · rw [hk.block lb (lt_of_block hL.at_) (fun hle => by have hle : w.heap.size ≤ lb := hle; have := lt_of_block hL.at_; omega)]; exact hL.at_
  · exact rowOwn hL.row hk (fun k hk' hle => by have hle : w.heap.size ≤ k := hle; have := (hL.row.lt k hk').2; omega)
theorem Sit.over {w w' : World} {sk db lb yb : Nat} {q : RB4} {m : MSt} {l : List (List UInt8)} {d : DSt} {r : RSt} (h : Sit w sk db lb yb q m l d r) (hk : Kept (fun k => w.heap.size ≤ k) w w') : Sit w' sk db lb yb q m l d r := by
  obtain ⟨Z, hl⟩ := h.log
  obtain ⟨B, hy⟩ := h.y
  exact ⟨h.side.kept hk (fun hle => by have hle : w.heap.size ≤ sk := hle; have := lt_of_block h.side.at_; omega), ⟨_, hl.over hk⟩, ⟨B, hy.kept hk (fun k hk' hle => by have hle : w.heap.size ≤ k := hle; omega)⟩, h.r.kept hk (fun k hk' hle => by have hle : w.heap.size ≤ k := hle; have := h.r.inn k hk'; omega)⟩
def OpensPost (w : World) (sk db sb mb : Nat) (q : RB4) (d : DSt) (r : RSt) (e : Ending) (w' : World) : Prop :=
  e = .returned (.bool true) ∧ ((∃ m l lb yb, Stands d m l ∧ Sit w' sk db lb yb q m l d r) ∨ SideAt w' sk db none q.x none) ∧ Kept (fun k => DB db sb mb k ∨ k = sk ∨ w.heap.size ≤ k) w w'
set_option maxRecDepth 100000 in
set_option maxHeartbeats 4000000 in
theorem opens_any {w : World} {sk db sb mb nn : Nat} {q : RB4} {d : DSt} {r : RSt} (hs : SideAt w sk db none q.x none) (hD : DAt w db sb mb nn d) (hr : RfAt w q r) (hdd : d.dead = false) (hg : r.Gone = false) (h16 : 16 ≤ r.n) (hn : d.n = r.n) (hS : ∀ i, i < r.n → d.S i = r.L i)
    (a1 : ¬ DB db sb mb sk) (a2 : ¬ XB q sk) (a3 : ∀ k, XB q k → ¬ DB db sb mb k) :
    Calls Try.prog 9 #[.pointer (some ⟨sk, 0, none⟩), .bool false] w (OpensPost w sk db sb mb q d r) := by
  have hlt := lt_of_block hs.at_
  have HOP := Lib.hid (open_any (Z := fun k => DB db sb mb k ∨ w.heap.size ≤ k) hD (fun k hk => .inl hk) (fun k hk => .inr hk) hdd)
  have HS0 := Lib.hid hs
  have HR := Lib.hid hr
  have HIN := Lib.hid hr.inn
  have HA1 := Lib.hid a1
  have HA2 := Lib.hid a2
  have HA3 := Lib.hid a3
  have HXO := Lib.hid (fun (V : World) (hv : RfAt V q r) => xopen_any hv hg h16 d hn hS)
  obtain ⟨c0, c1, c2, c3, ff⟩ := hs.four
  clear hs hD hr hdd hg h16 hn hS a1 a2 a3 c1 c2 c3 ff
  by_cases hst : ∃ m l, Stands d m l
  · obtain ⟨m, l, hml⟩ := hst
    have HML := Lib.hid hml
    clear hml
    go_enter Try.func9, Try.ntmps9
    go_wp2_with fail
    refine HOP.out.mono ?_
    rintro e w1 ⟨p, v, rfl, h1, h2, hk1⟩
    obtain ⟨rfl, lb, rfl, hlb, hw1⟩ := h1 m l HML.out
    have HS1 := Lib.hid (HS0.out.kept hk1 (fun h => h.elim (fun h => HA1.out h) (fun h => by omega)))
    have HR1 := Lib.hid (HR.out.kept hk1 (fun k hx hz => hz.elim (fun h => HA3.out k hx h) (fun h => by have := HIN.out k hx; omega)))
    have HW1 := Lib.hid hw1
    have HLB : Hid (w.heap.size ≤ lb) := Lib.hid hlb
    have HT1 := Lib.hid (hk1.mono (T := fun k => DB db sb mb k ∨ k = sk ∨ w.heap.size ≤ k) (fun k _ h => h.elim .inl (fun h => .inr (.inr h))))
    have HSZ1 := Lib.hid hk1.size
    clear h1 h2 hk1 hw1 c0
    obtain ⟨c0, c1, c2, c3, ff⟩ := HS1.out.four
    have f1 := ff 1
    clear ff hlb
    go_wp2_with fail
    have hk2 := kept_set w1 sk 1 (.pointer (some ⟨lb, 0, none⟩))
    have HS2 := Lib.hid (HS1.out.set1 (some ⟨lb, 0, none⟩))
    have HR2 := Lib.hid (HR1.out.kept hk2 (fun k hx e => HA2.out (by have e : k = sk := e; rw [← e]; exact hx)))
    have hnsk : ¬ lb = sk := by have := HLB.out; omega
    have HW2 : Hid (Wl (fun k => (DB db sb mb k ∨ w.heap.size ≤ k)) (w1.setCell ⟨sk, 1, none⟩ (.pointer (some ⟨lb, 0, none⟩))) lb db (openL m l) d) := Lib.hid (HW1.out.kept hk2 (fun k hz e => by
      have e : k = sk := e
      subst e
      rcases hz with hz | hz
      · exact HA1.out hz
      · omega))
    have HT2 := Lib.hid (HT1.out.trans (hk2.mono (fun k _ h => .inr (.inl h))))
    have HSZ2 : Hid (w.heap.size ≤ (w1.setCell ⟨sk, 1, none⟩ (.pointer (some ⟨lb, 0, none⟩))).heap.size) := Lib.hid (Nat.le_trans HSZ1.out hk2.size)
    clear hk2 c0 c1 c2 c3 f1 HS1 HR1 HW1 HOP
    generalize w1.setCell ⟨sk, 1, none⟩ (.pointer (some ⟨lb, 0, none⟩)) = w2 at HS2 HR2 HW2 HSZ2 HT2 ⊢
    refine (HXO.out _ HR2.out).mono ?_
    rintro e w3 ⟨p2, v2, rfl, g1, g2, hk3⟩
    obtain ⟨rfl, yb, rfl, hyb, hy⟩ := g1 m l HML.out
    have HS3 := Lib.hid (HS2.out.kept hk3 id)
    have HR3 := Lib.hid (HR2.out.kept hk3 (fun _ _ f => f))
    have HW3 := Lib.hid (HW2.out.kept0 hk3)
    have HY3 := Lib.hid hy
    have HT3 := Lib.hid (HT2.out.trans (hk3.mono (fun _ _ f => f.elim)))
    have hsz3 := hk3.size
    have hsz2 := HSZ2.out
    clear g1 g2 hk3 hy HW2 HS2 HR2
    obtain ⟨c0, c1, c2, c3, ff⟩ := HS3.out.four
    have f3 := ff 3
    have hny : ¬ yb = sk := by omega
    clear ff
    go_wp2_with fail
    have hk4 := kept_set w3 sk 3 (.pointer (some ⟨yb, 0, none⟩))
    have HS4 := Lib.hid (HS3.out.set3 (some ⟨yb, 0, none⟩))
    have HR4 := Lib.hid (HR3.out.kept hk4 (fun k hx e => HA2.out (by have e : k = sk := e; rw [← e]; exact hx)))
    have HW4 : Hid (Wl (fun k => (DB db sb mb k ∨ w.heap.size ≤ k)) (w3.setCell ⟨sk, 3, none⟩ (.pointer (some ⟨yb, 0, none⟩))) lb db (openL m l) d) := Lib.hid (HW3.out.kept hk4 (fun k hz e => by
      have e : k = sk := e
      subst e
      rcases hz with hz | hz
      · exact HA1.out hz
      · omega))
    have HY4 : Hid (YAt (w3.setCell ⟨sk, 3, none⟩ (.pointer (some ⟨yb, 0, none⟩))) yb q.x w2.heap.size m l) := Lib.hid (by
      obtain ⟨lv, y1, y2⟩ := HY3.out.ex
      exact ⟨⟨lv, by rw [hk4.block yb (lt_of_block y1) hny]; exact y1, rowOwn y2 hk4 (fun k hk' e => by have e : k = sk := e; have := (y2.lt k hk').1; omega)⟩⟩)
    have HT4 := Lib.hid (HT3.out.trans (hk4.mono (fun k _ h => .inr (.inl h))))
    clear hk4 c0 c1 c2 c3 f3 HS3 HR3 HW3 HY3 hsz3 hsz2 hny hyb hnsk
    generalize w3.setCell ⟨sk, 3, none⟩ (.pointer (some ⟨yb, 0, none⟩)) = w4 at HS4 HR4 HW4 HY4 HT4 ⊢
    have hs5 := HS4.out.kept ((Kept.refl (fun _ => False) w4).drew) id
    obtain ⟨c0, c1, c2, c3, ff⟩ := HS4.out.four
    clear ff hs5
    go_wp2_with fail
    go_quiet (fail)
    go_wp2_with fail
    go_ret
    have hkd := (Kept.refl (fun _ => False) w4).drewN nq
    exact ⟨rfl, .inl ⟨m, l, lb, yb, HML.out, ⟨HS4.out.kept hkd id, ⟨_, HW4.out.kept0 hkd⟩, ⟨_, HY4.out.kept hkd (fun _ _ f => f)⟩, HR4.out.kept hkd (fun _ _ f => f)⟩⟩, HT4.out.drewN nq⟩
  · have HML := Lib.hid hst
    clear hst
    go_enter Try.func9, Try.ntmps9
    go_wp2_with fail
    refine HOP.out.mono ?_
    rintro e w1 ⟨p, v, rfl, h1, h2, hk1⟩
    obtain ⟨rfl, rfl⟩ := h2 HML.out
    have HS1 := Lib.hid (HS0.out.kept hk1 (fun h => h.elim (fun h => HA1.out h) (fun h => by omega)))
    have HR1 := Lib.hid (HR.out.kept hk1 (fun k hx hz => hz.elim (fun h => HA3.out k hx h) (fun h => by have := HIN.out k hx; omega)))
    have HT1 := Lib.hid (hk1.mono (T := fun k => DB db sb mb k ∨ k = sk ∨ w.heap.size ≤ k) (fun k _ h => h.elim .inl (fun h => .inr (.inr h))))
    clear h1 h2 hk1 c0
    obtain ⟨c0, c1, c2, c3, ff⟩ := HS1.out.four
    have f1 := ff 1
    clear ff
    go_wp2_with fail
    have hk2 := kept_set w1 sk 1 (.pointer none)
    have HS2 := Lib.hid (HS1.out.set1 none)
    have HR2 := Lib.hid (HR1.out.kept hk2 (fun k hx e => HA2.out (by have e : k = sk := e; rw [← e]; exact hx)))
    have HT2 := Lib.hid (HT1.out.trans (hk2.mono (fun k _ h => .inr (.inl h))))
    clear hk2 c0 c1 c2 c3 f1 HS1 HR1 HOP
    generalize w1.setCell ⟨sk, 1, none⟩ (.pointer none) = w2 at HS2 HR2 HT2 ⊢
    refine (HXO.out _ HR2.out).mono ?_
    rintro e w3 ⟨p2, v2, rfl, g1, g2, hk3⟩
    obtain ⟨rfl, rfl⟩ := g2 HML.out
    have HS3 := Lib.hid (HS2.out.kept hk3 id)
    have HT3 := Lib.hid (HT2.out.trans (hk3.mono (fun _ _ f => f.elim)))
    clear g1 g2 hk3 HS2 HR2
    obtain ⟨c0, c1, c2, c3, ff⟩ := HS3.out.four
    have f3 := ff 3
    clear ff
    go_wp2_with fail
    have HS4 := Lib.hid (HS3.out.set3 none)
    have HT4 := Lib.hid (HT3.out.trans ((kept_set w3 sk 3 (.pointer none)).mono (fun k _ h => .inr (.inl h))))
    clear c0 c1 c2 c3 f3 HS3
    generalize w3.setCell ⟨sk, 3, none⟩ (.pointer none) = w4 at HS4 HT4 ⊢
    obtain ⟨c0, c1, c2, c3, ff⟩ := HS4.out.four
    clear ff
    go_wp2_with fail
    go_quiet (fail)
    go_wp2_with fail
    go_ret
    exact ⟨rfl, .inr (HS4.out.kept ((Kept.refl (fun _ => False) w4).drewN nq) id), HT4.out.drewN nq⟩
end Go.Proofs.Ytmfngbgdmlnlcaa

namespace Go.Proofs.Ytmfngbgdmlnlcaa
open Go.ChangeShapes Go.WideShapes Go.ChangeAt Go.RowKit
set_option linter.unusedVariables false
set_option linter.unusedSimpArgs false
section
variable {w : World} {sk db lb yb : Nat} {q : RB4} {m : MSt} {l : List (List UInt8)} {d : DSt} {r : RSt}
def overS : ByteArray := ⟨#[111, 118, 101, 114]⟩
structure OvRel (w4 : World) (g cap n : Nat) (iv : Value) (wr : World) : Prop where
  ex : ∃ (k : Nat) (cs : List Value), k ≤ n ∧ iv = .int .i64 k ∧ cs.length = cap ∧ wr.heap[g]? = some (.cells cs.toArray 9 (0, 0)) ∧ Kept (fun k => k = g) w4 wr
set_option maxRecDepth 100000 in
set_option maxHeartbeats 1000000 in
theorem asks6_any (h : Sit w sk db lb yb q m l d r) (hl : l.length ≤ 1048576) : Calls Try.prog 10 #[.pointer (some ⟨sk, 0, none⟩), .agg #[.int .i64 6, .int .i64 0, .int .i64 0, .slice none 0 0, .slice none 0 0]] w fun e w' => e = .returned (.bool true) ∧ Kept (fun k => w.heap.size ≤ k) w w' := by
  have hnl : (l.map bytesOf).length = l.length := List.length_map _
  have hop : (openL m l).recs = l.map bytesOf := rfl
  have hk0 : Kept (fun _ => False) w (w.alloc (.cells #[.int .i64 6, .int .i64 0, .int .i64 0, .slice none 0 0, .slice none 0 0] 42)) := (Kept.refl _ w).alloc _
  have hbx : (w.alloc (.cells #[.int .i64 6, .int .i64 0, .int .i64 0, .slice none 0 0, .slice none 0 0] 42)).cell? ⟨w.heap.size, 0, none⟩ = some (.int .i64 6) := by
    rw [cell_of_row _ _ _ _ _ (0, 0) (heap_alloc_new w _)]; rfl
  have HS1 := Lib.hid (h.over (hk0.mono (fun _ _ f => f.elim)))
  have HK1 := Lib.hid hk0
  obtain ⟨c0, c1, c2, c3, ff⟩ := HS1.out.side.four
  have HNL := Lib.hid hnl
  clear h ff hk0 hnl
  go_enter Try.func10, Try.ntmps10
  go_wp2_with fail
  generalize (w.alloc (.cells #[.int .i64 6, .int .i64 0, .int .i64 0, .slice none 0 0, .slice none 0 0] 42)) = w1 at HS1 HK1 hbx c0 c1 c2 c3 ⊢
  obtain ⟨Z, hlg⟩ := HS1.out.log
  refine (records_any hlg rfl (by rw [hop, HNL.out]; omega)).mono ?_
  rw [hop]
  rintro e w2 ⟨v1, rfl, hr1, hk2⟩
  have HS2 := Lib.hid (HS1.out.over (hk2.mono (fun _ _ f => f.elim)))
  have HK2 := Lib.hid (HK1.out.trans hk2)
  have HR1 := Lib.hid hr1
  have HSZ1 := Lib.hid (And.intro HK1.out.size hk2.size)
  clear hr1 hk2 hlg c0 c1 c2 c3 hbx
  obtain ⟨c0, c1, c2, c3, ff⟩ := HS2.out.side.four
  clear ff
  go_wp2_with fail
  obtain ⟨Z2, hlg2⟩ := HS2.out.log
  refine (records_any hlg2 rfl (by rw [hop, HNL.out]; omega)).mono ?_
  rw [hop]
  rintro e w3 ⟨v2, rfl, hr2, hk3⟩
  have HS3 := Lib.hid (HS2.out.over (hk3.mono (fun _ _ f => f.elim)))
  have HK3 := Lib.hid (HK2.out.trans hk3)
  have HR2 := Lib.hid hr2
  have HR13 := Lib.hid (rowKept HR1.out hk3 (fun _ _ f => f))
  have HSZ2 := Lib.hid hk3.size
  clear hr2 hk3 hlg2 c0 c1 c2 c3
  obtain ⟨c0, c1, c2, c3, ff⟩ := HS3.out.side.four
  clear ff
  go_wp2_with fail
  obtain ⟨B, hy⟩ := HS3.out.y
  refine (xrecs_any hy hl).mono ?_
  rintro e w4 ⟨v3, rfl, hr3, hk4⟩
  rw [HNL.out] at HR1 HR2 HR13
  have HK4 := Lib.hid (HK3.out.trans hk4)
  have HRA := Lib.hid (rowKept HR13.out hk4 (fun _ _ f => f))
  have HRB := Lib.hid (rowKept HR2.out hk4 (fun _ _ f => f))
  have HRC := Lib.hid hr3
  have hla := HR1.out.lt
  have hlb' := HR2.out.lt
  have hlc := hr3.lt
  have HFAR : Hid ((∀ k, v1.ownBlock = some k → v2.ownBlock ≠ some k) ∧ (∀ k, v1.ownBlock = some k → v3.ownBlock ≠ some k) ∧ (∀ k, v1.ownBlock = some k → w.heap.size ≤ k)) := Lib.hid ⟨fun k h1 h2 => by have a := hla k h1; have b := hlb' k h2; omega, fun k h1 h2 => by have a := hla k h1; have b := hlc k h2; have := HSZ2.out; omega, fun k h1 => by have a := hla k h1; have := HSZ1.out; omega⟩
  have HLEN : Hid (l.length ≤ 140737488355328) := Lib.hid (by omega)
  clear hr3 hk4 hy c0 c1 c2 c3 HR1 HR2 HR13 HS1 HS2 HS3 hla hlb' hlc HSZ1 HSZ2
  have HTA := Lib.hid (ts_row (B := w1.heap.size) (w := w4) (v := v1) (l := l.map bytesOf) (by rw [HNL.out]; exact HRA.out))
  have HTB := Lib.hid (ts_row (w := w4) (v := v2) (l := l.map bytesOf) (by rw [HNL.out]; exact HRB.out))
  have HTC := Lib.hid (ts_row (w := w4) (v := v3) (l := l.map bytesOf) (by rw [HNL.out]; exact HRC.out))
  go_wp2_with fail
  refine (texts_any HTA.out HTC.out (by rw [HNL.out]; exact HLEN.out) (by rw [HNL.out]; exact HLEN.out)).mono ?_
  rw [decide_eq_true (show l.map bytesOf = l.map bytesOf from rfl)]
  rintro e w5 ⟨rfl, n5, rfl⟩
  obtain ⟨bo, bc, rfl⟩ := slice_of_row HRB.out
  obtain ⟨i0, si, sz, ss, sbb⟩ := string_inf
  have HSI := Lib.hid (And.intro si (And.intro sz (And.intro ss sbb)))
  have HK5 := Lib.hid (HK4.out.drewN n5)
  have hkd := (Kept.refl (fun _ => False) w4).drewN n5
  have HRA5 := Lib.hid (rowKept HRA.out hkd (fun _ _ f => f))
  have HTB5 := Lib.hid (HTB.out.kept hkd (fun _ _ f => f))
  have HTC5 := Lib.hid (HTC.out.kept hkd (fun _ _ f => f))
  clear hkd si sz ss sbb HTA HTB HTC HRA HRB HRC HK4 HK3 HK2
  generalize w4.drewN n5 = w5 at HK5 HRA5 HTB5 HTC5 ⊢
  rcases HRA5.out.2 with ⟨rfl, h0⟩ | ⟨g, cap, cur, rfl, hbb, hh, g1, g2, g3, g4⟩
  · have hl0 : l.length = 0 := h0
    have HL0 := Lib.hid hl0
    have hlz : (l.length : Int) ≤ 0 := by omega
    clear h0 hl0
    go_wp2_with fail
    go_loopw [12] (fun iv wr => iv = .int .i64 0 ∧ wr = w5) (fun _ _ => 0)
    case atStart => exact ⟨rfl, rfl⟩
    case round =>
      obtain ⟨rfl, rfl⟩ := hrel
      have HSZ5 : Hid (w.heap.size ≤ wr.heap.size) := Lib.hid HK5.out.size
      have HCEL := Lib.hid (cell_one_new wr (.string ⟨#[109, 111, 114, 101]⟩) 9)
      go_wp2_with (at_builtin; refine wpList_append_own _ rfl _ _ 22 rfl w.heap.size 9 i0 (.string ByteArray.empty) 1 16 Try.underlying22 HSI.out.1 HSI.out.2.1 HSI.out.2.2.1 HSI.out.2.2.2 rfl (by decide) (.slice none 0 0) 0 [] rfl (World.ownsRow_nil _ _ _ 1) ⟨wr.heap.size, 0, none⟩ 1 1 [.string ⟨#[109, 111, 114, 101]⟩] rfl rfl HCEL.out (by intro u hu; simp only [List.mem_singleton] at hu; subst hu; rfl) (by decide) (by decide) (by have := HSZ5.out; simp; omega) (fun v6 w6 hown6 hg6 hnil6 => ?_); have HO6 := Lib.hid hown6; have HK6 : Hid (Kept (fun _ => False) wr w6) := Lib.hid (((Kept.refl (fun _ => False) wr).alloc (.cells #[.string ⟨#[109, 111, 114, 101]⟩] 9)).trans ((Kept.of_grownBy hg6).mono (fun k _ e => by cases e))); clear hown6 hg6 hnil6)
      obtain ⟨ao6, c6, rfl⟩ := slice_of_row HO6.out
      have HB6 := Lib.hid (HTB5.out.kept HK6.out (fun _ _ f => f))
      have HC6 := Lib.hid (HTC5.out.kept HK6.out (fun _ _ f => f))
      go_wp2_with fail
      refine (texts_any HB6.out HC6.out (by rw [HNL.out]; exact HLEN.out) (by rw [HNL.out]; exact HLEN.out)).mono ?_
      rw [decide_eq_true (show l.map bytesOf = l.map bytesOf from rfl)]
      rintro e w7 ⟨rfl, n7, rfl⟩
      go_wp2_with fail
      go_ret
      exact ⟨ret_bool (by have h9 := HL0.out; simp [h9]), ((HK5.out.trans HK6.out).drewN n7).mono (fun _ _ f => f.elim)⟩
  · have HFG := Lib.hid (And.intro (HFAR.out.1 g rfl) (And.intro (HFAR.out.2.1 g rfl) (HFAR.out.2.2 g rfl)))
    have HG1 : Hid (l.length ≤ cap ∧ cap ≤ maxLen) := Lib.hid ⟨g1, g2⟩
    have HH := Lib.hid hh
    have HCU : Hid (cur.size = cap) := Lib.hid (by rw [g3, Nat.mul_one])
    clear hh g1 g2 g3 g4 hbb
    go_wp2_with fail
    go_loopw [12] (fun iv wr => OvRel w5 g cap l.length iv wr) (fun iv _ => l.length - (Go.RowKit.intOf iv).toNat)
    case atStart => exact ⟨0, cur.toList, Nat.zero_le _, rfl, by rw [Array.length_toList, HCU.out], by simpa using HH.out, Kept.refl _ _⟩
    case round =>
      obtain ⟨k, cs, hk, rfl, hcl, hg, hkw⟩ := hrel.ex
      clear hrel
      have HCS := Lib.hid hcl
      have HG := Lib.hid hg
      have HKW := Lib.hid hkw
      by_cases hlt : k < l.length
      · obtain ⟨x, hx⟩ : ∃ x, cs[k]? = some x := ⟨_, List.getElem?_eq_getElem (by have := HG1.out; omega)⟩
        have hcell : wr.cell? ⟨g, k, none⟩ = some x := by
          rw [cell_of_row wr g k _ _ (0, 0) hg, List.getElem?_toArray, hx]
        have hfz : wr.frozen? ⟨g, k, none⟩ = false := by simp [World.frozen?, hg]
        clear hg hkw hcl hx
        go_wp2_with fail
        go_roundw
        case rel => exact ⟨k + 1, cs.set k (.string overS), by omega, by go_num, by rw [List.length_set]; exact HCS.out, heap_set _ HG.out, HKW.out.trans (kept_set wr g k _)⟩
        case measure => simp [Go.RowKit.intOf]; omega
      · have HSZ5 : Hid (w.heap.size ≤ wr.heap.size) := Lib.hid (Nat.le_trans HK5.out.size hkw.size)
        have HCEL := Lib.hid (cell_one_new wr (.string ⟨#[109, 111, 114, 101]⟩) 9)
        have HOW : Hid (wr.ownsRow w.heap.size 9 1 (.slice (some ⟨g, 0, none⟩) l.length cap) l.length (cs.take l.length)) := Lib.hid ⟨by rw [List.length_take, hcl]; have := HG1.out; omega, .inr ⟨g, cap, cs.toArray, rfl, HFG.out.2.2, hg, HG1.out.1, HG1.out.2, by simp [hcl], by simp⟩⟩
        have HOA := Lib.hid (HOW.out.alloc (.cells #[.string ⟨#[109, 111, 114, 101]⟩] 9))
        clear hg hkw hcl
        go_wp2_with (at_builtin; refine wpList_append_own _ rfl _ _ 22 rfl w.heap.size 9 i0 (.string ByteArray.empty) 1 16 Try.underlying22 HSI.out.1 HSI.out.2.1 HSI.out.2.2.1 HSI.out.2.2.2 rfl (by decide) (.slice (some ⟨g, 0, none⟩) l.length cap) l.length (cs.take l.length) rfl HOA.out ⟨wr.heap.size, 0, none⟩ 1 1 [.string ⟨#[109, 111, 114, 101]⟩] rfl rfl HCEL.out (by intro u hu; simp only [List.mem_singleton] at hu; subst hu; rfl) (by unfold maxLen; omega) (by omega) (by have := HSZ5.out; simp; omega) (fun v6 w6 hown6 hg6 hnil6 => ?_); have HO6 := Lib.hid hown6; have HK6 : Hid (Kept (fun k => k = g) wr w6) := Lib.hid (((Kept.refl (fun k => k = g) wr).alloc (.cells #[.string ⟨#[109, 111, 114, 101]⟩] 9)).trans ((Kept.of_grownBy hg6).mono (fun k _ e => by simpa [Value.ownBlock] using e))); clear hown6 hg6 hnil6)
        obtain ⟨ao6, c6, rfl⟩ := slice_of_row HO6.out
        have HK7 := Lib.hid (HKW.out.trans HK6.out)
        have HB6 := Lib.hid (HTB5.out.kept HK7.out (fun k hk e => HFG.out.1 (by have e : k = g := e; rw [← e]; exact hk)))
        have HC6 := Lib.hid (HTC5.out.kept HK7.out (fun k hk e => HFG.out.2.1 (by have e : k = g := e; rw [← e]; exact hk)))
        go_wp2_with fail
        refine (texts_any HB6.out HC6.out (by rw [HNL.out]; exact HLEN.out) (by rw [HNL.out]; exact HLEN.out)).mono ?_
        rw [decide_eq_true (show l.map bytesOf = l.map bytesOf from rfl)]
        rintro e w7 ⟨rfl, n7, rfl⟩
        go_wp2_with fail
        go_ret
        exact ⟨by first | rfl | exact ret_bool (by simp), (((HK5.out.mono (fun _ _ f => f.elim)).trans' (HK7.out.mono (T := fun k => w.heap.size ≤ k) (fun k _ e => by have e : k = g := e; subst e; exact HFG.out.2.2)) (fun _ _ h => h))).drewN n7⟩
theorem Sit.ycells {w : World} {sk db lb yb : Nat} {q : RB4} {m : MSt} {l : List (List UInt8)} {d : DSt} {r : RSt} (h : Sit w sk db lb yb q m l d r) : ∃ ao cap, w.cell? ⟨yb, 1, none⟩ = some (.slice ao l.length cap) ∧ w.cell? ⟨yb, 2, none⟩ = some (.int .i64 l.length) ∧ w.cell? ⟨yb, 5, none⟩ = some (.int .i64 m.a) ∧ w.cell? ⟨yb, 6, none⟩ = some (.int .i64 m.b) := by
  obtain ⟨B, hy⟩ := h.y
  obtain ⟨lv, h1, h2⟩ := hy.ex
  obtain ⟨ao, cap, rfl⟩ := slice_of_row h2
  exact ⟨ao, cap, heap_cells8 h1 1, heap_cells8 h1 2, heap_cells8 h1 5, heap_cells8 h1 6⟩
set_option maxRecDepth 100000 in
set_option maxHeartbeats 4000000 in
theorem asks7_any (h : Sit w sk db lb yb q m l d r) (hml : Stands d m l) (hn : d.n = r.n) (h16 : 16 ≤ r.n) : Calls Try.prog 10 #[.pointer (some ⟨sk, 0, none⟩), .agg #[.int .i64 7, .int .i64 0, .int .i64 0, .slice none 0 0, .slice none 0 0]] w fun e w' => e = .returned (.bool true) ∧ Kept (fun k => w.heap.size ≤ k) w w' := by
  have hk0 : Kept (fun _ => False) w (w.alloc (.cells #[.int .i64 7, .int .i64 0, .int .i64 0, .slice none 0 0, .slice none 0 0] 42)) := (Kept.refl _ w).alloc _
  have hbx : (w.alloc (.cells #[.int .i64 7, .int .i64 0, .int .i64 0, .slice none 0 0, .slice none 0 0] 42)).cell? ⟨w.heap.size, 0, none⟩ = some (.int .i64 7) := by
    rw [cell_of_row _ _ _ _ _ (0, 0) (heap_alloc_new w _)]; rfl
  have HS1 := Lib.hid (h.over (hk0.mono (fun _ _ f => f.elim)))
  have HK1 := Lib.hid hk0
  have hhi := h.r.hi
  have hle := hml.fit.le
  have hsp : spaceN d = (r.n - 2) / 2 * 64 := by unfold spaceN secN; rw [hn]
  have hsz : sizeN (l.map bytesOf) = m.le := by
    have hlen : ((areaL d.S (startN d m.ar) (secN d)).take m.le).length < m.le + 1 := by rw [List.length_take]; omega
    rw [taken_size _ _ _ hlen hml.taken, List.length_take]
    have : (areaL d.S (startN d m.ar) (secN d)).length = 64 * secN d := areaL_len (fun i hi => by
      obtain ⟨Z, hl⟩ := h.log
      have := startN_hi hl.hi.1 hml.fit.ar
      exact hl.lens _ (by omega))
    rw [this]; unfold spaceN at hle; omega
  obtain ⟨rm, hrm⟩ : ∃ rm, roomZ m.le d = rm := ⟨_, rfl⟩
  have HLN : Hid (∀ V Z, Wl Z V lb db (openL m l) d → Calls Try.prog 28 #[.pointer (some ⟨lb, 0, none⟩)] V fun e w' => e = .returned (.int .i64 l.length) ∧ V = w') := Lib.hid (fun V Z hw => by
    have := len_any hw
    rw [show (openL m l).recs.length = l.length from List.length_map _] at this; exact this)
  have HSY : Hid (∀ V Z, Wl Z V lb db (openL m l) d → Calls Try.prog 29 #[.pointer (some ⟨lb, 0, none⟩)] V fun e w' => e = .returned (.int .i64 l.length) ∧ V = w') := Lib.hid (fun V Z hw => by
    have := synced_any hw
    rw [show (openL m l).m.nu = l.length from hml.nu.symm] at this; exact this)
  have HRO : Hid (∀ V Z, Wl Z V lb db (openL m l) d → Calls Try.prog 14 #[.pointer (some ⟨lb, 0, none⟩)] V fun e w' => e = .returned (.int .i64 rm) ∧ ∃ n, w' = V.drewN n) := Lib.hid (fun V Z hw => by
    have := room_any hw (by show m.le ≤ _; omega)
    rw [show roomZ (openL m l).used d = rm from hrm] at this; exact this)
  have HXR : Hid (∀ V, Sit V sk db lb yb q m l d r → Calls Try.prog 30 #[.pointer (some ⟨yb, 0, none⟩)] V fun e w' => e = .returned (.int .i64 rm) ∧ ∃ n, w' = V.drewN n) := Lib.hid (fun V hv => by
    obtain ⟨B, hy⟩ := hv.y
    have := xroom_any hy hv.r h16 hsz (by omega)
    rw [← hsp, show max (-1) (min 4000 (((spaceN d : Nat) : Int) - (m.le : Int) - 6)) = rm from hrm] at this; exact this)
  obtain ⟨c0, c1, c2, c3, ff⟩ := HS1.out.side.four
  clear h hml hn h16 ff hk0 hhi hle hsp hsz hrm
  go_enter Try.func10, Try.ntmps10
  go_wp2_with fail
  generalize (w.alloc (.cells #[.int .i64 7, .int .i64 0, .int .i64 0, .slice none 0 0, .slice none 0 0] 42)) = w1 at HS1 HK1 hbx c0 c1 c2 c3 ⊢
  obtain ⟨Z1, hl1⟩ := HS1.out.log
  have hmk : Calls Try.prog 27 #[.pointer (some ⟨lb, 0, none⟩)] w1 fun e w' => e = .returned (.tuple #[.int .i64 m.a, .int .i64 m.b]) ∧ ∃ n, w' = w1.drewN n := marks_any hl1
  refine hmk.mono ?_
  clear hmk
  rintro e w2 ⟨rfl, n1, rfl⟩
  have HS2 := Lib.hid (HS1.out.over ((Kept.refl _ w1).drewN n1))
  have HK2 := Lib.hid (HK1.out.drewN n1)
  clear hl1 c0 c1 c2 c3 hbx HS1 HK1
  generalize w1.drewN n1 = w2 at HS2 HK2 ⊢
  obtain ⟨c0, c1, c2, c3, ff⟩ := HS2.out.side.four
  obtain ⟨ao, cap, y1, y2, y5, y6⟩ := HS2.out.ycells
  have HSD := Lib.hid (fun n => HS2.out.over ((Kept.refl _ w2).drewN n))
  have Q1 := Lib.hid (fun n => by obtain ⟨Z2, hl2⟩ := (HSD.out n).log; exact (HLN.out _ _ hl2))
  have Q2 := Lib.hid (fun n => by obtain ⟨Z2, hl2⟩ := (HSD.out n).log; exact (HSY.out _ _ hl2))
  have Q3 : Hid (∀ n, Calls Try.prog 14 #[.pointer (some ⟨lb, 0, none⟩)] (w2.drewN n) fun e w' => e = .returned (.int .i64 rm) ∧ ∃ k, w' = w2.drewN k) := Lib.hid (fun n => by
    obtain ⟨Z2, hl2⟩ := (HSD.out n).log
    refine (HRO.out _ _ hl2).mono ?_
    rintro e w' ⟨he, k, rfl⟩
    exact ⟨he, n + k, by first | rw [World.drewN_drewN] | (rw [World.drewN_drewN, Nat.add_comm])⟩)
  have Q4 : Hid (∀ n, Calls Try.prog 30 #[.pointer (some ⟨yb, 0, none⟩)] (w2.drewN n) fun e w' => e = .returned (.int .i64 rm) ∧ ∃ k, w' = w2.drewN k) := Lib.hid (fun n => by
    refine (HXR.out _ (HSD.out n)).mono ?_
    rintro e w' ⟨he, k, rfl⟩
    exact ⟨he, n + k, by first | rw [World.drewN_drewN] | (rw [World.drewN_drewN, Nat.add_comm])⟩)
  clear ff
  go_wp2_with fail
  go_quiet ((first
    | (go_at_call 28; exact (Q1.out _).mono fun e w' ⟨he, hw⟩ => ⟨he, _, hw.symm⟩)
    | (go_at_call 29; exact (Q2.out _).mono fun e w' ⟨he, hw⟩ => ⟨he, _, hw.symm⟩)
    | (go_at_call 14; exact (Q3.out _))
    | (go_at_call 30; exact (Q4.out _))))
  go_wp2_with fail
  go_ret
  exact ⟨by first | rfl | exact ret_bool (by simp), (HK2.out.drewN nq).mono (fun _ _ f => f.elim)⟩
end
end Go.Proofs.Ytmfngbgdmlnlcaa
