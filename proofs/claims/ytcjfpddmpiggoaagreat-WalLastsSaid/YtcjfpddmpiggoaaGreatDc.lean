/- Crash. -/
import Derived.Test.YtcjfpddmpiggoaaGreatDb
import Derived.Test.YtcjfpddmpiggoaaGreatDp
import Derived.Deep.RegionHeld3
namespace Go.Proofs.YtcjfpddmpiggoaaGreat
open Go.ChangeShapes Go.WideShapes Go.ChangeAt Go.RowKit
open Go.Maps Go.Sort Go.Shelf Go.Proofs
set_option linter.unusedVariables false
set_option linter.unusedSimpArgs false

/-- a slice of numbers that lies in blocks of one kind -/
structure HowAt (w : World) (ok : Nat → Prop) (v : Value) (how : List Int) : Prop where
  ex : ∃ a cap, v = .slice a how.length cap ∧ ∀ (i : Nat) (h : i < how.length), ∃ g off, a = some ⟨g, off, none⟩ ∧ ok g ∧ w.cell? ⟨g, off + i, none⟩ = some (.int .i64 how[i])
  wf : ∀ x ∈ how, -9223372036854775808 ≤ x ∧ x ≤ 9223372036854775807
theorem HowAt.kept {X ok : Nat → Prop} {w w' : World} {v : Value} {how : List Int} (h : HowAt w ok v how) (hk : Kept X w w') (hx : ∀ k, ok k → ¬ X k) : HowAt w' ok v how := by
  obtain ⟨a, cap, hv, hc⟩ := h.ex
  refine ⟨⟨a, cap, hv, fun i hi => ?_⟩, h.wf⟩
  obtain ⟨g, off, ha, hg, hcell⟩ := hc i hi
  have hb := World.block_lt_of_cell? w _ hcell
  exact ⟨g, off, ha, hg, by rw [World.cell?_of_block (w := w) (hk.block g hb (hx g hg))]; exact hcell⟩
theorem HowAt.ex_at {ok : Nat → Prop} {w : World} {a : Option Addr} {n cap : Nat} {how : List Int} (h : HowAt w ok (.slice a n cap) how) {i : Nat} (hi : i < how.length) : ∃ g off, a = some ⟨g, off, none⟩ ∧ ok g ∧ w.cell? ⟨g, off + i, none⟩ = some (.int .i64 how[i]) := by
  obtain ⟨a', cap', hv, hc⟩ := h.ex
  simp only [Value.slice.injEq] at hv
  obtain ⟨rfl, rfl, rfl⟩ := hv
  exact hc i hi
theorem HowAt.nil (w : World) (ok : Nat → Prop) (a : Option Addr) (c : Nat) : HowAt w ok (.slice a 0 c) [] := ⟨⟨a, c, rfl, fun i h => absurd h (by simp)⟩, fun x hx => absurd hx (by simp)⟩

theorem row_kept {X : Nat → Prop} {w w' : World} {base : Nat} {e : TypeId} {size n : Nat} {v : Value} {xs : List Value} (h : w.ownsRow base e size v n xs) (hk : Kept X w w') (hx : ∀ k, base ≤ k → ¬ X k) : w'.ownsRow base e size v n xs := by
  refine ⟨h.1, ?_⟩
  rcases h.2 with h2 | ⟨g, cap, cur, rfl, hb, hh, r⟩
  · exact .inl h2
  · exact .inr ⟨g, cap, cur, rfl, hb, by rw [hk.block g (lt_of_block hh) (hx g hb)]; exact hh, r⟩

/-- what the map gives for one that is pending -/
theorem OldAt.look {w : World} {mb nn : Nat} {O : Nat → Option (List UInt8)} (h : OldAt w mb nn O) {i : Nat} (hi : i ≤ 32768) {o : List UInt8} (hO : O i = some o) :
    Sem.run Tryz.prog (Instr.lookup 55 (.map (some mb)) (.int .i64 i) false) w = .ok (sec o) w := by
  obtain ⟨D, hown, hhas, hat⟩ := h.ex
  have hz := (zero_of_info zero_sector).1 w
  have hkey : keyOf Tryz.prog 3 (.int .i64 i) = some (kI i) := Maps.keyOf_int_mk Tryz.underlying3 (by simp [Lit.wf, IntKind.min, IntKind.max, IntKind.bits, IntKind.signed]; omega)
  obtain ⟨v, ps, hrun, hR⟩ := hown.lookup (Maps.int_keyed Tryz.underlying3) Tryz.underlying55 hz (RB_sec zeros) hkey
  obtain ⟨l, rfl, hd⟩ := RB_inv hR
  rw [hat i o hO] at hd
  simp only [DataW.lit.injEq, Lit.string.injEq] at hd
  rw [hd]; exact hrun

/-- what holds of a disk whatever its sectors are -/
structure SAt (w : World) (b sb mb nn : Nat) (d : DSt) : Prop where
  c0 : w.cell? ⟨b, 0, none⟩ = some (.slice (some ⟨sb, 0, none⟩) d.n d.n)
  c1 : w.cell? ⟨b, 1, none⟩ = some (.map (some mb))
  old : OldAt w mb nn d.O
  hi : d.n ≤ 32768
theorem SAt.of {w : World} {b sb mb nn : Nat} {d d' : DSt} (h : DAt w b sb mb nn d') (hn : d'.n = d.n) (hO : d'.O = d.O) : SAt w b sb mb nn d :=
  ⟨by rw [← hn]; exact h.five.c0, h.five.c1, by rw [← hO]; exact h.old, by rw [← hn]; exact h.hi⟩
theorem SAt.look {w : World} {b sb mb nn : Nat} {d : DSt} (h : SAt w b sb mb nn d) {i : Nat} (hi : i < d.n) {o : List UInt8} (hO : d.O i = some o) :
    Sem.run Tryz.prog (Instr.lookup 55 (.map (some mb)) (.int .i64 i) false) w = .ok (sec o) w := h.old.look (by have := h.hi; omega) hO

/-! ### What a crash does -/
def fateOf (how : List Int) (k : Nat) : Int := how.getD k 0
def oldL (O : Nat → Option (List UInt8)) (i : Nat) : List UInt8 := (O i).getD []
def crashF (O : Nat → Option (List UInt8)) (how : List Int) : (Nat → List UInt8) → List Nat → Nat → (Nat → List UInt8)
  | S, [], _ => S
  | S, i :: r, k => crashF O how (upd S i (behindL (fateOf how k) (oldL O i) (S i))) r (k + 1)
def crashD (d : DSt) (how : List Int) : DSt := { d with S := crashF d.O how d.S (pendL d.n d.O) 0, O := fun _ => none, left := 0, dead := false }
theorem behindL_len (f : Int) (o n : List UInt8) (ho : o.length = 64) (hn : n.length = 64) : (behindL f o n).length = 64 := by
  unfold behindL
  split
  · exact hn
  · split
    · unfold tornL; simp [ho, hn]; omega
    · exact ho

structure CrashRel (w0 : World) (b sb mb nn : Nat) (d : DSt) (how : List Int) (hv v : Value) (kv : Value) (w : World) : Prop where
  ex : ∃ (k : Nat) (Sk : Nat → List UInt8), kv = .int .i64 k ∧ k ≤ (pendL d.n d.O).length ∧ DAt w b sb mb nn { d with S := Sk } ∧ HowAt w (fun k => ¬ DB b sb mb k) hv how ∧
    w.ownsRow w0.heap.size 3 1 v (pendL d.n d.O).length ((numsZ (pendL d.n d.O)).map encZ) ∧
    crashF d.O how Sk ((pendL d.n d.O).drop k) k = crashF d.O how d.S (pendL d.n d.O) 0 ∧ Kept (fun k => k = sb) w0 w

def CrashPost (w : World) (b sb : Nat) (r : DSt) (e : Ending) (w' : World) : Prop :=
  e = .returned (.tuple #[]) ∧ (∃ mb', DAt w' b sb mb' 0 r ∧ w.heap.size ≤ mb') ∧ Kept (fun k => k = b ∨ k = sb) w w'

set_option maxHeartbeats 2000000 in
set_option maxRecDepth 100000 in
theorem crash_any {w : World} {b sb mb nn : Nat} {d : DSt} (h : DAt w b sb mb nn d) {hv : Value} {how : List Int} (hh : HowAt w (fun k => ¬ DB b sb mb k) hv how) :
    Calls Tryz.prog 14 #[.pointer (some ⟨b, 0, none⟩), hv] w (CrashPost w b sb (crashD d how)) := by
  have HD := Lib.hid h
  have HH := Lib.hid hh
  have hhi := h.hi
  have HIN := Lib.hid h.inn
  have HDBX : Hid (∀ k, ¬ DB b sb mb k → ¬ k = sb) := Lib.hid (fun k hk e => hk (.inr (.inl e)))
  have HSBX : Hid (∀ k, w.heap.size ≤ k → ¬ k = sb) := Lib.hid (fun k hk e => by have := h.inn sb (.inr (.inl rfl)); omega)
  have hpl := pend_le d.n d.O
  clear h
  obtain ⟨ha, hcap, rfl, _⟩ := hh.ex
  clear hh
  go_enter Tryz.func14, Tryz.ntmps14
  go_wp2_with fail
  refine (pending_any HD.out).mono ?_
  rintro e w1 ⟨v, rfl, hrow, hnil, hb1⟩
  have HROW := Lib.hid hrow
  have hk1 : Kept (fun _ => False) w w1 := ⟨hb1.os, hb1.tape, hb1.output, hb1.size, fun k hk _ => hb1.block k hk⟩
  have HK1 := Lib.hid hk1
  clear hb1 hk1 hnil
  rcases hrow.2 with ⟨rfl, hl0⟩ | ⟨g, cap, cur, rfl, hbg, hgh, hncap, hcm, hcs, htake⟩
  · clear hrow
    have HSK : Hid (d.S = crashF d.O how d.S (pendL d.n d.O) 0) := Lib.hid (by rw [List.eq_nil_of_length_eq_zero hl0]; rfl)
    have HD2 := Lib.hid (HD.out.kept HK1.out (fun _ _ f => f))
    have HKW : Hid (Kept (fun k => k = sb) w w1) := Lib.hid (HK1.out.mono (fun _ _ f => f.elim))
    go_wp2_with fail
    go_loop [10] (fun kv => kv = .int .i64 0) (fun _ => 0)
    case atStart => rfl
    case round =>
        obtain rfl := hrel
        go_wp2_with fail
        refine (settle_any HD2.out).mono ?_
        rintro e w7 ⟨rfl, h7, hk7⟩
        have H7 := Lib.hid h7
        obtain ⟨c0, c1, c2, c3, c4, f⟩ := h7.five
        have f2 := f 2; have f4 := f 4
        clear h7
        go_wp2_with fail
        go_end0
        have h8 := (H7.out.setLeft 0 (by omega)).setDead false
        have e8 : crashD d how = { d with S := d.S, O := fun _ => none, left := 0, dead := false } := by unfold crashD; rw [← HSK.out]
        refine ⟨rfl, ⟨_, by rw [e8]; exact h8, HKW.out.size⟩, ?_⟩
        exact (HKW.out.mono (T := fun k => k = b ∨ k = sb) (fun _ _ e => .inr e)).trans (((hk7.trans (kept_set _ b 2 _)).trans (kept_set _ b 4 _)).mono (fun _ _ e => .inl e))
  · clear hrow htake hgh hcs
    go_wp2_with fail
    go_loopw [10] (fun kv wr => CrashRel w b sb mb nn d how (.slice ha how.length hcap) (.slice (some ⟨g, 0, none⟩) (pendL d.n d.O).length cap) kv wr) (fun kv _ => (pendL d.n d.O).length - (Go.RowKit.intOf kv).toNat)
    case atStart => exact ⟨0, d.S, rfl, by omega, HD.out.kept HK1.out (fun _ _ f => f), HH.out.kept HK1.out (fun _ _ f => f), HROW.out, rfl, HK1.out.mono (fun _ _ f => f.elim)⟩
    case round =>
      obtain ⟨k, Sk, rfl, hk, hd2, hh2, hrow2, hcr, hkw⟩ := hrel.ex
      clear hrel
      have HCR := Lib.hid hcr
      have HKW := Lib.hid hkw
      have HH2 := Lib.hid hh2
      have HROW2 := Lib.hid hrow2
      have HD2 := Lib.hid hd2
      clear hcr hkw
      by_cases hlt : k < (pendL d.n d.O).length
      · obtain ⟨i, hie⟩ : ∃ i, (pendL d.n d.O)[k] = i := ⟨_, rfl⟩
        have him : i ∈ pendL d.n d.O := by rw [← hie]; exact List.getElem_mem _
        obtain ⟨hi, hOs⟩ := (pend_mem d.n d.O i).1 him
        obtain ⟨o, hO⟩ := Option.isSome_iff_exists.1 hOs
        have ct : wr.cell? ⟨g, k, none⟩ = some (.int .i64 (i : Int)) := by
          have := hrow2.cellAt k (by simpa [numsZ] using hlt)
          rw [this, List.getElem?_map, numsZ, List.getElem?_map, List.getElem?_eq_getElem hlt, hie]; rfl
        have HLO := Lib.hid (HD2.out.sup i o hO).2
        have HLS := Lib.hid (HD2.out.sec.len i hi)
        have HDROP : Hid ((pendL d.n d.O).drop k = i :: (pendL d.n d.O).drop (k + 1)) := Lib.hid (by rw [List.drop_eq_getElem_cons hlt, hie])
        have HOL : Hid (oldL d.O i = o) := Lib.hid (by unfold oldL; rw [hO]; rfl)
        have HSZ := Lib.hid (sec_size HLS.out)
        have HDD : Hid (DAt wr.drew b sb mb nn { d with S := Sk }) := Lib.hid (HD2.out.drewN 1)
        have HS0 : Hid (SAt wr.drew b sb mb nn d) := Lib.hid (SAt.of HDD.out rfl rfl)
        have HRG : Hid (wr.drew.rangeAt sb (i * 64) (secL (Sk i))) := Lib.hid (HDD.out.sec.range hi)
        have hi2 : i < d.n := hi
        clear hd2 hrow2 him hie hOs
        by_cases hlh : k < how.length
        · obtain ⟨gh, off, rfl, hokg, hcell⟩ := hh2.ex_at hlh
          obtain ⟨FT, hFT⟩ : ∃ FT, fateOf how k = FT := ⟨_, rfl⟩
          have hgf : how[k] = FT := by rw [← hFT]; simp [fateOf, List.getD, hlh]
          have HFT : Hid (-9223372036854775808 ≤ FT ∧ FT ≤ 9223372036854775807) := Lib.hid (by rw [← hgf]; exact HH.out.wf _ (List.getElem_mem _))
          rw [hgf] at hcell
          have HFK := Lib.hid hFT
          have HLB := Lib.hid (behindL_len FT o (Sk i) HLO.out HLS.out)
          have HNB : Hid ((secL (behindL FT o (Sk i))).length = 64) := Lib.hid (by simp [secL, HLB.out])
          have HZB := Lib.hid (sec_size HLB.out)
          clear hh2 hokg hFT hgf
          go_upto_region 6 with (fail)
          refine wp_region_held_drew (S := fun w' => SAt w' b sb mb nn d) (by kernel_rfl) HS0.out (fun HS => ?_)
          refine wpAnyH_take (i := 0) (oi := ⟨some 23, _, _, _, _, _⟩) (v := .pointer (some ⟨b, 0, none⟩)) rfl (by kernel_rfl) (by kernel_rfl) (by kernel_rfl) (fun _ _ _ h => h) (Or.inl ⟨by rfl, ?_⟩) HS ?_
          · intro ws hSw
            go_simp
          try simp only [Act.put, List.setIfInBounds_toArray, List.set_cons_zero, List.set_cons_succ]
          refine wpAnyH_take (i := 1) (oi := ⟨some 24, _, _, _, _, _⟩) (v := .pointer (some ⟨b, 0, none⟩)) rfl (by kernel_rfl) (by kernel_rfl) (by kernel_rfl) (fun _ _ _ h => h) (Or.inl ⟨by rfl, ?_⟩) HS ?_
          · intro ws hSw
            go_simp
          try simp only [Act.put, List.setIfInBounds_toArray, List.set_cons_zero, List.set_cons_succ]
          refine wpAnyH_take (i := 2) (oi := ⟨some 25, _, _, _, _, _⟩) (v := .pointer (some ⟨b, 0, none⟩)) rfl (by kernel_rfl) (by kernel_rfl) (by kernel_rfl) (fun _ _ _ h => h) (Or.inl ⟨by rfl, ?_⟩) HS ?_
          · intro ws hSw
            go_simp
          try simp only [Act.put, List.setIfInBounds_toArray, List.set_cons_zero, List.set_cons_succ]
          refine wpAnyH_take (i := 3) (oi := ⟨some 26, _, _, _, _, _⟩) (v := .slice (some ⟨sb, 0, none⟩) d.n d.n) rfl (by kernel_rfl) (by kernel_rfl) (by kernel_rfl) (fun _ _ _ h => h) (Or.inl ⟨by rfl, ?_⟩) HS ?_
          · intro ws hSw; have c0 := hSw.c0
            go_simp
          try simp only [Act.put, List.setIfInBounds_toArray, List.set_cons_zero, List.set_cons_succ]
          refine wpAnyH_take (i := 4) (oi := ⟨some 27, _, _, _, _, _⟩) (v := .int .i64 (i : Int)) rfl (by kernel_rfl) (by kernel_rfl) (by kernel_rfl) (fun _ _ _ h => h) (Or.inl ⟨by rfl, ?_⟩) HS ?_
          · intro ws hSw
            go_simp
          try simp only [Act.put, List.setIfInBounds_toArray, List.set_cons_zero, List.set_cons_succ]
          refine wpAnyH_take (i := 5) (oi := ⟨some 28, _, _, _, _, _⟩) (v := .int .i64 FT) rfl (by kernel_rfl) (by kernel_rfl) (by kernel_rfl) (fun _ _ _ h => h) (Or.inl ⟨by rfl, ?_⟩) HS ?_
          · intro ws hSw
            go_simp
          try simp only [Act.put, List.setIfInBounds_toArray, List.set_cons_zero, List.set_cons_succ]
          refine wpAnyH_take (i := 6) (oi := ⟨some 29, _, _, _, _, _⟩) (v := .pointer (some ⟨b, 0, none⟩)) rfl (by kernel_rfl) (by kernel_rfl) (by kernel_rfl) (fun _ _ _ h => h) (Or.inl ⟨by rfl, ?_⟩) HS ?_
          · intro ws hSw
            go_simp
          try simp only [Act.put, List.setIfInBounds_toArray, List.set_cons_zero, List.set_cons_succ]
          refine wpAnyH_take (i := 7) (oi := ⟨some 30, _, _, _, _, _⟩) (v := .pointer (some ⟨b, 0, none⟩)) rfl (by kernel_rfl) (by kernel_rfl) (by kernel_rfl) (fun _ _ _ h => h) (Or.inl ⟨by rfl, ?_⟩) HS ?_
          · intro ws hSw
            go_simp
          try simp only [Act.put, List.setIfInBounds_toArray, List.set_cons_zero, List.set_cons_succ]
          refine wpAnyH_take (i := 8) (oi := ⟨some 31, _, _, _, _, _⟩) (v := .pointer (some ⟨b, 1, none⟩)) rfl (by kernel_rfl) (by kernel_rfl) (by kernel_rfl) (fun _ _ _ h => h) (Or.inl ⟨by rfl, ?_⟩) HS ?_
          · intro ws hSw
            go_simp
          try simp only [Act.put, List.setIfInBounds_toArray, List.set_cons_zero, List.set_cons_succ]
          refine wpAnyH_take (i := 9) (oi := ⟨some 32, _, _, _, _, _⟩) (v := .map (some mb)) rfl (by kernel_rfl) (by kernel_rfl) (by kernel_rfl) (fun _ _ _ h => h) (Or.inl ⟨by rfl, ?_⟩) HS ?_
          · intro ws hSw; have c1 := hSw.c1
            go_simp
          try simp only [Act.put, List.setIfInBounds_toArray, List.set_cons_zero, List.set_cons_succ]
          refine wpAnyH_take (i := 10) (oi := ⟨some 33, _, _, _, _, _⟩) (v := .int .i64 (i : Int)) rfl (by kernel_rfl) (by kernel_rfl) (by kernel_rfl) (fun _ _ _ h => h) (Or.inl ⟨by rfl, ?_⟩) HS ?_
          · intro ws hSw
            go_simp
          try simp only [Act.put, List.setIfInBounds_toArray, List.set_cons_zero, List.set_cons_succ]
          refine wpAnyH_take (i := 11) (oi := ⟨some 34, _, _, _, _, _⟩) (v := sec o) rfl (by kernel_rfl) (by kernel_rfl) (by kernel_rfl) (fun _ _ _ h => h) (Or.inl ⟨by rfl, ?_⟩) HS ?_
          · intro ws hSw; have c2 := hSw.look hi hO
            go_simp
          try simp only [Act.put, List.setIfInBounds_toArray, List.set_cons_zero, List.set_cons_succ]
          refine wpAnyH_take (i := 12) (oi := ⟨some 35, _, _, _, _, _⟩) (v := .pointer (some ⟨b, 0, none⟩)) rfl (by kernel_rfl) (by kernel_rfl) (by kernel_rfl) (fun _ _ _ h => h) (Or.inl ⟨by rfl, ?_⟩) HS ?_
          · intro ws hSw
            go_simp
          try simp only [Act.put, List.setIfInBounds_toArray, List.set_cons_zero, List.set_cons_succ]
          refine wpAnyH_take (i := 13) (oi := ⟨some 36, _, _, _, _, _⟩) (v := .pointer (some ⟨b, 0, none⟩)) rfl (by kernel_rfl) (by kernel_rfl) (by kernel_rfl) (fun _ _ _ h => h) (Or.inl ⟨by rfl, ?_⟩) HS ?_
          · intro ws hSw
            go_simp
          try simp only [Act.put, List.setIfInBounds_toArray, List.set_cons_zero, List.set_cons_succ]
          refine wpAnyH_take (i := 14) (oi := ⟨some 37, _, _, _, _, _⟩) (v := .pointer (some ⟨b, 0, none⟩)) rfl (by kernel_rfl) (by kernel_rfl) (by kernel_rfl) (fun _ _ _ h => h) (Or.inl ⟨by rfl, ?_⟩) HS ?_
          · intro ws hSw
            go_simp
          try simp only [Act.put, List.setIfInBounds_toArray, List.set_cons_zero, List.set_cons_succ]
          refine wpAnyH_take (i := 15) (oi := ⟨some 38, _, _, _, _, _⟩) (v := .slice (some ⟨sb, 0, none⟩) d.n d.n) rfl (by kernel_rfl) (by kernel_rfl) (by kernel_rfl) (fun _ _ _ h => h) (Or.inl ⟨by rfl, ?_⟩) HS ?_
          · intro ws hSw; have c0 := hSw.c0
            go_simp
          try simp only [Act.put, List.setIfInBounds_toArray, List.set_cons_zero, List.set_cons_succ]
          refine wpAnyH_take (i := 16) (oi := ⟨some 39, _, _, _, _, _⟩) (v := .int .i64 (i : Int)) rfl (by kernel_rfl) (by kernel_rfl) (by kernel_rfl) (fun _ _ _ h => h) (Or.inl ⟨by rfl, ?_⟩) HS ?_
          · intro ws hSw
            go_simp
          try simp only [Act.put, List.setIfInBounds_toArray, List.set_cons_zero, List.set_cons_succ]
          refine wpAnyH_take (i := 17) (oi := ⟨some 40, _, _, _, _, _⟩) (v := .pointer (some ⟨sb, i * 64, none⟩)) rfl (by kernel_rfl) (by kernel_rfl) (by kernel_rfl) (fun _ _ _ h => h) (Or.inl ⟨by rfl, ?_⟩) HS ?_
          · intro ws hSw
            go_simp
          try simp only [Act.put, List.setIfInBounds_toArray, List.set_cons_zero, List.set_cons_succ]
          refine wpAnyH_ready (rs := [18]) (by kernel_rfl) (by simp) (AllReadyH.cons (o := ⟨some 41, _, _, _, _, _⟩) rfl (fun K hK => ?_) AllReadyH.nil)
          rw [if_pos (by rfl)]
          refine wp_load_mid 72 _ rfl sb (i * 64) rfl (secL (Sk i)) _ HRG.out Tryz.underlying72 rfl HSZ.out ?_
          refine hK.out _ _ HS (fun HS => ?_)
          clear hK K
          try simp only [Act.put, List.setIfInBounds_toArray, List.set_cons_zero, List.set_cons_succ]
          refine wpAnyH_ready (rs := [19]) (by kernel_rfl) (by simp) (AllReadyH.cons (o := ⟨some 42, _, _, _, _, _⟩) rfl (fun K hK => ?_) AllReadyH.nil)
          go_simp
          refine (behind_any _ FT o (Sk i) HLO.out HLS.out HFT.out.1 HFT.out.2).mono ?_
          rintro e w5 ⟨rfl, hk5⟩
          go_wp2_with fail
          have HD5 := Lib.hid (HDD.out.kept hk5 (fun _ _ f => f))
          refine hK.out _ _ (SAt.of HD5.out rfl rfl) (fun HS => ?_)
          clear hK K
          try simp only [Act.put, List.setIfInBounds_toArray, List.set_cons_zero, List.set_cons_succ]
          refine wpAnyH_take (i := 20) (oi := ⟨some 43, _, _, _, _, _⟩) (v := .pointer (some ⟨sb, i * 64, none⟩)) rfl (by kernel_rfl) (by kernel_rfl) (by kernel_rfl) (fun _ _ _ h => h) (Or.inl ⟨by rfl, ?_⟩) HS ?_
          · intro ws hSw
            go_simp
          try simp only [Act.put, List.setIfInBounds_toArray, List.set_cons_zero, List.set_cons_succ]
          refine wpAnyH_ready (rs := [21]) (by kernel_rfl) (by simp) (AllReadyH.cons (o := ⟨none, _, _, _, _, _⟩) rfl (fun K hK => ?_) AllReadyH.nil)
          rw [if_pos (by rfl)]
          have HTH := Lib.hid (HD5.out.sec.there hi)
          have HD6 := Lib.hid (HD5.out.setSec hi (l := behindL FT o (Sk i)) HLB.out)
          refine wp_store_mid 72 _ _ rfl sb (i * 64) (secL (behindL FT o (Sk i))).toArray rfl rfl (by rw [List.size_toArray, HNB.out]; exact HTH.out) (by rw [List.size_toArray]; exact HZB.out) (all_oneCell_toArray (secL_one _)) ?_
          refine hK.out _ _ (SAt.of HD6.out rfl rfl) (fun HS => ?_)
          clear hK K
          try simp only [Act.put, List.setIfInBounds_toArray, List.set_cons_zero, List.set_cons_succ]
          have HKZ : Hid (Kept (fun k => k = sb) wr (w5.setCells sb (i * 64) (secL (behindL FT o (Sk i))))) := Lib.hid (Kept.setCells _ _ ((Kept.refl (fun k => k = sb) wr).drew.trans (hk5.mono (fun _ _ f => f.elim))) (.inl rfl))
          refine wpAnyH_done (by kernel_rfl) ?_ _
          go_wp2_with fail
          go_roundw
          case rel => exact ⟨k + 1, upd Sk i (behindL FT o (Sk i)), by go_num, by omega, HD6.out, HH2.out.kept HKZ.out HDBX.out, row_kept HROW2.out HKZ.out HSBX.out, by rw [← HCR.out, HDROP.out, crashF, HFK.out, HOL.out], HKW.out.trans HKZ.out⟩
          case measure => simp [Go.RowKit.intOf]; omega
        · have HFK : Hid (fateOf how k = 0) := Lib.hid (by simp [fateOf, List.getD, hlh])
          have HFT : Hid (-9223372036854775808 ≤ (0 : Int) ∧ (0 : Int) ≤ 9223372036854775807) := Lib.hid (by omega)
          have HLB := Lib.hid (behindL_len 0 o (Sk i) HLO.out HLS.out)
          have HNB : Hid ((secL (behindL 0 o (Sk i))).length = 64) := Lib.hid (by simp [secL, HLB.out])
          have HZB := Lib.hid (sec_size HLB.out)
          clear hh2
          go_upto_region 6 with (fail)
          refine wp_region_held_drew (S := fun w' => SAt w' b sb mb nn d) (by kernel_rfl) HS0.out (fun HS => ?_)
          refine wpAnyH_take (i := 0) (oi := ⟨some 23, _, _, _, _, _⟩) (v := .pointer (some ⟨b, 0, none⟩)) rfl (by kernel_rfl) (by kernel_rfl) (by kernel_rfl) (fun _ _ _ h => h) (Or.inl ⟨by rfl, ?_⟩) HS ?_
          · intro ws hSw
            go_simp
          try simp only [Act.put, List.setIfInBounds_toArray, List.set_cons_zero, List.set_cons_succ]
          refine wpAnyH_take (i := 1) (oi := ⟨some 24, _, _, _, _, _⟩) (v := .pointer (some ⟨b, 0, none⟩)) rfl (by kernel_rfl) (by kernel_rfl) (by kernel_rfl) (fun _ _ _ h => h) (Or.inl ⟨by rfl, ?_⟩) HS ?_
          · intro ws hSw
            go_simp
          try simp only [Act.put, List.setIfInBounds_toArray, List.set_cons_zero, List.set_cons_succ]
          refine wpAnyH_take (i := 2) (oi := ⟨some 25, _, _, _, _, _⟩) (v := .pointer (some ⟨b, 0, none⟩)) rfl (by kernel_rfl) (by kernel_rfl) (by kernel_rfl) (fun _ _ _ h => h) (Or.inl ⟨by rfl, ?_⟩) HS ?_
          · intro ws hSw
            go_simp
          try simp only [Act.put, List.setIfInBounds_toArray, List.set_cons_zero, List.set_cons_succ]
          refine wpAnyH_take (i := 3) (oi := ⟨some 26, _, _, _, _, _⟩) (v := .slice (some ⟨sb, 0, none⟩) d.n d.n) rfl (by kernel_rfl) (by kernel_rfl) (by kernel_rfl) (fun _ _ _ h => h) (Or.inl ⟨by rfl, ?_⟩) HS ?_
          · intro ws hSw; have c0 := hSw.c0
            go_simp
          try simp only [Act.put, List.setIfInBounds_toArray, List.set_cons_zero, List.set_cons_succ]
          refine wpAnyH_take (i := 4) (oi := ⟨some 27, _, _, _, _, _⟩) (v := .int .i64 (i : Int)) rfl (by kernel_rfl) (by kernel_rfl) (by kernel_rfl) (fun _ _ _ h => h) (Or.inl ⟨by rfl, ?_⟩) HS ?_
          · intro ws hSw
            go_simp
          try simp only [Act.put, List.setIfInBounds_toArray, List.set_cons_zero, List.set_cons_succ]
          refine wpAnyH_take (i := 5) (oi := ⟨some 28, _, _, _, _, _⟩) (v := .int .i64 0) rfl (by kernel_rfl) (by kernel_rfl) (by kernel_rfl) (fun _ _ _ h => h) (Or.inl ⟨by rfl, ?_⟩) HS ?_
          · intro ws hSw
            go_simp
          try simp only [Act.put, List.setIfInBounds_toArray, List.set_cons_zero, List.set_cons_succ]
          refine wpAnyH_take (i := 6) (oi := ⟨some 29, _, _, _, _, _⟩) (v := .pointer (some ⟨b, 0, none⟩)) rfl (by kernel_rfl) (by kernel_rfl) (by kernel_rfl) (fun _ _ _ h => h) (Or.inl ⟨by rfl, ?_⟩) HS ?_
          · intro ws hSw
            go_simp
          try simp only [Act.put, List.setIfInBounds_toArray, List.set_cons_zero, List.set_cons_succ]
          refine wpAnyH_take (i := 7) (oi := ⟨some 30, _, _, _, _, _⟩) (v := .pointer (some ⟨b, 0, none⟩)) rfl (by kernel_rfl) (by kernel_rfl) (by kernel_rfl) (fun _ _ _ h => h) (Or.inl ⟨by rfl, ?_⟩) HS ?_
          · intro ws hSw
            go_simp
          try simp only [Act.put, List.setIfInBounds_toArray, List.set_cons_zero, List.set_cons_succ]
          refine wpAnyH_take (i := 8) (oi := ⟨some 31, _, _, _, _, _⟩) (v := .pointer (some ⟨b, 1, none⟩)) rfl (by kernel_rfl) (by kernel_rfl) (by kernel_rfl) (fun _ _ _ h => h) (Or.inl ⟨by rfl, ?_⟩) HS ?_
          · intro ws hSw
            go_simp
          try simp only [Act.put, List.setIfInBounds_toArray, List.set_cons_zero, List.set_cons_succ]
          refine wpAnyH_take (i := 9) (oi := ⟨some 32, _, _, _, _, _⟩) (v := .map (some mb)) rfl (by kernel_rfl) (by kernel_rfl) (by kernel_rfl) (fun _ _ _ h => h) (Or.inl ⟨by rfl, ?_⟩) HS ?_
          · intro ws hSw; have c1 := hSw.c1
            go_simp
          try simp only [Act.put, List.setIfInBounds_toArray, List.set_cons_zero, List.set_cons_succ]
          refine wpAnyH_take (i := 10) (oi := ⟨some 33, _, _, _, _, _⟩) (v := .int .i64 (i : Int)) rfl (by kernel_rfl) (by kernel_rfl) (by kernel_rfl) (fun _ _ _ h => h) (Or.inl ⟨by rfl, ?_⟩) HS ?_
          · intro ws hSw
            go_simp
          try simp only [Act.put, List.setIfInBounds_toArray, List.set_cons_zero, List.set_cons_succ]
          refine wpAnyH_take (i := 11) (oi := ⟨some 34, _, _, _, _, _⟩) (v := sec o) rfl (by kernel_rfl) (by kernel_rfl) (by kernel_rfl) (fun _ _ _ h => h) (Or.inl ⟨by rfl, ?_⟩) HS ?_
          · intro ws hSw; have c2 := hSw.look hi hO
            go_simp
          try simp only [Act.put, List.setIfInBounds_toArray, List.set_cons_zero, List.set_cons_succ]
          refine wpAnyH_take (i := 12) (oi := ⟨some 35, _, _, _, _, _⟩) (v := .pointer (some ⟨b, 0, none⟩)) rfl (by kernel_rfl) (by kernel_rfl) (by kernel_rfl) (fun _ _ _ h => h) (Or.inl ⟨by rfl, ?_⟩) HS ?_
          · intro ws hSw
            go_simp
          try simp only [Act.put, List.setIfInBounds_toArray, List.set_cons_zero, List.set_cons_succ]
          refine wpAnyH_take (i := 13) (oi := ⟨some 36, _, _, _, _, _⟩) (v := .pointer (some ⟨b, 0, none⟩)) rfl (by kernel_rfl) (by kernel_rfl) (by kernel_rfl) (fun _ _ _ h => h) (Or.inl ⟨by rfl, ?_⟩) HS ?_
          · intro ws hSw
            go_simp
          try simp only [Act.put, List.setIfInBounds_toArray, List.set_cons_zero, List.set_cons_succ]
          refine wpAnyH_take (i := 14) (oi := ⟨some 37, _, _, _, _, _⟩) (v := .pointer (some ⟨b, 0, none⟩)) rfl (by kernel_rfl) (by kernel_rfl) (by kernel_rfl) (fun _ _ _ h => h) (Or.inl ⟨by rfl, ?_⟩) HS ?_
          · intro ws hSw
            go_simp
          try simp only [Act.put, List.setIfInBounds_toArray, List.set_cons_zero, List.set_cons_succ]
          refine wpAnyH_take (i := 15) (oi := ⟨some 38, _, _, _, _, _⟩) (v := .slice (some ⟨sb, 0, none⟩) d.n d.n) rfl (by kernel_rfl) (by kernel_rfl) (by kernel_rfl) (fun _ _ _ h => h) (Or.inl ⟨by rfl, ?_⟩) HS ?_
          · intro ws hSw; have c0 := hSw.c0
            go_simp
          try simp only [Act.put, List.setIfInBounds_toArray, List.set_cons_zero, List.set_cons_succ]
          refine wpAnyH_take (i := 16) (oi := ⟨some 39, _, _, _, _, _⟩) (v := .int .i64 (i : Int)) rfl (by kernel_rfl) (by kernel_rfl) (by kernel_rfl) (fun _ _ _ h => h) (Or.inl ⟨by rfl, ?_⟩) HS ?_
          · intro ws hSw
            go_simp
          try simp only [Act.put, List.setIfInBounds_toArray, List.set_cons_zero, List.set_cons_succ]
          refine wpAnyH_take (i := 17) (oi := ⟨some 40, _, _, _, _, _⟩) (v := .pointer (some ⟨sb, i * 64, none⟩)) rfl (by kernel_rfl) (by kernel_rfl) (by kernel_rfl) (fun _ _ _ h => h) (Or.inl ⟨by rfl, ?_⟩) HS ?_
          · intro ws hSw
            go_simp
          try simp only [Act.put, List.setIfInBounds_toArray, List.set_cons_zero, List.set_cons_succ]
          refine wpAnyH_ready (rs := [18]) (by kernel_rfl) (by simp) (AllReadyH.cons (o := ⟨some 41, _, _, _, _, _⟩) rfl (fun K hK => ?_) AllReadyH.nil)
          rw [if_pos (by rfl)]
          refine wp_load_mid 72 _ rfl sb (i * 64) rfl (secL (Sk i)) _ HRG.out Tryz.underlying72 rfl HSZ.out ?_
          refine hK.out _ _ HS (fun HS => ?_)
          clear hK K
          try simp only [Act.put, List.setIfInBounds_toArray, List.set_cons_zero, List.set_cons_succ]
          refine wpAnyH_ready (rs := [19]) (by kernel_rfl) (by simp) (AllReadyH.cons (o := ⟨some 42, _, _, _, _, _⟩) rfl (fun K hK => ?_) AllReadyH.nil)
          go_simp
          refine (behind_any _ 0 o (Sk i) HLO.out HLS.out HFT.out.1 HFT.out.2).mono ?_
          rintro e w5 ⟨rfl, hk5⟩
          go_wp2_with fail
          have HD5 := Lib.hid (HDD.out.kept hk5 (fun _ _ f => f))
          refine hK.out _ _ (SAt.of HD5.out rfl rfl) (fun HS => ?_)
          clear hK K
          try simp only [Act.put, List.setIfInBounds_toArray, List.set_cons_zero, List.set_cons_succ]
          refine wpAnyH_take (i := 20) (oi := ⟨some 43, _, _, _, _, _⟩) (v := .pointer (some ⟨sb, i * 64, none⟩)) rfl (by kernel_rfl) (by kernel_rfl) (by kernel_rfl) (fun _ _ _ h => h) (Or.inl ⟨by rfl, ?_⟩) HS ?_
          · intro ws hSw
            go_simp
          try simp only [Act.put, List.setIfInBounds_toArray, List.set_cons_zero, List.set_cons_succ]
          refine wpAnyH_ready (rs := [21]) (by kernel_rfl) (by simp) (AllReadyH.cons (o := ⟨none, _, _, _, _, _⟩) rfl (fun K hK => ?_) AllReadyH.nil)
          rw [if_pos (by rfl)]
          have HTH := Lib.hid (HD5.out.sec.there hi)
          have HD6 := Lib.hid (HD5.out.setSec hi (l := behindL 0 o (Sk i)) HLB.out)
          refine wp_store_mid 72 _ _ rfl sb (i * 64) (secL (behindL 0 o (Sk i))).toArray rfl rfl (by rw [List.size_toArray, HNB.out]; exact HTH.out) (by rw [List.size_toArray]; exact HZB.out) (all_oneCell_toArray (secL_one _)) ?_
          refine hK.out _ _ (SAt.of HD6.out rfl rfl) (fun HS => ?_)
          clear hK K
          try simp only [Act.put, List.setIfInBounds_toArray, List.set_cons_zero, List.set_cons_succ]
          have HKZ : Hid (Kept (fun k => k = sb) wr (w5.setCells sb (i * 64) (secL (behindL 0 o (Sk i))))) := Lib.hid (Kept.setCells _ _ ((Kept.refl (fun k => k = sb) wr).drew.trans (hk5.mono (fun _ _ f => f.elim))) (.inl rfl))
          refine wpAnyH_done (by kernel_rfl) ?_ _
          go_wp2_with fail
          go_roundw
          case rel => exact ⟨k + 1, upd Sk i (behindL 0 o (Sk i)), by go_num, by omega, HD6.out, HH2.out.kept HKZ.out HDBX.out, row_kept HROW2.out HKZ.out HSBX.out, by rw [← HCR.out, HDROP.out, crashF, HFK.out, HOL.out], HKW.out.trans HKZ.out⟩
          case measure => simp [Go.RowKit.intOf]; omega
      · obtain rfl : k = (pendL d.n d.O).length := by omega
        have HSK : Hid (Sk = crashF d.O how d.S (pendL d.n d.O) 0) := Lib.hid (by rw [← HCR.out, List.drop_length]; rfl)
        clear hd2 hrow2 hh2 hlt
        go_wp2_with fail
        refine (settle_any HD2.out).mono ?_
        rintro e w7 ⟨rfl, h7, hk7⟩
        have H7 := Lib.hid h7
        obtain ⟨c0, c1, c2, c3, c4, f⟩ := h7.five
        have f2 := f 2; have f4 := f 4
        clear h7
        go_wp2_with fail
        go_end0
        have h8 := (H7.out.setLeft 0 (by omega)).setDead false
        have e8 : crashD d how = { d with S := Sk, O := fun _ => none, left := 0, dead := false } := by unfold crashD; rw [← HSK.out]
        refine ⟨rfl, ⟨_, by rw [e8]; exact h8, HKW.out.size⟩, ?_⟩
        exact (HKW.out.mono (T := fun k => k = b ∨ k = sb) (fun _ _ e => .inr e)).trans (((hk7.trans (kept_set _ b 2 _)).trans (kept_set _ b 4 _)).mono (fun _ _ e => .inl e))
end Go.Proofs.YtcjfpddmpiggoaaGreat
