/- KeptEntry: what was lent is as it was; its owner writes all over then. awake of layer 2: the chapter's examples. WireEntries: the walk. -/
import Derived.Test.YtpmemcpfoapjmaaQ12
import Derived.Test.YtpmemcpfoapjmaaQ06
import Derived.Deep.RegionHeld3
import Derived.IntWalk
import Derived.Test.YtpmemcpfoapjmaaQ09
import Derived.Test.YtpmemcpfoapjmaaQ11
namespace Go.Proofs.Ytpmemcpfoapjmaa
open Go.ChangeShapes Go.WideShapes Go.ChangeAt Go.RowKit
set_option linter.unusedVariables false

theorem lent_E {base : Nat} {ok : Nat → Prop} {w : World} {x : Entry} {co ce : List Value} {ga ca gs c : Nat} (hL : LentAt base ok w x co ga ca gs c) (hE : entryE w ok ce x) : entryE w (fun k => ok k ∨ base ≤ k) co x := by
  obtain ⟨ct, rfl, ⟨vs, ⟨va, rfl, hA, h1, h2, h3, h4, h5, h6, h7⟩, hS⟩, hj⟩ := hE
  exact ⟨_, hL.cells, ⟨_, ⟨_, rfl, hL.acl.list aclE_ok, h1, h2, h3, h4, h5, h6, ⟨_, _, _, rfl⟩⟩, hL.subs.list partE_ok⟩, hj⟩
/-- a block of that type and size -/
def Blk (w : World) (g : Nat) (T : TypeId) (n : Nat) : Prop := ∃ cur : Array Value, w.heap[g]? = some (.cells cur T (0, 0)) ∧ cur.size = n
theorem Blk.set {w : World} {g : Nat} {T : TypeId} {n : Nat} (h : Blk w g T n) (b o : Nat) (vs : List Value) : Blk (w.setCells b o vs) g T n := by
  obtain ⟨cur, h1, h2⟩ := h
  obtain ⟨cur', h3, h4⟩ := setCells_block w b o vs h1
  exact ⟨cur', h3, by rw [h4, h2]⟩
theorem Blk.there {w : World} {g : Nat} {T : TypeId} {c sz : Nat} (h : Blk w g T (c * sz)) {i : Nat} (hi : i < c) : w.there g (i * sz) sz := by
  obtain ⟨cur, hh, hz⟩ := h
  intro j hj
  have hm : (i + 1) * sz ≤ c * sz := Nat.mul_le_mul_right _ hi
  rw [Nat.add_mul, Nat.one_mul] at hm
  have hlt : i * sz + j < cur.size := by omega
  refine ⟨?_, by simp [World.frozen?, hh]⟩
  rw [cell_of_row w g (i * sz + j) cur T (0, 0) hh, Array.getElem?_eq_getElem hlt]; rfl
def Two (a b : Nat) : Nat → Prop := fun j => j = a ∨ j = b
theorem Two.set {w w' : World} {a b g o : Nat} {vs : List Value} (h : Kept (Two a b) w w') (hg : Two a b g) : Kept (Two a b) w (w'.setCells g o vs) :=
  h.trans ((setCells_kept w' g o vs).mono (fun k _ hk => by have hk' : k = g := hk; subst hk'; exact hg))

set_option maxRecDepth 100000 in
set_option maxHeartbeats 4000000 in
theorem kept_entry (x : Entry) (co ce : List Value) (ok : Nat → Prop) (base : Nat) (w : World) (ga ca gs c : Nat) (hL : LentAt base ok w x co ga ca gs c) (hE : entryE w ok ce x) (hlay : (entryF.lay x).length ≤ 1000000000000000) (hn1 : x.txn.part.acl.length ≤ 20000000) (hn2 : x.txn.subs.length ≤ 20000000) :
    Calls Try.prog 7 #[.agg co.toArray, .agg ce.toArray] w fun e w' => e = .returned (.bool true) ∧ Kept (Two ga gs) w w' := by
  have HSA := Lib.hid (show (Try.prog.info? 47).map (·.size) = some 2 by kernel_rfl)
  have HST := Lib.hid (show (Try.prog.info? 26).map (·.size) = some 8 by kernel_rfl)
  have hEo := lent_E hL hE
  obtain ⟨l, hl⟩ : ∃ l, entryF.lay x = l := ⟨_, rfl⟩
  have hPO : ∀ W, Old w W → Calls Try.prog 8 #[.agg co.toArray] W (OldStr W l) := fun W h => by rw [← hl]; exact refput_entry x co _ W (entryE_ok.keep hEo h (disj_none _)) hlay
  have hPE : ∀ W, Old w W → Calls Try.prog 8 #[.agg ce.toArray] W (OldStr W l) := fun W h => by rw [← hl]; exact refput_entry x ce _ W (entryE_ok.keep hE h (disj_none _)) hlay
  have h77a := hL.acl.behind (cs := [.int .i64 77, .string ⟨#[]⟩]) (fun w ok cs' h => by rw [h.1]; rfl) rfl (by decide)
  have h77s := hL.subs.behind (cs := [.int .i64 77, .string ⟨#[]⟩]) (fun w ok cs' h => by obtain ⟨_, _, rfl, _⟩ := h; rfl) rfl (by decide)
  have hra := hL.acl.room
  have hrs := hL.subs.room
  have hma := hL.acl.max
  have hms := hL.subs.max
  have hba : Blk w ga 47 (ca * 2) := hL.acl.blk.2
  have hbs : Blk w gs 26 (c * 8) := hL.subs.blk.2
  have hco := hL.cells
  clear hL hEo hl hlay
  obtain ⟨ct, rfl, ⟨vs, ⟨va, rfl, hA, hp⟩, hS⟩, hj⟩ := hE
  obtain ⟨Aa, na, ca0, rfl⟩ := hA.shape
  obtain ⟨As, ns, c0, rfl⟩ := hS.shape
  have hlA := hA.size_le'
  have hlS := hS.size_le'
  clear hA hS hp hj
  obtain ⟨z0, z1, z2, ⟨⟨k0, p0, d0, acl, o0, m0, r0⟩, subs⟩⟩ := x
  dsimp only at hco hlA hlS hn1 hn2 hra hrs h77a h77s hPE ⊢
  rw [hlA] at hco hn1 hra h77a
  rw [hlS] at hco hn2 hrs h77s
  clear hlA hlS acl subs
  subst hco
  unfold maxLen at hma hms
  have KO := Lib.hid hPO; clear hPO
  have KE := Lib.hid hPE; clear hPE
  have H77A := Lib.hid h77a; clear h77a
  have H77S := Lib.hid h77s; clear h77s
  have HBA := Lib.hid hba; clear hba
  have HBS := Lib.hid hbs; clear hbs
  go_enter Try.func7, Try.ntmps7
  have hb0 : ((w.alloc (.cells ([.int .i64 z0, .int .i64 z1, .int .i64 z2, .int .i64 k0, .string p0, .string d0, .slice (some ⟨ga, 0, none⟩) na ca, .int .i64 o0, .int .i64 m0, .int .i64 r0, .slice (some ⟨gs, 0, none⟩) ns c] : List Value).toArray 28)).alloc (.cells ([.int .i64 z0, .int .i64 z1, .int .i64 z2, .int .i64 k0, .string p0, .string d0, .slice Aa na ca0, .int .i64 o0, .int .i64 m0, .int .i64 r0, .slice As ns c0] : List Value).toArray 28)).heap[w.heap.size]? = some (.cells ([.int .i64 z0, .int .i64 z1, .int .i64 z2, .int .i64 k0, .string p0, .string d0, .slice (some ⟨ga, 0, none⟩) na ca, .int .i64 o0, .int .i64 m0, .int .i64 r0, .slice (some ⟨gs, 0, none⟩) ns c] : List Value).toArray 28 (0, 0)) := by
    rw [((Old.refl (w.alloc (.cells ([.int .i64 z0, .int .i64 z1, .int .i64 z2, .int .i64 k0, .string p0, .string d0, .slice (some ⟨ga, 0, none⟩) na ca, .int .i64 o0, .int .i64 m0, .int .i64 r0, .slice (some ⟨gs, 0, none⟩) ns c] : List Value).toArray 28))).make _).block _ (by simp) id]; exact heap_alloc_new w _
  have hb1 : ((w.alloc (.cells ([.int .i64 z0, .int .i64 z1, .int .i64 z2, .int .i64 k0, .string p0, .string d0, .slice (some ⟨ga, 0, none⟩) na ca, .int .i64 o0, .int .i64 m0, .int .i64 r0, .slice (some ⟨gs, 0, none⟩) ns c] : List Value).toArray 28)).alloc (.cells ([.int .i64 z0, .int .i64 z1, .int .i64 z2, .int .i64 k0, .string p0, .string d0, .slice Aa na ca0, .int .i64 o0, .int .i64 m0, .int .i64 r0, .slice As ns c0] : List Value).toArray 28)).heap[w.heap.size + 1]? = some (.cells ([.int .i64 z0, .int .i64 z1, .int .i64 z2, .int .i64 k0, .string p0, .string d0, .slice Aa na ca0, .int .i64 o0, .int .i64 m0, .int .i64 r0, .slice As ns c0] : List Value).toArray 28 (0, 0)) := by
    have h := heap_alloc_new (w.alloc (.cells ([.int .i64 z0, .int .i64 z1, .int .i64 z2, .int .i64 k0, .string p0, .string d0, .slice (some ⟨ga, 0, none⟩) na ca, .int .i64 o0, .int .i64 m0, .int .i64 r0, .slice (some ⟨gs, 0, none⟩) ns c] : List Value).toArray 28)) (.cells ([.int .i64 z0, .int .i64 z1, .int .i64 z2, .int .i64 k0, .string p0, .string d0, .slice Aa na ca0, .int .i64 o0, .int .i64 m0, .int .i64 r0, .slice As ns c0] : List Value).toArray 28)
    rwa [show (w.alloc (.cells ([.int .i64 z0, .int .i64 z1, .int .i64 z2, .int .i64 k0, .string p0, .string d0, .slice (some ⟨ga, 0, none⟩) na ca, .int .i64 o0, .int .i64 m0, .int .i64 r0, .slice (some ⟨gs, 0, none⟩) ns c] : List Value).toArray 28)).heap.size = w.heap.size + 1 from by simp] at h
  have hO0 : Old w ((w.alloc (.cells ([.int .i64 z0, .int .i64 z1, .int .i64 z2, .int .i64 k0, .string p0, .string d0, .slice (some ⟨ga, 0, none⟩) na ca, .int .i64 o0, .int .i64 m0, .int .i64 r0, .slice (some ⟨gs, 0, none⟩) ns c] : List Value).toArray 28)).alloc (.cells ([.int .i64 z0, .int .i64 z1, .int .i64 z2, .int .i64 k0, .string p0, .string d0, .slice Aa na ca0, .int .i64 o0, .int .i64 m0, .int .i64 r0, .slice As ns c0] : List Value).toArray 28)) := ((Old.refl w).make _).make _
  have HPRE := Lib.hid (And.intro hb0 (And.intro hb1 hO0))
  clear hb0 hb1 hO0
  go_upto_region 1 with fail
  have hb0 := HPRE.out.1
  have hb1 := HPRE.out.2.1
  have hO0 := HPRE.out.2.2
  clear HPRE
  generalize (w.alloc (.cells ([.int .i64 z0, .int .i64 z1, .int .i64 z2, .int .i64 k0, .string p0, .string d0, .slice (some ⟨ga, 0, none⟩) na ca, .int .i64 o0, .int .i64 m0, .int .i64 r0, .slice (some ⟨gs, 0, none⟩) ns c] : List Value).toArray 28)).alloc (.cells ([.int .i64 z0, .int .i64 z1, .int .i64 z2, .int .i64 k0, .string p0, .string d0, .slice Aa na ca0, .int .i64 o0, .int .i64 m0, .int .i64 r0, .slice As ns c0] : List Value).toArray 28) = w5 at hb0 hb1 hO0 ⊢
  have HSS0 := Lib.hid (show ∀ w', Old w5 w' → w'.cell? ⟨w.heap.size, 0, none⟩ = some (.int .i64 z0) ∧ w'.cell? ⟨w.heap.size, 1, none⟩ = some (.int .i64 z1) ∧ w'.cell? ⟨w.heap.size, 2, none⟩ = some (.int .i64 z2) ∧ w'.cell? ⟨w.heap.size, 3, none⟩ = some (.int .i64 k0) ∧ w'.cell? ⟨w.heap.size, 4, none⟩ = some (.string p0) ∧ w'.cell? ⟨w.heap.size, 5, none⟩ = some (.string d0) ∧ w'.cell? ⟨w.heap.size, 6, none⟩ = some (.slice (some ⟨ga, 0, none⟩) na ca) ∧ w'.cell? ⟨w.heap.size, 7, none⟩ = some (.int .i64 o0) ∧ w'.cell? ⟨w.heap.size, 8, none⟩ = some (.int .i64 m0) ∧ w'.cell? ⟨w.heap.size, 9, none⟩ = some (.int .i64 r0) ∧ w'.cell? ⟨w.heap.size, 10, none⟩ = some (.slice (some ⟨gs, 0, none⟩) ns c) ∧ w'.cell? ⟨w.heap.size + 1, 0, none⟩ = some (.int .i64 z0) ∧ w'.cell? ⟨w.heap.size + 1, 1, none⟩ = some (.int .i64 z1) ∧ w'.cell? ⟨w.heap.size + 1, 2, none⟩ = some (.int .i64 z2) ∧ w'.cell? ⟨w.heap.size + 1, 3, none⟩ = some (.int .i64 k0) ∧ w'.cell? ⟨w.heap.size + 1, 4, none⟩ = some (.string p0) ∧ w'.cell? ⟨w.heap.size + 1, 5, none⟩ = some (.string d0) ∧ w'.cell? ⟨w.heap.size + 1, 6, none⟩ = some (.slice Aa na ca0) ∧ w'.cell? ⟨w.heap.size + 1, 7, none⟩ = some (.int .i64 o0) ∧ w'.cell? ⟨w.heap.size + 1, 8, none⟩ = some (.int .i64 m0) ∧ w'.cell? ⟨w.heap.size + 1, 9, none⟩ = some (.int .i64 r0) ∧ w'.cell? ⟨w.heap.size + 1, 10, none⟩ = some (.slice As ns c0) ∧ w'.cell? ⟨ga, na * 2, none⟩ = some (.int .i64 77) ∧ w'.cell? ⟨gs, ns * 8, none⟩ = some (.int .i64 77) ∧ Old w5 w' from fun w' hO => by
    have ho := fun i v hv => cell_of_heap (i := i) (v := v) ((hO.block _ (lt_of_block hb0) id).trans hb0) hv
    have he := fun i v hv => cell_of_heap (i := i) (v := v) ((hO.block _ (lt_of_block hb1) id).trans hb1) hv
    have h1 := Old.cell hO (Old.cell hO0 H77A.out)
    have h2 := Old.cell hO (Old.cell hO0 H77S.out)
    exact ⟨ho 0 _ rfl, ho 1 _ rfl, ho 2 _ rfl, ho 3 _ rfl, ho 4 _ rfl, ho 5 _ rfl, ho 6 _ rfl, ho 7 _ rfl, ho 8 _ rfl, ho 9 _ rfl, ho 10 _ rfl, he 0 _ rfl, he 1 _ rfl, he 2 _ rfl, he 3 _ rfl, he 4 _ rfl, he 5 _ rfl, he 6 _ rfl, he 7 _ rfl, he 8 _ rfl, he 9 _ rfl, he 10 _ rfl, h1, h2, hO⟩)
  have KO5 := Lib.hid (fun W (h : Old w5 W) => KO.out W (hO0.none h))
  have KE5 := Lib.hid (show ∀ W, Old w5 W → Calls Try.prog 8 #[.agg ([.int .i64 z0, .int .i64 z1, .int .i64 z2, .int .i64 k0, .string p0, .string d0, .slice Aa na ca0, .int .i64 o0, .int .i64 m0, .int .i64 r0, .slice As ns c0] : List Value).toArray] W (OldStr W l) from fun W h => KE.out W (hO0.none h))
  have HB0 := Lib.hid hb0
  have HB1 := Lib.hid hb1
  have HO0 := Lib.hid hO0
  have e6 : w5.cell? ⟨w.heap.size + 1, 6, none⟩ = some (.slice Aa na ca0) := cell_of_heap hb1 rfl
  have e10 : w5.cell? ⟨w.heap.size + 1, 10, none⟩ = some (.slice As ns c0) := cell_of_heap hb1 rfl
  clear hb0 hb1 hO0 KO KE
  go_upto_region 3 with fail
  clear e6 e10
  go_cut [7] (fun v wx => v = .bool true ∧ Old w5 wx)
  case first =>
    have hsl1 : (na : Int) + 1 ≤ (ca : Int) := by omega
    have hsl2 : (ns : Int) + 1 ≤ (c : Int) := by omega
    have hsl3 : (0 : Int) ≤ (na : Int) + 1 := by omega
    have hsl4 : (0 : Int) ≤ (ns : Int) + 1 := by omega
    have hsl5 : (na : Int) < (na : Int) + 1 := by omega
    have hsl6 : (ns : Int) < (ns : Int) + 1 := by omega
    have hsl7 : (0 : Int) ≤ (na : Int) := by omega
    have hsl8 : (0 : Int) ≤ (ns : Int) := by omega
    have hx1 := IntWalk.i64_in ((na : Int) + 1) (by omega)
    have hx2 := IntWalk.i64_in ((ns : Int) + 1) (by omega)
    have hy1 : ((na : Int) + 1).toNat = na + 1 := by omega
    have hy2 : ((ns : Int) + 1).toNat = ns + 1 := by omega
    go_region_held3 (fun w' => w'.cell? ⟨w.heap.size, 0, none⟩ = some (.int .i64 z0) ∧ w'.cell? ⟨w.heap.size, 1, none⟩ = some (.int .i64 z1) ∧ w'.cell? ⟨w.heap.size, 2, none⟩ = some (.int .i64 z2) ∧ w'.cell? ⟨w.heap.size, 3, none⟩ = some (.int .i64 k0) ∧ w'.cell? ⟨w.heap.size, 4, none⟩ = some (.string p0) ∧ w'.cell? ⟨w.heap.size, 5, none⟩ = some (.string d0) ∧ w'.cell? ⟨w.heap.size, 6, none⟩ = some (.slice (some ⟨ga, 0, none⟩) na ca) ∧ w'.cell? ⟨w.heap.size, 7, none⟩ = some (.int .i64 o0) ∧ w'.cell? ⟨w.heap.size, 8, none⟩ = some (.int .i64 m0) ∧ w'.cell? ⟨w.heap.size, 9, none⟩ = some (.int .i64 r0) ∧ w'.cell? ⟨w.heap.size, 10, none⟩ = some (.slice (some ⟨gs, 0, none⟩) ns c) ∧ w'.cell? ⟨w.heap.size + 1, 0, none⟩ = some (.int .i64 z0) ∧ w'.cell? ⟨w.heap.size + 1, 1, none⟩ = some (.int .i64 z1) ∧ w'.cell? ⟨w.heap.size + 1, 2, none⟩ = some (.int .i64 z2) ∧ w'.cell? ⟨w.heap.size + 1, 3, none⟩ = some (.int .i64 k0) ∧ w'.cell? ⟨w.heap.size + 1, 4, none⟩ = some (.string p0) ∧ w'.cell? ⟨w.heap.size + 1, 5, none⟩ = some (.string d0) ∧ w'.cell? ⟨w.heap.size + 1, 6, none⟩ = some (.slice Aa na ca0) ∧ w'.cell? ⟨w.heap.size + 1, 7, none⟩ = some (.int .i64 o0) ∧ w'.cell? ⟨w.heap.size + 1, 8, none⟩ = some (.int .i64 m0) ∧ w'.cell? ⟨w.heap.size + 1, 9, none⟩ = some (.int .i64 r0) ∧ w'.cell? ⟨w.heap.size + 1, 10, none⟩ = some (.slice As ns c0) ∧ w'.cell? ⟨ga, na * 2, none⟩ = some (.int .i64 77) ∧ w'.cell? ⟨gs, ns * 8, none⟩ = some (.int .i64 77) ∧ Old w5 w')
      (((try dsimp only); first | exact HSS0.out _ (Old.drew (Old.refl _)) | exact HSS0.out _ (by assumption) | exact HSS0.out _ (Old.drew (by assumption))))
      (first
        | (go_at_call 8; go_split_ands; (with_reducible refine (KO5.out _ (by first | assumption | exact Old.drew (Old.refl _))).mono ?_); rintro en w9 ⟨rfl, hO9⟩; have hP9 : Old w5 w9 := Old.none (by first | assumption | exact Old.drew (Old.refl _)) hO9; clear hO9)
        | (go_at_call 8; go_split_ands; (with_reducible refine (KE5.out _ (by first | assumption | exact Old.drew (Old.refl _))).mono ?_); rintro en w9 ⟨rfl, hO9⟩; have hP9 : Old w5 w9 := Old.none (by first | assumption | exact Old.drew (Old.refl _)) hO9; clear hO9))
    all_goals go_wp2_with fail
    all_goals go_meet
    all_goals exact ⟨rfl, by assumption⟩
  case rest =>
  obtain ⟨rfl, hOc⟩ := hcut
  have hOw : Old w wc := HO0.out.none hOc
  have hbc0 := (hOc.block _ (lt_of_block HB0.out) id).trans HB0.out
  have hga : ga < w.heap.size := by obtain ⟨cur, h, _⟩ := HBA.out; exact lt_of_block h
  have hgs : gs < w.heap.size := by obtain ⟨cur, h, _⟩ := HBS.out; exact lt_of_block h
  have hbac : Blk wc ga 47 (ca * 2) := by obtain ⟨cur, h, h2⟩ := HBA.out; exact ⟨cur, (hOw.block _ (lt_of_block h) id).trans h, h2⟩
  have hbsc : Blk wc gs 26 (c * 8) := by obtain ⟨cur, h, h2⟩ := HBS.out; exact ⟨cur, (hOw.block _ (lt_of_block h) id).trans h, h2⟩
  have HBQ := Lib.hid (show ∀ wq, Kept (Two ga gs) wc wq → wq.heap[w.heap.size]? = some (.cells ([.int .i64 z0, .int .i64 z1, .int .i64 z2, .int .i64 k0, .string p0, .string d0, .slice (some ⟨ga, 0, none⟩) na ca, .int .i64 o0, .int .i64 m0, .int .i64 r0, .slice (some ⟨gs, 0, none⟩) ns c] : List Value).toArray 28 (0, 0)) from fun wq hq => (hq.block _ (lt_of_block hbc0) (fun hs => by rcases hs with hs | hs <;> omega)).trans hbc0)
  have HFIN := Lib.hid (show ∀ wq, Kept (Two ga gs) wc wq → Kept (Two ga gs) w wq from fun wq hq => (Kept.mono hOw (fun _ _ f => f.elim)).trans hq)
  have HAC := Lib.hid hbac
  have HSC := Lib.hid hbsc
  clear HSS0 KO5 KE5 HB0 HB1 HO0 hOc hOw hbc0 hbac hbsc H77A H77S HBA HBS
  go_wp2_with fail
  go_loopw [8] (fun iv wq => ∃ i : Nat, iv = .int .i64 (i : Nat) ∧ i ≤ na + 1 ∧ Kept (Two ga gs) wc wq ∧ Blk wq ga 47 (ca * 2) ∧ Blk wq gs 26 (c * 8)) (fun iv _ => na + 1 - (intOf iv).toNat)
  case atStart => exact ⟨0, rfl, Nat.zero_le _, Kept.refl _ _, HAC.out, HSC.out⟩
  case round =>
    obtain ⟨i, rfl, hi, hKq, hqa, hqs⟩ := hrel
    have cq := cell_of_heap (i := 6) (v := .slice (some ⟨ga, 0, none⟩) na ca) (HBQ.out _ hKq) rfl
    by_cases hlt : i < na + 1
    · have hkl : (i : Int) < (na : Int) + 1 := by omega
      have hsl : (na : Int) + 1 ≤ (ca : Int) := by omega
      have HT := Lib.hid (hqa.there (show i < ca by omega))
      have HLT := Lib.hid hlt
      obtain ⟨wn, hwn⟩ : ∃ u, World.setCells wr ga (i * 2) [.int .i64 (-1), .string ⟨#[111, 118, 101, 114]⟩] = u := ⟨_, rfl⟩
      have HWN := Lib.hid hwn; clear hwn
      have HONE := Lib.hid (show ∀ v ∈ ([.int .i64 (-1), .string ⟨#[111, 118, 101, 114]⟩] : List Value), v.oneCell' = true by simp [Value.oneCell'])
      have HK1 := Lib.hid (Two.set (o := i * 2) (vs := [.int .i64 (-1), .string ⟨#[111, 118, 101, 114]⟩]) hKq (Or.inl rfl))
      have HA1 := Lib.hid (hqa.set ga (i * 2) [.int .i64 (-1), .string ⟨#[111, 118, 101, 114]⟩])
      have HS1 := Lib.hid (hqs.set ga (i * 2) [.int .i64 (-1), .string ⟨#[111, 118, 101, 114]⟩])
      clear hKq hqa hqs
      go_wp2_with (refine wpList_store_over rfl 47 (.tmp 63) (.tmp 62) rfl ga (i * 2) [.int .i64 (-1), .string ⟨#[111, 118, 101, 114]⟩] 2 rfl rfl HT.out rfl HSA.out HONE.out wn HWN.out ?_)
      go_roundw
      case rel => rw [← HWN.out]; exact ⟨i + 1, by go_num, HLT.out, HK1.out, HA1.out, HS1.out⟩
      case measure => have h := HLT.out; simp [intOf]; omega
    · have hkl : ¬ (i : Int) < (na : Int) + 1 := by omega
      have HK2 := Lib.hid hKq
      have HS2 := Lib.hid hqs
      clear hKq hqa hqs
      go_wp2_with fail
      clear cq hkl
      go_loopw [9] (fun iv wq => ∃ i : Nat, iv = .int .i64 (i : Nat) ∧ i ≤ ns + 1 ∧ Kept (Two ga gs) wc wq ∧ Blk wq gs 26 (c * 8)) (fun iv _ => ns + 1 - (intOf iv).toNat)
      case atStart => exact ⟨0, rfl, Nat.zero_le _, HK2.out, HS2.out⟩
      case round =>
        obtain ⟨k, rfl, hk, hKq, hqs⟩ := hrel
        have cq := cell_of_heap (i := 10) (v := .slice (some ⟨gs, 0, none⟩) ns c) (HBQ.out _ hKq) rfl
        by_cases hlk : k < ns + 1
        · have hkl : (k : Int) < (ns : Int) + 1 := by omega
          have hsl : (ns : Int) + 1 ≤ (c : Int) := by omega
          have HT := Lib.hid (hqs.there (show k < c by omega))
          have HLT := Lib.hid hlk
          obtain ⟨wn, hwn⟩ : ∃ u, World.setCells wr gs (k * 8) [.int .i64 (-1), .string ⟨#[]⟩, .string ⟨#[]⟩, .slice none 0 0, .int .i64 0, .int .i64 0, .int .i64 0, .slice none 0 0] = u := ⟨_, rfl⟩
          have HWN := Lib.hid hwn; clear hwn
          have HONE := Lib.hid (show ∀ v ∈ ([.int .i64 (-1), .string ⟨#[]⟩, .string ⟨#[]⟩, .slice none 0 0, .int .i64 0, .int .i64 0, .int .i64 0, .slice none 0 0] : List Value), v.oneCell' = true by simp [Value.oneCell'])
          have HK1 := Lib.hid (Two.set (o := k * 8) (vs := [.int .i64 (-1), .string ⟨#[]⟩, .string ⟨#[]⟩, .slice none 0 0, .int .i64 0, .int .i64 0, .int .i64 0, .slice none 0 0]) hKq (Or.inr rfl))
          have HS1 := Lib.hid (hqs.set gs (k * 8) [.int .i64 (-1), .string ⟨#[]⟩, .string ⟨#[]⟩, .slice none 0 0, .int .i64 0, .int .i64 0, .int .i64 0, .slice none 0 0])
          clear hKq hqs
          go_wp2_with (refine wpList_store_over rfl 26 (.tmp 78) (.tmp 77) rfl gs (k * 8) [.int .i64 (-1), .string ⟨#[]⟩, .string ⟨#[]⟩, .slice none 0 0, .int .i64 0, .int .i64 0, .int .i64 0, .slice none 0 0] 8 rfl rfl HT.out rfl HST.out HONE.out wn HWN.out ?_)
          go_roundw
          case rel => rw [← HWN.out]; exact ⟨k + 1, by go_num, HLT.out, HK1.out, HS1.out⟩
          case measure => have h := HLT.out; simp [intOf]; omega
        · have hkl : ¬ (k : Int) < (ns : Int) + 1 := by omega
          have HK3 := Lib.hid (HFIN.out _ hKq)
          clear hKq hqs
          go_wp2_with fail
          go_ret
          exact ⟨rfl, HK3.out⟩
end Go.Proofs.Ytpmemcpfoapjmaa

namespace Go.Proofs.Ytpmemcpfoapjmaa
open Go.ChangeShapes Go.WideShapes Go.ChangeAt Go.RowKit
set_option linter.unusedVariables false

theorem Old.alloc {w0 w : World} (h : Old w0 w) (o : Obj) : Old w0 (w.alloc o) := Kept.alloc h o

theorem wex1 : eventF.lay ⟨3, ⟨#[47, 97]⟩, 7⟩ = [6, 2, 47, 97, 14] := by decide +kernel
theorem wex2 : helloF.lay ⟨1, 0, 10, ⟨#[115]⟩⟩ = [2, 0, 20, 1, 115] := by decide +kernel
theorem wex3 : noteF.lay ⟨1, 2, 3, 4, 5, 6⟩ = [2, 4, 6, 8, 10, 12] := by decide +kernel

theorem small_i64 {n : Int} (h : 0 ≤ n) (h2 : n ≤ 100) : I64 n := by unfold I64; omega
theorem wexr1 : eventF.read ⟨#[6, 2, 47, 97, 14]⟩ = some ⟨3, ⟨#[47, 97]⟩, 7⟩ :=
  Fmt.read_lay eventF_ok wex1.symm ⟨small_i64 (by decide) (by decide), (by decide : (2 : Nat) ≤ 4096), small_i64 (by decide) (by decide)⟩
theorem wexr2 : eventF.read ⟨#[6, 2, 47, 97, 14, 0]⟩ = none := by
  cases h : eventF.read ⟨#[6, 2, 47, 97, 14, 0]⟩ with
  | none => rfl
  | some x =>
    have h1 := (Fmt.read_some eventF_ok h).1
    have h2 := eventF_ok.pf x ⟨3, ⟨#[47, 97]⟩, 7⟩ [] [0] (by rw [← h1, wex1]; rfl)
    simp at h2

theorem get_event_ok (w : World) : Calls Try.prog 11 #[.string ⟨#[6, 2, 47, 97, 14]⟩] w fun en w' => en = .returned (.tuple #[.agg #[.int .i64 3, .string ⟨#[47, 97]⟩, .int .i64 7], .int .i64 0]) ∧ Old w w' := by
  have h := GetEvent_any ⟨#[6, 2, 47, 97, 14]⟩ w (by decide)
  rw [wexr1] at h
  refine h.mono fun en w' ⟨cs, he, hO, hE⟩ => ?_
  have hcs : cs = [.int .i64 3, .string ⟨#[47, 97]⟩, .int .i64 7] := hE.1
  subst hcs
  exact ⟨he, hO⟩
theorem get_event_bad (w : World) : Calls Try.prog 11 #[.string ⟨#[6, 2, 47, 97, 14, 0]⟩] w fun en w' => en = .returned (.tuple #[.agg #[.int .i64 0, .string ⟨#[]⟩, .int .i64 0], .int .i64 120]) ∧ Old w w' := by
  have h := GetEvent_any ⟨#[6, 2, 47, 97, 14, 0]⟩ w (by decide)
  rw [wexr2] at h
  refine h.mono fun en w' ⟨cs, he, hO, hE⟩ => ?_
  have hcs : cs = [.int .i64 0, .string ⟨#[]⟩, .int .i64 0] := hE.1
  subst hcs
  exact ⟨he, hO⟩
theorem put_event_ex (w : World) : Calls Try.prog 10 #[.agg #[.int .i64 3, .string ⟨#[47, 97]⟩, .int .i64 7]] w fun en w' => en = .returned (.string ⟨#[6, 2, 47, 97, 14]⟩) ∧ Old w w' := by
  have h := PutEvent_any ⟨3, ⟨#[47, 97]⟩, 7⟩ [.int .i64 3, .string ⟨#[47, 97]⟩, .int .i64 7] (fun _ => False) w ⟨rfl, small_i64 (by decide) (by decide), (by unfold Str; decide), small_i64 (by decide) (by decide)⟩ (fun _ f => f.elim) (by rw [wex1]; decide)
  rw [wex1] at h
  exact h
theorem put_hello_ex (w : World) : Calls Try.prog 12 #[.agg #[.int .i64 1, .int .i64 0, .int .i64 10, .string ⟨#[115]⟩]] w fun en w' => en = .returned (.string ⟨#[2, 0, 20, 1, 115]⟩) ∧ Old w w' := by
  have h := PutHello_any ⟨1, 0, 10, ⟨#[115]⟩⟩ [.int .i64 1, .int .i64 0, .int .i64 10, .string ⟨#[115]⟩] (fun _ => False) w ⟨rfl, small_i64 (by decide) (by decide), small_i64 (by decide) (by decide), small_i64 (by decide) (by decide), (by unfold Str; decide)⟩ (fun _ f => f.elim) (by rw [wex2]; decide)
  rw [wex2] at h
  exact h
theorem put_note_ex (w : World) : Calls Try.prog 13 #[.agg #[.int .i64 1, .int .i64 2, .int .i64 3, .int .i64 4, .int .i64 5, .int .i64 6]] w fun en w' => en = .returned (.string ⟨#[2, 4, 6, 8, 10, 12]⟩) ∧ Old w w' := by
  have h := PutNote_any ⟨1, 2, 3, 4, 5, 6⟩ [.int .i64 1, .int .i64 2, .int .i64 3, .int .i64 4, .int .i64 5, .int .i64 6] (fun _ => False) w ⟨rfl, small_i64 (by decide) (by decide), small_i64 (by decide) (by decide), small_i64 (by decide) (by decide), small_i64 (by decide) (by decide), small_i64 (by decide) (by decide), small_i64 (by decide) (by decide)⟩ (fun _ f => f.elim) (by rw [wex3]; decide)
  rw [wex3] at h
  exact h

set_option maxRecDepth 100000 in
theorem wawake_any (w : World) : Calls Try.prog 4 #[] w fun e w' => e = .returned (.bool true) ∧ Old w w' := by
  have hO0 := Old.refl w
  go_enter Try.func4, Try.ntmps4
  go_wp2_with fail
  refine (put_event_ex _).mono ?_
  rintro en w1 ⟨rfl, hO1⟩
  have hP1 := hO0.none hO1
  clear hO0 hO1
  go_wp2_with fail
  refine (get_event_ok _).mono ?_
  rintro en w2 ⟨rfl, hO2⟩
  have hP2 := hP1.none hO2
  clear hP1 hO2
  go_wp2_with fail
  refine (get_event_bad _).mono ?_
  rintro en w3 ⟨rfl, hO3⟩
  have hb3 : w3.heap[w2.heap.size]? = some (.cells #[.int .i64 3, .string ⟨#[47, 97]⟩, .int .i64 7] 37 (0, 0)) := by
    rw [hO3.block _ (by simp) id]; exact heap_alloc_new w2 _
  have hP3 := (hP2.alloc _).none hO3
  clear hP2 hO3
  go_wp2_with fail
  refine (put_hello_ex _).mono ?_
  rintro en w4 ⟨rfl, hO4⟩
  have hQ4 : Old w3 w4 := ((Old.refl w3).alloc _).none hO4
  have hb4 := (hQ4.block _ (lt_of_block hb3) id).trans hb3
  have hP4 := hP3.none hQ4
  clear hb3 hP3 hO4 hQ4
  go_wp2_with fail
  refine (put_note_ex _).mono ?_
  rintro en w5 ⟨rfl, hO5⟩
  have hb5 := (hO5.block _ (lt_of_block hb4) id).trans hb4
  have hP5 := hP4.none hO5
  clear hb4 hP4 hO5
  have c0 : w5.cell? ⟨w2.heap.size, 0, none⟩ = some (.int .i64 3) := by simp [World.cell?, hb5]
  have c1 : w5.cell? ⟨w2.heap.size, 1, none⟩ = some (.string ⟨#[47, 97]⟩) := by simp [World.cell?, hb5]
  have c2 : w5.cell? ⟨w2.heap.size, 2, none⟩ = some (.int .i64 7) := by simp [World.cell?, hb5]
  clear hb5
  go_wp2_with fail
  go_ret
  exact ⟨rfl, hP5⟩
end Go.Proofs.Ytpmemcpfoapjmaa

namespace Go.Proofs.Ytpmemcpfoapjmaa.wireEntries
open Go.ChangeShapes Go.WideShapes Go.ChangeAt Go.RowKit
set_option linter.unusedVariables false

theorem layN_ge {α : Type} (f : Fmt α) (hp : ∀ a, 0 < (f.lay a).length) (l : List α) : l.length ≤ (layN f l).length := by
  induction l with
  | nil => simp
  | cons a l ih =>
    have h : layN f (a :: l) = f.lay a ++ layN f l := by simp [layN]
    rw [h, List.length_append, List.length_cons]
    have := hp a
    omega
theorem acl_pos (a : Acl) : 0 < (aclF.lay a).length := by
  have h : aclF.lay a = sev (zz a.perms) ++ (textF 4096).lay a.id := rfl
  rw [h, List.length_append]
  have := sev_length_pos (zz a.perms)
  omega
theorem part_pos (p : Part) : 0 < (partF.lay p).length := by
  obtain ⟨r, h⟩ : ∃ r, partF.lay p = sev (zz p.kind) ++ r := ⟨_, rfl⟩
  rw [h, List.length_append]
  have := sev_length_pos (zz p.kind)
  omega
theorem entry_lens (x : Entry) : x.txn.part.acl.length ≤ (entryF.lay x).length ∧ x.txn.subs.length ≤ (entryF.lay x).length := by
  have h : entryF.lay x = sev (zz x.zxid) ++ (sev (zz x.session) ++ (sev (zz x.xid) ++ (partF.lay x.txn.part ++ (listF partF).lay x.txn.subs))) := rfl
  have h2 : partF.lay x.txn.part = sev (zz x.txn.part.kind) ++ ((textF 4096).lay x.txn.part.path ++ ((textF 4096).lay x.txn.part.data ++ ((listF aclF).lay x.txn.part.acl ++ (sev (zz x.txn.part.owner) ++ (sev (zz x.txn.part.number) ++ sev (zz x.txn.part.err)))))) := rfl
  have h3 : (listF aclF).lay x.txn.part.acl = sev x.txn.part.acl.length ++ layN aclF x.txn.part.acl := rfl
  have h4 : (listF partF).lay x.txn.subs = sev x.txn.subs.length ++ layN partF x.txn.subs := rfl
  have h5 := layN_ge aclF acl_pos x.txn.part.acl
  have h6 := layN_ge partF part_pos x.txn.subs
  rw [h, h2, h3, h4]
  simp only [List.length_append]
  omega
theorem LentAt.old {base : Nat} {ok : Nat → Prop} {w w' : World} {x : Entry} {cs : List Value} {ga ca gs c : Nat} (h : LentAt base ok w x cs ga ca gs c) (hk : Old w w') : LentAt base ok w' x cs ga ca gs c :=
  ⟨h.cells, h.acl.keepTo aclE_ok hk id (disj_none _), h.subs.keepTo partE_ok hk id (disj_none _)⟩

set_option maxRecDepth 100000 in
set_option maxHeartbeats 1600000 in
theorem walk0 (x : Entry) (ce : List Value) (ok : Nat → Prop) (w : World) (hE : entryE w ok ce x) (hi : In w ok) (hx : (entryF.lay x).length ≤ 20000000) :
    Calls Try.prog 3 #[.agg ce.toArray] w fun e w' => e = .returned (.bool true) ∧ Old w w' := by
  have hsz0 : (Try.prog.info? 28).map (·.size) = some 11 := by kernel_rfl
  have HSE := Lib.hid (info_len hsz0 (entryE_flat hE).1)
  have HS0 := Lib.hid hsz0
  clear hsz0
  obtain ⟨s, hs⟩ : ∃ s : ByteArray, (⟨(entryF.lay x).toArray⟩ : ByteArray) = s := ⟨_, rfl⟩
  have hsl : s.data.toList = entryF.lay x := by rw [← hs]
  have hsz : s.size ≤ 140737488355328 := by rw [← str_len, hsl]; omega
  have HS := Lib.hid hs; clear hs hsl
  have HZ := Lib.hid hsz; clear hsz
  have HN := Lib.hid (entry_lens x)
  have HE := Lib.hid hE; clear hE
  have HX := Lib.hid hx; clear hx
  go_enter Try.func3, Try.ntmps3
  go_wp2_with fail
  refine (wawake_any _).mono ?_
  rintro en w1 ⟨rfl, hO1⟩
  have hb0 : w1.heap[w.heap.size]? = some (.cells ce.toArray 28 (0, 0)) := (hO1.block _ (by simp) id).trans (heap_alloc_new w _)
  have hP1 : Old w w1 := ((Old.refl w).make _).none hO1
  have hlt1 : w.heap.size < w1.heap.size := lt_of_block hb0
  have HB0 := Lib.hid hb0
  have HR0 := Lib.hid (range_row hb0)
  have HP1 := Lib.hid hP1
  have hi1 : In w1 ok := hi.kept hP1
  have HL := Lib.hid (lent_entry x ce ok w1 (entryE_ok.keep HE.out hP1 (disj_none _)) hi1 (by have := HN.out.1; have := HX.out; omega) (by have := HN.out.2; have := HX.out; omega))
  clear hb0 hP1 hO1
  go_wp2_with (refine wpList_load_mid rfl 28 (.tmp 1) rfl w.heap.size 0 rfl ce _ HR0.out Try.underlying28 rfl HSE.out ?_)
  refine HL.out.mono ?_
  rintro en w2 ⟨co, ga, ca, gs, c, rfl, hO2, hL⟩
  have hE2 : entryE w2 ok ce x := entryE_ok.keep HE.out (HP1.out.none hO2) (disj_none _)
  have hEo := lent_E hL hE2
  have hflo := entryE_flat hEo
  have hA2 : Old w2 (w2.alloc (.cells co.toArray 28)) := (Old.refl _).make _
  have HBO := Lib.hid (heap_alloc_new w2 (.cells co.toArray 28))
  have HO3 := Lib.hid ((HP1.out.none hO2).none hA2)
  have HB3 := Lib.hid ((hA2.block _ (by have := hO2.size; omega) id).trans ((hO2.block _ hlt1 id).trans HB0.out))
  have HL3 := Lib.hid (LentAt.old hL hA2)
  have HFO := Lib.hid hflo
  have hz2 : w1.heap.size ≤ w2.heap.size := hO2.size
  have hz3 : w2.heap.size < (w2.alloc (.cells co.toArray 28)).heap.size := by simp
  have HEO3 := Lib.hid (entryE_ok.mono (entryE_ok.keep hEo hA2 (disj_none _)) (ok' := fun k => k < (w2.alloc (.cells co.toArray 28)).heap.size) (fun k hk _ => hk))
  clear hL hE2 hEo hflo hA2 hO2 HL HR0 HB0 hi1
  have HSO := Lib.hid (info_len HS0.out HFO.out.1)
  have HRO := Lib.hid (range_new w2 co 28)
  go_wp2_with (first
    | (refine wpList_store_new w2 rfl 28 _ _ rfl _ co rfl rfl (info_len HS0.out HFO.out.1) (by rw [HFO.out.1]; rfl) HFO.out.2 ?_)
    | (refine wpList_load_mid rfl 28 (.tmp 4) rfl w2.heap.size 0 rfl co _ HRO.out Try.underlying28 rfl HSO.out ?_))
  generalize w2.alloc (.cells co.toArray 28) = w3 at HBO HO3 HB3 HL3 HEO3 HRO hz3 ⊢
  have HPO := Lib.hid (PutEntry_any x co _ w3 HEO3.out (fun k hk => hk) (by have := HX.out; omega))
  refine HPO.out.mono ?_
  rintro en w4 ⟨he4, hO4⟩
  rw [HS.out] at he4
  subst he4
  have HR4 := Lib.hid (range_row ((hO4.block _ hz3 id).trans HBO.out))
  have HB4 := Lib.hid ((hO4.block _ (lt_of_block HB3.out) id).trans HB3.out)
  have HRE := Lib.hid (range_row HB4.out)
  have HO4 := Lib.hid (HO3.out.none hO4)
  have HL4 := Lib.hid (LentAt.old HL3.out hO4)
  have hE4 : entryE w4 ok ce x := entryE_ok.keep HE.out HO4.out (disj_none _)
  have HKE := Lib.hid (kept_entry x co ce ok w1.heap.size w4 ga ca gs c HL4.out hE4 (by have := HX.out; omega) (by have := HN.out.1; have := HX.out; omega) (by have := HN.out.2; have := HX.out; omega))
  clear hO4 HBO HO3 HB3 HL3 HEO3 HPO HRO hE4
  go_wp2_with (first
    | (refine wpList_load_mid rfl 28 (.tmp 4) rfl w2.heap.size 0 rfl co _ HR4.out Try.underlying28 rfl HSO.out ?_)
    | (refine wpList_load_mid rfl 28 (.tmp 1) rfl w.heap.size 0 rfl ce _ HRE.out Try.underlying28 rfl HSE.out ?_))
  refine HKE.out.mono ?_
  rintro en w5 ⟨rfl, hK5⟩
  have hga := HL4.out.acl.blk.1
  have hgs := HL4.out.subs.blk.1
  have HB5 := Lib.hid ((hK5.block _ (lt_of_block HB4.out) (fun hs => by rcases hs with hs | hs <;> omega)).trans HB4.out)
  have HRE5 := Lib.hid (range_row HB5.out)
  have HO5 := Lib.hid (HO4.out.step hK5 (fun k hk => by rcases hk with hk | hk <;> omega))
  have HPE := Lib.hid (refput_entry x ce ok w5 (entryE_ok.keep HE.out HO5.out (disj_none _)) (by have := HX.out; omega))
  clear hK5 HKE HR4 HRE HL4 HB4 HO4 hga hgs
  go_wp2_with (refine wpList_load_mid rfl 28 (.tmp 1) rfl w.heap.size 0 rfl ce _ HRE5.out Try.underlying28 rfl HSE.out ?_)
  refine HPE.out.mono ?_
  rintro en w6 ⟨he6, hO6⟩
  rw [HS.out] at he6
  subst he6
  have HO6 := Lib.hid (HO5.out.none hO6)
  clear hO6 HB5 HRE5 HPE HO5
  go_wp2_with fail
  refine (law_entry s _ HZ.out).mono ?_
  rintro en w7 ⟨rfl, hO7⟩
  have HO7 := Lib.hid (HO6.out.none hO7)
  clear hO7
  go_wp2_with fail
  go_ret
  exact ⟨rfl, HO7.out⟩
end Go.Proofs.Ytpmemcpfoapjmaa.wireEntries
