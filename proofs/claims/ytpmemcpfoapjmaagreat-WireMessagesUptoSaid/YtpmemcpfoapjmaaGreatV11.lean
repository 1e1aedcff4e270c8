/- LentEntry: an entry whose lists are its own, with something more behind each. The document's own answers of layer 2: lists of rows, of texts, laid. The document's own answers of layer 2: texts, laid. The document's own answers of layer 2: a part, laid. The document's own answers of layer 2: a txn, laid. -/
import Derived.Test.YtpmemcpfoapjmaaGreatV07
import Derived.Test.YtpmemcpfoapjmaaGreatV10
import Derived.Test.YtpmemcpfoapjmaaGreatV08
import Derived.Test.YtpmemcpfoapjmaaGreatV04
import Derived.Test.YtpmemcpfoapjmaaGreatV03
import Derived.Deep.RegionLaw
import Derived.Deep.DeepCutAuto
import Derived.WalkSpells
import Derived.Outline
import Derived.Test.YtpmemcpfoapjmaaGreatV06
namespace Go.Proofs.YtpmemcpfoapjmaaGreat
open Go.ChangeShapes Go.WideShapes Go.ChangeAt Go.RowKit
set_option linter.unusedVariables false

def acl77 : Acl := ⟨77, ⟨#[]⟩⟩
def part77 : Part := ⟨77, ⟨#[]⟩, ⟨#[]⟩, [], 0, 0, 0⟩
theorem i64_77 : I64 77 := by unfold I64; omega
theorem acl77_at (w : World) (ok : Nat → Prop) : aclE w ok [.int .i64 77, .string ⟨#[]⟩] acl77 := ⟨rfl, i64_77, str_empty⟩
theorem part77_at (w : World) (ok : Nat → Prop) : partE w ok [.int .i64 77, .string ⟨#[]⟩, .string ⟨#[]⟩, .slice none 0 0, .int .i64 0, .int .i64 0, .int .i64 0, .slice none 0 0] part77 :=
  ⟨_, _, rfl, ListR.nil _ _ _ _, i64_77, str_empty, str_empty, i64_zero, i64_zero, i64_zero, ⟨_, _, _, rfl⟩⟩

/-- a list and one row more, in a block of its own -/
structure More {α : Type} (E : CellsOf α) (base : Nat) (ok : Nat → Prop) (w : World) (T : TypeId) (sz g n c : Nat) (ys : List α) (y : α) : Prop where
  len : ys.length = n
  acc : AccO E base ok w T sz (.slice (some ⟨g, 0, none⟩) (n + 1) c) (ys ++ [y])
  room : n + 1 ≤ c
  max : c ≤ maxLen
theorem More.of {α : Type} {E : CellsOf α} {base : Nat} {ok : Nat → Prop} {w : World} {T : TypeId} {sz : Nat} {v : Value} {ys : List α} {y : α} (h : AccO E base ok w T sz v (ys ++ [y])) : ∃ g c, v = .slice (some ⟨g, 0, none⟩) (ys.length + 1) c ∧ More E base ok w T sz g ys.length c ys y := by
  obtain ⟨rows, h1, h2, h3, h4⟩ := id h
  rcases h1.2 with ⟨_, hn⟩ | ⟨g, cap, cur, rfl, hb, hh, hnc, hcm, hcs, htake⟩
  · simp at hn
  · simp only [List.length_append, List.length_cons, List.length_nil, Nat.zero_add] at hnc
    have hv : Value.slice (some ⟨g, 0, none⟩) (ys ++ [y]).length cap = Value.slice (some ⟨g, 0, none⟩) (ys.length + 1) cap := by simp
    exact ⟨g, cap, hv, rfl, by rw [hv] at h; exact h, hnc, hcm⟩
section
variable {α : Type} {E : CellsOf α} {base : Nat} {ok : Nat → Prop} {w w' : World} {T : TypeId} {sz g n c : Nat} {ys : List α} {y : α}
theorem More.keep (hE : E.Ok) (h : More E base ok w T sz g n c ys y) {S : Nat → Prop} (hk : Kept S w w') (hb : ∀ k, base ≤ k → ¬ S k) (hd : Disj ok S) : More E base ok w' T sz g n c ys y := ⟨h.len, h.acc.keep hE hk hb hd, h.room, h.max⟩
theorem More.keepTo (hE : E.Ok) (h : More E base ok w T sz g n c ys y) {S : Nat → Prop} (hk : Kept S w w') (hg : ¬ S g) (hd : Disj ok S) : More E base ok w' T sz g n c ys y := by
  obtain ⟨rows, h1, h2, h3, h4⟩ := h.acc
  refine ⟨h.len, ⟨rows, ⟨h1.1, ?_⟩, h2, h3, fun i hi hi' => hE.keep (h4 i hi hi') hk hd⟩, h.room, h.max⟩
  rcases h1.2 with ⟨hv, _⟩ | ⟨g', cap, cur, hv, hb, hh, r⟩
  · simp at hv
  · have hg' : g = g' := by simp only [Value.slice.injEq, Option.some.injEq, Addr.mk.injEq, and_true] at hv; exact hv.1
    exact Or.inr ⟨g', cap, cur, hv, hb, by rw [hk.block g' (lt_of_block hh) (by rw [← hg']; exact hg)]; exact hh, r⟩
theorem More.low (h : More E base ok w T sz g n c ys y) {b : Nat} (hb : b ≤ base) : More E b ok w T sz g n c ys y := by
  obtain ⟨rows, h1, h2, h3, h4⟩ := h.acc
  refine ⟨h.len, ⟨rows, ⟨h1.1, ?_⟩, h2, h3, h4⟩, h.room, h.max⟩
  rcases h1.2 with h5 | ⟨g', cap, cur, hv, hb', r⟩
  · exact Or.inl h5
  · exact Or.inr ⟨g', cap, cur, hv, Nat.le_trans hb hb', r⟩
theorem More.blk (h : More E base ok w T sz g n c ys y) : base ≤ g ∧ ∃ cur : Array Value, w.heap[g]? = some (.cells cur T (0, 0)) ∧ cur.size = c * sz := by
  obtain ⟨rows, h1, h2, h3, h4⟩ := h.acc
  rcases h1.2 with ⟨hv, _⟩ | ⟨g', cap, cur, hv, hb, hh, hnc, hcm, hcs, htake⟩
  · simp at hv
  · simp only [Value.slice.injEq, Option.some.injEq, Addr.mk.injEq, and_true] at hv
    obtain ⟨rfl, _, rfl⟩ := hv
    exact ⟨hb, cur, hh, hcs⟩
theorem More.lt (h : More E base ok w T sz g n c ys y) : g < w.heap.size := by
  obtain ⟨_, cur, hh, _⟩ := h.blk
  exact lt_of_block hh
theorem More.list (hE : E.Ok) (h : More E base ok w T sz g n c ys y) (hT : TyOf sz T := by unfold TyOf; decide) : ListR E w (fun k => ok k ∨ base ≤ k) sz (.slice (some ⟨g, 0, none⟩) n c) ys := by
  have h1 := (h.acc.list hE hT).take n (by omega)
  rwa [show (ys ++ [y]).take n = ys from by rw [← h.len]; exact List.take_left] at h1
theorem More.there (h : More E base ok w T sz g n c ys y) {i : Nat} (hi : i ≤ n) : w.there g (i * sz) sz := by
  obtain ⟨_, cur, hh, hz⟩ := h.blk
  have hr := h.room
  intro j hj
  have hm : (i + 1) * sz ≤ c * sz := Nat.mul_le_mul_right _ (by omega)
  rw [Nat.add_mul, Nat.one_mul] at hm
  have hlt : i * sz + j < cur.size := by omega
  refine ⟨?_, by simp [World.frozen?, hh]⟩
  rw [cell_of_row w g (i * sz + j) cur T (0, 0) hh, Array.getElem?_eq_getElem hlt]; rfl
/-- the first cell of the row behind the list -/
theorem More.behind (h : More E base ok w T sz g n c ys y) {cs : List Value} (hy : ∀ w ok cs', E w ok cs' y → cs'[0]? = cs[0]?) {u : Value} (hu : cs[0]? = some u) (hsz : 0 < sz) : w.cell? ⟨g, n * sz, none⟩ = some u := by
  obtain ⟨rows, h1, h2, h3, h4⟩ := h.acc
  have hn : rows.length = n + 1 := by rw [h2]; simp [h.len]
  have hl : ∀ r ∈ rows, r.length = sz := fun r hr => (h3 r hr).1
  have he := h4 n (by simp [h.len]) (by omega)
  have hyn : (ys ++ [y])[n]'(by simp [h.len]) = y := by
    rw [List.getElem_append_right (by rw [h.len]; omega)]
    simp [h.len]
  rw [hyn] at he
  have h0 := hy _ _ _ he
  rw [hu] at h0
  obtain ⟨hj, hv⟩ := List.getElem?_eq_some_iff.1 h0
  have hc := World.ownsRow.cells h1 (g := g) rfl (n * sz + 0) _ (flatten_get rows n 0 (by omega) hl hj)
  rw [Addr.add_mid, Nat.zero_add, Nat.add_zero, hv] at hc
  exact hc
end

theorem ListR.size_le' {α : Type} {E : CellsOf α} {w : World} {ok : Nat → Prop} {sz : Nat} {A : Option Addr} {n c : Nat} {l : List α} (h : ListR E w ok sz (.slice A n c) l) : l.length = n := by
  obtain ⟨rows, ⟨A', c', hv, _⟩, hlen, _⟩ := h
  simp only [Value.slice.injEq] at hv
  rw [hv.2.1, hlen]
theorem ListR.cap {α : Type} {E : CellsOf α} {w : World} {ok : Nat → Prop} {sz : Nat} {A : Option Addr} {n c : Nat} {l : List α} (h : ListR E w ok sz (.slice A n c) l) : n ≤ c ∧ c ≤ maxLen := by
  obtain ⟨rows, ⟨A', c', hv, h1, h2, _⟩, hlen, _⟩ := h
  simp only [Value.slice.injEq] at hv
  obtain ⟨rfl, rfl, rfl⟩ := hv
  exact ⟨h1, h2⟩
theorem set_one (w : World) (b i : Nat) (v : Value) : Kept (fun j => j = b) w (w.setCell ⟨b, i, none⟩ v) := Kept.setCell (S := fun j => j = b) (Kept.refl _ w) (a := ⟨b, i, none⟩) (Or.inl rfl) v
/-- what LentEntry answers: the cells of an entry whose lists are its own -/
structure LentAt (base : Nat) (ok : Nat → Prop) (w : World) (x : Entry) (cs : List Value) (ga ca gs c : Nat) : Prop where
  cells : cs = [.int .i64 x.zxid, .int .i64 x.session, .int .i64 x.xid, .int .i64 x.txn.part.kind, .string x.txn.part.path, .string x.txn.part.data, .slice (some ⟨ga, 0, none⟩) x.txn.part.acl.length ca, .int .i64 x.txn.part.owner, .int .i64 x.txn.part.number, .int .i64 x.txn.part.err, .slice (some ⟨gs, 0, none⟩) x.txn.subs.length c]
  acl : More aclE base ok w 56 2 ga x.txn.part.acl.length ca x.txn.part.acl acl77
  subs : More partE base ok w 36 8 gs x.txn.subs.length c x.txn.subs part77

set_option maxRecDepth 100000 in
set_option maxHeartbeats 4000000 in
theorem lent_entry (x : Entry) (cs : List Value) (ok : Nat → Prop) (w : World) (hE : entryE w ok cs x) (hi : In w ok) (hn1 : x.txn.part.acl.length ≤ 20000000) (hn2 : x.txn.subs.length ≤ 20000000) :
    Calls Tryz.prog 6 #[.agg cs.toArray] w fun e w' => ∃ cs' ga ca gs c, e = .returned (.agg cs'.toArray) ∧ Old w w' ∧ LentAt w.heap.size ok w' x cs' ga ca gs c := by
  have HSZ := Lib.hid (show (Tryz.prog.info? 38).map (·.size) = some 11 by kernel_rfl)
  obtain ⟨ct, rfl, ⟨vs, ⟨va, rfl, hA, hp⟩, hS⟩, hj⟩ := hE
  obtain ⟨Aa, na, ca0, rfl⟩ := hA.shape
  obtain ⟨As, ns, c0, rfl⟩ := hS.shape
  have hlA := hA.size_le'
  have hlS := hS.size_le'
  obtain ⟨z0, z1, z2, ⟨⟨k0, p0, d0, acl, o0, m0, r0⟩, subs⟩⟩ := x
  simp only at hA hS hlA hlS hn1 hn2 hp hj ⊢
  obtain ⟨i0, hi0, hz0, hz1, hz2⟩ := info_parts info_acl
  obtain ⟨i1, hi1, hy0, hy1, hy2⟩ := info_parts info_part
  have HI0 := Lib.hid (And.intro hi0 (And.intro hz0 (And.intro hz1 hz2)))
  have HI1 := Lib.hid (And.intro hi1 (And.intro hy0 (And.intro hy1 hy2)))
  clear hi0 hz0 hz1 hz2 hi1 hy0 hy1 hy2
  obtain ⟨hnA, hcA⟩ := hA.cap
  obtain ⟨hnS, hcS⟩ := hS.cap
  unfold maxLen at hcA hcS
  have HA := Lib.hid hA; clear hA
  have HS := Lib.hid hS; clear hS
  have HIN := Lib.hid hi; clear hi
  go_enter Tryz.func6, Tryz.ntmps6
  go_upto_region 1 with fail
  have hb0 : ((w.alloc (.cells ([.int .i64 z0, .int .i64 z1, .int .i64 z2, .int .i64 k0, .string p0, .string d0, .slice Aa na ca0, .int .i64 o0, .int .i64 m0, .int .i64 r0, .slice As ns c0] : List Value).toArray 38)).alloc (.cells ([.int .i64 0, .int .i64 0, .int .i64 0, .int .i64 0, .string ⟨#[]⟩, .string ⟨#[]⟩, .slice none 0 0, .int .i64 0, .int .i64 0, .int .i64 0, .slice none 0 0] : List Value).toArray 38)).heap[w.heap.size]? = some (.cells ([.int .i64 z0, .int .i64 z1, .int .i64 z2, .int .i64 k0, .string p0, .string d0, .slice Aa na ca0, .int .i64 o0, .int .i64 m0, .int .i64 r0, .slice As ns c0] : List Value).toArray 38 (0, 0)) := by
    rw [((Old.refl (w.alloc (.cells ([.int .i64 z0, .int .i64 z1, .int .i64 z2, .int .i64 k0, .string p0, .string d0, .slice Aa na ca0, .int .i64 o0, .int .i64 m0, .int .i64 r0, .slice As ns c0] : List Value).toArray 38))).make _).block _ (by simp) id]; exact heap_alloc_new w _
  have hb1 : ((w.alloc (.cells ([.int .i64 z0, .int .i64 z1, .int .i64 z2, .int .i64 k0, .string p0, .string d0, .slice Aa na ca0, .int .i64 o0, .int .i64 m0, .int .i64 r0, .slice As ns c0] : List Value).toArray 38)).alloc (.cells ([.int .i64 0, .int .i64 0, .int .i64 0, .int .i64 0, .string ⟨#[]⟩, .string ⟨#[]⟩, .slice none 0 0, .int .i64 0, .int .i64 0, .int .i64 0, .slice none 0 0] : List Value).toArray 38)).heap[w.heap.size + 1]? = some (.cells ([.int .i64 0, .int .i64 0, .int .i64 0, .int .i64 0, .string ⟨#[]⟩, .string ⟨#[]⟩, .slice none 0 0, .int .i64 0, .int .i64 0, .int .i64 0, .slice none 0 0] : List Value).toArray 38 (0, 0)) := by
    have h := heap_alloc_new (w.alloc (.cells ([.int .i64 z0, .int .i64 z1, .int .i64 z2, .int .i64 k0, .string p0, .string d0, .slice Aa na ca0, .int .i64 o0, .int .i64 m0, .int .i64 r0, .slice As ns c0] : List Value).toArray 38)) (.cells ([.int .i64 0, .int .i64 0, .int .i64 0, .int .i64 0, .string ⟨#[]⟩, .string ⟨#[]⟩, .slice none 0 0, .int .i64 0, .int .i64 0, .int .i64 0, .slice none 0 0] : List Value).toArray 38)
    rwa [show (w.alloc (.cells ([.int .i64 z0, .int .i64 z1, .int .i64 z2, .int .i64 k0, .string p0, .string d0, .slice Aa na ca0, .int .i64 o0, .int .i64 m0, .int .i64 r0, .slice As ns c0] : List Value).toArray 38)).heap.size = w.heap.size + 1 from by simp] at h
  have hO0 : Old w ((w.alloc (.cells ([.int .i64 z0, .int .i64 z1, .int .i64 z2, .int .i64 k0, .string p0, .string d0, .slice Aa na ca0, .int .i64 o0, .int .i64 m0, .int .i64 r0, .slice As ns c0] : List Value).toArray 38)).alloc (.cells ([.int .i64 0, .int .i64 0, .int .i64 0, .int .i64 0, .string ⟨#[]⟩, .string ⟨#[]⟩, .slice none 0 0, .int .i64 0, .int .i64 0, .int .i64 0, .slice none 0 0] : List Value).toArray 38)) := ((Old.refl w).make _).make _
  have hsz0 : w.heap.size + 2 ≤ ((w.alloc (.cells ([.int .i64 z0, .int .i64 z1, .int .i64 z2, .int .i64 k0, .string p0, .string d0, .slice Aa na ca0, .int .i64 o0, .int .i64 m0, .int .i64 r0, .slice As ns c0] : List Value).toArray 38)).alloc (.cells ([.int .i64 0, .int .i64 0, .int .i64 0, .int .i64 0, .string ⟨#[]⟩, .string ⟨#[]⟩, .slice none 0 0, .int .i64 0, .int .i64 0, .int .i64 0, .slice none 0 0] : List Value).toArray 38)).heap.size := by simp
  generalize (w.alloc (.cells ([.int .i64 z0, .int .i64 z1, .int .i64 z2, .int .i64 k0, .string p0, .string d0, .slice Aa na ca0, .int .i64 o0, .int .i64 m0, .int .i64 r0, .slice As ns c0] : List Value).toArray 38)).alloc (.cells ([.int .i64 0, .int .i64 0, .int .i64 0, .int .i64 0, .string ⟨#[]⟩, .string ⟨#[]⟩, .slice none 0 0, .int .i64 0, .int .i64 0, .int .i64 0, .slice none 0 0] : List Value).toArray 38) = w5 at hb0 hb1 hO0 hsz0 ⊢
  have HB0 := Lib.hid hb0
  have HB1 := Lib.hid hb1
  have HO0 := Lib.hid hO0
  have HA5 := Lib.hid (ListR.keep aclE_ok HA.out hO0 (disj_none _))
  have HS5 := Lib.hid (ListR.keep partE_ok HS.out hO0 (disj_none _))
  have HIN5 := Lib.hid (show ∀ k, ok k → k < w5.heap.size from fun k hk => by have := HIN.out k hk; omega)
  have c6 : w5.cell? ⟨w.heap.size, 6, none⟩ = some (.slice Aa na ca0) := cell_of_heap hb0 rfl
  have f6 : w5.frozen? ⟨w.heap.size, 6, none⟩ = false := by simp [World.frozen?, hb0]
  have n6 : ∀ o, (w5.alloc o).cell? ⟨w.heap.size, 6, none⟩ = some (.slice Aa na ca0) := fun o => Old.cell ((Old.refl w5).make o) c6
  clear hb0 hb1 hO0 HA HS
  go_cut [] (fun wx => ∃ ga ca, More aclE w5.heap.size ok wx 56 2 ga na ca acl acl77 ∧ wx.heap[w.heap.size]? = some (.cells ([.int .i64 z0, .int .i64 z1, .int .i64 z2, .int .i64 k0, .string p0, .string d0, .slice (some ⟨ga, 0, none⟩) na ca, .int .i64 o0, .int .i64 m0, .int .i64 r0, .slice As ns c0] : List Value).toArray 38 (0, 0)) ∧ Kept (fun j => j = w.heap.size) w5 wx)
  case first =>
    go_region_law ((first
      | (refine step_one_more (w5 := w5) aclE_ok h27 (by first | exact Old.refl _ | exact Old.drew (Old.refl _) | exact Old.make (Old.refl _) _ | exact Old.drew (Old.make (Old.refl _) _) | exact Old.make (Old.drew (Old.refl _)) _) (by first | assumption | exact Old.drew (by assumption) | exact Old.make (by assumption) _ | exact Old.drew (Old.make (by assumption) _)) HIN5.out hP27 (by first | exact heap_alloc_new _ _ | exact (hk27.block _ (by simp) id).trans (heap_alloc_new _ _)) (acl77_at _ _) ⟨rfl, by simp [Value.oneCell']⟩ (by rfl) _ _ 24 (by rfl) (by rfl) (by rfl) i0 _ Tryz.underlying24 HI0.out.1 HI0.out.2.1 HI0.out.2.2.1 HI0.out.2.2.2 rfl (by decide) (by unfold maxLen; omega) (by omega) ?_; intro v30 w30 h30 hP30; obtain ⟨ga, ca, rfl, hmo⟩ := More.of h30; have hnc : na ≤ ca := (by have := hmo.room; omega); have c6 : w30.cell? ⟨w.heap.size, 6, none⟩ = some (.slice Aa na ca0) := cell_of_heap ((hP30.block _ (by omega) id).trans HB0.out) rfl; have f6 : w30.frozen? ⟨w.heap.size, 6, none⟩ = false := by simp [World.frozen?, (hP30.block _ (by omega) id).trans HB0.out])
      | (refine step_nil_list (w5 := w5) aclE_ok HA5.out (by first | exact Old.refl _ | exact Old.drew (Old.refl _) | exact Old.make (Old.refl _) _ | exact Old.drew (Old.make (Old.refl _) _) | exact Old.make (Old.drew (Old.refl _)) _) (fun h => aclE_flat h) (by rfl) _ _ 24 (by rfl) (by rfl) (by rfl) 56 i0 _ Tryz.underlying24 HI0.out.1 HI0.out.2.1 HI0.out.2.2.1 HI0.out.2.2.2 rfl (by decide) (by unfold maxLen; omega) (by omega) ?_; intro v27 w27 h27 hk27 hP27; have c6 : w27.cell? ⟨w.heap.size, 6, none⟩ = some (.slice Aa na ca0) := cell_of_heap ((hP27.block _ (by omega) id).trans HB0.out) rfl; have n6 : ∀ o, (w27.alloc o).cell? ⟨w.heap.size, 6, none⟩ = some (.slice Aa na ca0) := (fun o => Old.cell ((Old.refl w27).make o) c6))))
    all_goals go_wp2_with fail
    all_goals go_meet
    all_goals
      rw [hlA] at hmo
      refine ⟨ga, ca, hmo.keep aclE_ok (set_one w30 w.heap.size 6 _) (fun j hj hj' => by have hj2 : j = w.heap.size := hj'; omega) (fun j hj hj' => by have hj2 : j = w.heap.size := hj'; have := HIN.out j hj; omega), ?_, (Kept.mono hP30 (fun _ _ f => f.elim)).trans (set_one w30 w.heap.size 6 _)⟩
      rw [setCell_row ((hP30.block _ (by omega) id).trans HB0.out)]
      exact setRow_heap _ _ _ _ _ _ ((hP30.block _ (by omega) id).trans HB0.out)
  case rest =>
  obtain ⟨ga, ca, hmo, hb0, hKc⟩ := hcut
  have hzc : w5.heap.size ≤ wc.heap.size := hKc.size
  have hb1 : wc.heap[w.heap.size + 1]? = some (.cells ([.int .i64 0, .int .i64 0, .int .i64 0, .int .i64 0, .string ⟨#[]⟩, .string ⟨#[]⟩, .slice none 0 0, .int .i64 0, .int .i64 0, .int .i64 0, .slice none 0 0] : List Value).toArray 38 (0, 0)) := (hKc.block _ (by omega) (by omega)).trans HB1.out
  have hSc : ListR partE wc ok 8 (.slice As ns c0) subs := ListR.keep partE_ok HS5.out hKc (fun j hj hj' => by have hj2 : j = w.heap.size := hj'; have := HIN.out j hj; omega)
  have hOc : Old w wc := HO0.out.step hKc (fun k hk => by have hk' : k = w.heap.size := hk; omega)
  obtain ⟨v3, w3, hr3, hA3, hk3⟩ := run_append_nil_list (P := Tryz.prog) partE_ok hSc (fun h => partE_flat h) 34 34 36 i1 _ Tryz.underlying34 HI1.out.1 HI1.out.2.1 HI1.out.2.2.1 HI1.out.2.2.2 rfl (by decide) (by unfold maxLen; omega) (by omega) wc.heap.size (Nat.le_refl _)
  obtain ⟨A3, c3, rfl, hc3, hm3⟩ := hA3.shape
  have hkA : Old w3 (w3.alloc (.cells ([.int .i64 77, .string ⟨#[]⟩, .string ⟨#[]⟩, .slice none 0 0, .int .i64 0, .int .i64 0, .int .i64 0, .slice none 0 0] : List Value).toArray 36)) := (Kept.refl _ w3).alloc _
  have hz3 : wc.heap.size ≤ w3.heap.size := hk3.size
  obtain ⟨v4, w4, hr4, hA4, hk4⟩ := run_append_one_more (P := Tryz.prog) partE_ok (hA3.keep partE_ok hkA (fun _ _ f => f) (disj_none _)) (fun k hk => by have := HIN.out k hk; omega) (range_new w3 [.int .i64 77, .string ⟨#[]⟩, .string ⟨#[]⟩, .slice none 0 0, .int .i64 0, .int .i64 0, .int .i64 0, .slice none 0 0] 36) (part77_at _ _) ⟨rfl, by simp [Value.oneCell']⟩ (c := 1) 34 34 i1 _ Tryz.underlying34 HI1.out.1 HI1.out.2.1 HI1.out.2.2.1 HI1.out.2.2.2 rfl (by decide) (by unfold maxLen; omega) (by omega) (Nat.le_trans hz3 hkA.size)
  obtain ⟨gs, c, rfl, hmS⟩ := More.of hA4
  rw [hlS] at hr3 hr4 hmS hc3
  have hk34 : Old wc w3 := hk3
  have hK4 : Kept (fun k => wc.heap.size ≤ k) wc w4 := Kept.trans' ((hk34.none hkA).mono (fun _ _ f => f.elim)) hk4 (fun _ _ h => h)
  have hmA4 := hmo.keepTo aclE_ok hK4 (fun hs => by have h1 := hmo.lt; have h2 : wc.heap.size ≤ ga := hs; omega) (fun j hj hj' => by have h2 : wc.heap.size ≤ j := hj'; have := HIN.out j hj; omega)
  have hb04 := (hK4.block _ (by omega) (by omega)).trans hb0
  have hb14 := (hK4.block _ (by omega) (by omega)).trans hb1
  have hO4 : Old w w4 := hOc.step hK4 (fun k hk => by have hk' : wc.heap.size ≤ k := hk; omega)
  have c10 : wc.cell? ⟨w.heap.size, 10, none⟩ = some (.slice As ns c0) := cell_of_heap hb0 rfl
  have hnc : ns ≤ c := by have := hmS.room; omega
  have hcm : c ≤ 9223372036854775807 := by have := hmS.max; unfold maxLen at this; omega
  have HR3 := Lib.hid hr3
  have HR4 := Lib.hid hr4
  have HB04 := Lib.hid hb04
  have HB14 := Lib.hid hb14
  have HMA := Lib.hid hmA4
  have HMS := Lib.hid hmS
  have HO4 := Lib.hid hO4
  have HSL := Lib.hid (show (Tryz.prog.info? 34).map (·.size) = some 1 by kernel_rfl)
  obtain ⟨w6, hw6⟩ : ∃ u, w4.setRow w.heap.size ([.int .i64 z0, .int .i64 z1, .int .i64 z2, .int .i64 k0, .string p0, .string d0, .slice (some ⟨ga, 0, none⟩) na ca, .int .i64 o0, .int .i64 m0, .int .i64 r0, .slice (some ⟨gs, 0, none⟩) ns c] : List Value).toArray = u := ⟨_, rfl⟩
  have hk6 : Kept (fun j => j = w.heap.size) w4 w6 := by rw [← hw6]; exact setRow_kept _ _ _
  have HB06 := Lib.hid (show w6.heap[w.heap.size]? = some (.cells ([.int .i64 z0, .int .i64 z1, .int .i64 z2, .int .i64 k0, .string p0, .string d0, .slice (some ⟨ga, 0, none⟩) na ca, .int .i64 o0, .int .i64 m0, .int .i64 r0, .slice (some ⟨gs, 0, none⟩) ns c] : List Value).toArray 38 (0, 0)) by rw [← hw6]; exact setRow_heap _ _ _ _ _ _ hb04)
  have HB16 := Lib.hid ((hk6.block _ (lt_of_block hb14) (by omega)).trans hb14)
  have HRG := Lib.hid (range_row HB06.out)
  have HW6 := Lib.hid hw6
  have hO6 : Old w w6 := hO4.step hk6 (fun k hk => by have hk' : k = w.heap.size := hk; omega)
  have hd6 : Disj ok (fun j => j = w.heap.size) := fun j hj hj' => by have hj2 : j = w.heap.size := hj'; have := HIN.out j hj; omega
  have hmA6 := hmA4.keepTo aclE_ok hk6 (by have := hmA4.blk.1; omega) hd6
  have hmS6 := hmS.keepTo partE_ok hk6 (by have := hmS.blk.1; omega) hd6
  have HMA6 := Lib.hid hmA6
  have HMS6 := Lib.hid hmS6
  have HO6 := Lib.hid hO6
  clear hw6 hk6 hO6 hmA6 hmS6 hd6
  clear hmo hb0 hb1 hKc hSc hOc hr3 hA3 hk3 hkA hr4 hA4 hk4 hmS hk34 hK4 hmA4 hb04 hb14 hO4 c6 f6 n6 HA5 HS5 HB0 HB1 hp hj
  go_wp2_with (first
    | (refine wpList_append_run rfl _ _ 34 rfl (.slice none 0 0) (.slice As ns c0) (by rfl) (by rfl) (.slice A3 ns c3) w3 HR3.out ?_)
    | (refine wpList_one rfl 34 36 (.tmp 24) rfl (.agg ([.int .i64 77, .string ⟨#[]⟩, .string ⟨#[]⟩, .slice none 0 0, .int .i64 0, .int .i64 0, .int .i64 0, .slice none 0 0] : List Value).toArray) [.int .i64 77, .string ⟨#[]⟩, .string ⟨#[]⟩, .slice none 0 0, .int .i64 0, .int .i64 0, .int .i64 0, .slice none 0 0] rfl rfl i1 _ Tryz.underlying34 HI1.out.1 HI1.out.2.1 HI1.out.2.2.1 (by decide) (by decide) ?_)
    | (refine wpList_append_run rfl (.tmp 23) (.tmp 25) 34 rfl (.slice A3 ns c3) (.slice (some ⟨w3.heap.size, 0, none⟩) 1 1) (by rfl) (by rfl) (.slice (some ⟨gs, 0, none⟩) (ns + 1) c) w4 HR4.out ?_)
    | (refine wpList_store_to rfl 34 (.tmp 31) (.tmp 29) rfl w.heap.size 10 (.slice (some ⟨gs, 0, none⟩) ns c) rfl rfl rfl [.int .i64 z0, .int .i64 z1, .int .i64 z2, .int .i64 k0, .string p0, .string d0, .slice (some ⟨ga, 0, none⟩) na ca, .int .i64 o0, .int .i64 m0, .int .i64 r0, .slice As ns c0] 38 HB04.out (by simp) HSL.out _ rfl w6 HW6.out ?_)
    | (refine wpList_load_mid rfl 38 (.tmp 1) rfl w.heap.size 0 rfl [.int .i64 z0, .int .i64 z1, .int .i64 z2, .int .i64 k0, .string p0, .string d0, .slice (some ⟨ga, 0, none⟩) na ca, .int .i64 o0, .int .i64 m0, .int .i64 r0, .slice (some ⟨gs, 0, none⟩) ns c] _ HRG.out Tryz.underlying38 rfl HSZ.out ?_)
    | (refine wpList_store_row _ rfl 38 (.tmp 2) (.tmp 32) rfl (w.heap.size + 1) _ [.int .i64 z0, .int .i64 z1, .int .i64 z2, .int .i64 k0, .string p0, .string d0, .slice (some ⟨ga, 0, none⟩) na ca, .int .i64 o0, .int .i64 m0, .int .i64 r0, .slice (some ⟨gs, 0, none⟩) ns c] rfl rfl HB16.out HSZ.out rfl (by simp [Value.oneCell']) ?_))
  have hrow := setRow_heap w6 (w.heap.size + 1) _ ([.int .i64 z0, .int .i64 z1, .int .i64 z2, .int .i64 k0, .string p0, .string d0, .slice (some ⟨ga, 0, none⟩) na ca, .int .i64 o0, .int .i64 m0, .int .i64 r0, .slice (some ⟨gs, 0, none⟩) ns c] : List Value).toArray _ _ HB16.out
  have hload := run_loadVar_row (P := Tryz.prog) _ (w.heap.size + 1) 38 38 _ (0, 0) _ hrow Tryz.underlying38 rfl HSZ.out
  have hk7 := setRow_kept w6 (w.heap.size + 1) ([.int .i64 z0, .int .i64 z1, .int .i64 z2, .int .i64 k0, .string p0, .string d0, .slice (some ⟨ga, 0, none⟩) na ca, .int .i64 o0, .int .i64 m0, .int .i64 r0, .slice (some ⟨gs, 0, none⟩) ns c] : List Value).toArray
  have hd7 : Disj ok (fun j => j = w.heap.size + 1) := fun j hj hj' => by have hj2 : j = w.heap.size + 1 := hj'; have := HIN.out j hj; omega
  have hb7 := HMA6.out.blk.1
  have hb8 := HMS6.out.blk.1
  refine ret_cell 2 38 (w.heap.size + 1) _ Tryz.results6 rfl hload rfl ⟨_, ga, ca, gs, c, rfl, HO6.out.step hk7 (fun k hk => by have hk' : k = w.heap.size + 1 := hk; omega), ⟨by simp only [hlA, hlS], ?_, ?_⟩⟩
  · simp only [hlA]
    exact (HMA6.out.keepTo aclE_ok hk7 (by omega) hd7).low (by omega)
  · simp only [hlS]
    exact (HMS6.out.keepTo partE_ok hk7 (by omega) hd7).low (by omega)
end Go.Proofs.YtpmemcpfoapjmaaGreat

namespace Go.Proofs.YtpmemcpfoapjmaaGreat
open Go.ChangeShapes Go.WideShapes Go.ChangeAt Go.RowKit
set_option linter.unusedVariables false

/-- what has been laid of a list, behind pre -/
structure LaidRel {α : Type} (f : Fmt α) (pre : List UInt8) (w : World) (xs : List α) (sv iv : Value) (wr : World) : Prop where
  ex : ∃ k, iv = .int .i64 (k : Nat) ∧ k ≤ xs.length ∧ sv = .string ⟨(pre ++ layN f (xs.take k)).toArray⟩ ∧ Old w wr

theorem layN_zero {α : Type} (f : Fmt α) (pre : List UInt8) (xs : List α) : pre ++ layN f (xs.take 0) = pre := by simp [layN]

set_option maxRecDepth 100000 in
set_option maxHeartbeats 600000 in
theorem refacls_any (xs : List Acl) (sv : Value) (ok : Nat → Prop) (w : World) (hL : ListR aclE w ok 2 sv xs) (hl : ((listF aclF).lay xs).length ≤ 1000000000000000) :
    Calls Tryz.prog 102 #[sv] w (OldStr w ((listF aclF).lay xs)) := by
  obtain ⟨rows, ⟨A, c, rfl, hlc, hm, hat⟩, hlen, hel⟩ := hL
  unfold maxLen at hm
  have hlay : (listF aclF).lay xs = sev rows.length ++ layN aclF xs := by rw [hlen]; rfl
  rw [hlay] at hl ⊢
  rw [List.length_append] at hl
  have hlen1 : rows.length ≤ xs.length := by omega
  have hlen2 : xs.length ≤ rows.length := by omega
  clear hlen hlay
  have hst : ∀ W, Old w W → LaidRel aclF (sev rows.length) w xs (.string ⟨(sev rows.length).toArray⟩) (.int .i64 0) W := fun W h => ⟨0, rfl, Nat.zero_le _, by rw [layN_zero], h⟩
  have HST := Lib.hid hst; clear hst
  go_enter Tryz.func102, Tryz.ntmps102
  go_wp2_with fail
  refine (refcount_any rows.length _ (by unfold I64; omega)).mono ?_
  rintro e w0 ⟨rfl, hO0⟩
  rw [Int.toNat_natCast]
  have HO0 := Lib.hid hO0; clear hO0
  go_wp2_with fail
  go_loopw [3, 4] (fun sv iv wr => LaidRel aclF (sev rows.length) w xs sv iv wr) (fun _ iv _ => xs.length - (intOf iv).toNat)
  case atStart => exact HST.out _ HO0.out
  case round =>
    obtain ⟨k, rfl, hk, rfl, hO⟩ := hrel.ex
    clear hrel HST HO0
    by_cases hlt : k < xs.length
    · have hkr : k < rows.length := by omega
      rcases hat with h0 | ⟨g, off, rfl, hok, hg, hc⟩
      · simp [h0.1] at hkr
      have hE := aclE_ok.keep (hel k hlt hkr) hO (disj_none _)
      have hcell : ∀ j (hj : j < rows[k].length), wr.cell? ⟨g, off + k * 2 + j, none⟩ = some rows[k][j] := fun j hj => by
        rw [← (hc k hkr).2 j hj]; exact World.cell?_of_block (hO.block g hg id)
      have hle := layN_le (f := aclF) hlt
      have HTK := Lib.hid (layN_take (f := aclF) hlt)
      generalize rows[k] = cs at hcell hE
      generalize xs[k] = x at hle hE HTK
      clear hc hel
      obtain ⟨rfl, h0, h1⟩ := hE
      have c0 : wr.cell? ⟨g, off + k * 2, none⟩ = some (.int .i64 x.perms) := hcell 0 (by simp)
      have c1 : wr.cell? ⟨g, off + k * 2 + 1, none⟩ = some (.string x.id) := hcell 1 (by simp)
      clear hcell
      have t1 : x.id.size ≤ 9223372036854775000 := by unfold Str at h1; omega
      clear h1
      have hkl : (k : Int) < (rows.length : Int) := by omega
      have hlx : aclF.lay x = sev (zz x.perms) ++ (sev x.id.size ++ x.id.data.toList) := rfl
      obtain ⟨D, hD⟩ : ∃ D, sev rows.length ++ layN aclF (xs.take k) = D := ⟨_, rfl⟩
      have hDl : D.length + ((sev (zz x.perms)).length + ((sev x.id.size).length + x.id.data.toList.length)) ≤ 1000000000000000 := by
        rw [hlx] at hle
        simp only [List.length_append] at hle
        rw [← hD, List.length_append]; omega
      have hfin : D ++ (sev (zz x.perms) ++ (sev x.id.size ++ x.id.data.toList)) = sev rows.length ++ layN aclF (xs.take (k + 1)) := by
        rw [← hD, HTK.out, List.append_assoc, ← hlx]
      rw [hD]
      have HF := Lib.hid hfin
      clear hD hlx hle HTK hfin
      have q0 : ∀ W, Sem.run Tryz.prog (Op.stringOp .add ⟨D.toArray⟩ ⟨(sev (zz x.perms)).toArray⟩) W = .ok (.string ⟨(D ++ sev (zz x.perms)).toArray⟩) W := fun W => add_str _ _ _ (by omega) W
      have q1 : ∀ W, Sem.run Tryz.prog (Op.stringOp .add ⟨(D ++ sev (zz x.perms)).toArray⟩ ⟨(sev x.id.size ++ x.id.data.toList).toArray⟩) W = .ok (.string ⟨(D ++ (sev (zz x.perms) ++ (sev x.id.size ++ x.id.data.toList))).toArray⟩) W := fun W => by
        rw [add_str _ _ _ (by simp only [List.length_append]; omega) W, List.append_assoc]
      clear hDl
      go_upto_region 5 with fail
      go_region_held3 (fun w' => w'.cell? ⟨g, off + k * 2, none⟩ = some (.int .i64 x.perms) ∧ w'.cell? ⟨g, off + k * 2 + 1, none⟩ = some (.string x.id) ∧ Old w w')
        (((try dsimp only); (repeat' apply And.intro) <;> first | assumption | (simp only [World.cell?_drew]; assumption) | exact Old.drew (by assumption)))
        (first
          | (go_at_call 62; refine (refnum_any _ _ (by assumption)).mono ?_; rintro e w9 ⟨rfl, hO9⟩; go_split_ands; have hP9 : Old w w9 := Old.none (by assumption) hO9; have d0 : w9.cell? ⟨g, off + k * 2, none⟩ = some (.int .i64 x.perms) := Old.cell hO9 (by assumption); have d1 : w9.cell? ⟨g, off + k * 2 + 1, none⟩ = some (.string x.id) := Old.cell hO9 (by assumption); clear hO9)
          | (go_at_call 24; refine (reftext_any _ _ (by assumption)).mono ?_; rintro e w9 ⟨rfl, hO9⟩; go_split_ands; have hP9 : Old w w9 := Old.none (by assumption) hO9; have d0 : w9.cell? ⟨g, off + k * 2, none⟩ = some (.int .i64 x.perms) := Old.cell hO9 (by assumption); have d1 : w9.cell? ⟨g, off + k * 2 + 1, none⟩ = some (.string x.id) := Old.cell hO9 (by assumption); clear hO9))
      all_goals go_wp2_with fail
      all_goals go_roundw
      all_goals first
        | (case rel => exact ⟨k + 1, by go_num, hlt, by rw [HF.out], by assumption⟩)
        | (case measure => simp [intOf]; omega)
    · have hkl : ¬ (k : Int) < (rows.length : Int) := by omega
      obtain rfl : k = xs.length := by omega
      have ht : xs.take xs.length = xs := List.take_length
      rw [ht]
      go_wp2_with fail
      go_ret
      exact ⟨rfl, hO⟩
end Go.Proofs.YtpmemcpfoapjmaaGreat

namespace Go.Proofs.YtpmemcpfoapjmaaGreat
open Go.ChangeShapes Go.WideShapes Go.ChangeAt Go.RowKit
set_option linter.unusedVariables false

/-- one step of a walk: a name of its own, so that a chain of steps is found again -/
structure Stp (w w' : World) : Prop where
  old : Old w w'
theorem Old.carry {w w' : World} (h : Old w w') {g : Nat} {o : Obj} (hb : w.heap[g]? = some o) : w'.heap[g]? = some o := by
  rw [h.block g (Array.getElem?_eq_some_iff.1 hb).1 id]; exact hb
theorem Stp.carry {w w' : World} (h : Stp w w') {g : Nat} {o : Obj} (hb : w.heap[g]? = some o) : w'.heap[g]? = some o := Old.carry h.old hb
theorem carry_alloc {w : World} {o' : Obj} {g : Nat} {o : Obj} (hb : w.heap[g]? = some o) : (w.alloc o').drew.heap[g]? = some o :=
  Old.carry (((Old.refl w).make o').drew) hb
theorem new_drew (w : World) (o : Obj) : (w.alloc o).drew.heap[w.heap.size]? = some o := heap_alloc_new w o
theorem Old.undrew {w w' : World} (h : Old w w'.drew) : Old w w' := ⟨h.os, h.tape, h.output, h.size, h.block⟩
theorem carry_make {w : World} {o' : Obj} {g : Nat} {o : Obj} (hb : w.heap[g]? = some o) : (w.alloc o').heap[g]? = some o := Old.carry ((Old.refl w).make o') hb
theorem new_drew2 (w : World) (a o : Obj) : ((w.alloc a).alloc o).drew.heap[w.heap.size + 1]? = some o := by
  have h := heap_alloc_new (w.alloc a) o
  rwa [show (w.alloc a).heap.size = w.heap.size + 1 from by simp] at h
theorem new_make2 (w : World) (a o : Obj) : ((w.alloc a).alloc o).heap[w.heap.size + 1]? = some o := new_drew2 w a o
theorem carry_drew {w : World} {g : Nat} {o : Obj} (hb : w.heap[g]? = some o) : w.drew.heap[g]? = some o := hb

set_option maxRecDepth 100000 in
set_option maxHeartbeats 600000 in
theorem reftexts_any (xs : List ByteArray) (sv : Value) (ok : Nat → Prop) (w : World) (hL : ListR textE w ok 1 sv xs) (hl : ((listF (textF 4096)).lay xs).length ≤ 1000000000000000) :
    Calls Tryz.prog 26 #[sv] w (OldStr w ((listF (textF 4096)).lay xs)) := by
  obtain ⟨rows, ⟨A, c, rfl, hlc, hm, hat⟩, hlen, hel⟩ := hL
  unfold maxLen at hm
  have hlay : (listF (textF 4096)).lay xs = sev rows.length ++ layN (textF 4096) xs := by rw [hlen]; rfl
  rw [hlay] at hl ⊢
  rw [List.length_append] at hl
  have hlen1 : rows.length ≤ xs.length := by omega
  have hlen2 : xs.length ≤ rows.length := by omega
  clear hlen hlay
  have hst : ∀ W, Old w W → LaidRel (textF 4096) (sev rows.length) w xs (.string ⟨(sev rows.length).toArray⟩) (.int .i64 0) W := fun W h => ⟨0, rfl, Nat.zero_le _, by rw [layN_zero], h⟩
  have HST := Lib.hid hst; clear hst
  go_enter Tryz.func26, Tryz.ntmps26
  go_wp2_with fail
  refine (refcount_any rows.length _ (by unfold I64; omega)).mono ?_
  rintro e w0 ⟨rfl, hO0⟩
  rw [Int.toNat_natCast]
  have HO0 := Lib.hid hO0; clear hO0
  go_wp2_with fail
  go_loopw [3, 4] (fun sv iv wr => LaidRel (textF 4096) (sev rows.length) w xs sv iv wr) (fun _ iv _ => xs.length - (intOf iv).toNat)
  case atStart => exact HST.out _ HO0.out
  case round =>
    obtain ⟨k, rfl, hk, rfl, hO⟩ := hrel.ex
    clear hrel HST HO0
    by_cases hlt : k < xs.length
    · have hkr : k < rows.length := by omega
      rcases hat with h0 | ⟨g, off, rfl, hok, hg, hc⟩
      · simp [h0.1] at hkr
      have hE := textE_ok.keep (hel k hlt hkr) hO (disj_none _)
      have hcell : ∀ j (hj : j < rows[k].length), wr.cell? ⟨g, off + k * 1 + j, none⟩ = some rows[k][j] := fun j hj => by
        rw [← (hc k hkr).2 j hj]; exact World.cell?_of_block (hO.block g hg id)
      have hle := layN_le (f := textF 4096) hlt
      have HTK := Lib.hid (layN_take (f := textF 4096) hlt)
      generalize rows[k] = cs at hcell hE
      generalize xs[k] = x at hle hE HTK
      clear hc hel
      obtain ⟨rfl, h1⟩ := hE
      have c0 : wr.cell? ⟨g, off + k, none⟩ = some (.string x) := by have := hcell 0 (by simp); simpa using this
      clear hcell
      have t1 : x.size ≤ 9223372036854775000 := by unfold Str at h1; omega
      clear h1
      have hkl : (k : Int) < (rows.length : Int) := by omega
      have hlx : (textF 4096).lay x = sev x.size ++ x.data.toList := rfl
      obtain ⟨D, hD⟩ : ∃ D, sev rows.length ++ layN (textF 4096) (xs.take k) = D := ⟨_, rfl⟩
      have hDl : D.length + ((sev x.size).length + x.data.toList.length) ≤ 1000000000000000 := by
        rw [hlx] at hle
        simp only [List.length_append] at hle
        rw [← hD, List.length_append]; omega
      have hfin : D ++ (sev x.size ++ x.data.toList) = sev rows.length ++ layN (textF 4096) (xs.take (k + 1)) := by
        rw [← hD, HTK.out, List.append_assoc, ← hlx]
      rw [hD]
      have HF := Lib.hid hfin
      clear hD hlx hle HTK hfin
      have q1 : ∀ W, Sem.run Tryz.prog (Op.stringOp .add ⟨D.toArray⟩ ⟨(sev x.size ++ x.data.toList).toArray⟩) W = .ok (.string ⟨(D ++ (sev x.size ++ x.data.toList)).toArray⟩) W := fun W => by
        rw [add_str _ _ _ (by simp only [List.length_append]; omega) W]
      clear hDl
      go_wp2_with (go_at_call 24; refine (reftext_any _ _ t1).mono ?_; rintro e w9 ⟨rfl, hO9⟩; have HP := Lib.hid (hO.none hO9); clear hO9)
      go_roundw
      case rel => exact ⟨k + 1, by go_num, hlt, by rw [HF.out], HP.out⟩
      case measure => simp [intOf]; omega
    · have hkl : ¬ (k : Int) < (rows.length : Int) := by omega
      obtain rfl : k = xs.length := by omega
      have ht : xs.take xs.length = xs := List.take_length
      rw [ht]
      go_wp2_with fail
      go_ret
      exact ⟨rfl, hO⟩
end Go.Proofs.YtpmemcpfoapjmaaGreat

namespace Go.Proofs.YtpmemcpfoapjmaaGreat
open Go.ChangeShapes Go.WideShapes Go.ChangeAt Go.RowKit
set_option linter.unusedVariables false


set_option maxRecDepth 100000 in
set_option maxHeartbeats 4000000 in
theorem refput_part (x : Part) (cs : List Value) (ok : Nat → Prop) (w : World) (hE : partE w ok cs x) (hl : (partF.lay x).length ≤ 1000000000000000) :
    Calls Tryz.prog 100 #[.agg cs.toArray] w (OldStr w (partF.lay x)) := by
  obtain ⟨vsubs, vacl, rfl, hacl, h_kind, h_path, h_data, h_owner, h_number, h_err, hsl⟩ := hE
  obtain ⟨kind, path, data, acl, owner, number, err⟩ := x
  simp only at h_kind h_path h_data h_owner h_number h_err hacl
  have hlay : partF.lay ⟨kind, path, data, acl, owner, number, err⟩ = sev (zz kind) ++ (sev path.size ++ (path.data.toList ++ (sev data.size ++ (data.data.toList ++ ((listF aclF).lay acl ++ (sev (zz owner) ++ (sev (zz number) ++ sev (zz err)))))))) := by simp only [partF, isoF, seqF, lay_num, lay_text, List.append_assoc]
  rw [hlay] at hl ⊢
  clear hlay
  obtain ⟨L0, hL0⟩ : ∃ l : List UInt8, sev (zz kind) = l := ⟨_, rfl⟩
  have K0 := Lib.hid (show ∀ W, Calls Tryz.prog 62 #[.int .i64 kind] W (OldStr W L0) from fun W => by rw [← hL0]; exact refnum_any _ W h_kind)
  obtain ⟨L1, hL1⟩ : ∃ l : List UInt8, sev path.size ++ path.data.toList = l := ⟨_, rfl⟩
  have K1 := Lib.hid (show ∀ W, Calls Tryz.prog 24 #[.string path] W (OldStr W L1) from fun W => by rw [← hL1]; exact reftext_any _ W (by unfold Str at h_path; omega))
  obtain ⟨L2, hL2⟩ : ∃ l : List UInt8, sev data.size ++ data.data.toList = l := ⟨_, rfl⟩
  have K2 := Lib.hid (show ∀ W, Calls Tryz.prog 24 #[.string data] W (OldStr W L2) from fun W => by rw [← hL2]; exact reftext_any _ W (by unfold Str at h_data; omega))
  obtain ⟨L3, hL3⟩ : ∃ l : List UInt8, (listF aclF).lay acl = l := ⟨_, rfl⟩
  have K3 := Lib.hid (show ∀ W, Old w W → Calls Tryz.prog 102 #[vacl] W (OldStr W L3) from fun W h => by
    rw [← hL3]
    exact refacls_any acl vacl ok W (hacl.keep aclE_ok h (disj_none _)) (by simp only [List.length_append] at hl; omega))
  obtain ⟨L4, hL4⟩ : ∃ l : List UInt8, sev (zz owner) ++ (sev (zz number) ++ sev (zz err)) = l := ⟨_, rfl⟩
  have K4 := Lib.hid (show ∀ (g : Nat) (W : World), W.heap[g]? = some (.cells #[.int .i64 owner, .int .i64 number, .int .i64 err] 3 (0, 0)) → Calls Tryz.prog 22 #[.slice (some ⟨g, 0, none⟩) 3 3] W (OldStr W L4) from fun g W hb => by rw [← hL4]; exact refnums3 owner number err g W hb h_owner h_number h_err)
  have hfin : sev (zz kind) ++ (sev path.size ++ (path.data.toList ++ (sev data.size ++ (data.data.toList ++ ((listF aclF).lay acl ++ (sev (zz owner) ++ (sev (zz number) ++ sev (zz err)))))))) = L0 ++ (L1 ++ (L2 ++ (L3 ++ L4))) := by
    rw [← hL0, ← hL1, ← hL2, ← hL3, ← hL4]
    simp only [List.append_assoc]
  rw [hfin] at hl ⊢
  simp only [List.length_append] at hl
  clear hfin hL0 hL1 hL2 hL3 hL4
  have q0 : ∀ W, Sem.run Tryz.prog (Op.stringOp .add ⟨(L0).toArray⟩ ⟨(L1).toArray⟩) W = .ok (.string ⟨(L0 ++ L1).toArray⟩) W := fun W => by
    rw [add_str _ _ _ (by omega) W]
  have q1 : ∀ W, Sem.run Tryz.prog (Op.stringOp .add ⟨(L0 ++ L1).toArray⟩ ⟨(L2).toArray⟩) W = .ok (.string ⟨(L0 ++ (L1 ++ L2)).toArray⟩) W := fun W => by
    rw [add_str _ _ _ (by simp only [List.length_append]; omega) W] <;> simp only [List.append_assoc]
  have q2 : ∀ W, Sem.run Tryz.prog (Op.stringOp .add ⟨(L0 ++ (L1 ++ L2)).toArray⟩ ⟨(L3).toArray⟩) W = .ok (.string ⟨(L0 ++ (L1 ++ (L2 ++ L3))).toArray⟩) W := fun W => by
    rw [add_str _ _ _ (by simp only [List.length_append]; omega) W] <;> simp only [List.append_assoc]
  have q3 : ∀ W, Sem.run Tryz.prog (Op.stringOp .add ⟨(L0 ++ (L1 ++ (L2 ++ L3))).toArray⟩ ⟨(L4).toArray⟩) W = .ok (.string ⟨(L0 ++ (L1 ++ (L2 ++ (L3 ++ L4)))).toArray⟩) W := fun W => by
    rw [add_str _ _ _ (by simp only [List.length_append]; omega) W] <;> simp only [List.append_assoc]
  clear hl hacl
  have hb := heap_alloc_new w (.cells #[.int .i64 kind, .string path, .string data, vacl, .int .i64 owner, .int .i64 number, .int .i64 err, vsubs] 36)
  have hO0 : Old w (w.alloc (.cells #[.int .i64 kind, .string path, .string data, vacl, .int .i64 owner, .int .i64 number, .int .i64 err, vsubs] 36)) := (Old.refl w).make _
  have c0 : (w.alloc (.cells #[.int .i64 kind, .string path, .string data, vacl, .int .i64 owner, .int .i64 number, .int .i64 err, vsubs] 36)).cell? ⟨w.heap.size, 0, none⟩ = some (.int .i64 kind) := cell_of_row _ _ 0 _ _ _ hb
  have c1 : (w.alloc (.cells #[.int .i64 kind, .string path, .string data, vacl, .int .i64 owner, .int .i64 number, .int .i64 err, vsubs] 36)).cell? ⟨w.heap.size, 1, none⟩ = some (.string path) := cell_of_row _ _ 1 _ _ _ hb
  have c2 : (w.alloc (.cells #[.int .i64 kind, .string path, .string data, vacl, .int .i64 owner, .int .i64 number, .int .i64 err, vsubs] 36)).cell? ⟨w.heap.size, 2, none⟩ = some (.string data) := cell_of_row _ _ 2 _ _ _ hb
  have c3 : (w.alloc (.cells #[.int .i64 kind, .string path, .string data, vacl, .int .i64 owner, .int .i64 number, .int .i64 err, vsubs] 36)).cell? ⟨w.heap.size, 3, none⟩ = some (vacl) := cell_of_row _ _ 3 _ _ _ hb
  have c4 : (w.alloc (.cells #[.int .i64 kind, .string path, .string data, vacl, .int .i64 owner, .int .i64 number, .int .i64 err, vsubs] 36)).cell? ⟨w.heap.size, 4, none⟩ = some (.int .i64 owner) := cell_of_row _ _ 4 _ _ _ hb
  have c5 : (w.alloc (.cells #[.int .i64 kind, .string path, .string data, vacl, .int .i64 owner, .int .i64 number, .int .i64 err, vsubs] 36)).cell? ⟨w.heap.size, 5, none⟩ = some (.int .i64 number) := cell_of_row _ _ 5 _ _ _ hb
  have c6 : (w.alloc (.cells #[.int .i64 kind, .string path, .string data, vacl, .int .i64 owner, .int .i64 number, .int .i64 err, vsubs] 36)).cell? ⟨w.heap.size, 6, none⟩ = some (.int .i64 err) := cell_of_row _ _ 6 _ _ _ hb
  clear h_kind
  clear h_path
  clear h_data
  clear h_owner
  clear h_number
  clear h_err
  generalize hw1 : w.alloc (.cells #[.int .i64 kind, .string path, .string data, vacl, .int .i64 owner, .int .i64 number, .int .i64 err, vsubs] 36) = w1 at hO0 c0 c1 c2 c3 c4 c5 c6
  clear hb
  have HW := Lib.hid hw1; clear hw1
  have HO0 := Lib.hid hO0; clear hO0
  have C0 := Lib.hid c0; clear c0
  have C1 := Lib.hid c1; clear c1
  have C2 := Lib.hid c2; clear c2
  have C3 := Lib.hid c3; clear c3
  have C4 := Lib.hid c4; clear c4
  have C5 := Lib.hid c5; clear c5
  have C6 := Lib.hid c6; clear c6
  go_enter Tryz.func100, Tryz.ntmps100
  go_upto_region 1 with fail
  rw [HW.out]
  have hO0 := HO0.out
  have c0 := C0.out; clear C0
  have c1 := C1.out; clear C1
  have c2 := C2.out; clear C2
  have c3 := C3.out; clear C3
  have c4 := C4.out; clear C4
  have c5 := C5.out; clear C5
  have c6 := C6.out; clear C6
  clear HW HO0
  go_region_held3 (fun w' => w'.cell? ⟨w.heap.size, 0, none⟩ = some (.int .i64 kind) ∧ w'.cell? ⟨w.heap.size, 1, none⟩ = some (.string path) ∧ w'.cell? ⟨w.heap.size, 2, none⟩ = some (.string data) ∧ w'.cell? ⟨w.heap.size, 3, none⟩ = some (vacl) ∧ w'.cell? ⟨w.heap.size, 4, none⟩ = some (.int .i64 owner) ∧ w'.cell? ⟨w.heap.size, 5, none⟩ = some (.int .i64 number) ∧ w'.cell? ⟨w.heap.size, 6, none⟩ = some (.int .i64 err) ∧ Old w w')
    (((try go_split_ands); (try dsimp only); (try simp only [World.cell?_drew] at *); (repeat' apply And.intro) <;> (with_reducible first | assumption | exact Old.drew (by assumption) | exact Old.make (by assumption) _ | exact Old.drew (Old.make (by assumption) _) | exact Old.drew (Old.make (Old.undrew (by assumption)) _) | exact Old.cell ((Old.refl _).make _) (by assumption) | fail)))
    (first
      | (go_at_call 22; have _t := T4; go_split_ands; refine (K4.out _ _ ?_).mono ?_; (focus ((repeat (with_reducible first | exact new_drew _ _ | exact heap_alloc_new _ _ | exact new_drew2 _ _ _ | exact new_make2 _ _ _ | refine carry_alloc ?_ | refine carry_make ?_ | (apply Stp.carry; (focus (assumption; done))))); done)); rintro e w9 ⟨rfl, hO9⟩; have hP9 : Old w w9 := Old.none (by assumption) hO9; have d0 : w9.cell? ⟨w.heap.size, 0, none⟩ = some (.int .i64 kind) := Old.cell hO9 (by assumption); have d1 : w9.cell? ⟨w.heap.size, 1, none⟩ = some (.string path) := Old.cell hO9 (by assumption); have d2 : w9.cell? ⟨w.heap.size, 2, none⟩ = some (.string data) := Old.cell hO9 (by assumption); have d3 : w9.cell? ⟨w.heap.size, 3, none⟩ = some (vacl) := Old.cell hO9 (by assumption); have d4 : w9.cell? ⟨w.heap.size, 4, none⟩ = some (.int .i64 owner) := Old.cell hO9 (by assumption); have d5 : w9.cell? ⟨w.heap.size, 5, none⟩ = some (.int .i64 number) := Old.cell hO9 (by assumption); have d6 : w9.cell? ⟨w.heap.size, 6, none⟩ = some (.int .i64 err) := Old.cell hO9 (by assumption); have hQ9 := Stp.mk hO9; clear hO9; have T5 := True.intro)
      | (go_at_call 102; have _t := T3; go_split_ands; refine (K3.out _ (by assumption)).mono ?_; rintro e w9 ⟨rfl, hO9⟩; have hP9 : Old w w9 := Old.none (by assumption) hO9; have d0 : w9.cell? ⟨w.heap.size, 0, none⟩ = some (.int .i64 kind) := Old.cell hO9 (by assumption); have d1 : w9.cell? ⟨w.heap.size, 1, none⟩ = some (.string path) := Old.cell hO9 (by assumption); have d2 : w9.cell? ⟨w.heap.size, 2, none⟩ = some (.string data) := Old.cell hO9 (by assumption); have d3 : w9.cell? ⟨w.heap.size, 3, none⟩ = some (vacl) := Old.cell hO9 (by assumption); have d4 : w9.cell? ⟨w.heap.size, 4, none⟩ = some (.int .i64 owner) := Old.cell hO9 (by assumption); have d5 : w9.cell? ⟨w.heap.size, 5, none⟩ = some (.int .i64 number) := Old.cell hO9 (by assumption); have d6 : w9.cell? ⟨w.heap.size, 6, none⟩ = some (.int .i64 err) := Old.cell hO9 (by assumption); have hQ9 := Stp.mk hO9; clear hO9; have T4 := True.intro)
      | (go_at_call 24; have _t := T2; go_split_ands; refine (K2.out _).mono ?_; rintro e w9 ⟨rfl, hO9⟩; have hP9 : Old w w9 := Old.none (by assumption) hO9; have d0 : w9.cell? ⟨w.heap.size, 0, none⟩ = some (.int .i64 kind) := Old.cell hO9 (by assumption); have d1 : w9.cell? ⟨w.heap.size, 1, none⟩ = some (.string path) := Old.cell hO9 (by assumption); have d2 : w9.cell? ⟨w.heap.size, 2, none⟩ = some (.string data) := Old.cell hO9 (by assumption); have d3 : w9.cell? ⟨w.heap.size, 3, none⟩ = some (vacl) := Old.cell hO9 (by assumption); have d4 : w9.cell? ⟨w.heap.size, 4, none⟩ = some (.int .i64 owner) := Old.cell hO9 (by assumption); have d5 : w9.cell? ⟨w.heap.size, 5, none⟩ = some (.int .i64 number) := Old.cell hO9 (by assumption); have d6 : w9.cell? ⟨w.heap.size, 6, none⟩ = some (.int .i64 err) := Old.cell hO9 (by assumption); have hQ9 := Stp.mk hO9; clear hO9; have T3 := True.intro)
      | (go_at_call 24; have _t := T1; go_split_ands; refine (K1.out _).mono ?_; rintro e w9 ⟨rfl, hO9⟩; have hP9 : Old w w9 := Old.none (by assumption) hO9; have d0 : w9.cell? ⟨w.heap.size, 0, none⟩ = some (.int .i64 kind) := Old.cell hO9 (by assumption); have d1 : w9.cell? ⟨w.heap.size, 1, none⟩ = some (.string path) := Old.cell hO9 (by assumption); have d2 : w9.cell? ⟨w.heap.size, 2, none⟩ = some (.string data) := Old.cell hO9 (by assumption); have d3 : w9.cell? ⟨w.heap.size, 3, none⟩ = some (vacl) := Old.cell hO9 (by assumption); have d4 : w9.cell? ⟨w.heap.size, 4, none⟩ = some (.int .i64 owner) := Old.cell hO9 (by assumption); have d5 : w9.cell? ⟨w.heap.size, 5, none⟩ = some (.int .i64 number) := Old.cell hO9 (by assumption); have d6 : w9.cell? ⟨w.heap.size, 6, none⟩ = some (.int .i64 err) := Old.cell hO9 (by assumption); have hQ9 := Stp.mk hO9; clear hO9; have T2 := True.intro)
      | (go_at_call 62; go_split_ands; refine (K0.out _).mono ?_; rintro e w9 ⟨rfl, hO9⟩; have hP9 : Old w w9 := Old.none (by assumption) hO9; have d0 : w9.cell? ⟨w.heap.size, 0, none⟩ = some (.int .i64 kind) := Old.cell hO9 (by assumption); have d1 : w9.cell? ⟨w.heap.size, 1, none⟩ = some (.string path) := Old.cell hO9 (by assumption); have d2 : w9.cell? ⟨w.heap.size, 2, none⟩ = some (.string data) := Old.cell hO9 (by assumption); have d3 : w9.cell? ⟨w.heap.size, 3, none⟩ = some (vacl) := Old.cell hO9 (by assumption); have d4 : w9.cell? ⟨w.heap.size, 4, none⟩ = some (.int .i64 owner) := Old.cell hO9 (by assumption); have d5 : w9.cell? ⟨w.heap.size, 5, none⟩ = some (.int .i64 number) := Old.cell hO9 (by assumption); have d6 : w9.cell? ⟨w.heap.size, 6, none⟩ = some (.int .i64 err) := Old.cell hO9 (by assumption); have hQ9 := Stp.mk hO9; clear hO9; have T1 := True.intro))
  all_goals go_wp2_with fail
  all_goals go_ret
  all_goals exact ⟨rfl, by assumption⟩

end Go.Proofs.YtpmemcpfoapjmaaGreat

namespace Go.Proofs.YtpmemcpfoapjmaaGreat
open Go.ChangeShapes Go.WideShapes Go.ChangeAt Go.RowKit
set_option linter.unusedVariables false

theorem split_txn {l : List Value} (h : l.length = 8) : ∃ v0 v1 v2 v3 v4 v5 v6 v7, l = [v0, v1, v2, v3, v4, v5, v6, v7] := by
  match l, h with
  | [v0, v1, v2, v3, v4, v5, v6, v7], _ => exact ⟨v0, v1, v2, v3, v4, v5, v6, v7, rfl⟩

set_option maxRecDepth 100000 in
set_option maxHeartbeats 2000000 in
theorem refput_txn (x : Txn) (cs : List Value) (ok : Nat → Prop) (w : World) (hE : txnE w ok cs x) (hl : (txnF.lay x).length ≤ 1000000000000000) :
    Calls Tryz.prog 61 #[.agg cs.toArray] w (OldStr w (txnF.lay x)) := by
  obtain ⟨vsubs, hQ, hL⟩ := hE
  have hP : partE w ok cs x.part := ⟨vsubs, hQ⟩
  have hcl : cs.length = 8 := (partE_flat hP).1
  have h7 : cs[7]? = some vsubs := by obtain ⟨vacl, rfl, _⟩ := hQ; rfl
  clear hQ
  obtain ⟨v0, v1, v2, v3, v4, v5, v6, v7, rfl⟩ := split_txn hcl
  obtain rfl : v7 = vsubs := by simpa using h7
  obtain ⟨rows, ⟨A, c, rfl, hlc, hm, hat⟩, hlen, hel⟩ := hL
  unfold maxLen at hm
  have hlay : txnF.lay x = partF.lay x.part ++ (sev rows.length ++ layN partF x.subs) := by rw [hlen]; rfl
  rw [hlay] at hl ⊢
  simp only [List.length_append] at hl
  have hlen1 : rows.length ≤ x.subs.length := by omega
  have hlen2 : x.subs.length ≤ rows.length := by omega
  clear hlen hlay
  have KP := Lib.hid (show ∀ W, Old w W → Calls Tryz.prog 100 #[.agg #[v0, v1, v2, v3, v4, v5, v6, (.slice A rows.length c)]] W (OldStr W (partF.lay x.part)) from fun W h => refput_part x.part _ ok W (partE_ok.keep hP h (disj_none _)) (by omega))
  have KN := Lib.hid (show ∀ W k (r : List Value) (h1 : k < x.subs.length), partE W ok r (x.subs[k]'h1) → Calls Tryz.prog 100 #[.agg r.toArray] W (OldStr W (partF.lay (x.subs[k]'h1))) from fun W k r h1 h => refput_part _ r ok W h (by
    have := layN_le (f := partF) h1
    omega))
  have KC := Lib.hid (show ∀ W, Calls Tryz.prog 23 #[.int .i64 (rows.length : Nat)] W (OldStr W (sev rows.length)) from fun W => by
    have h := refcount_any (rows.length : Nat) W (by unfold I64; omega)
    rwa [Int.toNat_natCast] at h)
  have HEL := Lib.hid hel; clear hel
  obtain ⟨L0, hL0⟩ : ∃ l : List UInt8, partF.lay x.part = l := ⟨_, rfl⟩
  obtain ⟨C0, hC0⟩ : ∃ l : List UInt8, sev rows.length = l := ⟨_, rfl⟩
  rw [hL0] at KP hl ⊢
  rw [hC0] at KC hl ⊢
  have q0 : ∀ W, Sem.run Tryz.prog (Op.stringOp .add ⟨L0.toArray⟩ ⟨C0.toArray⟩) W = .ok (.string ⟨(L0 ++ C0).toArray⟩) W := fun W => add_str _ _ _ (by omega) W
  clear hL0 hC0 hP
  have hO0 : Old w (w.alloc (.cells #[v0, v1, v2, v3, v4, v5, v6, (.slice A rows.length c)] 36)) := (Old.refl w).make _
  have hb := heap_alloc_new w (.cells #[v0, v1, v2, v3, v4, v5, v6, (.slice A rows.length c)] 36)
  have c0 : (w.alloc (.cells #[v0, v1, v2, v3, v4, v5, v6, (.slice A rows.length c)] 36)).cell? ⟨w.heap.size, 0, none⟩ = some (v0) := cell_of_row _ _ 0 _ _ _ hb
  have c1 : (w.alloc (.cells #[v0, v1, v2, v3, v4, v5, v6, (.slice A rows.length c)] 36)).cell? ⟨w.heap.size, 1, none⟩ = some (v1) := cell_of_row _ _ 1 _ _ _ hb
  have c2 : (w.alloc (.cells #[v0, v1, v2, v3, v4, v5, v6, (.slice A rows.length c)] 36)).cell? ⟨w.heap.size, 2, none⟩ = some (v2) := cell_of_row _ _ 2 _ _ _ hb
  have c3 : (w.alloc (.cells #[v0, v1, v2, v3, v4, v5, v6, (.slice A rows.length c)] 36)).cell? ⟨w.heap.size, 3, none⟩ = some (v3) := cell_of_row _ _ 3 _ _ _ hb
  have c4 : (w.alloc (.cells #[v0, v1, v2, v3, v4, v5, v6, (.slice A rows.length c)] 36)).cell? ⟨w.heap.size, 4, none⟩ = some (v4) := cell_of_row _ _ 4 _ _ _ hb
  have c5 : (w.alloc (.cells #[v0, v1, v2, v3, v4, v5, v6, (.slice A rows.length c)] 36)).cell? ⟨w.heap.size, 5, none⟩ = some (v5) := cell_of_row _ _ 5 _ _ _ hb
  have c6 : (w.alloc (.cells #[v0, v1, v2, v3, v4, v5, v6, (.slice A rows.length c)] 36)).cell? ⟨w.heap.size, 6, none⟩ = some (v6) := cell_of_row _ _ 6 _ _ _ hb
  have c7 : (w.alloc (.cells #[v0, v1, v2, v3, v4, v5, v6, (.slice A rows.length c)] 36)).cell? ⟨w.heap.size, 7, none⟩ = some ((.slice A rows.length c)) := cell_of_row _ _ 7 _ _ _ hb
  have HSZ0 := Lib.hid (show (Tryz.prog.info? 36).map (·.size) = some 8 by kernel_rfl)
  generalize hw1 : w.alloc (.cells #[v0, v1, v2, v3, v4, v5, v6, (.slice A rows.length c)] 36) = w1 at hO0 c0 c1 c2 c3 c4 c5 c6 c7
  clear hb hcl h7
  have HW := Lib.hid hw1; clear hw1
  have HO0 := Lib.hid hO0; clear hO0
  have C0 := Lib.hid c0; clear c0
  have C1 := Lib.hid c1; clear c1
  have C2 := Lib.hid c2; clear c2
  have C3 := Lib.hid c3; clear c3
  have C4 := Lib.hid c4; clear c4
  have C5 := Lib.hid c5; clear c5
  have C6 := Lib.hid c6; clear c6
  have C7 := Lib.hid c7; clear c7
  go_enter Tryz.func61, Tryz.ntmps61
  go_upto_region 1 with fail
  rw [HW.out]
  have hO0 := HO0.out; clear HO0 HW
  have c0 := C0.out; clear C0
  have c1 := C1.out; clear C1
  have c2 := C2.out; clear C2
  have c3 := C3.out; clear C3
  have c4 := C4.out; clear C4
  have c5 := C5.out; clear C5
  have c6 := C6.out; clear C6
  have c7 := C7.out; clear C7
  go_cut [3] (fun s3 wx => s3 = .string ⟨(L0 ++ C0).toArray⟩ ∧ wx.cell? ⟨w.heap.size, 7, none⟩ = some (.slice A rows.length c) ∧ Old w wx)
  case first =>
    go_region_held3 (fun w' => w'.cell? ⟨w.heap.size, 0, none⟩ = some (v0) ∧ w'.cell? ⟨w.heap.size, 1, none⟩ = some (v1) ∧ w'.cell? ⟨w.heap.size, 2, none⟩ = some (v2) ∧ w'.cell? ⟨w.heap.size, 3, none⟩ = some (v3) ∧ w'.cell? ⟨w.heap.size, 4, none⟩ = some (v4) ∧ w'.cell? ⟨w.heap.size, 5, none⟩ = some (v5) ∧ w'.cell? ⟨w.heap.size, 6, none⟩ = some (v6) ∧ w'.cell? ⟨w.heap.size, 7, none⟩ = some ((.slice A rows.length c)) ∧ Old w w')
      (((try go_split_ands); (try dsimp only); (try simp only [World.cell?_drew] at *); (repeat' apply And.intro) <;> (with_reducible first | assumption | exact Old.drew (by assumption) | fail)))
      (first
        | (go_at_call 100; go_split_ands; refine (KP.out _ (by assumption)).mono ?_; rintro e w9 ⟨rfl, hO9⟩; have hP9 : Old w w9 := Old.none (by assumption) hO9; have d0 : w9.cell? ⟨w.heap.size, 0, none⟩ = some (v0) := Old.cell hO9 (by assumption); have d1 : w9.cell? ⟨w.heap.size, 1, none⟩ = some (v1) := Old.cell hO9 (by assumption); have d2 : w9.cell? ⟨w.heap.size, 2, none⟩ = some (v2) := Old.cell hO9 (by assumption); have d3 : w9.cell? ⟨w.heap.size, 3, none⟩ = some (v3) := Old.cell hO9 (by assumption); have d4 : w9.cell? ⟨w.heap.size, 4, none⟩ = some (v4) := Old.cell hO9 (by assumption); have d5 : w9.cell? ⟨w.heap.size, 5, none⟩ = some (v5) := Old.cell hO9 (by assumption); have d6 : w9.cell? ⟨w.heap.size, 6, none⟩ = some (v6) := Old.cell hO9 (by assumption); have d7 : w9.cell? ⟨w.heap.size, 7, none⟩ = some ((.slice A rows.length c)) := Old.cell hO9 (by assumption); clear hO9)
        | (go_at_call 23; go_split_ands; refine (KC.out _).mono ?_; rintro e w9 ⟨rfl, hO9⟩; have hP9 : Old w w9 := Old.none (by assumption) hO9; have d0 : w9.cell? ⟨w.heap.size, 0, none⟩ = some (v0) := Old.cell hO9 (by assumption); have d1 : w9.cell? ⟨w.heap.size, 1, none⟩ = some (v1) := Old.cell hO9 (by assumption); have d2 : w9.cell? ⟨w.heap.size, 2, none⟩ = some (v2) := Old.cell hO9 (by assumption); have d3 : w9.cell? ⟨w.heap.size, 3, none⟩ = some (v3) := Old.cell hO9 (by assumption); have d4 : w9.cell? ⟨w.heap.size, 4, none⟩ = some (v4) := Old.cell hO9 (by assumption); have d5 : w9.cell? ⟨w.heap.size, 5, none⟩ = some (v5) := Old.cell hO9 (by assumption); have d6 : w9.cell? ⟨w.heap.size, 6, none⟩ = some (v6) := Old.cell hO9 (by assumption); have d7 : w9.cell? ⟨w.heap.size, 7, none⟩ = some ((.slice A rows.length c)) := Old.cell hO9 (by assumption); clear hO9))
    all_goals go_wp2_with fail
    all_goals go_meet
    all_goals exact ⟨rfl, by assumption, by assumption⟩
  case rest =>
  obtain ⟨rfl, d7, hOX⟩ := hcut
  clear hO0 c0 c1 c2 c3 c4 c5 c6 c7 q0 KP KC
  have HD7 := Lib.hid d7; clear d7
  have HOX := Lib.hid hOX; clear hOX
  go_wp2_with fail
  go_loopw [3, 4] (fun sv iv wr => LaidRel partF (L0 ++ C0) wc x.subs sv iv wr) (fun _ iv _ => x.subs.length - (intOf iv).toNat)
  case atStart => exact ⟨0, rfl, Nat.zero_le _, by rw [layN_zero], Old.refl _⟩
  case round =>
    obtain ⟨k, rfl, hk, rfl, hO⟩ := hrel.ex
    clear hrel
    have c7 := Old.cell hO HD7.out
    by_cases hlt : k < x.subs.length
    · have hkr : k < rows.length := by omega
      rcases hat with h0 | ⟨g, off, rfl, hok, hg, hc⟩
      · simp [h0.1] at hkr
      have hOw : Old w wr := HOX.out.none hO
      have hEk := partE_ok.keep (HEL.out k hlt hkr) hOw (disj_none _)
      have hcell : wr.rangeAt g (off + k * 8) rows[k] := fun j v hv => by
        obtain ⟨hj1, hj2⟩ := List.getElem?_eq_some_iff.1 hv
        rw [← hj2, ← (hc k hkr).2 j hj1]; exact World.cell?_of_block (hOw.block g hg id)
      have hle := layN_le (f := partF) hlt
      have HTK := Lib.hid (layN_take (f := partF) hlt)
      have HKK := Lib.hid (KN.out wr k rows[k] hlt hEk)
      have HLR := Lib.hid (partE_flat hEk).1
      have HRR := Lib.hid hcell
      clear hcell hEk
      generalize hrk : rows[k] = r at HKK HLR HRR
      generalize hxk : x.subs[k] = y at hle HTK HKK
      clear hrk hxk hc
      have hkl : (k : Int) < (rows.length : Int) := by omega
      obtain ⟨L1, hL1⟩ : ∃ l : List UInt8, partF.lay y = l := ⟨_, rfl⟩
      rw [hL1] at hle HTK HKK
      obtain ⟨D, hD⟩ : ∃ D, (L0 ++ C0) ++ layN partF (x.subs.take k) = D := ⟨_, rfl⟩
      have hDl : D.length + L1.length ≤ 1000000000000000 := by
        rw [← hD]; simp only [List.length_append]; omega
      have HF : Hid (D ++ L1 = (L0 ++ C0) ++ layN partF (x.subs.take (k + 1))) := Lib.hid (by rw [← hD, HTK.out, List.append_assoc])
      have q1 : ∀ W, Sem.run Tryz.prog (Op.stringOp .add ⟨D.toArray⟩ ⟨L1.toArray⟩) W = .ok (.string ⟨(D ++ L1).toArray⟩) W := fun W => add_str _ _ _ hDl W
      rw [hD]
      clear hD hDl hle HTK hL1 hOw
      go_wp2_with (first
        | (refine wpList_load_mid rfl 36 (.tmp 23) rfl g (off + k * 8) rfl r _ HRR.out Tryz.underlying36 rfl (by rw [HLR.out]; exact HSZ0.out) ?_)
        | (go_at_call 100; refine HKK.out.mono ?_; rintro e w9 ⟨rfl, hO9⟩; have HP := Lib.hid (hO.none hO9); clear hO9))
      go_roundw
      case rel => exact ⟨k + 1, by go_num, hlt, by rw [HF.out], HP.out⟩
      case measure => simp [intOf]; omega
    · have hkl : ¬ (k : Int) < (rows.length : Int) := by omega
      obtain rfl : k = x.subs.length := by omega
      have ht : x.subs.take x.subs.length = x.subs := List.take_length
      rw [ht]
      have HO := Lib.hid hO; clear hO
      go_wp2_with fail
      go_ret
      exact ⟨rfl, HOX.out.none HO.out⟩
end Go.Proofs.YtpmemcpfoapjmaaGreat
