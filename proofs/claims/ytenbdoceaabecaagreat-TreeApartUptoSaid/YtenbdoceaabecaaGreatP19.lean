/- The document's own tree: rows, able, New, Place. The document's own tree: kid, Lay. -/
import Derived.Test.YtenbdoceaabecaaGreatP18
import Derived.Test.YtenbdoceaabecaaGreatP08
import Derived.Test.YtenbdoceaabecaaGreatP09
import Derived.Test.YtenbdoceaabecaaGreatP07
import Derived.Deep.QuietTactic
import Derived.BigQuiet
namespace Go.Proofs.YtenbdoceaabecaaGreat
open Go.ChangeShapes Go.WideShapes Go.ChangeAt Go.RowKit Go.Maps
set_option linter.unusedVariables false
set_option linter.unusedSimpArgs false
theorem acl_row : RowTy Tryz.prog 28 89 2 24 := RowTy.of Tryz.underlying28 acl_info rfl (by decide)
theorem AclW.kept {X : Nat → Prop} {w w' : World} {v : Value} {l : List AR} (h : AclW w v l) (hk : Kept X w w') (hx : ∀ k cur, w.heap[k]? = some (.cells cur 89 (0, 0)) → ¬ X k) : AclW w' v l :=
  ⟨ownKept h.own hk (fun k e => by obtain ⟨_, _, cur, hc⟩ := own_lo h.own e; exact hx k cur hc), h.room⟩
theorem AclW.kept0 {w w' : World} {v : Value} {l : List AR} (h : AclW w v l) (hk : Kept (fun _ => False) w w') : AclW w' v l := h.kept hk (fun _ _ _ f => f)
theorem AclW.nil (w : World) : AclW w (.slice none 0 0) [] := ⟨World.ownsRow_nil _ _ _ _, by decide⟩
theorem AclW.src {w : World} {v : Value} {l : List AR} (h : AclW w v l) : ∃ a cap, v = .slice a l.length cap ∧ (l.length = 0 ∨ ∃ g off, a = some ⟨g, off, none⟩ ∧ ∀ j u, (aclC l)[j]? = some u → w.cell? ⟨g, off + j, none⟩ = some u) := by
  obtain ⟨a, cap, hv, hc⟩ := own_cell h.own
  refine ⟨a, cap, hv, ?_⟩
  cases l with
  | nil => exact .inl rfl
  | cons x l =>
    right
    obtain ⟨g, ha, _⟩ := hc 0 (.int .i64 x.perms) rfl
    refine ⟨g, 0, ha, fun j u hj => ?_⟩
    obtain ⟨g', ha', _, _, h', _⟩ := hc j u hj
    rw [ha] at ha'
    injection ha' with ha'
    injection ha' with e1
    subst e1
    rw [Nat.zero_add]; exact h'
def RowsPost (w : World) (l : List AR) (e : Ending) (w' : World) : Prop := ∃ v', e = .returned v' ∧ w'.ownsRow w.heap.size 89 2 v' l.length (aclC l) ∧ Kept (fun _ => False) w w'
set_option maxHeartbeats 400000 in
theorem rows_src {w : World} {v : Value} {l : List AR} (h : ∃ a cap, v = .slice a l.length cap ∧ (l.length = 0 ∨ ∃ g off, a = some ⟨g, off, none⟩ ∧ ∀ j u, (aclC l)[j]? = some u → w.cell? ⟨g, off + j, none⟩ = some u)) (hroom : l.length * 24 ≤ 140737488355328) : Calls Tryz.prog 91 #[v] w (RowsPost w l) := by
  obtain ⟨a, cap, rfl, hs⟩ := h
  have HS := Lib.hid hs
  have HR := Lib.hid acl_row
  clear hs
  go_enter Tryz.func91, Tryz.ntmps91
  go_wp2_with (at_builtin; refine wpList_rows HR.out (by rfl) _ _ (by rfl) (by rfl) (World.ownsRow_nil w w.heap.size 89 2) a l.length cap (aclC l) (by rfl) (aclC_len l) HS.out (aclC_one l) (by unfold maxLen; omega) (by omega) (Nat.le_refl _) ?_; intro v' w' hown hg)
  go_ret
  refine ⟨v', rfl, by simpa using hown, kept_own (Kept.refl _ w) (World.ownsRow_nil w w.heap.size 89 2) (Nat.le_refl _) hg⟩
theorem rows_any {w : World} {v : Value} {l : List AR} (h : AclW w v l) : Calls Tryz.prog 91 #[v] w (RowsPost w l) := rows_src h.src h.room
/-- an ACL that lies somewhere beside a tree -/
structure AclS (w : World) (b : Nat) (v : Value) (l : List AR) : Prop where
  src : ∃ a cap, v = .slice a l.length cap ∧ (l.length = 0 ∨ ∃ g off, a = some ⟨g, off, none⟩ ∧ g < w.heap.size ∧ ¬ RBs w b g ∧ ∀ j u, (aclC l)[j]? = some u → w.cell? ⟨g, off + j, none⟩ = some u)
  room : l.length * 24 ≤ 140737488355328
theorem AclW.s {w : World} {b : Nat} {v : Value} {l : List AR} {R : RT} (h : AclW w v l) (hR : RAt w b R) : AclS w b v l := by
  obtain ⟨a, cap, hv, hc⟩ := own_cell h.own
  refine ⟨⟨a, cap, hv, ?_⟩, h.room⟩
  cases l with
  | nil => exact .inl rfl
  | cons x l =>
    right
    obtain ⟨g, ha, _, hg, _, _⟩ := hc 0 (.int .i64 x.perms) rfl
    refine ⟨g, 0, ha, hg, ?_, fun j u hj => ?_⟩
    · have hown : v.ownBlock = some g := by rw [hv, ha]; rfl
      obtain ⟨_, _, cur, hcur⟩ := own_lo h.own hown
      exact hR.other hcur (by decide) (by decide) (by decide)
    · obtain ⟨g', ha', _, _, h', _⟩ := hc j u hj
      rw [ha] at ha'
      injection ha' with ha'
      injection ha' with e1
      subst e1
      rw [Nat.zero_add]; exact h'
theorem AclS.rows {w : World} {b : Nat} {v : Value} {l : List AR} (h : AclS w b v l) : ∃ a cap, v = .slice a l.length cap ∧ (l.length = 0 ∨ ∃ g off, a = some ⟨g, off, none⟩ ∧ ∀ j u, (aclC l)[j]? = some u → w.cell? ⟨g, off + j, none⟩ = some u) := by
  obtain ⟨a, cap, hv, hc⟩ := h.src
  exact ⟨a, cap, hv, hc.imp id (fun ⟨g, off, ha, _, _, h⟩ => ⟨g, off, ha, h⟩)⟩
theorem AclS.step {w w' : World} {b : Nat} {v : Value} {l : List AR} (h : AclS w b v l) (hs : RStep w b w') : AclS w' b v l := by
  obtain ⟨a, cap, hv, hc⟩ := h.src
  refine ⟨⟨a, cap, hv, hc.imp id fun ⟨g, off, ha, hg, hn, hh⟩ => ⟨g, off, ha, Nat.lt_of_lt_of_le hg hs.kept.size, fun e => ?_, fun j u hj => ?_⟩⟩, h.room⟩
  · rcases hs.bs g e with h1 | h1
    · exact hn h1
    · omega
  · rw [World.cell?_of_block (w := w) (hs.kept.block g hg hn)]; exact hh j u hj
theorem AclS.kept0 {w w' : World} {b : Nat} {v : Value} {l : List AR} (h : AclS w b v l) (hk : Kept (fun _ => False) w w') (hb : b < w.heap.size) : AclS w' b v l := h.step (RStep.of0 hk hb)
set_option maxHeartbeats 400000 in
theorem able_any (p : ByteArray) (w : World) (hp : p.size ≤ 1099511627776) : Calls Tryz.prog 121 #[.string p] w fun e w' => e = .returned (.bool (mayCome p)) ∧ Kept (fun _ => False) w w' := by
  have HC := Lib.hid (refCheck_any p w (by omega))
  by_cases hr : p.data.toList = [47]
  · have h1 : (p.toList == [47]) = true := by rw [eqSlash]; simpa using hr
    have h2 : (!p.toList == [47]) = false := by rw [h1]; rfl
    have HE : Hid (mayCome p = false) := Lib.hid (by unfold mayCome; simp [hr])
    clear hr
    go_enter Tryz.func121, Tryz.ntmps121
    go_wp2_with fail
    go_ret
    exact ⟨ret_bool HE.out.symm, Kept.refl _ _⟩
  · have h1 : (p.toList == [47]) = false := by rw [eqSlash]; simpa using hr
    have h2 : (!p.toList == [47]) = true := by rw [h1]; rfl
    have HE : Hid (mayCome p = decide (checkS p = 0)) := Lib.hid (by unfold mayCome okP; simp [hr])
    clear hr
    go_enter Tryz.func121, Tryz.ntmps121
    go_wp2_with fail
    refine HC.out.mono ?_
    rintro e w' ⟨rfl, hb⟩
    have HK := Lib.hid (keptB hb (Nat.le_refl _))
    clear hb
    go_wp2_with fail
    go_ret
    exact ⟨ret_bool (by rw [HE.out]; first | rfl | (rw [Bool.eq_iff_iff]; simp)), HK.out⟩
def newR : RT := ⟨[⟨slashS, ⟨#[]⟩, [⟨31, worldB⟩], ⟨0, 0, 0, 0, 0, 0, 0⟩⟩], [], 0⟩
def RNewPost (w : World) (e : Ending) (w' : World) : Prop := ∃ b, e = .returned (.pointer (some ⟨b, 0, none⟩)) ∧ RAt w' b newR ∧ (∀ k, RBs w' b k → w.heap.size ≤ k) ∧ Kept (fun _ => False) w w'
theorem own_new {w : World} {B n size : Nat} {e : TypeId} {xs : List Value} (hB : B ≤ w.heap.size) (hl : xs.length = n * size) (hn : n ≤ maxLen) : (w.alloc (.cells xs.toArray e)).ownsRow B e size (.slice (some ⟨w.heap.size, 0, none⟩) n n) n xs :=
  ⟨hl, .inr ⟨w.heap.size, n, _, rfl, hB, heap_alloc_new w _, Nat.le_refl _, hn, by simpa using hl, by simp [← hl]⟩⟩
set_option maxHeartbeats 400000 in
theorem rnew_any (w : World) : Calls Tryz.prog 9 #[] w (RNewPost w) := by
  go_enter Tryz.func9, Tryz.ntmps9
  go_wp2_with fail
  go_ret
  have k1 : Kept (fun _ => False) w (w.alloc (.cells #[.int .i64 31, .string worldB] 89)) := (Kept.refl _ w).alloc _
  have a1 := own_new (w := w) (B := 0) (e := 89) (n := 1) (size := 2) (xs := [.int .i64 31, .string worldB]) (Nat.zero_le _) rfl (by decide)
  have a2 := own_new (w := w.alloc (.cells #[.int .i64 31, .string worldB] 89)) (B := 0) (e := 91) (n := 1) (size := 12) (xs := ndC [(⟨slashS, ⟨#[]⟩, [⟨31, worldB⟩], ⟨0, 0, 0, 0, 0, 0, 0⟩⟩, .slice (some ⟨w.heap.size, 0, none⟩) 1 1)]) (Nat.zero_le _) rfl (by decide)
  rw [show (w.alloc (.cells #[.int .i64 31, .string worldB] 89)).heap.size = w.heap.size + 1 by simp] at a2
  have HA := heap_alloc_new ((w.alloc (.cells #[.int .i64 31, .string worldB] 89)).alloc (.cells (ndC [(⟨slashS, ⟨#[]⟩, [⟨31, worldB⟩], ⟨0, 0, 0, 0, 0, 0, 0⟩⟩, .slice (some ⟨w.heap.size, 0, none⟩) 1 1)]).toArray 91)) (.cells #[.slice (some ⟨w.heap.size + 1, 0, none⟩) 1 1, .slice none 0 0, .int .i64 0] 95)
  rw [show ((w.alloc (.cells #[.int .i64 31, .string worldB] 89)).alloc (.cells (ndC [(⟨slashS, ⟨#[]⟩, [⟨31, worldB⟩], ⟨0, 0, 0, 0, 0, 0, 0⟩⟩, .slice (some ⟨w.heap.size, 0, none⟩) 1 1)]).toArray 91)).heap.size = w.heap.size + 1 + 1 by simp] at HA
  refine ⟨w.heap.size + 1 + 1, rfl, ⟨[(⟨slashS, ⟨#[]⟩, [⟨31, worldB⟩], ⟨0, 0, 0, 0, 0, 0, 0⟩⟩, .slice (some ⟨w.heap.size, 0, none⟩) 1 1)], .slice (some ⟨w.heap.size + 1, 0, none⟩) 1 1, .slice none 0 0, ?_⟩, ?_, ?_⟩
  · refine ⟨?_, ?_, rfl, ?_, World.ownsRow_nil _ _ _ _⟩
    · exact HA
    · exact ownKept a2 ((Kept.refl (fun _ => False) _).alloc _) (fun _ _ f => f)
    · intro p hp
      simp only [List.mem_singleton] at hp
      subst hp
      exact ⟨ownKept a1 (((Kept.refl (fun _ => False) _).alloc _).alloc _) (fun _ _ f => f), by show 1 * 24 ≤ 140737488355328; decide⟩
  · intro k hk
    have hd : RBs _ _ k := hk
    rcases hk with rfl | ⟨nv, sv, zv, hb, hk⟩
    · omega
    · have h2 : some (Obj.cells #[nv, sv, zv] 95 (0, 0)) = some (.cells #[.slice (some ⟨w.heap.size + 1, 0, none⟩) 1 1, .slice none 0 0, .int .i64 0] 95) := hb.symm.trans HA
      injection h2 with h2
      injection h2 with h2
      simp only [Array.mk.injEq, List.cons.injEq] at h2
      obtain ⟨rfl, rfl, _⟩ := h2
      simp [Value.ownBlock] at hk
      omega
  · exact ((k1.alloc _).alloc _)
def placeI (l : List RN) (p : ByteArray) : Int := match l.findIdx? (fun n => decide (n.path = p)) with
  | none => -1
  | some i => i
theorem placeI_some {l : List RN} {p : ByteArray} {i : Nat} (hi : i < l.length) (h : l[i].path = p) (hn : ∀ (j : Nat) (hj : j < i), (l[j]'(by omega)).path ≠ p) : placeI l p = i := by
  unfold placeI
  rw [List.findIdx?_eq_some_iff_getElem.2 ⟨hi, by simpa using h, fun j hj => by simpa using hn j hj⟩]
theorem placeI_none {l : List RN} {p : ByteArray} (h : ∀ (j : Nat) (hj : j < l.length), l[j].path ≠ p) : placeI l p = -1 := by
  unfold placeI
  rw [List.findIdx?_eq_none_iff.2]
  intro x hx
  obtain ⟨j, hj, rfl⟩ := List.getElem_of_mem hx
  simpa using h j hj
theorem placeI_cases (l : List RN) (p : ByteArray) : (placeI l p = -1 ∧ ∀ n ∈ l, n.path ≠ p) ∨ ∃ i : Nat, ∃ hi : i < l.length, placeI l p = i ∧ l[i].path = p ∧ ∀ (j : Nat) (hj : j < i), (l[j]'(by omega)).path ≠ p := by
  unfold placeI
  cases h : l.findIdx? (fun n => decide (n.path = p)) with
  | none =>
    left
    rw [List.findIdx?_eq_none_iff] at h
    exact ⟨rfl, fun n hn => by simpa using h n hn⟩
  | some i =>
    right
    obtain ⟨hi, h1, h2⟩ := List.findIdx?_eq_some_iff_getElem.1 h
    exact ⟨i, hi, rfl, by simpa using h1, fun j hj => by simpa using h2 j hj⟩
/-- a tree's cells -/
theorem RD.cells {w : World} {b : Nat} {R : RT} {L : List (RN × Value)} {nv sv : Value} (h : RD w b R L nv sv) : w.cell? ⟨b, 0, none⟩ = some nv ∧ w.cell? ⟨b, 1, none⟩ = some sv ∧ w.cell? ⟨b, 2, none⟩ = some (.int .i64 R.z) ∧ ∀ i, w.frozen? ⟨b, i, none⟩ = false := by
  have e : ∀ i, w.cell? ⟨b, i, none⟩ = ([nv, sv, .int .i64 R.z] : List Value)[i]? := fun i => by
    rw [cell_of_row w b i _ _ (0, 0) h.at_, ← Array.getElem?_toList]
  exact ⟨e 0, e 1, e 2, fun i => by simp [World.frozen?, h.at_]⟩
/-- a node's cells -/
theorem RD.node {w : World} {b : Nat} {R : RT} {L : List (RN × Value)} {nv sv : Value} (h : RD w b R L nv sv) : ∃ a cap, nv = .slice a L.length cap ∧ L.length ≤ cap ∧ ∀ i, i < L.length → ∃ g p, a = some ⟨g, 0, none⟩ ∧ g < w.heap.size ∧ L[i]? = some p ∧ (∀ j u, (ndL p)[j]? = some u → w.cell? ⟨g, i * 12 + j, none⟩ = some u) ∧ ∀ j, w.frozen? ⟨g, j, none⟩ = false := by
  obtain ⟨a, cap, hv, hc⟩ := own_cell h.n
  refine ⟨a, cap, hv, ?_, fun i hi => ?_⟩
  · rcases h.n.2 with ⟨h1, h2⟩ | ⟨g, cap', cur, h1, _, _, hle, _⟩
    · rw [h2]; exact Nat.zero_le _
    · rw [hv] at h1
      injection h1 with _ _ h1
      subst h1; exact hle
  · obtain ⟨g, ha, _, hg, _, _⟩ := hc (i * 12 + 0) _ (flat_at ndL_len L i hi 0 _ rfl)
    refine ⟨g, L[i], ha, hg, List.getElem?_eq_getElem hi, fun j u hu => ?_, fun j => ?_⟩
    · obtain ⟨g', ha', _, _, h', _⟩ := hc (i * 12 + j) _ (flat_at ndL_len L i hi j u hu)
      rw [ha] at ha'
      injection ha' with ha'
      injection ha' with e1
      subst e1; exact h'
    · have hown : nv.ownBlock = some g := by rw [hv, ha]; rfl
      obtain ⟨_, _, cur, hcur⟩ := own_lo h.n hown
      simp [World.frozen?, hcur]
theorem rd_len {w : World} {b : Nat} {R : RT} {L : List (RN × Value)} {nv sv : Value} (h : RD w b R L nv sv) : L.length = R.N.length := by rw [← h.eq, List.length_map]
theorem own_max {w : World} {B size n : Nat} {e : TypeId} {v : Value} {xs : List Value} (h : w.ownsRow B e size v n xs) : n ≤ maxLen := by
  rcases h.2 with ⟨_, h2⟩ | ⟨g, cap', cur, h1, _, _, hle, hm, _⟩
  · rw [h2]; exact Nat.zero_le _
  · exact Nat.le_trans hle hm
theorem rd_at {w : World} {b : Nat} {R : RT} {L : List (RN × Value)} {nv sv : Value} (h : RD w b R L nv sv) {i : Nat} {p : RN × Value} (hp : L[i]? = some p) : R.N[i]? = some p.1 := by rw [← h.eq, List.getElem?_map, hp]; rfl
set_option maxRecDepth 100000 in
set_option maxHeartbeats 400000 in
theorem place_any {w : World} {b : Nat} {R : RT} (h : RAt w b R) (p : ByteArray) : Calls Tryz.prog 62 #[.pointer (some ⟨b, 0, none⟩), .string p] w fun e w' => e = .returned (.int .i64 (placeI R.N p)) ∧ w = w' := by
  obtain ⟨L, nv, sv, hD⟩ := h
  obtain ⟨a, cap, rfl, hcap, hnode⟩ := hD.node
  obtain ⟨c0, c1, c2, cf⟩ := hD.cells
  have hmax := own_max hD.n
  have HD := Lib.hid hD
  have HN := Lib.hid hnode
  have HL := Lib.hid (rd_len hD)
  unfold maxLen at hmax
  clear hD hnode
  go_enter Tryz.func62, Tryz.ntmps62
  go_wp2_with fail
  go_loop [5] (fun iv => ∃ k : Nat, k ≤ L.length ∧ iv = .int .i64 k ∧ ∀ (j : Nat) (q : RN × Value), j < k → L[j]? = some q → q.1.path ≠ p) (fun iv => L.length - (intOf iv).toNat)
  case atStart => exact ⟨0, Nat.zero_le _, rfl, fun j q hj => absurd hj (by omega)⟩
  case round =>
    obtain ⟨k, hk, rfl, hno⟩ := hrel
    have HNO := Lib.hid hno
    clear hno
    by_cases hlt : k < L.length
    · obtain ⟨g, q, rfl, hg, hq, hc, hfz⟩ := HN.out k hlt
      have x0 := hc 0 _ rfl
      simp only [Nat.add_zero] at x0
      have HQ := Lib.hid hq
      clear hc hq
      by_cases he : q.1.path = p
      · have h1 : (q.1.path.toList == p.toList) = true := by rw [he]; simp
        have HE : Hid (placeI R.N p = k) := Lib.hid (by
          have hk' : k < R.N.length := by rw [← HL.out]; exact hlt
          refine placeI_some hk' ?_ (fun j hj => ?_)
          · have := rd_at HD.out HQ.out
            rw [List.getElem?_eq_getElem hk'] at this
            injection this with this
            rw [this]; exact he
          · have hjl : j < L.length := by omega
            have h2 := rd_at HD.out (List.getElem?_eq_getElem hjl)
            rw [List.getElem?_eq_getElem (by omega)] at h2
            injection h2 with h2
            rw [h2]; exact HNO.out j _ hj (List.getElem?_eq_getElem hjl))
        clear he
        go_wp2_with fail
        go_ret
        exact ⟨ret_int HE.out.symm, rfl⟩
      · have h1 : (q.1.path.toList == p.toList) = false := str_ne he
        have HE := Lib.hid he
        clear he
        go_wp2_with fail
        go_round
        case rel =>
          refine ⟨k + 1, by omega, by go_num, fun j r hj hr => ?_⟩
          by_cases e : j = k
          · subst e
            rw [HQ.out] at hr; injection hr with hr; subst hr; exact HE.out
          · exact HNO.out j r (by omega) hr
        case measure => simp [intOf]; omega
    · go_wp2_with fail
      go_ret
      refine ⟨ret_int ?_, rfl⟩
      symm
      apply placeI_none
      intro j hj
      have hjl : j < L.length := by rw [HL.out]; exact hj
      have h2 := rd_at HD.out (List.getElem?_eq_getElem hjl)
      rw [List.getElem?_eq_getElem hj] at h2
      injection h2 with h2
      rw [h2]; exact HNO.out j _ (by omega) (List.getElem?_eq_getElem hjl)
end Go.Proofs.YtenbdoceaabecaaGreat

namespace Go.Proofs.YtenbdoceaabecaaGreat
open Go.ChangeShapes Go.WideShapes Go.ChangeAt Go.RowKit Go.Maps
set_option linter.unusedVariables false
set_option linter.unusedSimpArgs false
theorem nd_info : (Tryz.prog.info? 91).map (fun i => (i.zero, i.size, i.bytes)) = some (some (.agg #[.string ByteArray.empty, .string ByteArray.empty, .slice none 0 0, .int .i64 0, .int .i64 0, .int .i64 0, .int .i64 0, .int .i64 0, .int .i64 0, .int .i64 0, .int .i64 0, .int .i64 0]), 12, 128) := by kernel_rfl
theorem nd_row : RowTy Tryz.prog 92 91 12 128 := RowTy.of Tryz.underlying92 nd_info rfl (by decide)
/-- a node changed in place -/
def modN (R : RT) (i : Nat) (f : RN → RN) : RT := { R with N := R.N.modify i f }
theorem map_modify {α β : Type} (f : α → β) (g : α → α) (g' : β → β) (h : ∀ a, f (g a) = g' (f a)) : ∀ (l : List α) (i : Nat), (l.modify i g).map f = (l.map f).modify i g'
  | [], i => by cases i <;> rfl
  | a :: l, 0 => by simp [List.modify_zero_cons, h]
  | a :: l, i + 1 => by simp [List.modify_succ_cons, map_modify f g g' h l i]
/-- the i-th node's j-th cell is written, by a change that keeps the ACL -/
theorem RD.modify {w : World} {b : Nat} {R : RT} {L : List (RN × Value)} {g cap : Nat} {sv : Value} (h : RD w b R L (.slice (some ⟨g, 0, none⟩) L.length cap) sv) {i j : Nat} {u : Value} {f : RN → RN} (hi : i < L.length) (hj : j < 12)
    (hf : ∀ p : RN × Value, ndL (f p.1, p.2) = (ndL p).set j u) (ha : ∀ n, (f n).acl = n.acl) :
    RD (w.setCell ⟨g, i * 12 + j, none⟩ u) b (modN R i f) (L.modify i fun p => (f p.1, p.2)) (.slice (some ⟨g, 0, none⟩) L.length cap) sv := by
  have hgb : ∀ k, RBs w b k → k = g → k ≠ b := fun k _ e => by
    subst e
    rintro rfl
    obtain ⟨_, _, cur, hc⟩ := own_lo h.n rfl
    rw [h.at_] at hc
    injection hc with hc
    injection hc with _ hc
    have h9 : (95 : TypeId) = 91 := hc
    exact absurd h9 (by decide)
  obtain ⟨_, _, cur, hcg⟩ := own_lo h.n rfl
  have hk := kept_set w g (i * 12 + j) u
  have hne : ∀ k cur' e, w.heap[k]? = some (.cells cur' e (0, 0)) → e ≠ 91 → ¬ k = g := fun k cur' e hc hne' e' => by
    subst e'
    rw [hcg] at hc
    injection hc with hc
    injection hc with _ hc
    exact hne' hc.symm
  have hs := own_set h.n (j := i * 12 + j) (by rw [ndC, flat_len ndL_len]; omega) u
  refine ⟨?_, ?_, ?_, ?_, ?_⟩
  · rw [hk.block b (lt_of_block h.at_) (hne _ _ _ h.at_ (by decide))]; exact h.at_
  · rw [ndC, flat_set (g := fun p : RN × Value => (f p.1, p.2)) ndL_len hj hf L i hi] at hs
    rw [List.length_modify]; exact hs
  · rw [map_modify (fun p : RN × Value => p.1) _ f (fun _ => rfl), h.eq]; rfl
  · intro p hp
    have : ∃ p0 ∈ L, p.2 = p0.2 ∧ p.1.acl = p0.1.acl := by
      obtain ⟨k, hk, rfl⟩ := List.getElem_of_mem hp
      rw [List.length_modify] at hk
      refine ⟨L[k], List.getElem_mem hk, ?_⟩
      rw [List.getElem_modify]
      split
      · exact ⟨rfl, ha _⟩
      · exact ⟨rfl, rfl⟩
    obtain ⟨p0, hp0, e1, e2⟩ := this
    rw [e1, e2]
    refine ⟨ownKept (h.acl p0 hp0).own hk (fun k e => ?_), (h.acl p0 hp0).room⟩
    obtain ⟨_, _, cur', hc'⟩ := own_lo (h.acl p0 hp0).own e
    exact hne k _ _ hc' (by decide)
  · refine ownKept h.s hk (fun k e => ?_)
    obtain ⟨_, _, cur', hc'⟩ := own_lo h.s e
    exact hne k _ _ hc' (by decide)
theorem RStep.set {w : World} {b : Nat} {R : RT} {L : List (RN × Value)} {g cap n : Nat} {sv : Value} (h : RD w b R L (.slice (some ⟨g, 0, none⟩) n cap) sv) (i : Nat) (u : Value) (hne : ¬ b = g) : RStep w b (w.setCell ⟨g, i, none⟩ u) := by
  have hk := kept_set w g i u
  refine ⟨hk.mono (fun k _ e => ?_), fun k hk' => .inl ((rbs_kept hk (lt_of_block h.at_) hne k).1 hk')⟩
  subst e
  exact (h.bs k).2 (.inr (.inl rfl))
theorem RD.gne {w : World} {b : Nat} {R : RT} {L : List (RN × Value)} {g cap n : Nat} {sv : Value} (h : RD w b R L (.slice (some ⟨g, 0, none⟩) n cap) sv) : ¬ b = g := by
  rintro rfl
  obtain ⟨_, _, cur, hc⟩ := own_lo h.n rfl
  rw [h.at_] at hc
  injection hc with hc
  injection hc with _ hc
  have h9 : (95 : TypeId) = 91 := hc
  exact absurd h9 (by decide)
def RPost (w : World) (b : Nat) (R' : RT) (e : Ending) (w' : World) : Prop := e = .returned (.tuple #[]) ∧ RAt w' b R' ∧ RStep w b w'
def kidF (cv zx : Int) (n : RN) : RN := { n with st := { n.st with cver := cv, pz := zx } }
def kidR (R : RT) (p : ByteArray) (cv zx : Int) : RT := if 0 ≤ placeI R.N p then modN R (placeI R.N p).toNat (kidF cv zx) else R
theorem modify_modify {α : Type} (f g : α → α) : ∀ (l : List α) (i : Nat), (l.modify i f).modify i g = l.modify i (fun a => g (f a))
  | [], i => by cases i <;> rfl
  | a :: l, 0 => by simp [List.modify_zero_cons]
  | a :: l, i + 1 => by simp [List.modify_succ_cons, modify_modify f g l i]
set_option maxRecDepth 100000 in
set_option maxHeartbeats 400000 in
theorem rkid_any {w : World} {b : Nat} {R : RT} (h : RAt w b R) (p : ByteArray) (cv zx : Int) :
    Calls Tryz.prog 122 #[.pointer (some ⟨b, 0, none⟩), .string p, .int .i64 cv, .int .i64 zx] w (RPost w b (kidR R p cv zx)) := by
  have HP := Lib.hid (place_any h p)
  obtain ⟨L, nv, sv, hD⟩ := h
  obtain ⟨a, cap, rfl, hcap, hnode⟩ := hD.node
  have HD := Lib.hid hD
  rcases placeI_cases R.N p with ⟨hpl, _⟩ | ⟨i, hi, hpl, h8, h9⟩
  · have HE : Hid (kidR R p cv zx = R) := Lib.hid (by unfold kidR; rw [hpl]; rfl)
    rw [hpl] at HP
    clear hpl hnode hD
    go_enter Tryz.func122, Tryz.ntmps122
    go_wp2_with fail
    refine HP.out.mono ?_
    rintro e w' ⟨rfl, rfl⟩
    go_wp2_with fail
    go_end0
    rw [HE.out]
    exact ⟨rfl, ⟨_, _, _, HD.out⟩, RStep.refl _ _⟩
  · have HE : Hid (kidR R p cv zx = modN R i (kidF cv zx)) := Lib.hid (by unfold kidR; rw [hpl, if_pos (by omega)]; rfl)
    rw [hpl] at HP
    have hil : i < L.length := by rw [rd_len hD]; exact hi
    obtain ⟨g, q, rfl, hg, hq, hc, hfz⟩ := hnode i hil
    obtain ⟨c0, c1, c2, cf⟩ := hD.cells
    have hne := hD.gne
    have x7 := hc 7 _ rfl
    have x5 := hc 5 _ rfl
    have f7 := hfz (i * 12 + 7)
    have f5 := hfz (i * 12 + 5)
    have hmax := own_max hD.n
    unfold maxLen at hmax
    clear hpl hnode hq hc hD hfz h8 h9 hi
    go_enter Tryz.func122, Tryz.ntmps122
    go_wp2_with fail
    refine HP.out.mono ?_
    rintro e w' ⟨rfl, rfl⟩
    go_wp2_with fail
    go_end0
    rw [HE.out]
    have m1 := HD.out.modify (f := fun n => { n with st := { n.st with cver := cv } }) hil (j := 7) (u := .int .i64 cv) (by decide) (fun _ => rfl) (fun _ => rfl)
    have s1 := RStep.set HD.out (i * 12 + 7) (.int .i64 cv) HD.out.gne
    have hl1 : (L.modify i fun p => ((fun n : RN => { n with st := { n.st with cver := cv } }) p.1, p.2)).length = L.length := List.length_modify ..
    rw [← hl1] at m1
    have m2 := m1.modify (f := fun n => { n with st := { n.st with pz := zx } }) (i := i) (by rw [hl1]; exact hil) (j := 5) (u := .int .i64 zx) (by decide) (fun _ => rfl) (fun _ => rfl)
    have s2 := RStep.set m1 (i * 12 + 5) (.int .i64 zx) m1.gne
    refine ⟨rfl, ?_, s1.trans s2⟩
    have e2 : modN (modN R i fun n => { n with st := { n.st with cver := cv } }) i (fun n => { n with st := { n.st with pz := zx } }) = modN R i (kidF cv zx) := by
      unfold modN
      rw [modify_modify]; rfl
    rw [e2] at m2
    exact ⟨_, _, _, m2⟩
end Go.Proofs.YtenbdoceaabecaaGreat
