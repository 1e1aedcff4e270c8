/- Owned. Acl. (At a seat that holds it: .Z.) The contracts of maps.Keys, slices.Sorted and slices.Sort at numbers, laid over this program by the kit (no walk). Sessions. (At a seat that holds it: .Z.) -/
import Derived.Test.YtenbdoceaabecaaGreatP37
import Derived.Test.YtenbdoceaabecaaGreatP09
import Derived.Shelf.SlGeneric
import Derived.Shelf.SlIterI.Nil
import Derived.Shelf.SlIterI.Sorted
import Derived.Shelf.SortM.Plain
import Derived.Shelf.SortM.SortNone
import Derived.Test.YtenbdoceaabecaaGreatProg
import Derived.Test.YtenbdoceaabecaaGreatP10
import Derived.Lib.SlKeysI
namespace Go.Proofs.YtenbdoceaabecaaGreat
open Go.ChangeShapes Go.WideShapes Go.ChangeAt Go.RowKit Go.Maps
set_option linter.unusedVariables false
set_option linter.unusedSimpArgs false
section
variable {Z : Nat → Prop} {w w' : World} {q : TB} {M : TM} {c : Nat} {D E : DV}
def OwnedBy (M : TM) (s : Int) (x : ByteArray) : Prop := ∃ nd, M.N (keyB x) = some nd ∧ nd.st.owner = s
set_option maxRecDepth 100000 in
set_option maxHeartbeats 2000000 in
theorem owned_any (h : TAt Z w q M c) (s : Int) (hs0 : s ≠ 0) (hc : c ≤ 4000000000000) :
    Calls Tryz.prog 42 #[.pointer (some ⟨q.t, 0, none⟩), .int .i64 s] w (TextsPost w (OwnedBy M s)) := by
  obtain ⟨D, E, h⟩ := h
  obtain ⟨c0, c1, c2, f⟩ := h.three
  have HD := Lib.hid h
  have hlt := h.lt _ (.inl rfl)
  have hown := h.n
  have hsz := h.n.size_le
  have hnt := h.nt.1
  have hb0 : (s == 0) = false := by simpa using hs0
  clear h hs0
  go_enter Tryz.func42, Tryz.ntmps42
  go_wp2_with (first
    | (at_range; refine wpList_range_own _ rfl _ 83 rfl 9 98 keyS Tryz.underlying83 _ q.n c _ rfl hown ?_; intro w0 hrg0 hg0 hs0')
    | go_in)
  go_frame
  go_loopw [5, 6] (fun v5 _ wr => ∃ (left : Lit → Bool) (cnt : Nat) (l : List ByteArray), wr.ranges Tryz.prog 9 tok q.n w.heap.size c D left cnt ∧ Kept (fun _ => False) w wr ∧ StrAt (w.heap.size + 1) wr v5 l ∧ l.length + cnt ≤ c ∧ l.Nodup ∧
      (∀ x : ByteArray, x ∈ l ↔ OwnedBy M s x ∧ left (.string (keyB x)) = false) ∧ (∀ k, left (.string k) = true → (lookV D (.string k)).isSome = true))
    (fun _ _ wr => wr.rangeLeft q.n w.heap.size)
  case atStart =>
    refine ⟨_, _, [], hrg0, (Kept.of_grownBy hg0).mono (fun k _ e => by simp at e), strAt_nil _, by simpa using hsz, List.nodup_nil, fun x => ?_, fun k hk => by rw [lookV_isSome]; exact hk⟩
    constructor
    · intro hx; cases hx
    · rintro ⟨⟨nd, h1, _⟩, h3⟩
      have h9 := (HD.out.N (keyB x)).same
      rw [h1, lookV_isSome] at h9
      have h3 : has D (.string (keyB x)) = false := h3
      rw [h3] at h9; cases h9
  case round =>
    obtain ⟨left, cnt, l, hrg, hkw, hvs, hln, hnd, hI, hJ⟩ := hrel
    have HI := Lib.hid hI
    have HJ := Lib.hid hJ
    have HV := Lib.hid hvs
    have HKW := Lib.hid hkw
    have HL := Lib.hid hln
    have HND := Lib.hid hnd
    clear hI hJ hvs hkw hln hnd
    go_wp2_with (first
      | (at_next; refine wpList_next_ranges _ rfl _ rfl 9 keyS tok (fun x : ByteArray => Value.string x) id (fun key kl hkey => by obtain ⟨x, rfl, _⟩ := keyOf_string_inv hkey; exact ⟨x, rfl⟩) (fun v _ _ => ⟨v, rfl⟩) q.n w.heap.size c _ _ _ rfl hrg ?_ ?_)
      | go_in)
    · intro _ hl0
      have HSO := Lib.hid (sortS_call HV.out (by have := HL.out; omega))
      obtain ⟨a5, c5, rfl⟩ := own_shape HV.out
      go_wp2_with fail
      refine HSO.out.mono ?_
      rintro e w5 ⟨rfl, hv5, hg5⟩
      have HV5 := Lib.hid hv5
      have HK5 : Hid (Kept (fun _ => False) w w5) := Lib.hid (HKW.out.trans' (Kept.of_grownBy hg5) (fun k hk e => by have := (own_lo HV.out e.symm).1; omega))
      have HLN : Hid ((sortB l).length = l.length) := Lib.hid (by unfold sortB; simp)
      clear hv5 hg5
      go_wp2_with fail
      go_ret
      refine ⟨_, sortB l, rfl, sortB_sorted HND.out, fun x => ?_, row_mono HV5.out (Nat.le_succ _), HK5.out⟩
      rw [sortB_mem, HI.out x, hl0]; simp
    · intro x v kl yd yp w1 cnt1 hkey hlx hv hat hrg1 hlt1 hg1 hs1 hen
      obtain ⟨x', ex, rfl, hx⟩ := keyOf_string_inv hkey
      cases ex
      obtain ⟨rfl, _⟩ := tok_inj hv
      have hlv : lookV D (.string x.data.toList) = some v := lookV_some hat
      obtain ⟨nd, av, hMs, rfl, ha⟩ : ∃ nd av, M.N x.data.toList = some nd ∧ v = nodeV nd av ∧ AclAt w Z av nd.acl := by
        rcases HD.out.look x.data.toList with ⟨nd, av, h1, h2, h3⟩ | ⟨h1, h2⟩
        · rw [hlv] at h2; injection h2 with h2; exact ⟨nd, av, h1, h2, h3⟩
        · rw [hlv] at h2; cases h2
      obtain ⟨va, vn, vc, rfl⟩ := ha.shape
      have hkr : Kept (fun k => k = w.heap.size) _ w1 := kept_grown hg1 rfl
      have hkw1 : Kept (fun _ => False) w w1 := HKW.out.trans' hkr (fun k hk e => by omega)
      have HV1 := Lib.hid ((HV.out.kept hkr (own_ne HV.out (Nat.lt_succ_self _))).kept ((Kept.refl (fun _ => False) w1).alloc (nodeO nd.data va vn vc nd.st)) (fun _ _ f => f))
      have HVN := Lib.hid (own_ne HV.out (Nat.lt_succ_self w.heap.size))
      have HVM := Lib.hid (own_ne HV.out (b := q.n) (Nat.lt_succ_of_lt (HD.out.lt _ (.inr (.inl rfl)))))
      have HK1 := Lib.hid hkw1
      have hbig : w.heap.size + 1 ≤ (w1.alloc (nodeO nd.data va vn vc nd.st)).heap.size := Nat.le_trans hrg1.lt (by simp)
      have HIx : ∀ k, (Lit.string k).sameKey (.string x.data.toList) = true → k = x.data.toList := fun k e => by
        have := WideAt.sameKey_eq e; injection this
      have HXs : (Lit.string x.data.toList).sameKey (.string x.data.toList) = true := WideAt.sameKey_self trivial
      have HNK := Lib.hid (fun (y : ByteArray) (hy : y ≠ x) => show (Lit.string y.data.toList).sameKey (.string x.data.toList) = false from by
        cases hh : (Lit.string y.data.toList).sameKey (.string x.data.toList) with
        | false => rfl
        | true => exact absurd (ba_inj (HIx _ hh)) hy)
      have hlen := HL.out
      have hll : l.length ≤ 4000000000000 := by omega
      have HLL := Lib.hid hll
      have hln1 : l.length + 1 + cnt1 ≤ c := by omega
      have HLN := Lib.hid hln1
      have HMS := Lib.hid hMs
      have hrg2 := hrg1.alloc (nodeO nd.data va vn vc nd.st)
      have HRG2 := Lib.hid hrg2
      clear hkr hkw1 hlen hll hln1 hsz hc HL hs1 hv hat hlv ha hMs
      unfold nodeV at hen
      by_cases hox : nd.st.owner = s
      · subst hox
        go_wp2_with (first
          | (at_builtin; go_loud (refine wpList_strs1 rfl _ _ rfl (w.heap.size + 1) _ l rfl HV1.out x (by first | rfl | (show Value.slice (some ⟨w1.heap.size + 1, 0, none⟩) 1 1 = Value.slice (some ⟨(w1.alloc _).heap.size, 0, none⟩) 1 1; simp)) HLL.out hbig (fun v2 w2 hv2 hg2 => ?_)); have HV2 := Lib.hid hv2; have HG2 := Lib.hid hg2; clear hv2 hg2)
          | go_in)
        have hkk : Kept (fun _ => False) w w2 := ((HK1.out.alloc _).alloc _).trans' (Kept.of_grownBy HG2.out) (fun k hk e => by have h9 := own_ge HV1.out e.symm; omega)
        have hr2 := (HRG2.out.alloc (.cells #[.string x] 9)).kept HG2.out (fun e => HVM.out _ e.symm rfl) (fun e => HVN.out _ e.symm rfl)
        go_roundw
        case rel =>
          refine ⟨_, cnt1, l ++ [x], hr2, hkk, HV2.out, by rw [List.length_append]; exact HLN.out, ?_, fun y => ?_, fun k hk => HJ.out k (by simp at hk; exact hk.1)⟩
          · refine List.nodup_append.2 ⟨HND.out, by simp, fun a ha b hb e => ?_⟩
            simp only [List.mem_singleton] at hb
            subst hb; subst e
            have := ((HI.out _).1 ha).2
            rw [hlx] at this; cases this
          · by_cases e : y = x
            · subst e
              have ho : OwnedBy M nd.st.owner y := ⟨nd, HMS.out, rfl⟩
              simp [ho, HXs]
            · have h9 := HNK.out y e
              rw [List.mem_append, List.mem_singleton, HI.out y, h9]
              simp [e]
        case measure => rw [hr2.left_eq, hrg.left_eq]; exact hlt1
      · go_wp2_with fail
        go_roundw
        case rel =>
          refine ⟨_, cnt1, l, HRG2.out, HK1.out.alloc _, HV1.out, by have := HLN.out; omega, HND.out, fun y => ?_, fun k hk => HJ.out k (by simp at hk; exact hk.1)⟩
          by_cases e : y = x
          · subst e
            rw [HI.out y]
            have ho : ¬ OwnedBy M s y := by
              rintro ⟨nd', h1, h2⟩
              have h3 : M.N (keyB y) = some nd := HMS.out
              rw [h3] at h1; injection h1 with h1
              exact hox (h1 ▸ h2)
            simp [ho]
          · have h9 := HNK.out y e
            rw [HI.out y, h9]; simp
        case measure => rw [HRG2.out.left_eq, hrg.left_eq]; exact hlt1
end
end Go.Proofs.YtenbdoceaabecaaGreat

namespace Go.Proofs.YtenbdoceaabecaaGreat
open Go.ChangeShapes Go.WideShapes Go.ChangeAt Go.RowKit Go.Maps
set_option linter.unusedVariables false
set_option linter.unusedSimpArgs false
section
variable {Z : Nat → Prop} {w w' : World} {q : TB} {M : TM} {c : Nat} {D E : DV}
def AclPost (w : World) (M : TM) (p : ByteArray) (e : Ending) (w' : World) : Prop := Kept (fun _ => False) w w' ∧
  ((M.N p.data.toList = none ∧ e = .returned (.tuple #[.slice none 0 0, .int .i64 60])) ∨
   ∃ nd v, M.N p.data.toList = some nd ∧ e = .returned (.tuple #[v, .int .i64 0]) ∧ w'.ownsRow w.heap.size 89 2 v nd.acl.length (aclC nd.acl))
set_option maxRecDepth 100000 in
set_option maxHeartbeats 1000000 in
theorem acl_any (h : TAt Z w q M c) (p : ByteArray) (hp : p.size ≤ 140737488355328) :
    Calls Tryz.prog 37 #[.pointer (some ⟨q.t, 0, none⟩), .string p] w (AclPost w M p) := by
  obtain ⟨D, E, h⟩ := h
  obtain ⟨c0, c1, c2, f⟩ := h.three
  rcases h.look p.data.toList with ⟨nd, av, hM, hL, ha⟩ | ⟨hM, hL⟩
  · obtain ⟨va, vn, vc, rfl⟩ := ha.shape
    have hrun := h.lookNode p hp
    rw [hL] at hrun
    simp only [Option.getD_some, Option.isSome_some, nodeV] at hrun
    have HM := Lib.hid hM
    have hk1 : Kept (fun _ => False) w (w.alloc (nodeO nd.data va vn vc nd.st)) := (Kept.refl _ w).alloc _
    have HIN := Lib.hid ((aclIn_own ha.1 ha.2.2).kept hk1 (fun _ _ _ _ f => f))
    have HK1 := Lib.hid hk1
    clear h hL ha hM hk1
    go_enter Tryz.func37, Tryz.ntmps37
    go_wp2_with (first
      | (go_at_call 79; refine (clone_any HIN.out).mono ?_; rintro e w5 ⟨v', rfl, hown, hk5⟩)
      | fail)
    go_ret2
    exact ⟨HK1.out.trans hk5, .inr ⟨nd, v', HM.out, rfl, row_mono hown (by simp)⟩⟩
  · have hrun := h.lookNode p hp
    rw [hL] at hrun
    simp only [Option.getD_none, Option.isSome_none, node0] at hrun
    clear h hL
    go_enter Tryz.func37, Tryz.ntmps37
    go_wp2_with fail
    go_ret2
    exact ⟨(Kept.refl _ w).alloc _, .inl ⟨hM, rfl⟩⟩
end
end Go.Proofs.YtenbdoceaabecaaGreat

namespace Go.Proofs
open Go.Shelf
def Tryz.keysI_ren : Go.Shelf.Ren := ⟨fun | 7 => 87 | 10 => 113 | n => n, fun | 23 => 84 | 26 => 3 | 3 => 101 | 28 => 172 | 0 => 0 | 27 => 171 | 33 => 189 | 4 => 4 | n => n, fun | n => n⟩
theorem Tryz.keysI : Go.Proofs.SlLaysZI.n7 Tryz.prog Tryz.keysI_ren := {
  mixed := by kernel_rfl
  f7 := ⟨Tryz.f87.name, by decide, Tryz.func87.trans (congrArg some (by kernel_rfl))⟩
  f10 := ⟨Tryz.f113.name, by decide, Tryz.func113.trans (congrArg some (by kernel_rfl))⟩
  t0 := Tryz.underlying0
  a0 := Tryz.isAgg0
  z0 := Tryz.sizeOf0
  v0 := Tryz.zeroValue0
  t4 := Tryz.underlying4
  a4 := Tryz.isAgg4
  z4 := Tryz.sizeOf4
  v4 := Tryz.zeroValue4
  t23 := Tryz.underlying84
  a23 := Tryz.isAgg84
  z23 := Tryz.sizeOf84
  v23 := Tryz.zeroValue84
  t26 := Tryz.underlying3
  a26 := Tryz.isAgg3
  z26 := Tryz.sizeOf3
  v26 := Tryz.zeroValue3
  t27 := Tryz.underlying171
  a27 := Tryz.isAgg171
  z27 := Tryz.sizeOf171
  v27 := Tryz.zeroValue171
  t28 := Tryz.underlying172
  a28 := Tryz.isAgg172
  z28 := Tryz.sizeOf172
  v28 := Tryz.zeroValue172
  t33 := Tryz.underlying189
  a33 := Tryz.isAgg189
  z33 := Tryz.sizeOf189
  v33 := Tryz.zeroValue189 }
def Tryz.sortedI_ren : Go.Shelf.Ren := ⟨fun | 6 => 86 | 8 => 112 | 9 => 105 | 11 => 144 | 13 => 108 | 12 => 128 | 23 => 141 | 24 => 142 | 14 => 150 | 15 => 151 | 16 => 152 | 17 => 153 | 18 => 154 | 19 => 155 | 20 => 156 | 21 => 157 | 22 => 158 | 25 => 170 | 26 => 161 | 27 => 162 | 28 => 171 | 29 => 172 | 30 => 173 | 31 => 176 | n => n, fun | 26 => 3 | 28 => 172 | 24 => 111 | 0 => 0 | 3 => 3 | 37 => 187 | 48 => 214 | 50 => 216 | 4 => 4 | 40 => 208 | 39 => 207 | 45 => 183 | 5 => 5 | 9 => 9 | 51 => 227 | 55 => 231 | 57 => 238 | 58 => 157 | 33 => 189 | n => n, fun | n => n⟩
theorem Tryz.sortedI : Go.Proofs.SlLaysZI.n6 Tryz.prog Tryz.sortedI_ren := {
  mixed := by kernel_rfl
  f6 := ⟨Tryz.f86.name, by decide, Tryz.func86.trans (congrArg some (by kernel_rfl))⟩
  f8 := ⟨Tryz.f112.name, by decide, Tryz.func112.trans (congrArg some (by kernel_rfl))⟩
  f11 := ⟨Tryz.f144.name, by decide, Tryz.func144.trans (congrArg some (by kernel_rfl))⟩
  t0 := Tryz.underlying0
  a0 := Tryz.isAgg0
  z0 := Tryz.sizeOf0
  v0 := Tryz.zeroValue0
  t24 := Tryz.underlying111
  a24 := Tryz.isAgg111
  z24 := Tryz.sizeOf111
  v24 := Tryz.zeroValue111
  t26 := Tryz.underlying3
  a26 := Tryz.isAgg3
  z26 := Tryz.sizeOf3
  v26 := Tryz.zeroValue3
  t28 := Tryz.underlying172
  a28 := Tryz.isAgg172
  z28 := Tryz.sizeOf172
  v28 := Tryz.zeroValue172
  i26 := by kernel_rfl }
def Tryz.sortI_ren : Go.Shelf.Ren := ⟨fun | 5 => 105 | 8 => 108 | 7 => 128 | 19 => 141 | 20 => 142 | 10 => 150 | 11 => 151 | 12 => 152 | 13 => 153 | 14 => 154 | 15 => 155 | 16 => 156 | 17 => 157 | 18 => 158 | 30 => 170 | 31 => 161 | 32 => 162 | 33 => 171 | 34 => 172 | 35 => 173 | 40 => 176 | n => n, fun | 23 => 111 | 25 => 3 | 3 => 3 | 32 => 187 | 22 => 111 | 0 => 0 | 44 => 214 | 46 => 216 | 4 => 4 | 36 => 208 | 35 => 207 | 41 => 183 | 5 => 5 | 9 => 9 | 53 => 227 | 57 => 231 | 63 => 238 | 64 => 157 | n => n, fun | n => n⟩
theorem Tryz.sortI : Go.Proofs.SlLaysM.n5 Tryz.prog Tryz.sortI_ren := {
  mixed := by kernel_rfl
  f5 := ⟨Tryz.f105.name, by decide, Tryz.func105.trans (congrArg some (by kernel_rfl))⟩
  f7 := ⟨Tryz.f128.name, by decide, Tryz.func128.trans (congrArg some (by kernel_rfl))⟩
  f8 := Tryz.func108.trans (congrArg some (by kernel_rfl))
  f10 := ⟨Tryz.f150.name, by decide, Tryz.func150.trans (congrArg some (by kernel_rfl))⟩
  f11 := ⟨Tryz.f151.name, by decide, Tryz.func151.trans (congrArg some (by kernel_rfl))⟩
  f12 := ⟨Tryz.f152.name, by decide, Tryz.func152.trans (congrArg some (by kernel_rfl))⟩
  f13 := ⟨Tryz.f153.name, by decide, Tryz.func153.trans (congrArg some (by kernel_rfl))⟩
  f14 := ⟨Tryz.f154.name, by decide, Tryz.func154.trans (congrArg some (by kernel_rfl))⟩
  f15 := ⟨Tryz.f155.name, by decide, Tryz.func155.trans (congrArg some (by kernel_rfl))⟩
  f16 := ⟨Tryz.f156.name, by decide, Tryz.func156.trans (congrArg some (by kernel_rfl))⟩
  f17 := ⟨Tryz.f157.name, by decide, Tryz.func157.trans (congrArg some (by kernel_rfl))⟩
  f18 := ⟨Tryz.f158.name, by decide, Tryz.func158.trans (congrArg some (by kernel_rfl))⟩
  f19 := Tryz.func141.trans (congrArg some (by kernel_rfl))
  f20 := Tryz.func142.trans (congrArg some (by kernel_rfl))
  f30 := ⟨Tryz.f170.name, by decide, Tryz.func170.trans (congrArg some (by kernel_rfl))⟩
  f31 := Tryz.func161.trans (congrArg some (by kernel_rfl))
  f32 := Tryz.func162.trans (congrArg some (by kernel_rfl))
  f33 := ⟨Tryz.f171.name, by decide, Tryz.func171.trans (congrArg some (by kernel_rfl))⟩
  f34 := ⟨Tryz.f172.name, by decide, Tryz.func172.trans (congrArg some (by kernel_rfl))⟩
  f35 := ⟨Tryz.f173.name, by decide, Tryz.func173.trans (congrArg some (by kernel_rfl))⟩
  f40 := ⟨Tryz.f176.name, by decide, Tryz.func176.trans (congrArg some (by kernel_rfl))⟩
  t0 := Tryz.underlying0
  a0 := Tryz.isAgg0
  z0 := Tryz.sizeOf0
  v0 := Tryz.zeroValue0
  t3 := Tryz.underlying3
  a3 := Tryz.isAgg3
  z3 := Tryz.sizeOf3
  v3 := Tryz.zeroValue3
  t4 := Tryz.underlying4
  a4 := Tryz.isAgg4
  z4 := Tryz.sizeOf4
  v4 := Tryz.zeroValue4
  t5 := Tryz.underlying5
  a5 := Tryz.isAgg5
  z5 := Tryz.sizeOf5
  v5 := Tryz.zeroValue5
  t9 := Tryz.underlying9
  a9 := Tryz.isAgg9
  z9 := Tryz.sizeOf9
  v9 := Tryz.zeroValue9
  t22 := Tryz.underlying111
  a22 := Tryz.isAgg111
  z22 := Tryz.sizeOf111
  v22 := Tryz.zeroValue111
  t23 := Tryz.underlying111
  a23 := Tryz.isAgg111
  z23 := Tryz.sizeOf111
  v23 := Tryz.zeroValue111
  t25 := Tryz.underlying3
  a25 := Tryz.isAgg3
  z25 := Tryz.sizeOf3
  v25 := Tryz.zeroValue3
  t32 := Tryz.underlying187
  a32 := Tryz.isAgg187
  z32 := Tryz.sizeOf187
  v32 := Tryz.zeroValue187
  t35 := Tryz.underlying207
  a35 := Tryz.isAgg207
  z35 := Tryz.sizeOf207
  v35 := Tryz.zeroValue207
  t36 := Tryz.underlying208
  a36 := Tryz.isAgg208
  z36 := Tryz.sizeOf208
  v36 := Tryz.zeroValue208
  t41 := Tryz.underlying183
  a41 := Tryz.isAgg183
  z41 := Tryz.sizeOf183
  v41 := Tryz.zeroValue183
  t44 := Tryz.underlying214
  a44 := Tryz.isAgg214
  z44 := Tryz.sizeOf214
  v44 := Tryz.zeroValue214
  t46 := Tryz.underlying216
  a46 := Tryz.isAgg216
  z46 := Tryz.sizeOf216
  v46 := Tryz.zeroValue216
  t53 := Tryz.underlying227
  a53 := Tryz.isAgg227
  z53 := Tryz.sizeOf227
  v53 := Tryz.zeroValue227
  t57 := Tryz.underlying231
  a57 := Tryz.isAgg231
  z57 := Tryz.sizeOf231
  v57 := Tryz.zeroValue231
  t63 := Tryz.underlying238
  a63 := Tryz.isAgg238
  z63 := Tryz.sizeOf238
  v63 := Tryz.zeroValue238
  t64 := Tryz.underlying157
  a64 := Tryz.isAgg157
  z64 := Tryz.sizeOf157
  v64 := Tryz.zeroValue157 }
end Go.Proofs

namespace Go.Proofs.YtenbdoceaabecaaGreat
open Go.ChangeShapes Go.WideShapes Go.ChangeAt Go.RowKit Go.Maps Go.Sort Go.Shelf Go.Proofs
set_option linter.unusedVariables false
set_option linter.unusedSimpArgs false
/-- rising numbers, told in a new row -/
def NumsPost (w : World) (P : Int → Prop) (e : Ending) (w' : World) : Prop := ∃ (v : Value) (l : List Int), e = .returned v ∧ l.Pairwise (fun a b : Int => a < b) ∧ (∀ x, x ∈ l ↔ P x) ∧ w'.ownsRow w.heap.size 3 1 v l.length (l.map encZ) ∧ Kept (fun _ => False) w w'
section
variable {Z : Nat → Prop} {w w' : World} {q : TB} {M : TM} {c : Nat} {D E : DV}
theorem keys_nums {k : Nat} {E0 : DV} (hown : w.ownsMap Tryz.prog 3 tok k c E0) {ss : List Int} (h : ss.Perm (intKeys E0)) : ss.Nodup ∧ ∀ x, x ∈ ss ↔ (lookV E0 (.int .i64 x)).isSome = true := by
  obtain ⟨es, rfl, hp⟩ := hown.tidy keyI
  obtain ⟨es', he, hk⟩ := hown.keysOf
  obtain rfl : es = es' := by simpa using he
  have hk' : ∀ p ∈ es, ∃ x, p.1 = .int .i64 x := by
    intro p hp
    obtain ⟨key, hkey⟩ := hk p hp
    obtain ⟨x, _, h2, _⟩ := keyOf_i64 Tryz.underlying3 hkey
    exact ⟨x, h2⟩
  have hnd : (intKeys (.map es : DV)).Nodup := by
    show (es.map fun p => Go.intOf p.1).Nodup
    refine List.pairwise_map.2 (hp.imp_of_mem fun {p q} hp' hq' hne e => hne ?_)
    obtain ⟨a, ha⟩ := hk' p hp'
    obtain ⟨b, hb⟩ := hk' q hq'
    rw [ha, hb] at e ⊢
    exact congrArg _ e
  refine ⟨h.nodup_iff.2 hnd, fun x => ?_⟩
  rw [h.mem_iff, lookV_isSome, has_eq, List.any_eq_true]
  show x ∈ (es.map fun p => Go.intOf p.1) ↔ _
  rw [List.mem_map]
  constructor
  · rintro ⟨p, hp', rfl⟩
    obtain ⟨a, ha⟩ := hk' p hp'
    exact ⟨p, hp', by rw [ha]; simp [Lit.sameKey, Go.intOf]⟩
  · rintro ⟨p, hp', hs⟩
    obtain ⟨a, ha⟩ := hk' p hp'
    rw [ha] at hs
    exact ⟨p, hp', by rw [ha]; simpa [Lit.sameKey, Go.intOf] using hs⟩
theorem keysI_call (mb : Nat) (W : World) : Calls Tryz.prog 87 #[.map (some mb)] W fun e w' => e = .returned (.func (.func 113) #[] #[.pointer (some ⟨W.heap.size, 0, none⟩)]) ∧ w' = W.alloc (.cells #[.map (some mb)] 84) :=
  (callsIn_wide (n := 6)).1 (AnyZI.keys_in Tryz.keysI Fence.wide 6 trivial rfl (some mb) W)
theorem sortsI (m : Nat) : AnyZI.SortsIn Tryz.prog Tryz.sortedI_ren Fence.wide m :=
  ⟨fun blk off cap ss W hH hblk hsz => callsIn_wide.2 (AnyM.slices_Sort_int Tryz.sortI blk off cap ss W hH hblk hsz),
   fun p cap W => callsIn_wide.2 (AnyM.slices_Sort_int_none Tryz.sortI p cap W)⟩
theorem nums_sorted {l : List Int} (h : l.Nodup) : (l.mergeSort (fun x y => decide (x ≤ y))).Pairwise (fun a b : Int => a < b) := by
  have tr : ∀ a b c : Int, decide (a ≤ b) = true → decide (b ≤ c) = true → decide (a ≤ c) = true := fun a b c h1 h2 => by simp only [decide_eq_true_eq] at *; exact Int.le_trans h1 h2
  have tot : ∀ a b : Int, (decide (a ≤ b) || decide (b ≤ a)) = true := fun a b => by simp only [Bool.or_eq_true, decide_eq_true_eq]; exact Int.le_total a b
  have h1 := List.pairwise_mergeSort tr tot l
  have hn : (l.mergeSort (fun x y => decide (x ≤ y))).Nodup := ((List.mergeSort_perm _ _).nodup_iff).2 h
  refine (List.Pairwise.and h1 hn).imp fun {a b} hab => ?_
  have := hab.1
  simp only [decide_eq_true_eq] at this
  have h2 := hab.2
  omega
set_option maxHeartbeats 1000000 in
theorem sortedI_call {W : World} {k : Nat} {E0 : DV} (hown : W.ownsMap Tryz.prog 3 tok k c E0) (hN : size E0 ≤ 4000000000000) :
    Calls Tryz.prog 86 #[.func (.func 113) #[] #[.pointer (some ⟨W.heap.size, 0, none⟩)]] (W.alloc (.cells #[.map (some k)] 84)) (NumsPost (W.alloc (.cells #[.map (some k)] 84)) (fun x => (lookV E0 (.int .i64 x)).isSome = true)) := by
  have hseq : SeqGives Fence.wide 2 Tryz.prog 113 #[.pointer (some ⟨W.heap.size, 0, none⟩)] encZ (fun ss => ss.Perm (intKeys E0)) (size E0) (W.alloc (.cells #[.map (some k)] 84)) :=
    AnyZI.keys_gives (ρ := Tryz.keysI_ren) { Tryz.keysI with } Fence.wide _ trivial rfl (by omega) W.heap.size k c E0 _ (by simp) (by simp) (hown.alloc _)
  have h := AnyZI.sorted_in Tryz.sortedI Fence.wide 5 trivial trivial trivial trivial rfl (by omega) (sortsI _) (enters_of Tryz.func105 (by kernel_rfl) rfl) 113 #[.pointer (some ⟨W.heap.size, 0, none⟩)] trivial (enters_of Tryz.func113 (by kernel_rfl) rfl) _ _ (by unfold maxLen; omega) (by omega) _ hseq
  refine ((callsIn_wide (n := 5)).1 h).mono ?_
  rintro e w' ⟨v, ss, rfl, hS, hrow, _, hb⟩
  obtain ⟨hnd, hmem⟩ := keys_nums hown hS
  refine ⟨v, ss.mergeSort (fun x y => decide (x ≤ y)), rfl, nums_sorted hnd, fun x => ?_, ?_, ?_⟩
  · show _ ↔ (lookV E0 (.int .i64 x)).isSome = true
    rw [(List.mergeSort_perm _ _).mem_iff, hmem]
  · rw [List.length_mergeSort]; exact hrow
  · exact ⟨hb.os, hb.tape, hb.output, hb.size, fun k hk _ => hb.block k hk⟩
set_option maxRecDepth 100000 in
set_option maxHeartbeats 1000000 in
theorem sessions_any (h : TAt Z w q M c) (hc : c ≤ 4000000000000) :
    Calls Tryz.prog 47 #[.pointer (some ⟨q.t, 0, none⟩)] w (NumsPost w (fun x => (M.S x).isSome = true)) := by
  obtain ⟨D, E, h⟩ := h
  obtain ⟨c0, c1, c2, f⟩ := h.three
  have HD := Lib.hid h
  have HK := Lib.hid (keysI_call q.s w)
  have HS := Lib.hid (sortedI_call h.s (Nat.le_trans h.s.size_le hc))
  clear h
  go_enter Tryz.func47, Tryz.ntmps47
  go_wp2_with fail
  refine HK.out.mono ?_
  rintro e w1 ⟨rfl, rfl⟩
  go_wp2_with fail
  refine HS.out.mono ?_
  rintro e w2 ⟨v, l, rfl, hs, hm, hv, hk⟩
  have HK2 := Lib.hid (((Kept.refl _ w).alloc _).trans hk)
  have HV := Lib.hid (row_mono hv (show w.heap.size ≤ _ by simp))
  clear hk hv
  go_wp2_with fail
  go_ret
  exact ⟨v, l, rfl, hs, fun x => by show _ ↔ (M.S x).isSome = true; rw [hm x, HD.out.S x]; cases M.S x <;> simp, HV.out, HK2.out⟩
end
end Go.Proofs.YtenbdoceaabecaaGreat
