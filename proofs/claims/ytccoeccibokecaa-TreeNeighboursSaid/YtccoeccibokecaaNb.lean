/- The small calls of a tree: mayCome, Zxid, LayZxid, LaySession; an ACL cloned; setKids. -/
import Derived.Test.YtccoeccibokecaaNa
import Derived.Laws.AppendOwn
import Derived.StringKeys
import Derived.Deep.RegionHeld3
import Derived.IntWalk
import Derived.OwnWalk
import Derived.BigQuiet
import Derived.Lib.SliceRun
namespace Go.Proofs.Ytccoeccibokecaa
open Go.ChangeShapes Go.WideShapes Go.ChangeAt Go.RowKit Go.Maps
set_option linter.unusedVariables false
set_option linter.unusedSimpArgs false
theorem checkS_len {p : ByteArray} (h : checkS p = 0) : p.data.toList.length ≤ 60 := by
  unfold checkS at h
  split at h
  · rename_i h1; rw [h1]; decide
  · show p.size ≤ 60
    cases hl : lens (parse p.data.toList) with
    | none => rw [hl] at h; simp [checkO] at h
    | some n =>
      rw [hl] at h
      unfold checkO at h
      split at h
      · exact absurd h (by omega)
      · omega
theorem keyStr {s : ByteArray} (h : s.size ≤ 140737488355328) : keyOf Try.prog 9 (.string s) = some (.string s.data.toList) := Go.WideMaps.keyOf_string_mk Try.underlying9 (by unfold maxLen; omega)
theorem mayCome_any (p : ByteArray) (w : World) (hp : p.size ≤ 140737488355328) : Calls Try.prog 74 #[.string p] w fun e w' => e = .returned (.bool (mayCome p)) ∧ Kept (fun _ => False) w w' := by
  have HC := Lib.hid (check_any p w hp)
  by_cases h : p.data.toList = [47]
  · have b1 : (p.toList == [47]) = true := by rw [eqSlash]; simpa using h
    have HE : Hid (mayCome p = false) := Lib.hid (by unfold mayCome; rw [decide_eq_false (fun e => e h)]; rfl)
    clear h
    go_enter Try.func74, Try.ntmps74
    go_wp2_with fail
    go_ret
    exact ⟨ret_bool HE.out.symm, Kept.refl _ _⟩
  · have b1 : (p.toList == [47]) = false := by rw [eqSlash]; simpa using h
    have HE : Hid (mayCome p = okP p) := Lib.hid (by unfold mayCome; rw [decide_eq_true h]; rfl)
    have HO : Hid (okP p = (checkS p == 0)) := Lib.hid (by unfold okP; by_cases h : checkS p = 0 <;> simp [h])
    clear h
    go_enter Try.func74, Try.ntmps74
    go_wp2_with fail
    refine HC.out.mono ?_
    rintro e w1 ⟨rfl, hb⟩
    have HB := Lib.hid hb
    clear hb
    go_wp2_with fail
    go_ret
    exact ⟨ret_bool (by rw [HE.out, HO.out]), keptB HB.out (Nat.le_refl _)⟩
section
variable {Z : Nat → Prop} {w w' : World} {q : TB} {M : TM} {c : Nat} {D E : DV}
theorem zxid_any (h : TAt Z w q M c) : Calls Try.prog 20 #[.pointer (some ⟨q.t, 0, none⟩)] w fun e w' => e = .returned (.int .i64 M.z) ∧ w = w' := by
  obtain ⟨D, E, h⟩ := h
  obtain ⟨c0, c1, c2, f⟩ := h.three
  clear h
  go_enter Try.func20, Try.ntmps20
  go_wp2
  go_ret
  exact ⟨rfl, rfl⟩
theorem TD.setZ (h : TD Z w q M c D E) (z : Int) : TD Z (w.setCell ⟨q.t, 2, none⟩ (.int .i64 z)) q { M with z := z } c D E := by
  have hk : Kept (fun k => k = q.t) w (w.setCell ⟨q.t, 2, none⟩ (.int .i64 z)) := kept_set w q.t 2 _
  have hnt := h.nt
  refine ⟨?_, ownsMap_kept h.n hk hnt.1, fun x => (h.N x).kept (hk.mono (T := TBs q) (fun j _ e => .inl e)) (fun b cur hb _ => h.noAcl b cur hb), ownsMap_kept h.s hk hnt.2, h.S, h.ns, h.okk, h.inZ, fun j hj => h.new j (Nat.le_trans hk.size hj)⟩
  have := heap_set (c := [.map (some q.n), .map (some q.s), .int .i64 M.z]) (i := 2) (.int .i64 z) h.at_
  exact this
theorem layZxid_any (h : TAt Z w q M c) (z : Int) : Calls Try.prog 19 #[.pointer (some ⟨q.t, 0, none⟩), .int .i64 z] w fun e w' => e = .returned (.tuple #[]) ∧ TAt Z w' q { M with z := z } c ∧ Kept (TBs q) w w' := by
  obtain ⟨D, E, h⟩ := h
  obtain ⟨c0, c1, c2, f⟩ := h.three
  have f2 := f 2
  have HZ := Lib.hid (h.setZ z)
  clear h f
  go_enter Try.func19, Try.ntmps19
  go_wp2
  go_end0
  exact ⟨rfl, ⟨D, E, HZ.out⟩, (kept_set w q.t 2 _).mono (fun j _ e => .inl e)⟩
set_option maxHeartbeats 1000000 in
theorem laySess_any (h : TAt Z w q M c) (id timeout : Int) (secret : ByteArray) (hi1 : -9223372036854775808 ≤ id) (hi2 : id ≤ 9223372036854775807) (hc : c < 4611686018427387904) :
    Calls Try.prog 55 #[.pointer (some ⟨q.t, 0, none⟩), .int .i64 id, .int .i64 timeout, .string secret] w fun e w' => e = .returned (.tuple #[]) ∧ TAt Z w' q (sessM M id timeout secret) (c + 1) ∧ Kept (TBs q) w w' := by
  obtain ⟨D, E, h⟩ := h
  obtain ⟨c0, c1, c2, f⟩ := h.three
  have HD := Lib.hid h
  by_cases hp : 0 < id
  · have HE : Hid (sessM M id timeout secret = { M with S := updN M.S id (some (timeout, secret)) }) := Lib.hid (by unfold sessM; rw [if_pos hp])
    obtain ⟨W', hrun, hown, hturn⟩ := h.s.store (t := 76) (e := 88) keyI Try.underlying76 (by unfold maxLen; omega) (key := .int .i64 id) (val := sessV (timeout, secret)) (keyOf_int_mk Try.underlying3 (WalkArith.wf_i64 (by omega))) (d := .held (sessV (timeout, secret))) (ps := []) rfl
    have HP := Lib.hid (h.putS hown (keptN hturn))
    have HK := Lib.hid ((keptN hturn).mono (T := TBs q) (fun j _ e => .inr (.inr e)))
    unfold sessV at hrun
    clear h hown hturn f
    go_enter Try.func55, Try.ntmps55
    go_wp2
    go_end0
    rw [HE.out]
    exact ⟨rfl, ⟨_, _, HP.out⟩, HK.out⟩
  · have HE : Hid (sessM M id timeout secret = M) := Lib.hid (by unfold sessM; rw [if_neg hp])
    clear h f
    go_enter Try.func55, Try.ntmps55
    go_wp2
    go_end0
    rw [HE.out]
    exact ⟨rfl, TAt.mono ⟨_, _, HD.out⟩ (Nat.le_succ _), Kept.refl _ _⟩
end
/-- an ACL that comes in -/
structure AclIn (w : World) (v : Value) (l : List AR) : Prop where
  ex : (v = .slice none 0 0 ∧ l = []) ∨ ∃ ad cap, v = .slice (some ad) l.length cap ∧ (∀ j u, (aclC l)[j]? = some u → w.cell? (ad.add j) = some u)
  room : l.length * 24 ≤ 140737488355328
theorem aclC_len (l : List AR) : (aclC l).length = l.length * 2 := by
  induction l with
  | nil => rfl
  | cons a l ih => unfold aclC at *; rw [List.flatMap_cons, List.length_append, ih]; simp [AR.cells]; omega
theorem aclC_one (l : List AR) : ∀ u ∈ aclC l, u.oneCell' = true := by
  intro u hu
  obtain ⟨r, _, hr⟩ := List.mem_flatMap.1 hu
  simp only [AR.cells, List.mem_cons, List.not_mem_nil, or_false] at hr
  rcases hr with rfl | rfl <;> rfl
theorem acl_info : (Try.prog.info? 81).map (fun i => (i.zero, i.size, i.bytes)) = some (some (.agg #[.int .i64 0, .string ByteArray.empty]), 2, 24) := by kernel_rfl
theorem aclIn_own {w : World} {B : Nat} {av : Value} {l : List AR} (h : w.ownsRow B 81 2 av l.length (aclC l)) (hr : l.length * 24 ≤ 140737488355328) : AclIn w av l := by
  refine ⟨?_, hr⟩
  rcases h.2 with ⟨hv, h0⟩ | ⟨g, cap, cur, hv, hb, hh, r⟩
  · exact .inl ⟨hv, List.length_eq_zero_iff.1 h0⟩
  · exact .inr ⟨_, _, hv, fun j u hj => h.cells (g := g) (by rw [hv]; rfl) j u hj⟩
theorem AclIn.kept {w w' : World} {v : Value} {l : List AR} (h : AclIn w v l) {X : Nat → Prop} (hk : Kept X w w') (hx : ∀ a n cap, v = .slice (some a) n cap → ¬ X a.block) : AclIn w' v l := by
  refine ⟨?_, h.room⟩
  rcases h.ex with hh | ⟨ad, cap, rfl, hc⟩
  · exact .inl hh
  · refine .inr ⟨ad, cap, rfl, fun j u hj => ?_⟩
    have h1 := hc j u hj
    have hb : (ad.add j).block = ad.block := by unfold Addr.add; split <;> rfl
    have hlt := World.block_lt_of_cell? w _ h1
    rw [World.cell?_of_block (w := w) (hk.block _ hlt (by rw [hb]; exact hx _ _ _ rfl))]; exact h1
theorem nil_eq (w : World) (a : Option Addr) (n c n' c' : Nat) : (binOp .eql 35 (.slice a n c) (.slice none n' c')).run Try.prog w = .ok (.bool a.isNone) w := Lib.run_eql_slice_nil w 35 _ a n c n' c' Try.underlying35
set_option maxRecDepth 100000 in
set_option maxHeartbeats 1000000 in
theorem clone_any {w : World} {v : Value} {l : List AR} (h : AclIn w v l) : Calls Try.prog 54 #[v] w fun e w' =>
    ∃ v', e = .returned v' ∧ w'.ownsRow w.heap.size 81 2 v' l.length (aclC l) ∧ Kept (fun _ => False) w w' := by
  have hr := h.room
  have hnil := nil_eq
  rcases h.ex with ⟨rfl, rfl⟩ | ⟨ad, cap, rfl, hc⟩
  · go_enter Try.func54, Try.ntmps54
    go_wp2
    go_ret
    exact ⟨_, rfl, World.ownsRow_nil _ _ _ _, Kept.refl _ _⟩
  · obtain ⟨i0, hi, hz0, hz1, hz2⟩ := info_parts acl_info
    have HSI := Lib.hid (And.intro hi (And.intro hz0 (And.intro hz1 hz2)))
    have hk0 : Kept (fun _ => False) w (w.alloc (.cells #[] 81)) := (Kept.refl _ w).alloc _
    have HK0 := Lib.hid hk0
    have HC0 : Hid (∀ j u, (aclC l)[j]? = some u → (w.alloc (.cells #[] 81)).cell? (ad.add j) = some u) := Lib.hid (fun j u hj => by
      have h1 := hc j u hj
      rw [World.cell?_alloc_some _ _ _ (by rw [h1]; rfl)]; exact h1)
    have HO : Hid ((w.alloc (.cells #[] 81)).ownsRow w.heap.size 81 2 (.slice (some ⟨w.heap.size, 0, none⟩) 0 0) 0 []) := Lib.hid ⟨rfl, .inr ⟨w.heap.size, 0, #[], rfl, Nat.le_refl _, heap_alloc_new w _, Nat.le_refl _, by decide, rfl, rfl⟩⟩
    clear hi hz0 hz1 hz2 hk0 hc h
    go_enter Try.func54, Try.ntmps54
    go_wp2_with (at_builtin; refine wpList_append_own _ rfl _ _ 35 rfl w.heap.size 81 i0 (.agg #[.int .i64 0, .string ByteArray.empty]) 2 24 Try.underlying35 HSI.out.1 HSI.out.2.1 HSI.out.2.2.1 HSI.out.2.2.2 rfl (by decide) (.slice (some ⟨w.heap.size, 0, none⟩) 0 0) 0 [] rfl HO.out ad l.length cap (aclC l) rfl (aclC_len l) HC0.out (aclC_one l) (by unfold maxLen; omega) (by omega) (by simp) (fun v6 w6 hown6 hg6 hnil6 => ?_); rw [Nat.zero_add, List.nil_append] at hown6; have HO6 := Lib.hid hown6; have HK6 : Hid (Kept (fun _ => False) w w6) := Lib.hid (by
      have h1 := ((HK0.out.mono (T := fun k => w.heap.size ≤ k) (fun _ _ f => f.elim)).trans' ((Kept.of_grownBy hg6).mono (T := fun k => w.heap.size ≤ k) (fun k _ e => by have e : some k = some w.heap.size := e; injection e with e; omega)) (fun _ _ h => h))
      exact ⟨h1.os, h1.tape, h1.output, h1.size, fun k hk _ => h1.block k hk (by omega)⟩); clear hown6 hg6 hnil6)
    go_ret
    exact ⟨_, rfl, HO6.out, HK6.out⟩
end Go.Proofs.Ytccoeccibokecaa
