/- isTime, deadline, Deadline, take, put. -/
import Derived.Test.YtlfcccckghnffaaSa
import Derived.Maps.RangeWalk
import Derived.StillTailTactics
import Derived.RegionTactic
import Derived.Lib.Hide
import Derived.BigQuiet
import Derived.Deep.QuietTactic
namespace Go.Proofs.Ytlfcccckghnffaa
open Go.ChangeShapes Go.WideShapes Go.ChangeAt Go.RowKit Go.Maps
set_option linter.unusedVariables false
set_option linter.unusedSimpArgs false
theorem ret_bool {a b : Bool} (h : a = b) : Ending.returned (.bool a) = .returned (.bool b) := by rw [h]
theorem ret_int {a b : Int} (h : a = b) : Ending.returned (.int .i64 a) = .returned (.int .i64 b) := by rw [h]
theorem isTime_any (n : Int) (w : World) : Calls Try.prog 28 #[.int .i64 n] w fun e w' => e = .returned (.bool (okNow n)) ∧ w' = w := by
  by_cases h0 : 0 ≤ n
  · by_cases h1 : n ≤ 1099511627776
    · have h : okNow n = true := by simp [okNow, h0, h1]
      have H := Lib.hid h
      clear h
      go_enter Try.func28, Try.ntmps28
      go_wp2
      go_ret
      exact ⟨ret_bool H.out.symm, rfl⟩
    · have h : okNow n = false := by simp [okNow, h1]
      have H := Lib.hid h
      have b1 : decide (n ≤ 1099511627776) = false := by simpa using h1
      clear h
      go_enter Try.func28, Try.ntmps28
      go_wp2
      go_ret
      exact ⟨ret_bool H.out.symm, rfl⟩
  · have h : okNow n = false := by simp [okNow, h0]
    have H := Lib.hid h
    have b1 : decide (0 ≤ n) = false := by simpa using h0
    clear h
    go_enter Try.func28, Try.ntmps28
    go_wp2
    go_ret
    exact ⟨ret_bool H.out.symm, rfl⟩
theorem deadline_any (now to : Int) (w : World) (h0 : 0 ≤ now) (h1 : now ≤ 1099511627776) (h2 : 4 ≤ to) (h3 : to ≤ 60) : Calls Try.prog 31 #[.int .i64 now, .int .i64 to] w fun e w' => e = .returned (.int .i64 (endsI now to)) ∧ w' = w := by
  go_enter Try.func31, Try.ntmps31
  go_wp2
  go_ret
  exact ⟨ret_int (by unfold endsI; omega), rfl⟩
section
variable {w w' : World} {q : SQ} {L : SL} {c : Nat} {D : DV} {E : Int → DV}
def DeadPost (w : World) (L : SL) (i : Int) (e : Ending) (w' : World) : Prop := e = .returned (.tuple #[.int .i64 (deadN L i), .int .i64 (deadE L i)]) ∧ Kept (fun _ => False) w w'
set_option maxRecDepth 100000 in
set_option maxHeartbeats 1000000 in
theorem dead_any (h : SAt w q L c) (i : Int) (hi : I64 i) :
    Calls Try.prog 11 #[.pointer (some ⟨q.t, 0, none⟩), .int .i64 i] w (DeadPost w L i) := by
  obtain ⟨D, E, h⟩ := h
  obtain ⟨c0, f⟩ := h.two
  have HD := Lib.hid h
  have hlt := h.lt _ (.inl rfl)
  have hown := h.m
  have hmt := h.mt
  clear h
  go_enter Try.func11, Try.ntmps11
  go_wp2_with (first
    | (at_range; refine wpList_range_own _ rfl _ 46 rfl 3 53 keyI Try.underlying46 _ q.m c _ rfl hown ?_; intro w0 hrg0 hg0 hs0)
    | go_in)
  go_frame
  go_loopw [4] (fun _ wr => ∃ (left : Lit → Bool) (cnt : Nat), wr.ranges Try.prog 3 tok q.m w.heap.size c D left cnt ∧ Kept (fun _ => False) w wr ∧
      (∀ a, left (.int .i64 a) = false → ∀ s, getL L i = some s → s.dl ≠ a))
    (fun _ wr => wr.rangeLeft q.m w.heap.size)
  case atStart =>
    refine ⟨_, _, hrg0, (Kept.of_grownBy hg0).mono (fun k _ e => by simp at e), fun a ha s hs e => ?_⟩
    have h1 := (HD.out.has a).2 ⟨i, s, hs, e⟩
    have h2 := lookV_isSome D (.int .i64 a)
    rw [HD.out.D, Option.isSome_map, h1, ha] at h2
    cases h2
  case round =>
    obtain ⟨left, cnt, hrg, hkw, hI⟩ := hrel
    have HI := Lib.hid hI
    have HK := Lib.hid hkw
    clear hI hkw
    go_wp2_with (first
      | (at_next; refine wpList_next_ranges _ rfl _ rfl 3 keyI tok (fun x : Int => Value.int .i64 x) id (fun key kl hkey => by obtain ⟨x, rfl, _⟩ := keyOf_int_inv Try.underlying3 hkey; exact ⟨x, rfl⟩) (fun v _ _ => ⟨v, rfl⟩) q.m w.heap.size c _ _ _ rfl hrg ?_ ?_)
      | go_in)
    · intro _ hl0
      have hg : getL L i = none := by
        cases hg : getL L i with
        | none => rfl
        | some s => exact absurd rfl (HI.out s.dl (hl0 _) s hg)
      have HG := Lib.hid hg
      clear hg
      go_wp2
      go_ret2
      refine ⟨?_, HK.out⟩
      unfold deadN deadE
      rw [HG.out]; rfl
    · intro x v kl yd yp w1 cnt1 hkey hlx hv hat hrg1 hlt1 hg1 hs1 hen
      obtain ⟨x', ex, rfl, hx⟩ := keyOf_int_inv Try.underlying3 hkey
      cases ex
      obtain ⟨rfl, rfl⟩ := tok_inj hv
      have hlook := lookV_some hat
      rw [HD.out.D] at hlook
      obtain ⟨k, hk, rfl⟩ : ∃ k, q.B x = some k ∧ v = .map (some k) := by
        cases hb : q.B x with
        | none => rw [hb] at hlook; cases hlook
        | some k => rw [hb] at hlook; injection hlook with e; exact ⟨k, rfl, e.symm⟩
      have hkr : Kept (fun k => k = w.heap.size) _ w1 := kept_grown hg1 rfl
      have hkw1 : Kept (fun _ => False) w w1 := HK.out.trans' hkr (fun k hk e => by omega)
      have HK1 := Lib.hid hkw1
      have hlk := look_in ((HD.out.kept0 hkw1).b _ _ hk) hi
      rw [HD.out.E _ _ hk] at hlk
      have HIx : Hid (∀ k, (Lit.int .i64 k).sameKey (.int .i64 x) = true → k = x) := Lib.hid (fun k e => by
        have := WideAt.sameKey_eq e; injection this)
      clear hkr hkw1 hlook hs1
      cases hb : inB L x i with
      | none =>
        rw [hb] at hlk
        simp only [Option.getD_none, Option.isSome_none] at hlk
        have HB := Lib.hid hb
        clear hb
        go_wp2
        go_roundw
        case rel =>
          refine ⟨_, cnt1, hrg1, HK1.out, fun a ha s hs e => ?_⟩
          by_cases ea : a = x
          · subst ea
            have := HB.out
            unfold inB at this
            rw [hs] at this
            simp [e] at this
          · have hs' : (Lit.int .i64 a).sameKey (.int .i64 x) = false := by
              cases hh : (Lit.int .i64 a).sameKey (.int .i64 x) with
              | false => rfl
              | true => exact absurd (HIx.out a hh) ea
            rw [hs'] at ha
            exact HI.out a (by simpa using ha) s hs e
        case measure => rw [hrg1.left_eq, hrg.left_eq]; exact hlt1
      | some u =>
        rw [hb] at hlk
        obtain ⟨s, hs, hsd, rfl⟩ : ∃ s, getL L i = some s ∧ s.dl = x ∧ u = .int .i64 s.to := by
          unfold inB at hb
          cases hg : getL L i with
          | none => rw [hg] at hb; cases hb
          | some s =>
            rw [hg] at hb
            simp only at hb
            split at hb
            · injection hb with hb; exact ⟨s, rfl, ‹_›, hb.symm⟩
            · cases hb
        simp only [Option.getD_some, Option.isSome_some] at hlk
        have HS := Lib.hid hs
        have HSD := Lib.hid hsd
        clear hb hs hsd
        go_wp2
        go_ret2
        refine ⟨?_, HK1.out⟩
        unfold deadN deadE
        rw [HS.out]
        simp [HSD.out]
theorem out1 {m k : Nat} (hm : w.ownsMap Try.prog 3 tok m c D) {a : Int} (ha : I64 a) (hD : lookV D (.int .i64 a) = some (.map (some k))) : (Instr.lookup 46 (.map (some m)) (.int .i64 a) false).run Try.prog w = .ok (.map (some k)) w := by
  have := owns_look1 hm (t := 46) (e := 53) keyI Try.underlying46 (zero_bucket w) (keyInt ha)
  rw [hD] at this
  exact this
theorem box_kept {X : Nat → Prop} (hk : Kept X w w') {t m : Nat} {T : TypeId} (h : w.heap[t]? = some (.cells #[.map (some m)] T (0, 0))) (hx : ¬ X t) : w'.cell? ⟨t, 0, none⟩ = some (.map (some m)) ∧ w'.frozen? ⟨t, 0, none⟩ = false :=
  cell_box (by rw [hk.block t (lt_of_block h) hx]; exact h)
def TakePost (w : World) (q : SQ) (L : SL) (c : Nat) (e : Ending) (w' : World) : Prop := e = .returned (.tuple #[]) ∧ ∃ q', SAt w' q' L c ∧ q'.t = q.t ∧ (∀ k, SQs q' k → SQs q k ∨ w.heap.size ≤ k) ∧ Kept (SQs q) w w'
set_option maxRecDepth 100000 in
set_option maxHeartbeats 1000000 in
/-- a session leaves -/
theorem take_any (h : SAt w q L c) {i : Int} {s : Se} (hs : getL L i = some s) (hi : I64 i) :
    Calls Try.prog 29 #[.pointer (some ⟨q.t, 0, none⟩), .int .i64 i, .int .i64 s.dl] w (TakePost w q (delL L i) c) := by
  obtain ⟨D, E, h⟩ := h
  obtain ⟨c0, f⟩ := h.two
  obtain ⟨k, hk, hlk⟩ := h.find hs
  have h64 := h.ok.dl64 (getL_mem hs)
  have hmt := h.mt
  have hbt := h.bt hk
  have hnm := h.nm _ _ hk
  have hlD : lookV D (.int .i64 s.dl) = some (.map (some k)) := by rw [h.D, hk]; rfl
  have hl1 := out1 h.m h64 hlD
  have hown := h.b _ _ hk
  have hid := getL_id hs
  subst hid
  have HD := Lib.hid h
  have HK := Lib.hid hk
  have HS := Lib.hid hs
  have HLD := Lib.hid hlD
  have hlt := h.lt _ (.inl rfl)
  clear h hk hs hlk hlD
  by_cases hz : size ((E s.dl).del (.int .i64 s.id)) = 0
  · have HZ := Lib.hid hz
    clear hz
    go_enter Try.func29, Try.ntmps29
    go_wp2_with (first
      | (at_delete; refine wpList_delete_own _ rfl _ _ 53 3 rfl 3 keyI Try.underlying53 tok k c (E s.dl) rfl hown _ _ rfl (keyInt hi) ?_; intro w1 hown1 hturn1
         have hk1 := keptN hturn1
         have hm1 := ownsMap_kept HD.out.m hk1 (fun e => hnm e.symm)
         obtain ⟨c1, f1⟩ := box_kept hk1 HD.out.at_ (fun e => hbt e.symm)
         have hl2 := out1 hm1 h64 HLD.out
         go_frame)
      | (at_len; refine wpList_len_own _ rfl _ 53 rfl 3 3 Try.underlying53 tok k c _ rfl hown1 ?_; rw [HZ.out])
      | (at_delete; refine wpList_delete_own _ rfl _ _ 46 3 rfl 53 keyI Try.underlying46 tok q.m c D rfl hm1 _ _ rfl (keyInt h64) ?_; intro w2 hown2 hturn2; go_frame)
      | go_in)
    go_end0
    have hk2 := keptN hturn2
    refine ⟨rfl, _, ⟨_, _, HD.out.take2 HK.out HS.out HZ.out hown1 hk1 hown2 hk2⟩, rfl, ?_, (hk1.mono (T := SQs q) (fun j _ e => .inr (.inr ⟨_, e ▸ HK.out⟩))).trans (hk2.mono (fun j _ e => .inr (.inl e)))⟩
    rintro j (e | e | ⟨a, ha⟩)
    · exact .inl (.inl e)
    · exact .inl (.inr (.inl e))
    · have ha : updB q.B s.dl none a = some j := ha
      unfold updB at ha
      split at ha
      · cases ha
      · exact .inl (.inr (.inr ⟨a, ha⟩))
  · have HZ := Lib.hid hz
    obtain ⟨n, hn, hp⟩ : ∃ n, size ((E s.dl).del (.int .i64 s.id)) = n ∧ 0 < n := ⟨_, rfl, Nat.pos_of_ne_zero hz⟩
    have HN := Lib.hid hn
    clear hz hn
    go_enter Try.func29, Try.ntmps29
    go_wp2_with (first
      | (at_delete; refine wpList_delete_own _ rfl _ _ 53 3 rfl 3 keyI Try.underlying53 tok k c (E s.dl) rfl hown _ _ rfl (keyInt hi) ?_; intro w1 hown1 hturn1
         have hk1 := keptN hturn1
         have hm1 := ownsMap_kept HD.out.m hk1 (fun e => hnm e.symm)
         obtain ⟨c1, f1⟩ := box_kept hk1 HD.out.at_ (fun e => hbt e.symm)
         have hl2 := out1 hm1 h64 HLD.out
         go_frame)
      | (at_len; refine wpList_len_own _ rfl _ 53 rfl 3 3 Try.underlying53 tok k c _ rfl hown1 ?_; rw [HN.out])
      | go_in)
    go_end0
    exact ⟨rfl, _, ⟨_, _, HD.out.take1 HK.out HS.out HZ.out hown1 hk1⟩, rfl, fun j hj => .inl hj, hk1.mono (T := SQs q) (fun j _ e => .inr (.inr ⟨_, e ▸ HK.out⟩))⟩
set_option maxRecDepth 100000 in
set_option maxHeartbeats 1000000 in
/-- a session that is nowhere comes in -/
theorem put_any (h : SAt w q L c) {s : Se} (hs : getL L s.id = none) (hi : I64 s.id) (hd : I64 s.dl) (hok : SlOk (putL L s)) (hc : c < 4611686018427387904) :
    Calls Try.prog 30 #[.pointer (some ⟨q.t, 0, none⟩), .int .i64 s.id, .int .i64 s.to, .int .i64 s.dl] w (TakePost w q (putL L s) (c + 1)) := by
  obtain ⟨D, E, h⟩ := h
  obtain ⟨c0, f⟩ := h.two
  have hmt := h.mt
  have HD := Lib.hid h
  have HS := Lib.hid hs
  have hlt := h.lt _ (.inl rfl)
  have hmx : c < maxLen := by unfold maxLen; omega
  cases hk : q.B s.dl with
  | some k =>
    have hbt := h.bt hk
    have hlD : lookV D (.int .i64 s.dl) = some (.map (some k)) := by rw [h.D, hk]; rfl
    have hl0 := h.look hd
    rw [hk] at hl0
    simp only [Option.map_some, Option.getD_some, Option.isSome_some] at hl0
    have hl1 := out1 h.m hd hlD
    have hown := h.b _ _ hk
    obtain ⟨W, hrun, hownW, hturn⟩ := hown.store (t := 53) (e := 3) keyI Try.underlying53 hmx (key := .int .i64 s.id) (val := .int .i64 s.to) (keyInt hi) (d := .held (.int .i64 s.to)) (ps := []) rfl
    have HK := Lib.hid hk
    have HW := Lib.hid hownW
    have HT := Lib.hid hturn
    clear h hk hs hlD hownW hturn hown
    go_enter Try.func30, Try.ntmps30
    go_wp2
    go_end0
    have hk1 := keptN HT.out
    exact ⟨rfl, _, ⟨_, _, HD.out.put1 HK.out HS.out hok HW.out hk1⟩, rfl, fun j hj => .inl hj, hk1.mono (T := SQs q) (fun j _ e => .inr (.inr ⟨_, e ▸ HK.out⟩))⟩
  | none =>
    have hl0 := h.look hd
    rw [hk] at hl0
    simp only [Option.map_none, Option.getD_none, Option.isSome_none] at hl0
    have hA : Kept (fun _ => False) w (w.alloc (.map #[] 0)) := (Kept.refl _ w).alloc _
    have h1 := h.kept0 hA
    obtain ⟨c1, f1⟩ := h1.two
    obtain ⟨W, hrun, hownW, hturn⟩ := h1.m.store (t := 46) (e := 53) keyI Try.underlying46 hmx (key := .int .i64 s.dl) (val := .map (some w.heap.size)) (keyInt hd) (d := .held (.map (some w.heap.size))) (ps := []) rfl
    have hkW := keptN hturn
    obtain ⟨c2, f2⟩ := box_kept hkW h1.at_ (fun e => hmt e.symm)
    have hl1 := out1 hownW hd (lookV_put_same h.m.isMap (by simp [WideAt.IsKeyLit]) _)
    have hne : w.heap.size ≠ q.m := fun e => by have := h.m.lt; omega
    have hin : W.ownsMap Try.prog 3 tok w.heap.size c (.map []) := (ownsMap_kept (World.ownsMap_made w _ _ _) hkW hne).mono (Nat.zero_le _)
    obtain ⟨V, hrun2, hownV, hturn2⟩ := hin.store (t := 53) (e := 3) keyI Try.underlying53 hmx (key := .int .i64 s.id) (val := .int .i64 s.to) (keyInt hi) (d := .held (.int .i64 s.to)) (ps := []) rfl
    have hkV := keptN hturn2
    have hall : Kept (fun j => j = q.m) w V := ((hA.mono (T := fun j => j = q.m) (fun _ _ f => f.elim)).trans hkW).trans' hkV (fun j hj e => by omega)
    have HF := Lib.hid (h.put2 hk (Nat.le_refl _) hs hok (ownsMap_kept hownW hkV (fun e => hne e.symm)) hownV hall)
    have HA := Lib.hid hall
    clear h hk hs h1 hA hownW hturn hkW hin hownV hturn2 hkV hall HD
    have hmm := @run_makeMap Try.prog 53 w
    go_enter Try.func30, Try.ntmps30
    go_wp2
    go_end0
    refine ⟨rfl, _, ⟨_, _, HF.out⟩, rfl, ?_, HA.out.mono (fun j _ e => .inr (.inl e))⟩
    rintro j (e | e | ⟨a, ha⟩)
    · exact .inl (.inl e)
    · exact .inl (.inr (.inl e))
    · have ha : updB q.B s.dl (some w.heap.size) a = some j := ha
      unfold updB at ha
      split at ha
      · injection ha with ha; exact .inr (by omega)
      · exact .inl (.inr (.inr ⟨a, ha⟩))
end
end Go.Proofs.Ytlfcccckghnffaa
