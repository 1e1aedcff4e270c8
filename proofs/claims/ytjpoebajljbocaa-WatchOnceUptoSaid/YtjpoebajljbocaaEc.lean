/- put. -/
import Derived.Test.YtjpoebajljbocaaEb
namespace Go.Proofs.Ytjpoebajljbocaa
open Go.ChangeShapes Go.WideShapes Go.ChangeAt Go.RowKit Go.Maps
set_option linter.unusedVariables false
set_option linter.unusedSimpArgs false
section
variable {w w' : World} {q : WQ} {L : WL} {D : DV} {E : Int → DV}
theorem Kept.of_mapTurned {b : Nat} (h : w.mapTurned w' b) : Kept (fun k => k = b) w w' := keptM h
theorem box_keptW {X : Nat → Prop} (hk : Kept X w w') {t : Nat} {v : Value} {T : TypeId} (h : w.heap[t]? = some (.cells #[v] T (0, 0))) (hx : ¬ X t) : w'.cell? ⟨t, 0, none⟩ = some v ∧ w'.frozen? ⟨t, 0, none⟩ = false :=
  cell_box1 (by rw [hk.block t (lt_of_block h) hx]; exact h)
theorem box2_kept {X : Nat → Prop} (hk : Kept X w w') {t : Nat} {u v : Value} {T : TypeId} (h : w.heap[t]? = some (.cells #[u, v] T (0, 0))) (hx : ¬ X t) : w'.cell? ⟨t, 0, none⟩ = some u ∧ w'.cell? ⟨t, 1, none⟩ = some v := by
  have : w'.heap[t]? = some (.cells #[u, v] T (0, 0)) := by rw [hk.block t (lt_of_block h) hx]; exact h
  constructor <;> simp [World.cell?, this]
def BoxW (x : Wt) : Obj := .cells #[.int .i64 x.1, .string x.2] 123
set_option maxRecDepth 100000 in
set_option maxHeartbeats 1000000 in
/-- a watch that the session has not -/
theorem put_any (h : WAt w q L) {i : Int} {x : Wt} (hi : 1 ≤ i ∧ i ≤ 9223372036854775807) (hx : Fit1 x) (hnew : x ∉ listW L i) (hok : WlOk (setW L i (listW L i ++ [x]))) (hc : L.length < 4611686018427387904) :
    Calls Try.prog 56 #[.pointer (some ⟨q.t, 0, none⟩), .int .i64 i, .agg #[.int .i64 x.1, .string x.2]] w fun e w' => e = .returned (.tuple #[]) ∧ MovedW w q (setW L i (listW L i ++ [x])) w' := by
  obtain ⟨D, E, h⟩ := h
  have hi64 : I64 i := by unfold I64; omega
  have hA : Kept (fun _ => False) w (w.alloc (BoxW x)) := (Kept.refl _ w).alloc _
  have h1 := h.kept0 hA
  have hbx := heap_alloc_new w (BoxW x)
  have hmt := h.mt
  have HD := Lib.hid h
  have hlt := h.lt _ (.inl rfl)
  have hltm := h.lt _ (.inr (.inl rfl))
  have hcnt := h1.count i hi64
  have hmx : Maps.size D < maxLen := by rw [h.sizeD]; unfold maxLen; omega
  have hne1 : listW L i ++ [x] ≠ [] := by simp
  have hl64 := (h.ok.list i).2.1
  cases hb : q.B i with
  | some k =>
    have hbt := h.bt hb
    have hkl := h.lt k (.inr (.inr ⟨i, hb⟩))
    have hn0 : 0 < countW L i := by
      have := (h.has i).1 (by rw [hb]; rfl)
      unfold countW; exact List.length_pos_iff.2 this
    have hown := h1.b i k hb
    have hsz := h1.sizeB hb
    have hmx2 : Maps.size (E i) < maxLen := by rw [hsz]; unfold countW maxLen; omega
    have h1d : (w.alloc (BoxW x)).drew.ownsMap Try.prog 123 tok k (Maps.size (E i)) (E i) := ownsMap_kept hown ((Kept.refl (fun _ => False) _).drew) (fun f => f)
    obtain ⟨W, hrun, hownW, hturn⟩ := h1d.store (t := 127) (e := 124) keyW Try.underlying127 hmx2 (key := wv x) (val := .agg #[]) (key_watch hx.1 hx.2) (d := .held (.agg #[])) (ps := []) rfl
    have h2 := h1.kept0 ((Kept.refl (fun _ => False) (w.alloc (BoxW x))).drew)
    have hlk := h2.look1 hi64
    rw [hb] at hlk
    simp only [Option.map_some, Option.getD_some] at hlk
    obtain ⟨c0, f0⟩ := h2.two
    obtain ⟨x0, x1⟩ := box2_kept ((Kept.refl (fun _ => False) (w.alloc (BoxW x))).drew) hbx (fun f => f)
    have HS := Lib.hid ((h.E i k hb).put (h.b i k hb).isMap (wk_isKey x))
    have HK := Lib.hid hb
    have HW := Lib.hid hownW
    have HT := Lib.hid hturn
    have HA := Lib.hid hA
    have hn0' : ((countW L i : Int) == 0) = false := by simp; omega
    obtain ⟨cn, hcn⟩ : ∃ cn, countW L i = cn := ⟨_, rfl⟩
    rw [hcn] at hcnt hn0'
    have HC := Lib.hid hcnt
    clear h hb h1 hown hsz h1d hownW hturn h2 hA hcnt hn0 hcn hbx hmx hmx2 hl64 hne1
    unfold wv at hrun
    unfold BoxW at *
    go_enter Try.func56, Try.ntmps56
    go_wp2_with (first
      | (go_at_call 30; refine HC.out.mono ?_; rintro e w1 ⟨rfl, rfl⟩)
      | fail)
    go_region
    all_goals go_wp2_with fail
    all_goals go_end0
    all_goals
      have hk1 : Kept (fun j => j = k) w W := ((HA.out.drew).mono (T := fun j => j = k) (fun _ _ f => f.elim)).trans (keptM HT.out)
      exact ⟨rfl, _, ⟨_, _, HD.out.set1 HK.out (by simp) hok (owns_tight HW.out) HS.out hk1⟩, rfl, fun j hj => .inl hj, hk1.mono (T := WQs q) (fun j _ e => .inr (.inr ⟨_, e ▸ HK.out⟩))⟩
  | none =>
    have hzc : countW L i = 0 := by
      have := h.noneB.1 hb
      unfold countW; rw [this]; rfl
    rw [hzc] at hcnt
    have hl0 := h.noneB.1 hb
    have hA2 : Kept (fun _ => False) (w.alloc (BoxW x)) ((w.alloc (BoxW x)).alloc (.map #[] 0)) := (Kept.refl _ _).alloc _
    have h2 := h1.kept0 hA2
    obtain ⟨c1, f1⟩ := h2.two
    obtain ⟨c00, f00⟩ := h1.two
    have hsz1 : (w.alloc (BoxW x)).heap.size = w.heap.size + 1 := by simp
    obtain ⟨W, hrun, hownW, hturn⟩ := h2.m.store (t := 118) (e := 127) keyI Try.underlying118 hmx (key := .int .i64 i) (val := .map (some (w.heap.size + 1))) (keyI64 hi64) (d := .held (.map (some (w.heap.size + 1)))) (ps := []) rfl
    have hkW := keptM hturn
    have hkWd : Kept (fun j => j = q.m) ((w.alloc (BoxW x)).alloc (.map #[] 0)) W.drew := hkW.drew
    obtain ⟨c2, f2⟩ := box_keptW hkWd h2.at_ (fun e => hmt e.symm)
    have hownWd : W.drew.ownsMap Try.prog 3 tok q.m (Maps.size D + 1) (D.put (.int .i64 i) (.held (.map (some (w.heap.size + 1))))) := ownsMap_kept hownW ((Kept.refl (fun _ => False) _).drew) (fun f => f)
    have hlk := owns_look1 hownWd (t := 118) (e := 127) keyI Try.underlying118 (zero_watches W.drew) (keyI64 hi64)
    rw [lookV_put_same h.m.isMap (by simp [WideAt.IsKeyLit])] at hlk
    simp only [Option.getD_some] at hlk
    have hne : ¬ w.heap.size + 1 = q.m := by omega
    have hneb : ¬ w.heap.size = q.m := by omega
    have hbx2 : ((w.alloc (BoxW x)).alloc (.map #[] 0)).heap[w.heap.size]? = some (BoxW x) := by
      rw [Below.heap_alloc _ _ _ (by simp)]; exact hbx
    obtain ⟨x0, x1⟩ := box2_kept hkWd hbx2 hneb
    have hmade := World.ownsMap_made (w.alloc (BoxW x)) Try.prog 123 tok
    rw [hsz1] at hmade
    have hin : W.drew.ownsMap Try.prog 123 tok (w.heap.size + 1) 0 (.map []) := ownsMap_kept hmade hkWd hne
    obtain ⟨V, hrun2, hownV, hturn2⟩ := hin.store (t := 127) (e := 124) keyW Try.underlying127 (by unfold maxLen; omega) (key := wv x) (val := .agg #[]) (key_watch hx.1 hx.2) (d := .held (.agg #[])) (ps := []) rfl
    have hkV := keptM hturn2
    have hall : Kept (fun j => j = q.m) w V := (((hA.trans hA2).mono (T := fun j => j = q.m) (fun _ _ f => f.elim)).trans hkWd).trans' hkV (fun j hj e => by omega)
    have hset := SetIs.nil.put ⟨[], rfl⟩ (wk_isKey x)
    rw [List.nil_append] at hset
    rw [hl0, List.nil_append] at hok ⊢
    have HF := Lib.hid (h.set2 hb (by omega : w.heap.size ≤ w.heap.size + 1) (by simp) hok (owns_tight (ownsMap_kept hownWd hkV (fun e => hne e.symm))) (owns_tight hownV) hset hall)
    have HA := Lib.hid hall
    have HC := Lib.hid hcnt
    clear h hb h1 hA hA2 h2 hcnt hownW hturn hkW hkWd hownWd hmade hin hownV hturn2 hkV hall hset hbx hbx2 hl0 hzc HD hl64 hmx hne1 hsz1 hok hnew
    have hmm := @run_makeMap Try.prog 127 (w.alloc (BoxW x))
    unfold wv at hrun2
    unfold BoxW at *
    go_enter Try.func56, Try.ntmps56
    go_wp2_with (first
      | (go_at_call 30; refine HC.out.mono ?_; rintro e w1 ⟨rfl, rfl⟩)
      | fail)
    all_goals go_region
    all_goals go_wp2_with fail
    all_goals go_end0
    all_goals
      refine ⟨rfl, _, ⟨_, _, HF.out⟩, rfl, ?_, HA.out.mono (fun j _ e => .inr (.inl e))⟩
      rintro j (e | e | ⟨a, ha⟩)
      · exact .inl (.inl e)
      · exact .inl (.inr (.inl e))
      · have ha : updB q.B i (some (w.heap.size + 1)) a = some j := ha
        unfold updB at ha
        split at ha
        · injection ha with ha; exact .inr (by omega)
        · exact .inl (.inr (.inr ⟨a, ha⟩))
end
end Go.Proofs.Ytjpoebajljbocaa
