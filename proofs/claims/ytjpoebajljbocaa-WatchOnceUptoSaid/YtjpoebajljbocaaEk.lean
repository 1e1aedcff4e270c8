/- Two tables that know nothing of one another; how many watches there are. -/
import Derived.Test.YtjpoebajljbocaaEj
import Derived.Test.YtjpoebajljbocaaEh
namespace Go.Proofs.Ytjpoebajljbocaa
open Go.ChangeShapes Go.WideShapes Go.ChangeAt Go.RowKit Go.Maps
set_option linter.unusedVariables false
set_option linter.unusedSimpArgs false
theorem tot_put {L : WL} (hL : RisingW L) (s : Ws) : totW (putW L s) + (listW L s.id).length = totW L + s.l.length := by
  induction L with
  | nil => simp [putW, totW, listW, getW_nil]
  | cons x r ih =>
    obtain ⟨h1, h2⟩ := risingW_cons.1 hL
    have hc : ∀ y : Ws, ∀ M : WL, totW (y :: M) = y.l.length + totW M := fun y M => by simp [totW]
    have hx : listW (x :: r) s.id = if x.id = s.id then x.l else listW r s.id := by
      unfold listW; rw [getW_cons]
      by_cases e : x.id = s.id
      · rw [if_pos e, if_pos e]
      · rw [if_neg e, if_neg e]
    have ih := ih h2
    unfold putW
    split
    · rename_i h
      rw [hc, hc, hx, if_neg (by omega)]; omega
    · split
      · rename_i h
        rw [hc, hc, hx, if_pos h]; omega
      · have : listW r s.id = [] := by
          unfold listW; rw [getW_low (fun t ht => by have := h1 t ht; omega)]
        rw [hc, hc, hx, if_neg (by assumption), this]; simp; omega
theorem tot_del (L : WL) (i : Int) : totW (delW L i) ≤ totW L := by
  induction L with
  | nil => simp [delW]
  | cons x r ih =>
    have hc : totW (x :: r) = x.l.length + totW r := by simp [totW]
    unfold delW at ih ⊢
    rw [List.filter_cons, hc]
    split
    · have : totW (x :: List.filter (fun s => !(s.id == i)) r) = x.l.length + totW (List.filter (fun s => !(s.id == i)) r) := by simp [totW]
      omega
    · omega
theorem tot_add {L : WL} (h : WlOk L) (o : ByteArray → Int) (i k : Int) (p : ByteArray) : totW (addW o L i k p) ≤ totW L + 1 := by
  unfold addW
  split
  · omega
  · split
    · omega
    · split
      · omega
      · unfold setW
        rw [if_neg (by simp)]
        have := tot_put h.up ⟨i, listW L i ++ [(k, p)]⟩
        simp at this
        omega
theorem tot_fire_le (k : Int) (p : ByteArray) (L : WL) : totW (fireL k p L) ≤ totW L := by have := tot_fire k p L; omega
/-- one table, all whose blocks are new and below n -/
structure OneW (w w' : World) (t n : Nat) (L : WL) : Prop where
  ex : ∃ q, WAt w' q L ∧ q.t = t ∧ ∀ k, WQs q k → w.heap.size ≤ k ∧ k < n
  kept : Kept (fun _ => False) w w'
  room : n ≤ w'.heap.size
structure TwoW (w w' : World) (ta tb n : Nat) (La Lb : WL) : Prop where
  ex : ∃ qa qb, WAt w' qa La ∧ WAt w' qb Lb ∧ qa.t = ta ∧ qb.t = tb ∧ (∀ k, WQs qa k → ¬ WQs qb k) ∧ (∀ k, WQs qa k → w.heap.size ≤ k ∧ k < n) ∧ (∀ k, WQs qb k → w.heap.size ≤ k ∧ k < n)
  kept : Kept (fun _ => False) w w'
  room : n ≤ w'.heap.size
section
variable {w w1 w2 : World} {t ta tb n : Nat} {L La Lb : WL}
theorem TwoW.swap (h : TwoW w w1 ta tb n La Lb) : TwoW w w1 tb ta n Lb La := by
  obtain ⟨qa, qb, h1, h2, h3, h4, h5, h6, h7⟩ := h.ex
  exact ⟨⟨qb, qa, h2, h1, h4, h3, fun k hk hk' => h5 k hk' hk, h7, h6⟩, h.kept, h.room⟩
theorem OneW.kept0 (h : OneW w w1 t n L) (hk : Kept (fun _ => False) w1 w2) : OneW w w2 t n L := by
  obtain ⟨q, h1, h2, h3⟩ := h.ex
  exact ⟨⟨q, h1.kept0 hk, h2, h3⟩, h.kept.trans hk, Nat.le_trans h.room hk.size⟩
theorem TwoW.kept0 (h : TwoW w w1 ta tb n La Lb) (hk : Kept (fun _ => False) w1 w2) : TwoW w w2 ta tb n La Lb := by
  obtain ⟨qa, qb, h1, h2, h3, h4, h5, h6, h7⟩ := h.ex
  exact ⟨⟨qa, qb, h1.kept0 hk, h2.kept0 hk, h3, h4, h5, h6, h7⟩, h.kept.trans hk, Nat.le_trans h.room hk.size⟩
theorem OneW.ok (h : OneW w w1 t n L) : WlOk L := by obtain ⟨q, h1, _⟩ := h.ex; exact h1.ok
theorem TwoW.okA (h : TwoW w w1 ta tb n La Lb) : WlOk La := by obtain ⟨qa, qb, h1, _⟩ := h.ex; exact h1.ok
theorem TwoW.okB (h : TwoW w w1 ta tb n La Lb) : WlOk Lb := h.swap.okA
theorem OneW.add (h : OneW w w1 t n L) (i k : Int) (p : ByteArray) (hi : I64 i) (hp : p.size ≤ 140737488355328) (hc : totW L < 4611686018427387904) :
    Calls Try.prog 29 #[.pointer (some ⟨t, 0, none⟩), .int .i64 i, .int .i64 k, .string p] w1 fun e w' => e = .returned (.int .i64 (addE checkS L i k p)) ∧ OneW w w' t w'.heap.size (addW checkS L i k p) := by
  obtain ⟨q, h1, rfl, h3⟩ := h.ex
  have := h1.ok.len_tot
  refine (add_any h1 i k p hi hp (by omega)).mono ?_
  rintro e w' ⟨he, q', g1, g2, g3, g4⟩
  exact ⟨he, ⟨q', g1, g2, fun j hj => ⟨(g3 j hj).elim (fun hj => (h3 j hj).1) (fun hj => Nat.le_trans h.kept.size hj), g1.lt j hj⟩⟩, h.kept.trans' g4 (fun j hj hs => by have := (h3 j hs).1; omega), Nat.le_refl _⟩
theorem TwoW.add (h : TwoW w w1 ta tb n La Lb) (i k : Int) (p : ByteArray) (hi : I64 i) (hp : p.size ≤ 140737488355328) (hc : totW La < 4611686018427387904) :
    Calls Try.prog 29 #[.pointer (some ⟨ta, 0, none⟩), .int .i64 i, .int .i64 k, .string p] w1 fun e w' => e = .returned (.int .i64 (addE checkS La i k p)) ∧ TwoW w w' ta tb w'.heap.size (addW checkS La i k p) Lb := by
  obtain ⟨qa, qb, h1, h2, rfl, h4, h5, h6, h7⟩ := h.ex
  have := h1.ok.len_tot
  refine (add_any h1 i k p hi hp (by omega)).mono ?_
  rintro e w' ⟨he, q', g1, g2, g3, g4⟩
  have hB := h2.kept g4 (fun j hj hs => h5 j hs hj)
  refine ⟨he, ⟨q', qb, g1, hB, g2, h4, fun j hj hj' => ?_, fun j hj => ⟨(g3 j hj).elim (fun hj => (h6 j hj).1) (fun hj => Nat.le_trans h.kept.size hj), g1.lt j hj⟩, fun j hj => ⟨(h7 j hj).1, hB.lt j hj⟩⟩, h.kept.trans' g4 (fun j hj hs => by have := (h6 j hs).1; omega), Nat.le_refl _⟩
  rcases g3 j hj with hj | hj
  · exact h5 j hj hj'
  · have := h2.lt j hj'; omega
theorem TwoW.drop (h : TwoW w w1 ta tb n La Lb) (i : Int) (hi : I64 i) :
    Calls Try.prog 32 #[.pointer (some ⟨ta, 0, none⟩), .int .i64 i] w1 fun e w' => e = .returned (.tuple #[]) ∧ TwoW w w' ta tb w'.heap.size (delW La i) Lb := by
  obtain ⟨qa, qb, h1, h2, rfl, h4, h5, h6, h7⟩ := h.ex
  refine (drop_any h1 i hi).mono ?_
  rintro e w' ⟨he, q', g1, g2, g3, g4⟩
  have hB := h2.kept g4 (fun j hj hs => h5 j hs hj)
  refine ⟨he, ⟨q', qb, g1, hB, g2, h4, fun j hj hj' => ?_, fun j hj => ⟨(g3 j hj).elim (fun hj => (h6 j hj).1) (fun hj => Nat.le_trans h.kept.size hj), g1.lt j hj⟩, fun j hj => ⟨(h7 j hj).1, hB.lt j hj⟩⟩, h.kept.trans' g4 (fun j hj hs => by have := (h6 j hs).1; omega), Nat.le_refl _⟩
  rcases g3 j hj with hj | hj
  · exact h5 j hj hj'
  · have := h2.lt j hj'; omega
theorem OneW.count (h : OneW w w1 t n L) (i : Int) (hi : I64 i) :
    Calls Try.prog 30 #[.pointer (some ⟨t, 0, none⟩), .int .i64 i] w1 fun e w' => e = .returned (.int .i64 (countW L i)) ∧ w1 = w' := by
  obtain ⟨q, h1, rfl, h3⟩ := h.ex
  exact count_any h1 i hi
theorem TwoW.count (h : TwoW w w1 ta tb n La Lb) (i : Int) (hi : I64 i) :
    Calls Try.prog 30 #[.pointer (some ⟨ta, 0, none⟩), .int .i64 i] w1 fun e w' => e = .returned (.int .i64 (countW La i)) ∧ w1 = w' := by
  obtain ⟨qa, qb, h1, h2, rfl, _⟩ := h.ex
  exact count_any h1 i hi
theorem told_one (L : WL) (e : Ev) : toldAll L [e] = (toldL e.kind e.path L).map (fun s => (s, e)) ∧ fireAll L [e] = fireL e.kind e.path L := by
  simp [toldAll, fireAll]
theorem to_lower {B B' : Nat} {v : Value} {l : List To} (h : ToAt B w v l) (hb : B' ≤ B) : ToAt B' w v l := ⟨h.1, h.2.imp id (fun ⟨g, cap, cur, e1, e2, e3⟩ => ⟨g, cap, cur, e1, Nat.le_trans hb e2, e3⟩)⟩
def Fire1 (w : World) (n : Nat) (w1 : World) (L : WL) (x : Ev) (T : World → WL → Prop) (e : Ending) (w' : World) : Prop :=
  ∃ v, e = .returned v ∧ ToAt n w' v ((toldL x.kind x.path L).map (fun s => (s, x))) ∧ T w' (fireL x.kind x.path L) ∧ Kept (fun k => k < n) w1 w'
theorem OneW.fire (h : OneW w w1 t n L) (x : Ev) (hx : x.path.size ≤ 140737488355328) (hc : totW L ≤ 3000000000000) :
    Calls Try.prog 31 #[.pointer (some ⟨t, 0, none⟩), .slice (some ⟨w1.heap.size, 0, none⟩) 1 1] (w1.alloc (.cells #[.int .i64 x.kind, .string x.path, .int .i64 x.zx] 70))
      (Fire1 w n w1 L x (fun w' L' => OneW w w' t n L')) := by
  have hal : Kept (fun _ => False) w1 (w1.alloc (.cells #[.int .i64 x.kind, .string x.path, .int .i64 x.zx] 70)) := (Kept.refl _ _).alloc _
  have hr := h.room
  have hk := h.kept
  obtain ⟨q, h1, rfl, h3⟩ := h.ex
  obtain ⟨o1, o2⟩ := told_one L x
  refine (fire_any (h1.kept0 hal) _ 1 [x] (ev_one x hx) (fun b off s e hb => by
    injection e with e
    injection e with e1 e2 e3
    have := (h3 b hb).2
    omega) hc).mono ?_
  rintro e w' ⟨v, rfl, hv, q', g1, g2, g3, g4⟩
  rw [o1] at hv; rw [o2] at g1
  have hkk : Kept (fun k => k < n) w1 w' := (hal.mono (T := fun k => k < n) (fun _ _ f => f.elim)).trans (g4.mono (fun j _ hj => (h3 j hj).2))
  exact ⟨v, rfl, to_lower hv (by simp; omega), ⟨⟨q', g1, g2, fun j hj => h3 j (g3 j hj)⟩, (hk.trans hal).trans' g4 (fun j hj hs => by have := (h3 j hs).1; omega), Nat.le_trans hr hkk.size⟩, hkk⟩
theorem TwoW.fire (h : TwoW w w1 ta tb n La Lb) (x : Ev) (hx : x.path.size ≤ 140737488355328) (hc : totW La ≤ 3000000000000) :
    Calls Try.prog 31 #[.pointer (some ⟨ta, 0, none⟩), .slice (some ⟨w1.heap.size, 0, none⟩) 1 1] (w1.alloc (.cells #[.int .i64 x.kind, .string x.path, .int .i64 x.zx] 70))
      (Fire1 w n w1 La x (fun w' L' => TwoW w w' ta tb n L' Lb)) := by
  have hal : Kept (fun _ => False) w1 (w1.alloc (.cells #[.int .i64 x.kind, .string x.path, .int .i64 x.zx] 70)) := (Kept.refl _ _).alloc _
  have hr := h.room
  have hk := h.kept
  obtain ⟨qa, qb, h1, h2, rfl, h4, h5, h6, h7⟩ := h.ex
  obtain ⟨o1, o2⟩ := told_one La x
  refine (fire_any (h1.kept0 hal) _ 1 [x] (ev_one x hx) (fun b off s e hb => by
    injection e with e
    injection e with e1 e2 e3
    have := (h6 b hb).2
    omega) hc).mono ?_
  rintro e w' ⟨v, rfl, hv, q', g1, g2, g3, g4⟩
  rw [o1] at hv; rw [o2] at g1
  have hkk : Kept (fun k => k < n) w1 w' := (hal.mono (T := fun k => k < n) (fun _ _ f => f.elim)).trans (g4.mono (fun j _ hj => (h6 j hj).2))
  exact ⟨v, rfl, to_lower hv (by simp; omega), ⟨⟨q', qb, g1, (h2.kept0 hal).kept g4 (fun j hj hs => h5 j hs hj), g2, h4, fun j hj hj' => h5 j (g3 j hj) hj', fun j hj => h6 j (g3 j hj), h7⟩, (hk.trans hal).trans' g4 (fun j hj hs => by have := (h6 j hs).1; omega), Nat.le_trans hr hkk.size⟩, hkk⟩
/-- two new ones -/
theorem two_new {q1 q2 : WQ} {w3 : World} (hk : Kept (fun _ => False) w w1) (h1 : WAt w2 q1 []) (b1 : ∀ k, WQs q1 k → w1.heap.size ≤ k) (k1 : Kept (fun _ => False) w1 w2)
    (h2 : WAt w3 q2 []) (b2 : ∀ k, WQs q2 k → w2.heap.size ≤ k) (k2 : Kept (fun _ => False) w2 w3) : TwoW w w3 q1.t q2.t w3.heap.size [] [] :=
  ⟨⟨q1, q2, h1.kept0 k2, h2, rfl, rfl, fun k hk1 hk2 => by have := h1.lt k hk1; have := b2 k hk2; omega,
    fun k hk1 => ⟨Nat.le_trans hk.size (b1 k hk1), Nat.lt_of_lt_of_le (h1.lt k hk1) k2.size⟩, fun k hk2 => ⟨Nat.le_trans (Nat.le_trans hk.size k1.size) (b2 k hk2), h2.lt k hk2⟩⟩, (hk.trans k1).trans k2, Nat.le_refl _⟩
end
end Go.Proofs.Ytjpoebajljbocaa
