/- WireSmall holds: any event, hello, note is laid as the document says, and these bytes are read alike by the program and the document as each of the three (W1, W2). No condition. -/
import Derived.Test.YtngcfnffbggniaaRows
import Derived.Test.YtngcfnffbggniaaSmall
import Derived.SizedLaws
import Derived.WalkKit
import Derived.ProofKit
import Derived.OpenShut
import Derived.ChangeOld
import Derived.Below
import Derived.Deep.Slices
import Derived.Deep.Fields
namespace Go.Proofs.Ytngcfnffbggniaa.wireSmall
open Go.ChangeShapes Go.WideShapes Go.ChangeAt Go.RowKit
set_option linter.unusedVariables false

theorem own : ownKnob Try.prog.godebug = none := by kernel_rfl
theorem laidOut : laidOutB Try.prog = true := by kernel_rfl

set_option maxRecDepth 100000 in
theorem open_event {H : Type} {enc : TypeId × Value → H} {w : World} {base : Nat} {spare : Nat → Bool} {held : Bool} {n : Nat} {cs : List Value} {x : DataW H × List MemPlace} (h : DataW.trod enc Try.prog w base spare held n 50 cs = some x) :
    ∃ y : Event, (Str y.path → ∀ W ok, eventE W ok cs y) ∧ x.1 = .agg [.lit (.int .i64 y.kind), .lit (.string y.path.data.toList), .lit (.int .i64 y.zxid)] := by
  obtain ⟨xs, n, _, rfl, hlen, hxl, hf⟩ := DataW.trod_struct Try.underlying50 h
  have hl : cs.length = 3 := hlen.trans (by kernel_rfl)
  match cs, hl, xs, hxl with
  | [c0, c1, c2], _, [y0, y1, y2], _ =>
    have h0 : DataW.trod enc Try.prog w base spare held n 3 [c0] = some y0 := by
      have h := hf 0 _ rfl
      have e : Try.prog.cellsOf 3 = 1 := by kernel_rfl
      simpa [e] using h
    obtain ⟨x0, e0, r0, f0⟩ := DataW.trod_int Try.underlying3 h0
    have b0 := I64.of_wf f0
    simp only [List.cons.injEq, and_true] at e0
    subst e0
    subst r0
    have h1 : DataW.trod enc Try.prog w base spare held n 9 [c1] = some y1 := by
      have h := hf 1 _ rfl
      have e : Try.prog.cellsOf 9 = 1 := by kernel_rfl
      simpa [e] using h
    obtain ⟨x1, e1, r1, f1⟩ := DataW.trod_string Try.underlying9 h1
    simp only [List.cons.injEq, and_true] at e1
    subst e1
    subst r1
    have h2 : DataW.trod enc Try.prog w base spare held n 3 [c2] = some y2 := by
      have h := hf 2 _ rfl
      have e : Try.prog.cellsOf 3 = 1 := by kernel_rfl
      simpa [e] using h
    obtain ⟨x2, e2, r2, f2⟩ := DataW.trod_int Try.underlying3 h2
    have b2 := I64.of_wf f2
    simp only [List.cons.injEq, and_true] at e2
    subst e2
    subst r2
    exact ⟨⟨x0, x1, x2⟩, fun b1 _ _ => ⟨rfl, b0, b1, b2⟩, rfl⟩

set_option maxRecDepth 100000 in
theorem open_hello {H : Type} {enc : TypeId × Value → H} {w : World} {base : Nat} {spare : Nat → Bool} {held : Bool} {n : Nat} {cs : List Value} {x : DataW H × List MemPlace} (h : DataW.trod enc Try.prog w base spare held n 52 cs = some x) :
    ∃ y : Hello, (Str y.secret → ∀ W ok, helloE W ok cs y) ∧ x.1 = .agg [.lit (.int .i64 y.session), .lit (.int .i64 y.zxid), .lit (.int .i64 y.timeout), .lit (.string y.secret.data.toList)] := by
  obtain ⟨xs, n, _, rfl, hlen, hxl, hf⟩ := DataW.trod_struct Try.underlying52 h
  have hl : cs.length = 4 := hlen.trans (by kernel_rfl)
  match cs, hl, xs, hxl with
  | [c0, c1, c2, c3], _, [y0, y1, y2, y3], _ =>
    have h0 : DataW.trod enc Try.prog w base spare held n 3 [c0] = some y0 := by
      have h := hf 0 _ rfl
      have e : Try.prog.cellsOf 3 = 1 := by kernel_rfl
      simpa [e] using h
    obtain ⟨x0, e0, r0, f0⟩ := DataW.trod_int Try.underlying3 h0
    have b0 := I64.of_wf f0
    simp only [List.cons.injEq, and_true] at e0
    subst e0
    subst r0
    have h1 : DataW.trod enc Try.prog w base spare held n 3 [c1] = some y1 := by
      have h := hf 1 _ rfl
      have e : Try.prog.cellsOf 3 = 1 := by kernel_rfl
      simpa [e] using h
    obtain ⟨x1, e1, r1, f1⟩ := DataW.trod_int Try.underlying3 h1
    have b1 := I64.of_wf f1
    simp only [List.cons.injEq, and_true] at e1
    subst e1
    subst r1
    have h2 : DataW.trod enc Try.prog w base spare held n 3 [c2] = some y2 := by
      have h := hf 2 _ rfl
      have e : Try.prog.cellsOf 3 = 1 := by kernel_rfl
      simpa [e] using h
    obtain ⟨x2, e2, r2, f2⟩ := DataW.trod_int Try.underlying3 h2
    have b2 := I64.of_wf f2
    simp only [List.cons.injEq, and_true] at e2
    subst e2
    subst r2
    have h3 : DataW.trod enc Try.prog w base spare held n 9 [c3] = some y3 := by
      have h := hf 3 _ rfl
      have e : Try.prog.cellsOf 9 = 1 := by kernel_rfl
      simpa [e] using h
    obtain ⟨x3, e3, r3, f3⟩ := DataW.trod_string Try.underlying9 h3
    simp only [List.cons.injEq, and_true] at e3
    subst e3
    subst r3
    exact ⟨⟨x0, x1, x2, x3⟩, fun b3 _ _ => ⟨rfl, b0, b1, b2, b3⟩, rfl⟩

set_option maxRecDepth 100000 in
theorem open_note {H : Type} {enc : TypeId × Value → H} {w : World} {base : Nat} {spare : Nat → Bool} {held : Bool} {n : Nat} {cs : List Value} {x : DataW H × List MemPlace} (h : DataW.trod enc Try.prog w base spare held n 54 cs = some x) :
    ∃ y : Note, (∀ W ok, noteE W ok cs y) ∧ x.1 = .agg [.lit (.int .i64 y.from_), .lit (.int .i64 y.state), .lit (.int .i64 y.round), .lit (.int .i64 y.leader), .lit (.int .i64 y.epoch), .lit (.int .i64 y.zxid)] := by
  obtain ⟨xs, n, _, rfl, hlen, hxl, hf⟩ := DataW.trod_struct Try.underlying54 h
  have hl : cs.length = 6 := hlen.trans (by kernel_rfl)
  match cs, hl, xs, hxl with
  | [c0, c1, c2, c3, c4, c5], _, [y0, y1, y2, y3, y4, y5], _ =>
    have h0 : DataW.trod enc Try.prog w base spare held n 3 [c0] = some y0 := by
      have h := hf 0 _ rfl
      have e : Try.prog.cellsOf 3 = 1 := by kernel_rfl
      simpa [e] using h
    obtain ⟨x0, e0, r0, f0⟩ := DataW.trod_int Try.underlying3 h0
    have b0 := I64.of_wf f0
    simp only [List.cons.injEq, and_true] at e0
    subst e0
    subst r0
    have h1 : DataW.trod enc Try.prog w base spare held n 3 [c1] = some y1 := by
      have h := hf 1 _ rfl
      have e : Try.prog.cellsOf 3 = 1 := by kernel_rfl
      simpa [e] using h
    obtain ⟨x1, e1, r1, f1⟩ := DataW.trod_int Try.underlying3 h1
    have b1 := I64.of_wf f1
    simp only [List.cons.injEq, and_true] at e1
    subst e1
    subst r1
    have h2 : DataW.trod enc Try.prog w base spare held n 3 [c2] = some y2 := by
      have h := hf 2 _ rfl
      have e : Try.prog.cellsOf 3 = 1 := by kernel_rfl
      simpa [e] using h
    obtain ⟨x2, e2, r2, f2⟩ := DataW.trod_int Try.underlying3 h2
    have b2 := I64.of_wf f2
    simp only [List.cons.injEq, and_true] at e2
    subst e2
    subst r2
    have h3 : DataW.trod enc Try.prog w base spare held n 3 [c3] = some y3 := by
      have h := hf 3 _ rfl
      have e : Try.prog.cellsOf 3 = 1 := by kernel_rfl
      simpa [e] using h
    obtain ⟨x3, e3, r3, f3⟩ := DataW.trod_int Try.underlying3 h3
    have b3 := I64.of_wf f3
    simp only [List.cons.injEq, and_true] at e3
    subst e3
    subst r3
    have h4 : DataW.trod enc Try.prog w base spare held n 3 [c4] = some y4 := by
      have h := hf 4 _ rfl
      have e : Try.prog.cellsOf 3 = 1 := by kernel_rfl
      simpa [e] using h
    obtain ⟨x4, e4, r4, f4⟩ := DataW.trod_int Try.underlying3 h4
    have b4 := I64.of_wf f4
    simp only [List.cons.injEq, and_true] at e4
    subst e4
    subst r4
    have h5 : DataW.trod enc Try.prog w base spare held n 3 [c5] = some y5 := by
      have h := hf 5 _ rfl
      have e : Try.prog.cellsOf 3 = 1 := by kernel_rfl
      simpa [e] using h
    obtain ⟨x5, e5, r5, f5⟩ := DataW.trod_int Try.underlying3 h5
    have b5 := I64.of_wf f5
    simp only [List.cons.injEq, and_true] at e5
    subst e5
    subst r5
    exact ⟨⟨x0, x1, x2, x3, x4, x5⟩, fun _ _ => ⟨rfl, b0, b1, b2, b3, b4, b5⟩, rfl⟩

set_option maxRecDepth 100000 in
theorem lifted (os : Os) (started : os.Started) (H : Type) (enc : TypeId × Value → H) :
    ReturnsInHanded {} Try.checked os 6 .any (Rows.wireSmallSpec.pre6 enc Try.prog Try.f6 Rows.wireSmallRow.domain false) (Rows.wireSmallSpec.post enc Try.prog Try.f6 false true false false) := by
  refine returnsInHanded_of_change_sized (C := Try.checked) own started (by kernel_rfl) Try.func6
    (ChangeSpec.witness6 (enc := enc) (C := Try.checked) false ⟨#[], #[.agg #[.int .i64 0, .string .empty, .int .i64 0], .agg #[.int .i64 0, .int .i64 0, .int .i64 0, .string .empty], .agg #[.int .i64 0, .int .i64 0, .int .i64 0, .int .i64 0, .int .i64 0, .int .i64 0]], []⟩ 8 (by kernel_rfl) (by kernel_rfl) (by kernel_rfl) (by kernel_rfl)) ?_
  intro W base args ds gs before hval0 hW hcnd hsz0 _
  have hsz : (DataW.weightsEach Try.prog (Try.f6.params.toList ++ Rows.wireSmallSpec.plain.varTypes Try.prog) (ds ++ gs)).all (· ≤ reachBytes) = true := hsz0
  clear hsz0
  have hval : ∀ (j : Nat) t v, Try.f6.params[j]? = some t → args[j]? = some v → Value.okWide Try.prog W .any base t v := hval0
  have hW' := hW
  obtain ⟨p, q, hA0, hV, rfl, hfz, hnd⟩ := hW
  have hA : DataW.TrodAll enc Try.prog W 0 (fun _ => true) true Try.f6.params.toList args.toList ds p := hA0
  rw [Try.params6] at hA hval hsz
  obtain ⟨v0, vs0, d0, ds0, p0, q0, hargs, rfl, rfl, h0, r0⟩ := trodAll_cons hA
  obtain ⟨v1, vs1, d1, ds1, p1, q1, rfl, rfl, rfl, h1, r1⟩ := trodAll_cons r0
  obtain ⟨v2, vs2, d2, ds2, p2, q2, rfl, rfl, rfl, h2, r2⟩ := trodAll_cons r1
  obtain ⟨rfl, rfl, rfl⟩ := trodAll_nil r2
  obtain rfl : args = #[v0, v1, v2] := by cases args; simp_all
  obtain ⟨rfl, rfl⟩ := trodVars_none hV
  have k0 := h0
  have lt0 : ∀ x ∈ p0, x.block < W.heap.size := by obtain ⟨m, hm⟩ := k0; exact DataW.trod_lt m _ _ _ hm
  obtain ⟨cs0, rfl, hcs0⟩ := okWide_struct Try.underlying50 (hval 0 50 v0 rfl rfl)
  obtain ⟨m0, hm0⟩ := h0
  obtain ⟨x0, hE0, hd0⟩ := open_event hm0
  simp only at hd0
  have k1 := h1
  have lt1 : ∀ x ∈ p1, x.block < W.heap.size := by obtain ⟨m, hm⟩ := k1; exact DataW.trod_lt m _ _ _ hm
  obtain ⟨cs1, rfl, hcs1⟩ := okWide_struct Try.underlying52 (hval 1 52 v1 rfl rfl)
  obtain ⟨m1, hm1⟩ := h1
  obtain ⟨x1, hE1, hd1⟩ := open_hello hm1
  simp only at hd1
  have k2 := h2
  have lt2 : ∀ x ∈ p2, x.block < W.heap.size := by obtain ⟨m, hm⟩ := k2; exact DataW.trod_lt m _ _ _ hm
  obtain ⟨cs2, rfl, hcs2⟩ := okWide_struct Try.underlying54 (hval 2 54 v2 rfl rfl)
  obtain ⟨m2, hm2⟩ := h2
  obtain ⟨x2, hE2, hd2⟩ := open_note hm2
  simp only at hd2
  clear hA0 hval0
  have z0 : x0.path.size ≤ 140737488351232 := by
    have := List.all_eq_true.1 hsz _ (DataW.weights_mem_each (j := 0) (t := 50) rfl rfl x0.path.data.toList.length (by simp [hd0, DataW.weights, DataW.weightsEach, Try.underlying50]))
    have h := of_decide_eq_true this
    rw [str_len] at h
    exact h
  have z1 : x1.secret.size ≤ 140737488351232 := by
    have := List.all_eq_true.1 hsz _ (DataW.weights_mem_each (j := 1) (t := 52) rfl rfl x1.secret.data.toList.length (by simp [hd1, DataW.weights, DataW.weightsEach, Try.underlying52]))
    have h := of_decide_eq_true this
    rw [str_len] at h
    exact h
  refine (walk0 x0 x1 x2 cs0.toList cs1.toList cs2.toList (fun _ => False) W (hE0 (by unfold Str; omega) _ _) (hE1 (by unfold Str; omega) _ _) (hE2 _ _) z0 z1).mono fun e W' ⟨he, hO⟩ => ?_
  subst he
  have bel := hO.below
  exact ⟨_, rfl, _, _, _, [], _, [], hW', trodAll_mk1 (shut_bool Try.underlying4 _), (trodAll_cons_mk (Below.trod laidOut (by kernel_rfl) (of_decide_eq_true (by kernel_rfl)) k0 bel lt0) (trodAll_cons_mk (Below.trod laidOut (by kernel_rfl) (of_decide_eq_true (by kernel_rfl)) k1 bel lt1) (trodAll_cons_mk (Below.trod laidOut (by kernel_rfl) (of_decide_eq_true (by kernel_rfl)) k2 bel lt2) trodAll_mk0))), rfl, bel.frame _, fun h => by cases h⟩

theorem over : Rows.wireSmallRow.holds Try.pinned (OpenSpec.ofChange Rows.wireSmallSpec) :=
  OpenClaim.holds_of_wide 6 Try.f6 rfl rfl rfl rfl rfl rfl rfl ⟨rfl, rfl, rfl, rfl, rfl⟩ rfl rfl rfl rfl rfl (by kernel_rfl) Try.func6 (by kernel_rfl)
    (of_decide_eq_true (by kernel_rfl)) (by unfold Func.isWrapper; first | (rw [if_pos (by decide +kernel)]; kernel_rfl) | (rw [if_neg (by decide +kernel)]; exact ⟨rfl, rfl⟩))
    (fun os started H enc _ => lifted os started H enc)

/-- the given statement -/
theorem proved : Rows.WireSmallSaid := over
#print axioms proved
end Go.Proofs.Ytngcfnffbggniaa.wireSmall
