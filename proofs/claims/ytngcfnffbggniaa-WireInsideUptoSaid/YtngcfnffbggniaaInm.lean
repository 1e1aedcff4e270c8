/- An entry inside a message: where it lies among the message's bytes; a list cut short. -/
import Derived.Test.YtngcfnffbggniaaApp
namespace Go.Proofs.Ytngcfnffbggniaa
open Go.ChangeShapes Go.WideShapes Go.ChangeAt Go.RowKit
set_option linter.unusedVariables false

theorem layN_app {α : Type} (f : Fmt α) (l r : List α) : layN f (l ++ r) = layN f l ++ layN f r := by simp [layN]
theorem layN_takel {α : Type} (f : Fmt α) (l : List α) (n : Nat) : (layN f (l.take n)).length ≤ (layN f l).length := by
  have h : layN f l = layN f (l.take n) ++ layN f (l.drop n) := by rw [← layN_app, List.take_append_drop]
  rw [h, List.length_append]; omega

theorem message_split' (y : Message) : ∃ a b, 0 < b.length ∧ ∀ l, messageF.lay (withEntries y l) = a ++ (sev l.length ++ (layN entryF l ++ b)) := by
  refine ⟨sev (zz y.kind) ++ (sev (zz y.epoch) ++ (sev (zz y.zxid) ++ (sev (zz y.number) ++ (sev (zz y.session) ++ ((listF numF).lay y.marks ++ (textF 65536).lay y.data))))), reqF.lay y.request ++ (listF (textF 4096)).lay y.ids, ?_, fun l => by
    simp only [messageF, isoF, seqF, listF, numF, withEntries, List.append_assoc]⟩
  have h := sev_length_pos (zz y.request.op.kind)
  obtain ⟨r, e⟩ : ∃ r, reqF.lay y.request = sev (zz y.request.op.kind) ++ r := ⟨_, by simp only [reqF, isoF, seqF, oper1F, numF, List.append_assoc]; rfl⟩
  rw [e, List.length_append, List.length_append]; omega

/-- where the last entry lies -/
structure At (t s : List UInt8) (p : Nat) : Prop where
  room : p + 1 + s.length ≤ t.length
  eq : (t.drop p).take s.length = s

theorem inside_at (y : Message) (l : List Entry) (x : Entry) : ∃ p, At (messageF.lay (withEntries y (l ++ [x]))) (entryF.lay x) p := by
  obtain ⟨a, b, hb, h⟩ := message_split' y
  refine ⟨(a ++ (sev (l ++ [x]).length ++ layN entryF l)).length, ?_, ?_⟩
  · rw [h, layN_app]
    simp only [List.length_append, layN, List.flatMap_cons, List.flatMap_nil, List.append_nil]
    omega
  · have e : messageF.lay (withEntries y (l ++ [x])) = (a ++ (sev (l ++ [x]).length ++ layN entryF l)) ++ (entryF.lay x ++ b) := by
      rw [h, layN_app]
      simp only [layN, List.flatMap_cons, List.flatMap_nil, List.append_nil, List.append_assoc]
    rw [e, List.drop_left, List.take_left]

theorem inside_len (y : Message) (x : Entry) (n : Nat) (hn : n ≤ 100) : (messageF.lay (withEntries y (y.entries.take n ++ [x]))).length ≤ (messageF.lay y).length + (entryF.lay x).length + 10 := by
  obtain ⟨a, b, hb, h⟩ := message_split' y
  have h0 := h y.entries
  rw [withEntries_self] at h0
  rw [h, h0, layN_app]
  have h1 := layN_takel entryF y.entries n
  have h2 := sev_length_u64 (n := (y.entries.take n ++ [x]).length) (by simp; omega)
  simp only [List.length_append, layN, List.flatMap_cons, List.flatMap_nil, List.append_nil] at h1 h2 ⊢
  omega

theorem at_str {s t : ByteArray} {p : Nat} (h : At t.data.toList s.data.toList p) : t.extract p (p + s.size) = s := by
  apply str_eq
  rw [Lib.extract_data]
  have := h.eq
  rw [str_len] at this
  simpa using this

theorem ListR.take {α : Type} {E : CellsOf α} {w : World} {ok : Nat → Prop} {sz : Nat} {A : Option Addr} {n c : Nat} {l : List α} (h : ListR E w ok sz (.slice A n c) l) (k : Nat) (hk : k ≤ n) : ListR E w ok sz (.slice A k c) (l.take k) := by
  obtain ⟨rows, ⟨A', c', hv, hc, hm, hat⟩, hlen, hel⟩ := h
  simp only [Value.slice.injEq] at hv
  obtain ⟨rfl, rfl, rfl⟩ := hv
  refine ⟨rows.take k, ⟨A, c, by simp; omega, by simp; omega, hm, ?_⟩, by simp [hlen], fun i hi hi' => ?_⟩
  · rcases hat with h0 | ⟨g, off, hA, hok, hg, hcell⟩
    · exact Or.inl (by simp [h0])
    · refine Or.inr ⟨g, off, hA, hok, hg, fun i hi => ?_⟩
      have hi2 : i < rows.length := by simp at hi; omega
      have := hcell i hi2
      rw [List.getElem_take]
      exact this
  · rw [List.getElem_take, List.getElem_take]
    exact hel i (by simp at hi; omega) (by simp at hi'; omega)
end Go.Proofs.Ytngcfnffbggniaa
