/- The lists of a message that came out: they may be written over. A message, laid. A message, taken up. Message: Put and Get. The document's own answers of layer 2: a message taken up, in a block of its own behind the reader's. -/
import Derived.Test.YtpmemcpfoapjmaaGreatQ08
import Derived.Test.YtpmemcpfoapjmaaGreatQ11
import Derived.Test.YtpmemcpfoapjmaaGreatQ15
import Derived.Test.YtpmemcpfoapjmaaGreatQ07
import Derived.Test.YtpmemcpfoapjmaaGreatQ06
import Derived.Test.YtpmemcpfoapjmaaGreatQ10
import Derived.Test.YtpmemcpfoapjmaaGreatQ14
import Derived.Test.YtpmemcpfoapjmaaGreatQ19
namespace Go.Proofs.YtpmemcpfoapjmaaGreat
open Go.ChangeShapes Go.WideShapes Go.ChangeAt Go.RowKit
set_option linter.unusedVariables false

/-- a list of numbers or of texts in a block of its own -/
def OwnX (w : World) (base top : Nat) (v : Value) : Prop := ∃ T : TypeId, T ≠ 36 ∧ T ≠ 38 ∧ OwnL w base top T 1 v
theorem str_txn : 9 ≠ (36 : Nat) := by decide
theorem str_entry : 9 ≠ (38 : Nat) := by decide
theorem int_entry : 3 ≠ (38 : Nat) := by decide
theorem entry_txn : 38 ≠ (36 : Nat) := by decide
theorem ListR.ownsX {α : Type} {E : CellsOf α} {w : World} {ok : Nat → Prop} {v : Value} {l : List α} (h : ListR E w ok 1 v l) (h0 : ¬ ok 0) {base : Nat} (hb : ∀ k, ok k → base ≤ k) : OwnX w base w.heap.size v := by
  obtain ⟨rows, ⟨A, c, rfl, hc, hm, hat⟩, hlen, hel⟩ := h
  rcases hat with ⟨_, h1 | h1⟩ | ⟨g, off, hA, hok, hg, hcell⟩
  · exact ⟨3, int_txn, int_entry, A, rows.length, c, rfl, hc, hm, Or.inl h1⟩
  · exact absurd h1.1 h0
  · obtain ⟨rfl, cur, T', h2, h3, h4⟩ := hok.2.2 h0
    have hT : T' ≠ 36 ∧ T' ≠ 38 := by
      rcases h4.2.2.2 rfl with rfl | rfl
      · exact ⟨int_txn, int_entry⟩
      · exact ⟨str_txn, str_entry⟩
    exact ⟨T', hT.1, hT.2, A, rows.length, c, rfl, hc, hm, Or.inr ⟨g, cur, hA, hb g hok.1, hg, h2, h3⟩⟩
section
variable {w w' : World} {base top : Nat} {v : Value}
theorem OwnX.soft (h : OwnX w base top v) (hs : Soft base top w w') : OwnX w' base top v := by
  obtain ⟨T, h1, h2, h3⟩ := h
  exact ⟨T, h1, h2, h3.soft hs⟩
theorem OwnX.old (h : OwnX w base top v) (hk : Old w w') : OwnX w' base top v := by
  obtain ⟨T, h1, h2, h3⟩ := h
  exact ⟨T, h1, h2, h3.keep hk (fun _ _ _ f => f)⟩
theorem OwnX.set (h : OwnX w base top v) (b o : Nat) (vs : List Value) : OwnX (w.setCells b o vs) base top v := by
  obtain ⟨T, h1, h2, h3⟩ := h
  exact ⟨T, h1, h2, h3.set b o vs⟩
theorem OwnX.len {A : Option Addr} {n c : Nat} (h : OwnX w base top (.slice A n c)) : n ≤ c ∧ c ≤ maxLen := by
  obtain ⟨T, h1, h2, h3⟩ := h
  exact h3.len
theorem OwnX.at_ {A : Option Addr} {n c : Nat} (h : OwnX w base top (.slice A n c)) {i : Nat} (hi : i < n) : ∃ g, A = some ⟨g, 0, none⟩ ∧ w.there g i 1 ∧ ∀ vs, Soft base top w (w.setCells g i vs) := by
  obtain ⟨T, h1, h2, h3⟩ := h
  obtain ⟨g, hA, hb, ht, hth, cur, hcur⟩ := h3.at_ hi
  rw [Nat.mul_one] at hth
  exact ⟨g, hA, hth, fun vs => (Soft.refl base top w).misc hcur h1 h2 hb ht i vs⟩

theorem OvOk.old {vs va : Value} (h : OvOk w base top vs va) (hk : Old w w') : OvOk w' base top vs va := ⟨h.subs.keep hk (fun _ _ _ f => f), h.acl.keep hk (fun _ _ _ f => f), h.rows.keep h.subs hk (fun _ _ _ f => f)⟩
theorem OvOk.entry_set {vs va : Value} (h : OvOk w base top vs va) {g : Nat} {cur : Array Value} (hg : w.heap[g]? = some (.cells cur 38 (0, 0))) (o : Nat) (cs : List Value) : OvOk (w.setCells g o cs) base top vs va := by
  refine ⟨h.subs.set _ _ _, h.acl.set _ _ _, fun gs n c hv j hij hj => ?_⟩
  obtain ⟨u, hc, ho⟩ := h.rows gs n c hv j hij hj
  have hs := h.subs
  rw [hv] at hs
  obtain ⟨cur', hb'⟩ := hs.block
  have hne : gs ≠ g := fun e => by
    rw [e, hg] at hb'
    simp only [Option.some.injEq, Obj.cells.injEq] at hb'
    exact entry_txn hb'.2.1
  exact ⟨u, by rw [World.cell?_of_block (heap_setCells w g o cs hne)]; exact hc, ho.set _ _ _⟩
end

/-- of the entries from i on, the lists may be written over -/
def RowsE (w : World) (base top : Nat) (ve : Value) (i : Nat) : Prop :=
  ∀ ge n c, ve = .slice (some ⟨ge, 0, none⟩) n c → ∀ j, i ≤ j → j < n → ∃ (v0 v1 v2 v3 v4 v5 : Value) (Aa : Option Addr) (na ca : Nat) (v7 v8 v9 : Value) (As : Option Addr) (ns c' : Nat),
    w.rangeAt ge (j * 11) [v0, v1, v2, v3, v4, v5, .slice Aa na ca, v7, v8, v9, .slice As ns c'] ∧ OvOk w base top (.slice As ns c') (.slice Aa na ca) ∧ na ≤ 256 ∧ ns ≤ 256

theorem rows_e {w : World} {ok : Nat → Prop} {ve : Value} {l : List Entry} (h : ListR entryE w ok 11 ve l) (h0 : ¬ ok 0) {base : Nat} (hb : ∀ k, ok k → base ≤ k) (hl : ∀ x ∈ l, x.txn.part.acl.length ≤ 256 ∧ x.txn.subs.length ≤ 256) : RowsE w base w.heap.size ve 0 := by
  obtain ⟨rows, ⟨A, c, rfl, hc, hm, hat⟩, hlen, hel⟩ := h
  intro ge n c' hv j _ hj
  simp only [Value.slice.injEq] at hv
  obtain ⟨rfl, rfl, rfl⟩ := hv
  rcases hat with ⟨h1, _⟩ | ⟨g, off, hA, hok, hg, hcell⟩
  · rw [h1] at hj; simp at hj
  · obtain ⟨hoff, _⟩ := hok.2.2 h0
    subst hoff
    simp only [Option.some.injEq, Addr.mk.injEq, and_true] at hA
    subst hA
    have hjl : j < l.length := by omega
    obtain ⟨Aa, ca, As, c', hrow, hov⟩ := over_ok (hel j hjl hj) h0 hb
    have hx := hl _ (List.getElem_mem hjl)
    refine ⟨.int .i64 l[j].zxid, .int .i64 l[j].session, .int .i64 l[j].xid, .int .i64 l[j].txn.part.kind, .string l[j].txn.part.path, .string l[j].txn.part.data, Aa, _, ca, .int .i64 l[j].txn.part.owner, .int .i64 l[j].txn.part.number, .int .i64 l[j].txn.part.err, As, _, c', ?_, hov, hx.1, hx.2⟩
    rw [← hrow]
    intro k u hu
    obtain ⟨hk1, hk2⟩ := List.getElem?_eq_some_iff.1 hu
    rw [← hk2, ← (hcell j hj).2 k hk1, Nat.zero_add]

section
variable {w w' : World} {base top : Nat} {ve : Value} {i : Nat}
theorem range_block {g o : Nat} {cs : List Value} (h : w.rangeAt g o cs) (hb : w'.heap[g]? = w.heap[g]?) : w'.rangeAt g o cs := fun j v hv => by rw [World.cell?_of_block hb]; exact h j v hv
theorem RowsE.soft (h : RowsE w base top ve i) (ho : OwnL w base top 38 11 ve) (hs : Soft base top w w') : RowsE w' base top ve i := by
  intro ge n c hv j hij hj
  obtain ⟨v0, v1, v2, v3, v4, v5, Aa, na, ca, v7, v8, v9, As, ns, c', hr, hov, h1, h2⟩ := h ge n c hv j hij hj
  obtain ⟨_, _, cur, hh⟩ := ho.ownBlock ge (by rw [hv]; rfl)
  exact ⟨v0, v1, v2, v3, v4, v5, Aa, na, ca, v7, v8, v9, As, ns, c', range_block hr (hs.entry ge cur hh), hov.soft hs, h1, h2⟩
theorem RowsE.old (h : RowsE w base top ve i) (ho : OwnL w base top 38 11 ve) (hk : Old w w') : RowsE w' base top ve i := by
  intro ge n c hv j hij hj
  obtain ⟨v0, v1, v2, v3, v4, v5, Aa, na, ca, v7, v8, v9, As, ns, c', hr, hov, h1, h2⟩ := h ge n c hv j hij hj
  obtain ⟨_, _, cur, hh⟩ := ho.ownBlock ge (by rw [hv]; rfl)
  exact ⟨v0, v1, v2, v3, v4, v5, Aa, na, ca, v7, v8, v9, As, ns, c', range_block hr (hk.block ge (lt_of_block hh) id), hov.old hk, h1, h2⟩
theorem RowsE.row_set {ge n c : Nat} (h : RowsE w base top (.slice (some ⟨ge, 0, none⟩) n c) i) {cur : Array Value} (hg : w.heap[ge]? = some (.cells cur 38 (0, 0))) (cs : List Value) (hl : cs.length = 11) : RowsE (w.setCells ge (i * 11) cs) base top (.slice (some ⟨ge, 0, none⟩) n c) (i + 1) := by
  intro ge' n' c' hv j hij hj
  obtain ⟨v0, v1, v2, v3, v4, v5, Aa, na, ca, v7, v8, v9, As, ns, c2, hr, hov, h1, h2⟩ := h ge' n' c' hv j (by omega) hj
  simp only [Value.slice.injEq, Option.some.injEq, Addr.mk.injEq, and_true] at hv
  obtain ⟨rfl, rfl, rfl⟩ := hv
  refine ⟨v0, v1, v2, v3, v4, v5, Aa, na, ca, v7, v8, v9, As, ns, c2, fun k u hu => ?_, hov.entry_set hg _ _, h1, h2⟩
  rw [World.cell?_setCells_out ge cs (i * 11) w _ (fun _ _ => Or.inr (by simp only [hl]; omega))]
  exact hr k u hu
end

/-- the lists of a message, the entries from i on -/
structure MsgOk (w : World) (base top : Nat) (vm ve vi : Value) (i : Nat) : Prop where
  marks : OwnX w base top vm
  ents : OwnL w base top 38 11 ve
  rows : RowsE w base top ve i
  ids : OwnX w base top vi
section
variable {w w' : World} {base top : Nat} {vm ve vi : Value} {i : Nat}
theorem MsgOk.soft (h : MsgOk w base top vm ve vi i) (hs : Soft base top w w') : MsgOk w' base top vm ve vi i := ⟨h.marks.soft hs, h.ents.soft hs, h.rows.soft h.ents hs, h.ids.soft hs⟩
theorem MsgOk.old (h : MsgOk w base top vm ve vi i) (hk : Old w w') : MsgOk w' base top vm ve vi i := ⟨h.marks.old hk, h.ents.keep hk (fun _ _ _ f => f), h.rows.old h.ents hk, h.ids.old hk⟩
theorem MsgOk.row {ge n c : Nat} (h : MsgOk w base top vm (.slice (some ⟨ge, 0, none⟩) n c) vi i) {cur : Array Value} (hg : w.heap[ge]? = some (.cells cur 38 (0, 0))) (cs : List Value) (hl : cs.length = 11) : MsgOk (w.setCells ge (i * 11) cs) base top vm (.slice (some ⟨ge, 0, none⟩) n c) vi (i + 1) :=
  ⟨h.marks.set _ _ _, h.ents.set _ _ _, h.rows.row_set hg cs hl, h.ids.set _ _ _⟩
end
/-- a message that came out -/
theorem msg_ok {x : Message} {cs : List Value} {ok : Nat → Prop} {base : Nat} {w : World} (hE : messageE w ok cs x) (h0 : ¬ ok 0) (hb : ∀ k, ok k → base ≤ k) (hl : ∀ e ∈ x.entries, e.txn.part.acl.length ≤ 256 ∧ e.txn.subs.length ≤ 256) :
    ∃ vm ve vi, cs[5]? = some vm ∧ cs[7]? = some ve ∧ cs[18]? = some vi ∧ MsgOk w base w.heap.size vm ve vi 0 := by
  obtain ⟨vm, ve, cr, vi, rfl, hM, hEn, hR, hI, _⟩ := hE
  have hcr : cr.length = 10 := (reqE_flat hR).1
  match cr, hcr with
  | [r0, r1, r2, r3, r4, r5, r6, r7, r8, r9], _ =>
    exact ⟨vm, ve, vi, rfl, rfl, rfl, hM.ownsX h0 hb, hEn.owns (fun T' h => h.2.2.1 rfl) h0 hb, rows_e hEn h0 hb hl, hI.ownsX h0 hb⟩
end Go.Proofs.YtpmemcpfoapjmaaGreat

namespace Go.Proofs.YtpmemcpfoapjmaaGreat
open Go.ChangeShapes Go.WideShapes Go.ChangeAt Go.RowKit
set_option linter.unusedVariables false

set_option maxRecDepth 100000 in
set_option maxHeartbeats 600000 in
theorem put_message (x : Message) (cs : List Value) (ok : Nat → Prop) (w : World) (b : Nat) (v : Value) (l : List UInt8) (hW : WAt w b v l) (hE : messageE w ok cs x) (hd : Disj ok (WS b v)) (hi : In w ok) (hl : l.length + (messageF.lay x).length ≤ 144900000000000) :
    Calls Tryz.prog 20 #[.pointer (some ⟨b, 0, none⟩), .agg cs.toArray] w (WPost w b v (l ++ messageF.lay x)) := by
  obtain ⟨vmarks, ventries, cr, vids, rfl, hmarks, hentries, hreq, hids, hn_kind, hn_epoch, hn_zxid, hn_number, hn_session, hs_data⟩ := hE
  obtain ⟨A_acl, n_acl, c_acl, A_subs, n_subs, c_subs, A_armed, n_armed, c_armed, rfl⟩ := reqE_cells hreq
  obtain ⟨A_marks, n_marks, c_marks, rfl⟩ := hmarks.shape
  obtain ⟨A_entries, n_entries, c_entries, rfl⟩ := hentries.shape
  obtain ⟨A_ids, n_ids, c_ids, rfl⟩ := hids.shape
  have S0 := WSt.box hW (.cells #[.int .i64 x.kind, .int .i64 x.epoch, .int .i64 x.zxid, .int .i64 x.number, .int .i64 x.session, .slice A_marks n_marks c_marks, .string x.data, .slice A_entries n_entries c_entries, .int .i64 x.request.op.kind, .int .i64 x.request.op.xid, .string x.request.op.path, .string x.request.op.data, .slice A_acl n_acl c_acl, .int .i64 x.request.op.flags, .int .i64 x.request.op.version, .bool x.request.op.watch, .slice A_subs n_subs c_subs, .slice A_armed n_armed c_armed, .slice A_ids n_ids c_ids] 31)
  have hnb := box_new hW
  have hbk := heap_alloc_new w (.cells #[.int .i64 x.kind, .int .i64 x.epoch, .int .i64 x.zxid, .int .i64 x.number, .int .i64 x.session, .slice A_marks n_marks c_marks, .string x.data, .slice A_entries n_entries c_entries, .int .i64 x.request.op.kind, .int .i64 x.request.op.xid, .string x.request.op.path, .string x.request.op.data, .slice A_acl n_acl c_acl, .int .i64 x.request.op.flags, .int .i64 x.request.op.version, .bool x.request.op.watch, .slice A_subs n_subs c_subs, .slice A_armed n_armed c_armed, .slice A_ids n_ids c_ids] 31)
  replace hmarks := hmarks.keep intE_ok ((Kept.refl (fun _ => False) w).alloc (.cells #[.int .i64 x.kind, .int .i64 x.epoch, .int .i64 x.zxid, .int .i64 x.number, .int .i64 x.session, .slice A_marks n_marks c_marks, .string x.data, .slice A_entries n_entries c_entries, .int .i64 x.request.op.kind, .int .i64 x.request.op.xid, .string x.request.op.path, .string x.request.op.data, .slice A_acl n_acl c_acl, .int .i64 x.request.op.flags, .int .i64 x.request.op.version, .bool x.request.op.watch, .slice A_subs n_subs c_subs, .slice A_armed n_armed c_armed, .slice A_ids n_ids c_ids] 31)) (disj_none ok)
  replace hentries := hentries.keep entryE_ok ((Kept.refl (fun _ => False) w).alloc (.cells #[.int .i64 x.kind, .int .i64 x.epoch, .int .i64 x.zxid, .int .i64 x.number, .int .i64 x.session, .slice A_marks n_marks c_marks, .string x.data, .slice A_entries n_entries c_entries, .int .i64 x.request.op.kind, .int .i64 x.request.op.xid, .string x.request.op.path, .string x.request.op.data, .slice A_acl n_acl c_acl, .int .i64 x.request.op.flags, .int .i64 x.request.op.version, .bool x.request.op.watch, .slice A_subs n_subs c_subs, .slice A_armed n_armed c_armed, .slice A_ids n_ids c_ids] 31)) (disj_none ok)
  replace hreq := reqE_ok.keep hreq ((Kept.refl (fun _ => False) w).alloc (.cells #[.int .i64 x.kind, .int .i64 x.epoch, .int .i64 x.zxid, .int .i64 x.number, .int .i64 x.session, .slice A_marks n_marks c_marks, .string x.data, .slice A_entries n_entries c_entries, .int .i64 x.request.op.kind, .int .i64 x.request.op.xid, .string x.request.op.path, .string x.request.op.data, .slice A_acl n_acl c_acl, .int .i64 x.request.op.flags, .int .i64 x.request.op.version, .bool x.request.op.watch, .slice A_subs n_subs c_subs, .slice A_armed n_armed c_armed, .slice A_ids n_ids c_ids] 31)) (disj_none ok)
  replace hids := hids.keep textE_ok ((Kept.refl (fun _ => False) w).alloc (.cells #[.int .i64 x.kind, .int .i64 x.epoch, .int .i64 x.zxid, .int .i64 x.number, .int .i64 x.session, .slice A_marks n_marks c_marks, .string x.data, .slice A_entries n_entries c_entries, .int .i64 x.request.op.kind, .int .i64 x.request.op.xid, .string x.request.op.path, .string x.request.op.data, .slice A_acl n_acl c_acl, .int .i64 x.request.op.flags, .int .i64 x.request.op.version, .bool x.request.op.watch, .slice A_subs n_subs c_subs, .slice A_armed n_armed c_armed, .slice A_ids n_ids c_ids] 31)) (disj_none ok)
  replace hi := hi.kept ((Kept.refl (fun _ => False) w).alloc (.cells #[.int .i64 x.kind, .int .i64 x.epoch, .int .i64 x.zxid, .int .i64 x.number, .int .i64 x.session, .slice A_marks n_marks c_marks, .string x.data, .slice A_entries n_entries c_entries, .int .i64 x.request.op.kind, .int .i64 x.request.op.xid, .string x.request.op.path, .string x.request.op.data, .slice A_acl n_acl c_acl, .int .i64 x.request.op.flags, .int .i64 x.request.op.version, .bool x.request.op.watch, .slice A_subs n_subs c_subs, .slice A_armed n_armed c_armed, .slice A_ids n_ids c_ids] 31))
  have hlen : (messageF.lay x).length = (sev (zz x.kind)).length + (sev (zz x.epoch)).length + (sev (zz x.zxid)).length + (sev (zz x.number)).length + (sev (zz x.session)).length + ((listF numF).lay x.marks).length + ((sev x.data.size).length + x.data.size) + ((listF entryF).lay x.entries).length + (reqF.lay x.request).length + ((listF (textF 4096)).lay x.ids).length := by simp only [messageF, isoF, seqF, numF, textF, List.length_append, str_len] <;> omega
  have hl1 : l.length + ((sev (zz x.kind)).length + (sev (zz x.epoch)).length + (sev (zz x.zxid)).length + (sev (zz x.number)).length + (sev (zz x.session)).length + ((listF numF).lay x.marks).length + ((sev x.data.size).length + x.data.size) + ((listF entryF).lay x.entries).length + (reqF.lay x.request).length + ((listF (textF 4096)).lay x.ids).length) ≤ 144900000000000 := by rw [← hlen]; exact hl
  clear hlen
  clear hl
  go_enter Tryz.func20, Tryz.ntmps20
  go_wp2_with fail
  have hcall0 : Calls Tryz.prog 52 #[.pointer (some ⟨b, 0, none⟩), .slice (some ⟨w.heap.size + 1, 0, none⟩) 5 5] ((w.alloc (.cells #[.int .i64 x.kind, .int .i64 x.epoch, .int .i64 x.zxid, .int .i64 x.number, .int .i64 x.session, .slice A_marks n_marks c_marks, .string x.data, .slice A_entries n_entries c_entries, .int .i64 x.request.op.kind, .int .i64 x.request.op.xid, .string x.request.op.path, .string x.request.op.data, .slice A_acl n_acl c_acl, .int .i64 x.request.op.flags, .int .i64 x.request.op.version, .bool x.request.op.watch, .slice A_subs n_subs c_subs, .slice A_armed n_armed c_armed, .slice A_ids n_ids c_ids] 31)).alloc (.cells #[.int .i64 x.kind, .int .i64 x.epoch, .int .i64 x.zxid, .int .i64 x.number, .int .i64 x.session] 3)) (WPost ((w.alloc (.cells #[.int .i64 x.kind, .int .i64 x.epoch, .int .i64 x.zxid, .int .i64 x.number, .int .i64 x.session, .slice A_marks n_marks c_marks, .string x.data, .slice A_entries n_entries c_entries, .int .i64 x.request.op.kind, .int .i64 x.request.op.xid, .string x.request.op.path, .string x.request.op.data, .slice A_acl n_acl c_acl, .int .i64 x.request.op.flags, .int .i64 x.request.op.version, .bool x.request.op.watch, .slice A_subs n_subs c_subs, .slice A_armed n_armed c_armed, .slice A_ids n_ids c_ids] 31)).alloc (.cells #[.int .i64 x.kind, .int .i64 x.epoch, .int .i64 x.zxid, .int .i64 x.number, .int .i64 x.session] 3)) b v (l ++ layN numF [x.kind, x.epoch, x.zxid, x.number, x.session])) :=
    nums_call [x.kind, x.epoch, x.zxid, x.number, x.session] _ _ (by simp) b _ _ S0.at_ (by simp only [List.mem_cons, List.not_mem_nil, or_false, forall_eq_or_imp, forall_eq]; exact ⟨hn_kind, hn_epoch, hn_zxid, hn_number, hn_session⟩) (by unfold maxLen; simp only [List.length_cons, List.length_nil]; omega) (by simp only [List.length_append, layN, List.flatMap_cons, List.flatMap_nil, List.append_nil, numF_lay]; omega)
  have HC0 := Lib.hid hcall0; clear hcall0
  refine HC0.out.mono ?_
  rintro e w1 h1
  obtain ⟨v1, rfl, S1⟩ := (S0.alloc _).step h1
  clear S0 h1 HC0
  have hb1 := S1.blk hbk hnb
  have c1_5 : w1.cell? ⟨w.heap.size, 5, none⟩ = some (.slice A_marks n_marks c_marks) := by simp [World.cell?, hb1]
  clear hb1
  go_wp2_with fail
  refine (putList_num x.marks _ ok _ b _ _ S1.at_ (hmarks.keep intE_ok S1.kept hd) (hd.symm.sep hi S1.sep).symm (hi.kept S1.kept) (by simp only [List.length_append, layN, List.flatMap_cons, List.flatMap_nil, List.append_nil, numF_lay]; omega)).mono ?_
  rintro e w2 h2
  obtain ⟨v2, rfl, S2⟩ := S1.step h2
  clear S1 h2
  have hb2 := S2.blk hbk hnb
  have c2_6 : w2.cell? ⟨w.heap.size, 6, none⟩ = some (.string x.data) := by simp [World.cell?, hb2]
  clear hb2
  go_wp2_with fail
  refine (wtext_wide x.data _ b _ _ S2.at_ hs_data (by simp only [List.length_append, layN, List.flatMap_cons, List.flatMap_nil, List.append_nil, numF_lay]; omega)).mono ?_
  rintro e w3 h3
  obtain ⟨v3, rfl, S3⟩ := S2.step h3
  clear S2 h3
  have hb3 := S3.blk hbk hnb
  have c3_7 : w3.cell? ⟨w.heap.size, 7, none⟩ = some (.slice A_entries n_entries c_entries) := by simp [World.cell?, hb3]
  clear hb3
  go_wp2_with fail
  refine (putList_entry x.entries _ ok _ b _ _ S3.at_ (hentries.keep entryE_ok S3.kept hd) (hd.symm.sep hi S3.sep).symm (hi.kept S3.kept) (by simp only [List.length_append, layN, List.flatMap_cons, List.flatMap_nil, List.append_nil, numF_lay, str_len]; omega)).mono ?_
  rintro e w4 h4
  obtain ⟨v4, rfl, S4⟩ := S3.step h4
  clear S3 h4
  have hb4 := S4.blk hbk hnb
  have c4_8 : w4.cell? ⟨w.heap.size, 8, none⟩ = some (.int .i64 x.request.op.kind) := by simp [World.cell?, hb4]
  have c4_9 : w4.cell? ⟨w.heap.size, 9, none⟩ = some (.int .i64 x.request.op.xid) := by simp [World.cell?, hb4]
  have c4_10 : w4.cell? ⟨w.heap.size, 10, none⟩ = some (.string x.request.op.path) := by simp [World.cell?, hb4]
  have c4_11 : w4.cell? ⟨w.heap.size, 11, none⟩ = some (.string x.request.op.data) := by simp [World.cell?, hb4]
  have c4_12 : w4.cell? ⟨w.heap.size, 12, none⟩ = some (.slice A_acl n_acl c_acl) := by simp [World.cell?, hb4]
  have c4_13 : w4.cell? ⟨w.heap.size, 13, none⟩ = some (.int .i64 x.request.op.flags) := by simp [World.cell?, hb4]
  have c4_14 : w4.cell? ⟨w.heap.size, 14, none⟩ = some (.int .i64 x.request.op.version) := by simp [World.cell?, hb4]
  have c4_15 : w4.cell? ⟨w.heap.size, 15, none⟩ = some (.bool x.request.op.watch) := by simp [World.cell?, hb4]
  have c4_16 : w4.cell? ⟨w.heap.size, 16, none⟩ = some (.slice A_subs n_subs c_subs) := by simp [World.cell?, hb4]
  have c4_17 : w4.cell? ⟨w.heap.size, 17, none⟩ = some (.slice A_armed n_armed c_armed) := by simp [World.cell?, hb4]
  clear hb4
  go_wp2_with fail
  refine (put_req x.request _ ok _ b _ _ S4.at_ (reqE_ok.keep hreq S4.kept hd) (hd.symm.sep hi S4.sep).symm (hi.kept S4.kept) (by simp only [List.length_append, layN, List.flatMap_cons, List.flatMap_nil, List.append_nil, numF_lay, str_len]; omega)).mono ?_
  rintro e w5 h5
  obtain ⟨v5, rfl, S5⟩ := S4.step h5
  clear S4 h5
  have hb5 := S5.blk hbk hnb
  have c5_18 : w5.cell? ⟨w.heap.size, 18, none⟩ = some (.slice A_ids n_ids c_ids) := by simp [World.cell?, hb5]
  clear hb5
  go_wp2_with fail
  refine (putList_text x.ids _ ok _ b _ _ S5.at_ (hids.keep textE_ok S5.kept hd) (hd.symm.sep hi S5.sep).symm (hi.kept S5.kept) (by simp only [List.length_append, layN, List.flatMap_cons, List.flatMap_nil, List.append_nil, numF_lay, str_len]; omega)).mono ?_
  rintro e w6 h6
  obtain ⟨v6, rfl, S6⟩ := S5.step h6
  clear S5 h6
  go_wp2_with fail
  go_end0
  exact S6.unbox (by simp only [messageF, isoF, seqF, numF, textF, layN, List.flatMap_cons, List.flatMap_nil, List.append_nil, List.append_assoc])

end Go.Proofs.YtpmemcpfoapjmaaGreat

namespace Go.Proofs.YtpmemcpfoapjmaaGreat
open Go.ChangeShapes Go.WideShapes Go.ChangeAt Go.RowKit
set_option linter.unusedVariables false

set_option maxRecDepth 100000 in
set_option maxHeartbeats 600000 in
theorem get_message (w : World) (b : Nat) (v : Value) (l : List UInt8) (p e : Nat) (hR : RAt w b v l p e) {x : Message} {q e' : Nat} (h : messageF.get l p e = (x, q, e')) :
    Calls Tryz.prog 73 #[.pointer (some ⟨b, 0, none⟩)] w (GPost messageE w b v l x q e') := by
  rcases h1 : numF.get l p e with ⟨x1, p1, e1⟩
  have hi1 : I64 x1 := by have := numF_i64 (l := l) (p := p) (e := e); rw [h1] at this; exact this
  rcases h2 : numF.get l p1 e1 with ⟨x2, p2, e2⟩
  have hi2 : I64 x2 := by have := numF_i64 (l := l) (p := p1) (e := e1); rw [h2] at this; exact this
  rcases h3 : numF.get l p2 e2 with ⟨x3, p3, e3⟩
  have hi3 : I64 x3 := by have := numF_i64 (l := l) (p := p2) (e := e2); rw [h3] at this; exact this
  rcases h4 : numF.get l p3 e3 with ⟨x4, p4, e4⟩
  have hi4 : I64 x4 := by have := numF_i64 (l := l) (p := p3) (e := e3); rw [h4] at this; exact this
  rcases h5 : numF.get l p4 e4 with ⟨x5, p5, e5⟩
  have hi5 : I64 x5 := by have := numF_i64 (l := l) (p := p4) (e := e4); rw [h5] at this; exact this
  rcases h6 : (listF numF).get l p5 e5 with ⟨x6, p6, e6⟩
  rcases h7 : (textF 65536).get l p6 e6 with ⟨x7, p7, e7⟩
  have hi7 : Str x7 := by have := textF_str (most := 65536) (by omega) (l := l) (p := p6) (e := e6); rw [h7] at this; exact this
  rcases h8 : (listF entryF).get l p7 e7 with ⟨x8, p8, e8⟩
  rcases h9 : reqF.get l p8 e8 with ⟨x9, p9, e9⟩
  rcases h10 : (listF (textF 4096)).get l p9 e9 with ⟨x10, p10, e10⟩
  have hf : messageF.get l p e = (⟨x1, x2, x3, x4, x5, x6, x7, x8, x9, x10⟩, p10, e10) := by simp only [messageF, isoF, seqF, h1, h2, h3, h4, h5, h6, h7, h8, h9, h10]
  rw [hf] at h
  simp only [Prod.mk.injEq] at h
  obtain ⟨rfl, rfl, rfl⟩ := h
  have H1 := Lib.hid h1; clear h1
  have H2 := Lib.hid h2; clear h2
  have H3 := Lib.hid h3; clear h3
  have H4 := Lib.hid h4; clear h4
  have H5 := Lib.hid h5; clear h5
  have H6 := Lib.hid h6; clear h6
  have H7 := Lib.hid h7; clear h7
  have H8 := Lib.hid h8; clear h8
  have H9 := Lib.hid h9; clear h9
  have H10 := Lib.hid h10; clear h10
  clear hf
  have S0 := RSt.start (hR.alloc (.cells #[.int .i64 0, .int .i64 0, .int .i64 0, .int .i64 0, .int .i64 0, .slice none 0 0, .string ⟨#[]⟩, .slice none 0 0, .int .i64 0, .int .i64 0, .string ⟨#[]⟩, .string ⟨#[]⟩, .slice none 0 0, .int .i64 0, .int .i64 0, .bool false, .slice none 0 0, .slice none 0 0, .slice none 0 0] 31))
  have hbk := heap_alloc_new w (.cells #[.int .i64 0, .int .i64 0, .int .i64 0, .int .i64 0, .int .i64 0, .slice none 0 0, .string ⟨#[]⟩, .slice none 0 0, .int .i64 0, .int .i64 0, .string ⟨#[]⟩, .string ⟨#[]⟩, .slice none 0 0, .int .i64 0, .int .i64 0, .bool false, .slice none 0 0, .slice none 0 0, .slice none 0 0] 31)
  have hnb := rbox_new hR
  have hz0 : w.heap.size + 1 ≤ (w.alloc (.cells #[.int .i64 0, .int .i64 0, .int .i64 0, .int .i64 0, .int .i64 0, .slice none 0 0, .string ⟨#[]⟩, .slice none 0 0, .int .i64 0, .int .i64 0, .string ⟨#[]⟩, .string ⟨#[]⟩, .slice none 0 0, .int .i64 0, .int .i64 0, .bool false, .slice none 0 0, .slice none 0 0, .slice none 0 0] 31)).heap.size := by simp
  go_enter Tryz.func73, Tryz.ntmps73
  go_wp2_with fail
  refine (gnum_any _ b v l _ _ S0.at_ H1.out).mono ?_
  rintro en w1 ⟨rfl, hR1, hk1⟩
  have S1 : RSt (w.alloc (.cells #[.int .i64 0, .int .i64 0, .int .i64 0, .int .i64 0, .int .i64 0, .slice none 0 0, .string ⟨#[]⟩, .slice none 0 0, .int .i64 0, .int .i64 0, .string ⟨#[]⟩, .string ⟨#[]⟩, .slice none 0 0, .int .i64 0, .int .i64 0, .bool false, .slice none 0 0, .slice none 0 0, .slice none 0 0] 31)) b v l w1 p1 e1 := ⟨hR1, S0.kept.trans hk1⟩
  clear S0 hR1 hk1
  go_wp2_with fail
  refine (gnum_any _ b v l _ _ S1.at_ H2.out).mono ?_
  rintro en w2 ⟨rfl, hR2, hk2⟩
  have S2 : RSt (w.alloc (.cells #[.int .i64 0, .int .i64 0, .int .i64 0, .int .i64 0, .int .i64 0, .slice none 0 0, .string ⟨#[]⟩, .slice none 0 0, .int .i64 0, .int .i64 0, .string ⟨#[]⟩, .string ⟨#[]⟩, .slice none 0 0, .int .i64 0, .int .i64 0, .bool false, .slice none 0 0, .slice none 0 0, .slice none 0 0] 31)) b v l w2 p2 e2 := ⟨hR2, S1.kept.trans hk2⟩
  clear S1 hR2 hk2
  go_wp2_with fail
  refine (gnum_any _ b v l _ _ S2.at_ H3.out).mono ?_
  rintro en w3 ⟨rfl, hR3, hk3⟩
  have S3 : RSt (w.alloc (.cells #[.int .i64 0, .int .i64 0, .int .i64 0, .int .i64 0, .int .i64 0, .slice none 0 0, .string ⟨#[]⟩, .slice none 0 0, .int .i64 0, .int .i64 0, .string ⟨#[]⟩, .string ⟨#[]⟩, .slice none 0 0, .int .i64 0, .int .i64 0, .bool false, .slice none 0 0, .slice none 0 0, .slice none 0 0] 31)) b v l w3 p3 e3 := ⟨hR3, S2.kept.trans hk3⟩
  clear S2 hR3 hk3
  go_wp2_with fail
  refine (gnum_any _ b v l _ _ S3.at_ H4.out).mono ?_
  rintro en w4 ⟨rfl, hR4, hk4⟩
  have S4 : RSt (w.alloc (.cells #[.int .i64 0, .int .i64 0, .int .i64 0, .int .i64 0, .int .i64 0, .slice none 0 0, .string ⟨#[]⟩, .slice none 0 0, .int .i64 0, .int .i64 0, .string ⟨#[]⟩, .string ⟨#[]⟩, .slice none 0 0, .int .i64 0, .int .i64 0, .bool false, .slice none 0 0, .slice none 0 0, .slice none 0 0] 31)) b v l w4 p4 e4 := ⟨hR4, S3.kept.trans hk4⟩
  clear S3 hR4 hk4
  go_wp2_with fail
  refine (gnum_any _ b v l _ _ S4.at_ H5.out).mono ?_
  rintro en w5 ⟨rfl, hR5, hk5⟩
  have S5 : RSt (w.alloc (.cells #[.int .i64 0, .int .i64 0, .int .i64 0, .int .i64 0, .int .i64 0, .slice none 0 0, .string ⟨#[]⟩, .slice none 0 0, .int .i64 0, .int .i64 0, .string ⟨#[]⟩, .string ⟨#[]⟩, .slice none 0 0, .int .i64 0, .int .i64 0, .bool false, .slice none 0 0, .slice none 0 0, .slice none 0 0] 31)) b v l w5 p5 e5 := ⟨hR5, S4.kept.trans hk5⟩
  clear S4 hR5 hk5
  go_wp2_with fail
  refine (getList_num _ b v l _ _ S5.at_ H6.out).mono ?_
  rintro en w6 ⟨sv6, rfl, hL6, hR6, hk6⟩
  obtain ⟨A6, n6, c6, rfl⟩ := hL6.shape
  have hd6 := new_rs S5.at_
  have hz6 : w.heap.size + 1 ≤ w5.heap.size := Nat.le_trans hz0 S5.kept.size
  have S6 : RSt (w.alloc (.cells #[.int .i64 0, .int .i64 0, .int .i64 0, .int .i64 0, .int .i64 0, .slice none 0 0, .string ⟨#[]⟩, .slice none 0 0, .int .i64 0, .int .i64 0, .string ⟨#[]⟩, .string ⟨#[]⟩, .slice none 0 0, .int .i64 0, .int .i64 0, .bool false, .slice none 0 0, .slice none 0 0, .slice none 0 0] 31)) b v l w6 p6 e6 := ⟨hR6, S5.kept.trans hk6⟩
  clear S5 hR6 hk6
  go_wp2_with fail
  refine (gtext_any 65536 _ b v l _ _ S6.at_ (by omega) H7.out).mono ?_
  rintro en w7 ⟨rfl, hR7, hk7⟩
  replace hL6 := hL6.keep intE_ok hk7 hd6
  have S7 : RSt (w.alloc (.cells #[.int .i64 0, .int .i64 0, .int .i64 0, .int .i64 0, .int .i64 0, .slice none 0 0, .string ⟨#[]⟩, .slice none 0 0, .int .i64 0, .int .i64 0, .string ⟨#[]⟩, .string ⟨#[]⟩, .slice none 0 0, .int .i64 0, .int .i64 0, .bool false, .slice none 0 0, .slice none 0 0, .slice none 0 0] 31)) b v l w7 p7 e7 := ⟨hR7, S6.kept.trans hk7⟩
  clear S6 hR7 hk7
  go_wp2_with fail
  refine (getList_entry _ b v l _ _ S7.at_ H8.out).mono ?_
  rintro en w8 ⟨sv8, rfl, hL8, hR8, hk8⟩
  obtain ⟨A8, n8, c8, rfl⟩ := hL8.shape
  replace hL6 := hL6.keep intE_ok hk8 hd6
  have hd8 := new_rs S7.at_
  have hz8 : w.heap.size + 1 ≤ w7.heap.size := Nat.le_trans hz0 S7.kept.size
  have S8 : RSt (w.alloc (.cells #[.int .i64 0, .int .i64 0, .int .i64 0, .int .i64 0, .int .i64 0, .slice none 0 0, .string ⟨#[]⟩, .slice none 0 0, .int .i64 0, .int .i64 0, .string ⟨#[]⟩, .string ⟨#[]⟩, .slice none 0 0, .int .i64 0, .int .i64 0, .bool false, .slice none 0 0, .slice none 0 0, .slice none 0 0] 31)) b v l w8 p8 e8 := ⟨hR8, S7.kept.trans hk8⟩
  clear S7 hR8 hk8
  go_wp2_with fail
  refine (get_req _ b v l _ _ S8.at_ H9.out).mono ?_
  rintro en w9 ⟨cs9, rfl, hL9, hR9, hk9⟩
  obtain ⟨A9_acl, n9_acl, c9_acl, A9_subs, n9_subs, c9_subs, A9_armed, n9_armed, c9_armed, rfl⟩ := reqE_cells hL9
  replace hL6 := hL6.keep intE_ok hk9 hd6
  replace hL8 := hL8.keep entryE_ok hk9 hd8
  have hd9 := new_rs S8.at_
  have hz9 : w.heap.size + 1 ≤ w8.heap.size := Nat.le_trans hz0 S8.kept.size
  have S9 : RSt (w.alloc (.cells #[.int .i64 0, .int .i64 0, .int .i64 0, .int .i64 0, .int .i64 0, .slice none 0 0, .string ⟨#[]⟩, .slice none 0 0, .int .i64 0, .int .i64 0, .string ⟨#[]⟩, .string ⟨#[]⟩, .slice none 0 0, .int .i64 0, .int .i64 0, .bool false, .slice none 0 0, .slice none 0 0, .slice none 0 0] 31)) b v l w9 p9 e9 := ⟨hR9, S8.kept.trans hk9⟩
  clear S8 hR9 hk9
  go_wp2_with fail
  refine (getList_text _ b v l _ _ S9.at_ H10.out).mono ?_
  rintro en w10 ⟨sv10, rfl, hL10, hR10, hk10⟩
  obtain ⟨A10, n10, c10, rfl⟩ := hL10.shape
  replace hL6 := hL6.keep intE_ok hk10 hd6
  replace hL8 := hL8.keep entryE_ok hk10 hd8
  replace hL9 := reqE_ok.keep hL9 hk10 hd9
  have hd10 := new_rs S9.at_
  have hz10 : w.heap.size + 1 ≤ w9.heap.size := Nat.le_trans hz0 S9.kept.size
  have S10 : RSt (w.alloc (.cells #[.int .i64 0, .int .i64 0, .int .i64 0, .int .i64 0, .int .i64 0, .slice none 0 0, .string ⟨#[]⟩, .slice none 0 0, .int .i64 0, .int .i64 0, .string ⟨#[]⟩, .string ⟨#[]⟩, .slice none 0 0, .int .i64 0, .int .i64 0, .bool false, .slice none 0 0, .slice none 0 0, .slice none 0 0] 31)) b v l w10 p10 e10 := ⟨hR10, S9.kept.trans hk10⟩
  clear S9 hR10 hk10
  have hb := S10.blk hbk hnb
  have hsz : (Tryz.prog.info? 31).map (·.size) = some 19 := by kernel_rfl
  have HSZ := Lib.hid hsz; clear hsz
  have HB := Lib.hid hb; clear hb
  go_wp2_with (refine wpList_store_row _ rfl 31 _ _ rfl w.heap.size _ [.int .i64 x1, .int .i64 x2, .int .i64 x3, .int .i64 x4, .int .i64 x5, .slice A6 n6 c6, .string x7, .slice A8 n8 c8, .int .i64 x9.op.kind, .int .i64 x9.op.xid, .string x9.op.path, .string x9.op.data, .slice A9_acl n9_acl c9_acl, .int .i64 x9.op.flags, .int .i64 x9.op.version, .bool x9.op.watch, .slice A9_subs n9_subs c9_subs, .slice A9_armed n9_armed c9_armed, .slice A10 n10 c10] rfl rfl HB.out HSZ.out rfl (by simp [Value.oneCell']) ?_)
  have hrow := setRow_heap w10 w.heap.size _ ([.int .i64 x1, .int .i64 x2, .int .i64 x3, .int .i64 x4, .int .i64 x5, .slice A6 n6 c6, .string x7, .slice A8 n8 c8, .int .i64 x9.op.kind, .int .i64 x9.op.xid, .string x9.op.path, .string x9.op.data, .slice A9_acl n9_acl c9_acl, .int .i64 x9.op.flags, .int .i64 x9.op.version, .bool x9.op.watch, .slice A9_subs n9_subs c9_subs, .slice A9_armed n9_armed c9_armed, .slice A10 n10 c10] : List Value).toArray _ _ HB.out
  have hload := run_loadVar_row (P := Tryz.prog) _ w.heap.size 31 31 _ (0, 0) _ hrow Tryz.underlying31 rfl HSZ.out
  exact ret_cell 2 31 w.heap.size _ Tryz.results73 rfl hload rfl ⟨_, rfl, ⟨_, _, _, _, rfl, fin_list intE_ok hL6 hz6 _, fin_list entryE_ok hL8 hz8 _, fin_E reqE_ok hL9 hz9 _, fin_list textE_ok hL10 hz10 _, hi1, hi2, hi3, hi4, hi5, hi7⟩, fin_R hR S10.at_ _, fin_K hR S10.kept _⟩

end Go.Proofs.YtpmemcpfoapjmaaGreat

namespace Go.Proofs.YtpmemcpfoapjmaaGreat
open Go.ChangeShapes Go.WideShapes Go.ChangeAt Go.RowKit
set_option linter.unusedVariables false

def zMessage : Message := ⟨0, 0, 0, 0, 0, [], ⟨#[]⟩, [], ⟨⟨0, 0, ⟨#[]⟩, ⟨#[]⟩, [], 0, 0, false⟩, [], []⟩, []⟩
theorem zMessage_at (w : World) (ok : Nat → Prop) : messageE w ok [.int .i64 0, .int .i64 0, .int .i64 0, .int .i64 0, .int .i64 0, .slice none 0 0, .string ⟨#[]⟩, .slice none 0 0, .int .i64 0, .int .i64 0, .string ⟨#[]⟩, .string ⟨#[]⟩, .slice none 0 0, .int .i64 0, .int .i64 0, .bool false, .slice none 0 0, .slice none 0 0, .slice none 0 0] zMessage := ⟨_, _, _, _, rfl, ListR.nil _ _ _ _, ListR.nil _ _ _ _, ⟨_, _, ⟨_, rfl, ListR.nil _ _ _ _, i64_zero, i64_zero, str_empty, str_empty, i64_zero, i64_zero, ⟨_, _, _, rfl⟩, ⟨_, _, _, rfl⟩⟩, ListR.nil _ _ _ _, ListR.nil _ _ _ _⟩, ListR.nil _ _ _ _, i64_zero, i64_zero, i64_zero, i64_zero, i64_zero, str_empty⟩

set_option maxRecDepth 100000 in
theorem whole_message (x : Message) (cs : List Value) (ok : Nat → Prop) (w : World) (hE : messageE w ok cs x) (hi : In w ok) (hl : (messageF.lay x).length ≤ 144900000000000) :
    Calls Tryz.prog 19 #[.agg cs.toArray, .func (.func 20) #[] #[]] w (OldStr w (messageF.lay x)) := by
  have hfl := messageE_flat hE
  have hsz : (Tryz.prog.info? 31).map (·.size) = some cs.length := by rw [hfl.1]; kernel_rfl
  have HSZ := Lib.hid hsz
  have hA : Kept (fun _ => False) w (w.alloc (.cells cs.toArray 31)) := (Kept.refl _ w).alloc _
  have hO1 : Old w ((w.alloc (.cells cs.toArray 31)).alloc (.cells #[.slice none 0 0] 140)) := hA.alloc _
  have hE1 := messageE_ok.keep hE hO1 (disj_none _)
  have hi1 := hi.kept hO1
  have hW1 := new_at (w.alloc (.cells cs.toArray 31))
  have hrg : ((w.alloc (.cells cs.toArray 31)).alloc (.cells #[.slice none 0 0] 140)).rangeAt w.heap.size 0 cs := range_row (by
    rw [((Kept.refl (fun _ => False) (w.alloc (.cells cs.toArray 31))).alloc (.cells #[.slice none 0 0] 140)).block _ (by simp) id]; exact heap_alloc_new w _)
  have HRG := Lib.hid hrg
  have hws : (w.alloc (.cells cs.toArray 31)).heap.size = w.heap.size + 1 := by simp
  rw [hws] at hW1
  have hd : Disj ok (WS (w.heap.size + 1) (.slice none 0 0)) := fun g hg hs => by
    have := hi g hg
    rcases hs with hs | hs
    · omega
    · simp [Value.ownBlock] at hs
  have ho : Off w.heap.size (WS (w.heap.size + 1) (.slice none 0 0)) := fun g hs => by
    rcases hs with hs | hs
    · omega
    · simp [Value.ownBlock] at hs
  clear hfl hsz hA hE hi hrg hws
  go_enter Tryz.func19, Tryz.ntmps19
  go_wp2_with fail
  refine (new_any _).mono ?_
  rintro en w1 ⟨rfl, rfl⟩
  go_wp2_with (refine wpList_load_mid rfl 31 (.tmp 2) rfl w.heap.size 0 rfl cs _ HRG.out Tryz.underlying31 rfl HSZ.out ?_)
  refine (put_message x cs ok _ _ _ [] hW1 hE1 hd hi1 (by simpa using hl)).mono ?_
  rintro en w2 ⟨v2, rfl, hW2, hk2, hs2⟩
  have hO2 := hO1.step hk2 ho
  clear hE1 hi1 hW1 hd ho hO1 hk2 hs2 HRG HSZ
  go_wp2_with fail
  refine (wbytes_any _ _ _ _ hW2).mono ?_
  rintro en w3 ⟨rfl, n3, rfl⟩
  have hO3 := hO2.drewN n3
  go_wp2_with fail
  go_ret
  exact ⟨rfl, hO3⟩

set_option maxRecDepth 100000 in
theorem PutMessage_any (x : Message) (cs : List Value) (ok : Nat → Prop) (w : World) (hE : messageE w ok cs x) (hi : In w ok) (hl : (messageF.lay x).length ≤ 144900000000000) :
    Calls Tryz.prog 7 #[.agg cs.toArray] w (OldStr w (messageF.lay x)) := by
  have hfl := messageE_flat hE
  have hsz : (Tryz.prog.info? 31).map (·.size) = some cs.length := by rw [hfl.1]; kernel_rfl
  have HSZ := Lib.hid hsz
  have hA : Old w (w.alloc (.cells cs.toArray 31)) := (Kept.refl _ w).alloc _
  have hE1 := messageE_ok.keep hE hA (disj_none _)
  have hi1 := hi.kept hA
  have HRG := Lib.hid (range_new w cs 31)
  clear hfl hsz
  go_enter Tryz.func7, Tryz.ntmps7
  go_wp2_with (refine wpList_load_mid rfl 31 (.tmp 1) rfl w.heap.size 0 rfl cs _ HRG.out Tryz.underlying31 rfl HSZ.out ?_)
  refine (whole_message x cs ok _ hE1 hi1 hl).mono ?_
  rintro en w1 ⟨rfl, hO1⟩
  have hO := hA.none hO1
  clear hA hE1 hi1 hO1
  go_wp2_with fail
  go_ret
  exact ⟨rfl, hO⟩

set_option maxRecDepth 100000 in
set_option maxHeartbeats 600000 in
theorem taken_message (s : ByteArray) (w : World) (hs : s.size ≤ maxLen) :
    Calls Tryz.prog 72 #[.string s, .func (.func 73) #[] #[]] w (TakenPost messageE zMessage w (messageF.read s)) := by
  have hsz : (Tryz.prog.info? 31).map (·.size) = some 19 := by kernel_rfl
  have HSZ := Lib.hid hsz; clear hsz
  obtain ⟨x, q, e', hget⟩ : ∃ x q e', messageF.get s.data.toList 0 0 = (x, q, e') := ⟨_, _, _, eta3 _⟩
  have hread : messageF.read s = if rEndE s.data.toList.length q e' = 0 then some x else none := by unfold Fmt.read; rw [hget]
  generalize messageF.read s = ro at hread ⊢
  have HGET := Lib.hid hget; clear hget
  have HREAD := Lib.hid hread; clear hread
  go_enter Tryz.func72, Tryz.ntmps72
  go_wp2_with fail
  refine (read_any s _ hs).mono ?_
  rintro en w1 ⟨b, v, rfl, hR, hb, hv, hk1⟩
  have hge : w.heap.size + 1 ≤ b := by simpa using hb
  go_wp2_with fail
  refine (get_message _ b v _ _ _ hR HGET.out).mono ?_
  rintro en w2 ⟨cs, rfl, hE2, hR2, hk2⟩
  have hfl := messageE_flat hE2
  have HFL := Lib.hid hfl.1
  have HF1 := Lib.hid hfl.2
  have hR3 := hR2.alloc (.cells cs.toArray 31)
  have HHR := Lib.hid (⟨hR, hk1, hge, hk2⟩ : RAt w1 b v s.data.toList 0 0 ∧ Kept (fun _ => False) (w.alloc (.cells #[.int .i64 0, .int .i64 0, .int .i64 0, .int .i64 0, .int .i64 0, .slice none 0 0, .string ⟨#[]⟩, .slice none 0 0, .int .i64 0, .int .i64 0, .string ⟨#[]⟩, .string ⟨#[]⟩, .slice none 0 0, .int .i64 0, .int .i64 0, .bool false, .slice none 0 0, .slice none 0 0, .slice none 0 0] 31)) w1 ∧ w.heap.size + 1 ≤ b ∧ Kept (RS b) w1 w2)
  clear hR hk1 hge hk2 hb hv hR2 hfl
  go_wp2_with (refine wpList_store_new w2 rfl 31 _ (.tmp 13) rfl _ cs rfl rfl (by rw [HFL.out]; exact HSZ.out) HFL.out.symm HF1.out ?_)
  refine (rend_e _ b v _ _ _ hR3).mono ?_
  rintro en w4 ⟨rfl, hR4, hk4⟩
  have st : TakenSt w w1 w2 w4 b v s.data.toList 31 #[.int .i64 0, .int .i64 0, .int .i64 0, .int .i64 0, .int .i64 0, .slice none 0 0, .string ⟨#[]⟩, .slice none 0 0, .int .i64 0, .int .i64 0, .string ⟨#[]⟩, .string ⟨#[]⟩, .slice none 0 0, .int .i64 0, .int .i64 0, .bool false, .slice none 0 0, .slice none 0 0, .slice none 0 0] cs := ⟨HHR.out.1, HHR.out.2.1, HHR.out.2.2.1, HHR.out.2.2.2, hk4⟩
  have HRES := Lib.hid st.res
  have HBOX := Lib.hid (range_row st.box)
  have HO := Lib.hid st.old
  have HREL := Lib.hid (st.rel messageE_ok hE2)
  clear st HHR hR3 hR4 hk4 hE2
  by_cases h0 : rEndE s.data.toList.length q e' = 0
  · have hrd : ro = some x := by rw [HREAD.out, if_pos h0]
    have HRD := Lib.hid hrd; clear hrd
    have h0' : ((rEndE s.data.toList.length q e' : Nat) : Int) = 0 := by omega
    generalize ((rEndE s.data.toList.length q e' : Nat) : Int) = r at h0'
    subst h0'
    clear h0
    go_wp2_with (first | (refine wpList_load_mid rfl 31 (.tmp 7) rfl w2.heap.size 0 rfl cs _ HBOX.out Tryz.underlying31 rfl (by rw [HFL.out]; exact HSZ.out) ?_) | (refine wpList_store_row _ rfl 31 _ _ rfl w.heap.size _ cs rfl rfl HRES.out (by rw [HFL.out]; exact HSZ.out) HFL.out.symm HF1.out ?_))
    have hrow := setRow_heap w4 w.heap.size _ cs.toArray _ _ HRES.out
    have hload := run_loadVar_row (P := Tryz.prog) _ w.heap.size 31 31 _ (0, 0) _ hrow Tryz.underlying31 rfl (by rw [List.size_toArray, HFL.out]; exact HSZ.out)
    exact ret_cell_tmp 4 31 5 w.heap.size _ _ Tryz.results72 rfl rfl hload rfl ⟨cs, by rw [HRD.out]; rfl, old_setRow HO.out _, by rw [HRD.out]; exact HREL.out _⟩
  · have hrd : ro = none := by rw [HREAD.out, if_neg h0]
    have HRD := Lib.hid hrd; clear hrd
    have h0' : ¬ ((rEndE s.data.toList.length q e' : Nat) : Int) = 0 := by omega
    generalize ((rEndE s.data.toList.length q e' : Nat) : Int) = r at h0'
    clear h0
    have hA : Old w4 (w4.alloc (.cells #[.int .i64 0, .int .i64 0, .int .i64 0, .int .i64 0, .int .i64 0, .slice none 0 0, .string ⟨#[]⟩, .slice none 0 0, .int .i64 0, .int .i64 0, .string ⟨#[]⟩, .string ⟨#[]⟩, .slice none 0 0, .int .i64 0, .int .i64 0, .bool false, .slice none 0 0, .slice none 0 0, .slice none 0 0] 31)) := (Kept.refl _ w4).alloc _
    have HR5 : Hid ((w4.alloc (.cells #[.int .i64 0, .int .i64 0, .int .i64 0, .int .i64 0, .int .i64 0, .slice none 0 0, .string ⟨#[]⟩, .slice none 0 0, .int .i64 0, .int .i64 0, .string ⟨#[]⟩, .string ⟨#[]⟩, .slice none 0 0, .int .i64 0, .int .i64 0, .bool false, .slice none 0 0, .slice none 0 0, .slice none 0 0] 31)).heap[w.heap.size]? = some (.cells #[.int .i64 0, .int .i64 0, .int .i64 0, .int .i64 0, .int .i64 0, .slice none 0 0, .string ⟨#[]⟩, .slice none 0 0, .int .i64 0, .int .i64 0, .string ⟨#[]⟩, .string ⟨#[]⟩, .slice none 0 0, .int .i64 0, .int .i64 0, .bool false, .slice none 0 0, .slice none 0 0, .slice none 0 0] 31 (0, 0))) := by rw [hA.block _ (lt_of_block HRES.out) id]; exact HRES.out
    obtain ⟨zl, hzl⟩ : ∃ zl : List Value, zl = [.int .i64 0, .int .i64 0, .int .i64 0, .int .i64 0, .int .i64 0, .slice none 0 0, .string ⟨#[]⟩, .slice none 0 0, .int .i64 0, .int .i64 0, .string ⟨#[]⟩, .string ⟨#[]⟩, .slice none 0 0, .int .i64 0, .int .i64 0, .bool false, .slice none 0 0, .slice none 0 0, .slice none 0 0] := ⟨_, rfl⟩
    have HRN : Hid ((w4.alloc (.cells #[.int .i64 0, .int .i64 0, .int .i64 0, .int .i64 0, .int .i64 0, .slice none 0 0, .string ⟨#[]⟩, .slice none 0 0, .int .i64 0, .int .i64 0, .string ⟨#[]⟩, .string ⟨#[]⟩, .slice none 0 0, .int .i64 0, .int .i64 0, .bool false, .slice none 0 0, .slice none 0 0, .slice none 0 0] 31)).rangeAt w4.heap.size 0 zl) := by rw [hzl]; exact range_new w4 [.int .i64 0, .int .i64 0, .int .i64 0, .int .i64 0, .int .i64 0, .slice none 0 0, .string ⟨#[]⟩, .slice none 0 0, .int .i64 0, .int .i64 0, .string ⟨#[]⟩, .string ⟨#[]⟩, .slice none 0 0, .int .i64 0, .int .i64 0, .bool false, .slice none 0 0, .slice none 0 0, .slice none 0 0] 31
    have HZE : Hid (∀ (W : World) (ok : Nat → Prop), messageE W ok zl zMessage) := by rw [hzl]; exact zMessage_at
    have hzf : Flat 19 zl := messageE_flat (HZE.out w (fun _ => False))
    have HZL := Lib.hid hzf.1
    have HZ1 := Lib.hid hzf.2
    clear hzl hzf
    have HO5 := Lib.hid (HO.out.none hA)
    clear hA HREL
    go_wp2_with (first | (refine wpList_load_mid rfl 31 (.tmp 8) rfl w4.heap.size 0 rfl zl _ HRN.out Tryz.underlying31 rfl (by rw [HZL.out]; exact HSZ.out) ?_) | (refine wpList_store_row _ rfl 31 _ _ rfl w.heap.size _ zl rfl rfl HR5.out (by rw [HZL.out]; exact HSZ.out) HZL.out.symm HZ1.out ?_))
    have hrow := setRow_heap (w4.alloc (.cells #[.int .i64 0, .int .i64 0, .int .i64 0, .int .i64 0, .int .i64 0, .slice none 0 0, .string ⟨#[]⟩, .slice none 0 0, .int .i64 0, .int .i64 0, .string ⟨#[]⟩, .string ⟨#[]⟩, .slice none 0 0, .int .i64 0, .int .i64 0, .bool false, .slice none 0 0, .slice none 0 0, .slice none 0 0] 31)) w.heap.size _ zl.toArray _ _ HR5.out
    have hload := run_loadVar_row (P := Tryz.prog) _ w.heap.size 31 31 _ (0, 0) _ hrow Tryz.underlying31 rfl (by rw [List.size_toArray, HZL.out]; exact HSZ.out)
    exact ret_cell_tmp 4 31 5 w.heap.size _ _ Tryz.results72 rfl rfl hload rfl ⟨_, by rw [HRD.out]; rfl, old_setRow HO5.out _, by rw [HRD.out]; exact HZE.out _ _⟩

set_option maxRecDepth 100000 in
theorem GetMessage_any (s : ByteArray) (w : World) (hs : s.size ≤ maxLen) :
    Calls Tryz.prog 28 #[.string s] w (TakenPost messageE zMessage w (messageF.read s)) := by
  have hsz : (Tryz.prog.info? 31).map (·.size) = some 19 := by kernel_rfl
  have HSZ := Lib.hid hsz; clear hsz
  have hbk := heap_alloc_new w (.cells #[.int .i64 0, .int .i64 0, .int .i64 0, .int .i64 0, .int .i64 0, .slice none 0 0, .string ⟨#[]⟩, .slice none 0 0, .int .i64 0, .int .i64 0, .string ⟨#[]⟩, .string ⟨#[]⟩, .slice none 0 0, .int .i64 0, .int .i64 0, .bool false, .slice none 0 0, .slice none 0 0, .slice none 0 0] 31)
  have hA : Old w (w.alloc (.cells #[.int .i64 0, .int .i64 0, .int .i64 0, .int .i64 0, .int .i64 0, .slice none 0 0, .string ⟨#[]⟩, .slice none 0 0, .int .i64 0, .int .i64 0, .string ⟨#[]⟩, .string ⟨#[]⟩, .slice none 0 0, .int .i64 0, .int .i64 0, .bool false, .slice none 0 0, .slice none 0 0, .slice none 0 0] 31)) := (Kept.refl _ w).alloc _
  go_enter Tryz.func28, Tryz.ntmps28
  go_wp2_with fail
  refine (taken_message s _ hs).mono ?_
  rintro en w1 ⟨cs, rfl, hO1, hE1⟩
  have hfl := messageE_flat hE1
  have HFL := Lib.hid hfl.1
  have HF1 := Lib.hid hfl.2
  have HRES : Hid (w1.heap[w.heap.size]? = some (.cells #[.int .i64 0, .int .i64 0, .int .i64 0, .int .i64 0, .int .i64 0, .slice none 0 0, .string ⟨#[]⟩, .slice none 0 0, .int .i64 0, .int .i64 0, .string ⟨#[]⟩, .string ⟨#[]⟩, .slice none 0 0, .int .i64 0, .int .i64 0, .bool false, .slice none 0 0, .slice none 0 0, .slice none 0 0] 31 (0, 0))) := by rw [hO1.block _ (lt_of_block hbk) id]; exact hbk
  have HO := Lib.hid (hA.none hO1)
  have HE := Lib.hid (fun c => fin_E messageE_ok (w := w) hE1 (by simp) c)
  clear hbk hA hfl hO1 hE1
  go_wp2_with (refine wpList_store_row _ rfl 31 _ _ rfl w.heap.size _ cs rfl rfl HRES.out (by rw [HFL.out]; exact HSZ.out) HFL.out.symm HF1.out ?_)
  have hrow := setRow_heap w1 w.heap.size _ cs.toArray _ _ HRES.out
  have hload := run_loadVar_row (P := Tryz.prog) _ w.heap.size 31 31 _ (0, 0) _ hrow Tryz.underlying31 rfl (by rw [List.size_toArray, HFL.out]; exact HSZ.out)
  exact ret_cell_tmp 2 31 3 w.heap.size _ _ Tryz.results28 rfl rfl hload rfl ⟨cs, rfl, old_setRow HO.out _, HE.out _⟩

end Go.Proofs.YtpmemcpfoapjmaaGreat

namespace Go.Proofs.YtpmemcpfoapjmaaGreat
open Go.ChangeShapes Go.WideShapes Go.ChangeAt Go.RowKit
set_option linter.unusedVariables false

structure MB (w : World) (s : ByteArray) (g : Nat) (T : TypeId) (zc : List Value) (W : World) (cur : List Value) (p e : Nat) : Prop where
  rd : FAt W (w.heap.size + 1) s p e
  old : Old w W
  res : W.heap[w.heap.size]? = some (.cells zc.toArray T (0, 0))
  box : W.heap[g]? = some (.cells cur.toArray T (0, 0))
  gt : w.heap.size + 2 ≤ g
def OkM (w : World) (g : Nat) : Nat → Prop := fun k => w.heap.size + 2 ≤ k ∧ k ≠ g
theorem okm_rs (w : World) (g : Nat) : Disj (OkM w g) (RS (w.heap.size + 1)) := fun k hk hs => by have hk' : w.heap.size + 2 ≤ k := hk.1; have hs' : k = w.heap.size + 1 := hs; omega
theorem okm_box (w : World) (g : Nat) : Disj (OkM w g) (fun k => k = g) := fun k hk hs => hk.2 hs
theorem okm_res (w : World) (g : Nat) : Disj (OkM w g) (fun k => k = w.heap.size) := fun k hk hs => by have hk' : w.heap.size + 2 ≤ k := hk.1; have hs' : k = w.heap.size := hs; omega
section
variable {w W W' : World} {s : ByteArray} {g : Nat} {T : TypeId} {zc cur : List Value} {p e p' e' : Nat}
theorem MB.call (h : MB w s g T zc W cur p e) (hF : FAt W' (w.heap.size + 1) s p' e') (hk : Kept (RS (w.heap.size + 1)) W W') : MB w s g T zc W' cur p' e' :=
  ⟨hF, h.old.step hk (fun k hs => by have hs' : k = w.heap.size + 1 := hs; omega), by rw [hk.block _ (lt_of_block h.res) (fun hs => by have hs' : w.heap.size = w.heap.size + 1 := hs; omega)]; exact h.res,
    by rw [hk.block _ (lt_of_block h.box) (fun hs => by have hs' : g = w.heap.size + 1 := hs; have := h.gt; omega)]; exact h.box, h.gt⟩
theorem MB.set (h : MB w s g T zc W cur p e) (c : List Value) : MB w s g T zc (W.setRow g c.toArray) c p e := by
  have hk := setRow_kept W g c.toArray
  have hg := h.gt
  exact ⟨h.rd.keep hk (by omega), h.old.step hk (fun k hs => by have hs' : k = g := hs; omega), by rw [hk.block _ (lt_of_block h.res) (by omega)]; exact h.res, setRow_heap _ _ _ _ _ _ h.box, hg⟩
theorem MB.new {k : Nat} (h : MB w s g T zc W cur p e) (hk : New W k) : OkM w g k := by
  have h1 := lt_of_block h.box
  have h2 := h.gt
  have hk' : W.heap.size ≤ k := hk
  exact ⟨by omega, by omega⟩
/-- a list that lies apart, if nothing was wrong when it was taken up -/
structure LM {α : Type} (E : CellsOf α) (w : World) (g : Nat) (W : World) (sz : Nat) (sv : Value) (xs : List α) (n : Nat) : Prop where
  shape : IsSl sv
  list : n = 0 → ListR E W (OkM w g) sz sv xs
variable {α : Type} {E : CellsOf α} {sz : Nat} {sv : Value} {xs : List α} {n : Nat}
theorem LM.mk' (hE : E.Ok) (h : MB w s g T zc W cur p e) (hs : IsSl sv) (hL : n = 0 → ListR E W' (New W) sz sv xs) : LM E w g W' sz sv xs n :=
  ⟨hs, fun h0 => (hL h0).mono hE (fun k _ hk => h.new hk)⟩
theorem LM.call (hE : E.Ok) (h : LM E w g W sz sv xs n) (hk : Kept (RS (w.heap.size + 1)) W W') : LM E w g W' sz sv xs n := ⟨h.shape, fun h0 => (h.list h0).keep hE hk (okm_rs w g)⟩
theorem LM.set (hE : E.Ok) (h : LM E w g W sz sv xs n) (c : Array Value) : LM E w g (W.setRow g c) sz sv xs n := ⟨h.shape, fun h0 => (h.list h0).keep hE (setRow_kept _ _ _) (okm_box w g)⟩
theorem LM.both (hE : E.Ok) (h : LM E w g W sz sv xs n) (hk : Kept (BG (w.heap.size + 1) g) W W') : LM E w g W' sz sv xs n :=
  ⟨h.shape, fun h0 => (h.list h0).keep hE hk (fun k hk hs => by rcases hs with hs | hs; exact okm_rs w g k hk hs; exact hk.2 hs)⟩
theorem LM.fin (hE : E.Ok) (h : LM E w g W sz sv xs n) (c : Array Value) (h0 : n = 0) : ListR E (W.setRow w.heap.size c) (New w) sz sv xs :=
  ((h.list h0).keep hE (setRow_kept _ _ _) (okm_res w g)).mono hE (fun k _ hk => by have hk' : w.heap.size + 2 ≤ k := hk.1; unfold New; omega)
end

theorem getN_i64 (n : Nat) (l : List UInt8) (p e : Nat) : ∀ x ∈ (getN numF.get n l p e).1, I64 x := by
  induction n with
  | zero => intro x hx; simp [getN] at hx
  | succ n ih =>
    rw [getN_snoc]
    intro x hx
    rcases List.mem_append.1 hx with hx | hx
    · exact ih x hx
    · rw [List.mem_singleton.1 hx]
      exact numF_i64
theorem setCells_ten {w : World} {g : Nat} {T : TypeId} {a0 a1 a2 a3 a4 a5 a6 a7 b0 b1 b2 b3 b4 b5 b6 b7 b8 b9 c0 v0 v1 v2 v3 v4 v5 v6 v7 v8 v9 : Value}
    (h : w.heap[g]? = some (.cells [a0, a1, a2, a3, a4, a5, a6, a7, b0, b1, b2, b3, b4, b5, b6, b7, b8, b9, c0].toArray T (0, 0))) :
    w.setCells g 8 [v0, v1, v2, v3, v4, v5, v6, v7, v8, v9] = w.setRow g [a0, a1, a2, a3, a4, a5, a6, a7, v0, v1, v2, v3, v4, v5, v6, v7, v8, v9, c0].toArray := by
  have hself : ∀ (W : World) (x y : Array Value), (W.setRow g x).setRow g y = W.setRow g y := fun W x y => by
    unfold World.setRow
    congr 1
    apply Array.ext
    · simp
    · intro i h1 h2
      simp only [Array.getElem_modify]
      by_cases hi : g = i
      · simp only [hi, if_true]
        cases W.heap[i]'(by simpa using h2) <;> rfl
      · simp [hi]
  simp only [World.setCells]
  rw [setCell_row h, setCell_row (setRow_heap _ _ _ _ _ _ h), hself, setCell_row (setRow_heap _ _ _ _ _ _ h), hself, setCell_row (setRow_heap _ _ _ _ _ _ h), hself, setCell_row (setRow_heap _ _ _ _ _ _ h), hself, setCell_row (setRow_heap _ _ _ _ _ _ h), hself, setCell_row (setRow_heap _ _ _ _ _ _ h), hself, setCell_row (setRow_heap _ _ _ _ _ _ h), hself, setCell_row (setRow_heap _ _ _ _ _ _ h), hself, setCell_row (setRow_heap _ _ _ _ _ _ h), hself]
  rfl
/-- a whole thing into the block that was made last, behind the draw of an order -/
theorem wp_store_newd {P : Program} {op : Oper} {a : Act} {w : World} {K : Act → World → Prop} {Q : Exit → Act → World → Prop} (ty : TypeId) (x y : Operand) (ho : op.op = .store ty x y) (c : Array Value) (cs : List Value)
    (hx : a.eval x = .pointer (some ⟨w.heap.size, 0, none⟩)) (hy : a.eval y = .agg cs.toArray) (hi : (P.info? ty).map (·.size) = some cs.length) (hc : c.size = cs.length) (h1 : ∀ v ∈ cs, v.oneCell' = true)
    (h : K (a.put op.dst undef) (w.alloc (.cells cs.toArray ty)).drew) : Oper.wp P op a (w.alloc (.cells c ty)).drew K Q := by
  have hrun := run_storeVar_row (P := P) (w.alloc (.cells c ty)).drew w.heap.size ty ty c cs.toArray (heap_alloc_new w _) (by simpa using hi) (by simpa using hc) (all_oneCell_toArray h1)
  have hset : (w.alloc (.cells c ty)).drew.setRow w.heap.size cs.toArray = (w.alloc (.cells cs.toArray ty)).drew := by
    have e : (w.alloc (.cells c ty)).drew.setRow w.heap.size cs.toArray = ((w.alloc (.cells c ty)).setRow w.heap.size cs.toArray).drew := rfl
    rw [e, World.setRow_alloc_new]
  rw [hset] at hrun
  unfold Oper.wp execOp
  simp only [ho, hx, hy, Instr.storeAt, Instr.sureAddr, Sem.run_bind, Sem.run_pure, Result.andThen_ok, hrun]
  exact h
end Go.Proofs.YtpmemcpfoapjmaaGreat
