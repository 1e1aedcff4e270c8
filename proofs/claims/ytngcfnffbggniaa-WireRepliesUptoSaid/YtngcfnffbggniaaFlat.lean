/- The things' cells: how many, each one cell. -/
import Derived.Test.YtngcfnffbggniaaStore
namespace Go.Proofs.Ytngcfnffbggniaa
open Go.ChangeShapes Go.WideShapes Go.ChangeAt Go.RowKit
set_option linter.unusedVariables false

/-- so many cells, each one cell -/
def Flat (n : Nat) (cs : List Value) : Prop := cs.length = n ∧ ∀ v ∈ cs, v.oneCell' = true

theorem aclE_flat {w : World} {ok : Nat → Prop} {cs : List Value} {x : Acl} (h : aclE w ok cs x) : Flat 2 cs := by
  obtain ⟨rfl, _⟩ := h
  exact ⟨rfl, by simp [Value.oneCell']⟩
theorem armedE_flat {w : World} {ok : Nat → Prop} {cs : List Value} {x : Armed} (h : armedE w ok cs x) : Flat 5 cs := by
  obtain ⟨rfl, _⟩ := h
  exact ⟨rfl, by simp [Value.oneCell']⟩
theorem eventE_flat {w : World} {ok : Nat → Prop} {cs : List Value} {x : Event} (h : eventE w ok cs x) : Flat 3 cs := by
  obtain ⟨rfl, _⟩ := h
  exact ⟨rfl, by simp [Value.oneCell']⟩
theorem helloE_flat {w : World} {ok : Nat → Prop} {cs : List Value} {x : Hello} (h : helloE w ok cs x) : Flat 4 cs := by
  obtain ⟨rfl, _⟩ := h
  exact ⟨rfl, by simp [Value.oneCell']⟩
theorem noteE_flat {w : World} {ok : Nat → Prop} {cs : List Value} {x : Note} (h : noteE w ok cs x) : Flat 6 cs := by
  obtain ⟨rfl, _⟩ := h
  exact ⟨rfl, by simp [Value.oneCell']⟩
theorem statE_flat {w : World} {ok : Nat → Prop} {cs : List Value} {x : Stat} (h : statE w ok cs x) : Flat 9 cs := by
  obtain ⟨rfl, _⟩ := h
  exact ⟨rfl, by simp [Value.oneCell']⟩
theorem partE_flat {w : World} {ok : Nat → Prop} {cs : List Value} {x : Part} (h : partE w ok cs x) : Flat 8 cs := by
  obtain ⟨_, _, _, _, _, _, rfl⟩ := partE_cells h
  exact ⟨rfl, by simp [Value.oneCell']⟩
theorem oper1E_flat {w : World} {ok : Nat → Prop} {cs : List Value} {x : Oper1} (h : oper1E w ok cs x) : Flat 10 cs := by
  obtain ⟨_, _, _, _, _, _, _, _, _, rfl⟩ := oper1E_cells h
  exact ⟨rfl, by simp [Value.oneCell']⟩
theorem ansE_flat {w : World} {ok : Nat → Prop} {cs : List Value} {x : Ans} (h : ansE w ok cs x) : Flat 17 cs := by
  obtain ⟨_, _, _, _, _, _, _, _, _, rfl⟩ := ansE_cells h
  exact ⟨rfl, by simp [Value.oneCell']⟩
theorem txnE_flat {w : World} {ok : Nat → Prop} {cs : List Value} {x : Txn} (h : txnE w ok cs x) : Flat 8 cs := by
  obtain ⟨_, _, _, _, _, _, rfl⟩ := txnE_cells h
  exact ⟨rfl, by simp [Value.oneCell']⟩
theorem reqE_flat {w : World} {ok : Nat → Prop} {cs : List Value} {x : Req} (h : reqE w ok cs x) : Flat 10 cs := by
  obtain ⟨_, _, _, _, _, _, _, _, _, rfl⟩ := reqE_cells h
  exact ⟨rfl, by simp [Value.oneCell']⟩
theorem replyE_flat {w : World} {ok : Nat → Prop} {cs : List Value} {x : Reply} (h : replyE w ok cs x) : Flat 17 cs := by
  obtain ⟨_, _, _, _, _, _, _, _, _, rfl⟩ := replyE_cells h
  exact ⟨rfl, by simp [Value.oneCell']⟩
theorem entryE_flat {w : World} {ok : Nat → Prop} {cs : List Value} {x : Entry} (h : entryE w ok cs x) : Flat 11 cs := by
  obtain ⟨_, _, _, _, _, _, rfl⟩ := entryE_cells h
  exact ⟨rfl, by simp [Value.oneCell']⟩
theorem messageE_cells {w : World} {ok : Nat → Prop} {cs : List Value} {x : Message} (h : messageE w ok cs x) : ∃ A_marks n_marks c_marks A_entries n_entries c_entries A_acl n_acl c_acl A_subs n_subs c_subs A_armed n_armed c_armed A_ids n_ids c_ids, cs = [.int .i64 x.kind, .int .i64 x.epoch, .int .i64 x.zxid, .int .i64 x.number, .int .i64 x.session, .slice A_marks n_marks c_marks, .string x.data, .slice A_entries n_entries c_entries, .int .i64 x.request.op.kind, .int .i64 x.request.op.xid, .string x.request.op.path, .string x.request.op.data, .slice A_acl n_acl c_acl, .int .i64 x.request.op.flags, .int .i64 x.request.op.version, .bool x.request.op.watch, .slice A_subs n_subs c_subs, .slice A_armed n_armed c_armed, .slice A_ids n_ids c_ids] := by
  obtain ⟨vm, ve, cr, vi, rfl, h0, h1, h2, h3, _⟩ := h
  obtain ⟨a1, a2, a3, rfl⟩ := h0.shape
  obtain ⟨b1, b2, b3, rfl⟩ := h1.shape
  obtain ⟨d1, d2, d3, rfl⟩ := h3.shape
  obtain ⟨e1, e2, e3, f1, f2, f3, g1, g2, g3, rfl⟩ := reqE_cells h2
  exact ⟨a1, a2, a3, b1, b2, b3, e1, e2, e3, f1, f2, f3, g1, g2, g3, d1, d2, d3, rfl⟩
theorem messageE_flat {w : World} {ok : Nat → Prop} {cs : List Value} {x : Message} (h : messageE w ok cs x) : Flat 19 cs := by
  obtain ⟨vm, ve, cr, vi, rfl, h0, h1, h2, h3, _⟩ := h
  obtain ⟨_, _, _, rfl⟩ := h0.shape
  obtain ⟨_, _, _, rfl⟩ := h1.shape
  obtain ⟨_, _, _, rfl⟩ := h3.shape
  obtain ⟨_, _, _, _, _, _, _, _, _, rfl⟩ := reqE_cells h2
  exact ⟨rfl, by simp [Value.oneCell']⟩
end Go.Proofs.Ytngcfnffbggniaa
