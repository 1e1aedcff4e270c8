/- Where the chapter's things lie in memory. -/
import Derived.Test.YtngcfnffbggniaaThings
import Derived.Test.YtngcfnffbggniaaWide
namespace Go.Proofs.Ytngcfnffbggniaa
open Go.ChangeShapes Go.WideShapes Go.ChangeAt Go.RowKit
set_option linter.unusedVariables false

/-- a place of ok, of whose n cells none is frozen -/
def OkF (w : World) (ok : Nat → Prop) (g off n : Nat) : Prop := ok g ∧ ∀ k, k < n → w.frozen? ⟨g, off + k, none⟩ = false

/-- v is a slice whose elements are the rows of cells, sz each, in a block of ok -/
def SliceR (w : World) (ok : Nat → Prop) (sz : Nat) (v : Value) (rows : List (List Value)) : Prop :=
  ∃ A c, v = .slice A rows.length c ∧ rows.length ≤ c ∧ c ≤ maxLen ∧ (rows = [] ∨ ∃ g off, A = some ⟨g, off, none⟩ ∧ OkF w ok g off (rows.length * sz) ∧ g < w.heap.size ∧
    ∀ i (h : i < rows.length), rows[i].length = sz ∧ ∀ j (hj : j < rows[i].length), w.cell? ⟨g, off + i * sz + j, none⟩ = some rows[i][j])

abbrev CellsOf (α : Type) := World → (Nat → Prop) → List Value → α → Prop

structure CellsOf.Ok {α : Type} (E : CellsOf α) : Prop where
  keep : ∀ {w w' : World} {S ok : Nat → Prop} {cs : List Value} {x : α}, E w ok cs x → Kept S w w' → Disj ok S → E w' ok cs x
  mono : ∀ {w : World} {ok ok' : Nat → Prop} {cs : List Value} {x : α}, E w ok cs x → (∀ k, k < w.heap.size → ok k → ok' k) → E w ok' cs x

def ListR {α : Type} (E : CellsOf α) (w : World) (ok : Nat → Prop) (sz : Nat) (v : Value) (l : List α) : Prop :=
  ∃ rows, SliceR w ok sz v rows ∧ rows.length = l.length ∧ ∀ i (h : i < l.length) (h' : i < rows.length), E w ok rows[i] l[i]

theorem SliceR.keep {w w' : World} {S ok : Nat → Prop} {sz : Nat} {v : Value} {rows : List (List Value)} (h : SliceR w ok sz v rows) (hk : Kept S w w') (hd : Disj ok S) : SliceR w' ok sz v rows := by
  obtain ⟨A, c, hv, h1, h2, h3⟩ := h
  refine ⟨A, c, hv, h1, h2, ?_⟩
  rcases h3 with h3 | ⟨g, off, hA, hok, hg, hc⟩
  · exact Or.inl h3
  · refine Or.inr ⟨g, off, hA, ⟨hok.1, fun k hk' => by rw [World.frozen?_of_block (hk.block g hg (hd g hok.1))]; exact hok.2 k hk'⟩, Nat.lt_of_lt_of_le hg hk.size, fun i hi => ⟨(hc i hi).1, fun j hj => ?_⟩⟩
    rw [← (hc i hi).2 j hj]
    exact World.cell?_of_block (hk.block g hg (hd g hok.1))
theorem SliceR.mono {w : World} {ok ok' : Nat → Prop} {sz : Nat} {v : Value} {rows : List (List Value)} (h : SliceR w ok sz v rows) (hm : ∀ k, k < w.heap.size → ok k → ok' k) : SliceR w ok' sz v rows := by
  obtain ⟨A, c, hv, h1, h2, h3⟩ := h
  refine ⟨A, c, hv, h1, h2, ?_⟩
  rcases h3 with h3 | ⟨g, off, hA, hok, hg, hc⟩
  · exact Or.inl h3
  · exact Or.inr ⟨g, off, hA, ⟨hm g hg hok.1, hok.2⟩, hg, hc⟩
theorem SliceR.nil (w : World) (ok : Nat → Prop) (sz : Nat) : SliceR w ok sz (.slice none 0 0) [] := ⟨none, 0, rfl, Nat.le_refl _, by unfold maxLen; omega, Or.inl rfl⟩

theorem ListR.keep {α : Type} {E : CellsOf α} (hE : E.Ok) {w w' : World} {S ok : Nat → Prop} {sz : Nat} {v : Value} {l : List α} (h : ListR E w ok sz v l) (hk : Kept S w w') (hd : Disj ok S) : ListR E w' ok sz v l := by
  obtain ⟨rows, h1, h2, h3⟩ := h
  exact ⟨rows, h1.keep hk hd, h2, fun i hi hi' => hE.keep (h3 i hi hi') hk hd⟩
theorem ListR.mono {α : Type} {E : CellsOf α} (hE : E.Ok) {w : World} {ok ok' : Nat → Prop} {sz : Nat} {v : Value} {l : List α} (h : ListR E w ok sz v l) (hm : ∀ k, k < w.heap.size → ok k → ok' k) : ListR E w ok' sz v l := by
  obtain ⟨rows, h1, h2, h3⟩ := h
  exact ⟨rows, h1.mono hm, h2, fun i hi hi' => hE.mono (h3 i hi hi') hm⟩
theorem ListR.nil {α : Type} (E : CellsOf α) (w : World) (ok : Nat → Prop) (sz : Nat) : ListR E w ok sz (.slice none 0 0) [] := ⟨[], SliceR.nil w ok sz, rfl, fun i h => absurd h (by simp)⟩

/-- v is a slice, whatever is in it -/
def IsSl (v : Value) : Prop := ∃ A n c, v = .slice A n c
theorem ListR.shape {α : Type} {E : CellsOf α} {w : World} {ok : Nat → Prop} {sz : Nat} {v : Value} {l : List α} (h : ListR E w ok sz v l) : IsSl v := by
  obtain ⟨rows, ⟨A, c, rfl, _⟩, _⟩ := h
  exact ⟨A, _, c, rfl⟩

/-- a text that a machine can hold -/
def Str (s : ByteArray) : Prop := s.size ≤ 140737488355328

def intE : CellsOf Int := fun _ _ cs x => cs = [.int .i64 x] ∧ I64 x
def textE : CellsOf ByteArray := fun _ _ cs x => cs = [.string x] ∧ Str x
theorem intE_ok : intE.Ok := ⟨fun h _ _ => h, fun h _ => h⟩
theorem textE_ok : textE.Ok := ⟨fun h _ _ => h, fun h _ => h⟩

def aclE : CellsOf Acl := fun _ _ cs x => cs = [.int .i64 x.perms, .string x.id] ∧ I64 x.perms ∧ Str x.id
theorem aclE_ok : aclE.Ok := ⟨fun h _ _ => h, fun h _ => h⟩
def armedE : CellsOf Armed := fun _ _ cs x => cs = [.int .i64 x.kind, .string x.path, .int .i64 x.czxid, .int .i64 x.mzxid, .int .i64 x.pzxid] ∧ I64 x.kind ∧ Str x.path ∧ I64 x.czxid ∧ I64 x.mzxid ∧ I64 x.pzxid
theorem armedE_ok : armedE.Ok := ⟨fun h _ _ => h, fun h _ => h⟩
def eventE : CellsOf Event := fun _ _ cs x => cs = [.int .i64 x.kind, .string x.path, .int .i64 x.zxid] ∧ I64 x.kind ∧ Str x.path ∧ I64 x.zxid
theorem eventE_ok : eventE.Ok := ⟨fun h _ _ => h, fun h _ => h⟩
def helloE : CellsOf Hello := fun _ _ cs x => cs = [.int .i64 x.session, .int .i64 x.zxid, .int .i64 x.timeout, .string x.secret] ∧ I64 x.session ∧ I64 x.zxid ∧ I64 x.timeout ∧ Str x.secret
theorem helloE_ok : helloE.Ok := ⟨fun h _ _ => h, fun h _ => h⟩
def noteE : CellsOf Note := fun _ _ cs x => cs = [.int .i64 x.from_, .int .i64 x.state, .int .i64 x.round, .int .i64 x.leader, .int .i64 x.epoch, .int .i64 x.zxid] ∧ I64 x.from_ ∧ I64 x.state ∧ I64 x.round ∧ I64 x.leader ∧ I64 x.epoch ∧ I64 x.zxid
theorem noteE_ok : noteE.Ok := ⟨fun h _ _ => h, fun h _ => h⟩
def statE : CellsOf Stat := fun _ _ cs x => cs = [.int .i64 x.czxid, .int .i64 x.mzxid, .int .i64 x.pzxid, .int .i64 x.version, .int .i64 x.cversion, .int .i64 x.aversion, .int .i64 x.owner, .int .i64 x.length, .int .i64 x.kids] ∧ I64 x.czxid ∧ I64 x.mzxid ∧ I64 x.pzxid ∧ I64 x.version ∧ I64 x.cversion ∧ I64 x.aversion ∧ I64 x.owner ∧ I64 x.length ∧ I64 x.kids
theorem statE_ok : statE.Ok := ⟨fun h _ _ => h, fun h _ => h⟩
/-- the cells of a part, its lists, and what else stands there -/
def partQ (w : World) (ok : Nat → Prop) (cs : List Value) (x : Part) (vsubs : Value) : Prop := ∃ vacl, cs = [.int .i64 x.kind, .string x.path, .string x.data, vacl, .int .i64 x.owner, .int .i64 x.number, .int .i64 x.err, vsubs] ∧ ListR aclE w ok 2 vacl x.acl ∧ I64 x.kind ∧ Str x.path ∧ Str x.data ∧ I64 x.owner ∧ I64 x.number ∧ I64 x.err ∧ IsSl vsubs
def partE : CellsOf Part := fun w ok cs x => ∃ vsubs, partQ w ok cs x vsubs
theorem partQ_keep {w w' : World} {S ok : Nat → Prop} {cs : List Value} {x : Part} {vsubs : Value} (h : partQ w ok cs x vsubs) (hk : Kept S w w') (hd : Disj ok S) : partQ w' ok cs x vsubs := by
  obtain ⟨vacl, hc, h0, hp⟩ := h
  exact ⟨vacl, hc, h0.keep aclE_ok hk hd, hp⟩
theorem partQ_mono {w : World} {ok ok' : Nat → Prop} {cs : List Value} {x : Part} {vsubs : Value} (h : partQ w ok cs x vsubs) (hm : ∀ k, k < w.heap.size → ok k → ok' k) : partQ w ok' cs x vsubs := by
  obtain ⟨vacl, hc, h0, hp⟩ := h
  exact ⟨vacl, hc, h0.mono aclE_ok hm, hp⟩
theorem partE_ok : partE.Ok := ⟨fun ⟨vsubs, h⟩ hk hd => ⟨vsubs, partQ_keep h hk hd⟩, fun ⟨vsubs, h⟩ hm => ⟨vsubs, partQ_mono h hm⟩⟩
theorem partE_cells {w : World} {ok : Nat → Prop} {cs : List Value} {x : Part} (h : partE w ok cs x) : ∃ A_acl n_acl c_acl A_subs n_subs c_subs, cs = [.int .i64 x.kind, .string x.path, .string x.data, .slice A_acl n_acl c_acl, .int .i64 x.owner, .int .i64 x.number, .int .i64 x.err, .slice A_subs n_subs c_subs] := by
  obtain ⟨vsubs, vacl, rfl, h0, _, _, _, _, _, _, g0⟩ := h
  obtain ⟨a_acl, b_acl, d_acl, rfl⟩ := h0.shape
  obtain ⟨a_subs, b_subs, d_subs, rfl⟩ := g0
  exact ⟨a_acl, b_acl, d_acl, a_subs, b_subs, d_subs, rfl⟩
/-- the cells of a oper1, its lists, and what else stands there -/
def oper1Q (w : World) (ok : Nat → Prop) (cs : List Value) (x : Oper1) (vsubs varmed : Value) : Prop := ∃ vacl, cs = [.int .i64 x.kind, .int .i64 x.xid, .string x.path, .string x.data, vacl, .int .i64 x.flags, .int .i64 x.version, .bool x.watch, vsubs, varmed] ∧ ListR aclE w ok 2 vacl x.acl ∧ I64 x.kind ∧ I64 x.xid ∧ Str x.path ∧ Str x.data ∧ I64 x.flags ∧ I64 x.version ∧ IsSl vsubs ∧ IsSl varmed
def oper1E : CellsOf Oper1 := fun w ok cs x => ∃ vsubs varmed, oper1Q w ok cs x vsubs varmed
theorem oper1Q_keep {w w' : World} {S ok : Nat → Prop} {cs : List Value} {x : Oper1} {vsubs varmed : Value} (h : oper1Q w ok cs x vsubs varmed) (hk : Kept S w w') (hd : Disj ok S) : oper1Q w' ok cs x vsubs varmed := by
  obtain ⟨vacl, hc, h0, hp⟩ := h
  exact ⟨vacl, hc, h0.keep aclE_ok hk hd, hp⟩
theorem oper1Q_mono {w : World} {ok ok' : Nat → Prop} {cs : List Value} {x : Oper1} {vsubs varmed : Value} (h : oper1Q w ok cs x vsubs varmed) (hm : ∀ k, k < w.heap.size → ok k → ok' k) : oper1Q w ok' cs x vsubs varmed := by
  obtain ⟨vacl, hc, h0, hp⟩ := h
  exact ⟨vacl, hc, h0.mono aclE_ok hm, hp⟩
theorem oper1E_ok : oper1E.Ok := ⟨fun ⟨vsubs, varmed, h⟩ hk hd => ⟨vsubs, varmed, oper1Q_keep h hk hd⟩, fun ⟨vsubs, varmed, h⟩ hm => ⟨vsubs, varmed, oper1Q_mono h hm⟩⟩
theorem oper1E_cells {w : World} {ok : Nat → Prop} {cs : List Value} {x : Oper1} (h : oper1E w ok cs x) : ∃ A_acl n_acl c_acl A_subs n_subs c_subs A_armed n_armed c_armed, cs = [.int .i64 x.kind, .int .i64 x.xid, .string x.path, .string x.data, .slice A_acl n_acl c_acl, .int .i64 x.flags, .int .i64 x.version, .bool x.watch, .slice A_subs n_subs c_subs, .slice A_armed n_armed c_armed] := by
  obtain ⟨vsubs, varmed, vacl, rfl, h0, _, _, _, _, _, _, g0, g1⟩ := h
  obtain ⟨a_acl, b_acl, d_acl, rfl⟩ := h0.shape
  obtain ⟨a_subs, b_subs, d_subs, rfl⟩ := g0
  obtain ⟨a_armed, b_armed, d_armed, rfl⟩ := g1
  exact ⟨a_acl, b_acl, d_acl, a_subs, b_subs, d_subs, a_armed, b_armed, d_armed, rfl⟩
/-- the cells of a ans, its lists, and what else stands there -/
def ansQ (w : World) (ok : Nat → Prop) (cs : List Value) (x : Ans) (vsubs : Value) : Prop := ∃ vacl vkids, cs = [.int .i64 x.xid, .int .i64 x.zxid, .int .i64 x.err, .string x.path, .string x.data, .int .i64 x.stat.czxid, .int .i64 x.stat.mzxid, .int .i64 x.stat.pzxid, .int .i64 x.stat.version, .int .i64 x.stat.cversion, .int .i64 x.stat.aversion, .int .i64 x.stat.owner, .int .i64 x.stat.length, .int .i64 x.stat.kids, vacl, vkids, vsubs] ∧ ListR aclE w ok 2 vacl x.acl ∧ ListR textE w ok 1 vkids x.kids ∧ I64 x.xid ∧ I64 x.zxid ∧ I64 x.err ∧ Str x.path ∧ Str x.data ∧ I64 x.stat.czxid ∧ I64 x.stat.mzxid ∧ I64 x.stat.pzxid ∧ I64 x.stat.version ∧ I64 x.stat.cversion ∧ I64 x.stat.aversion ∧ I64 x.stat.owner ∧ I64 x.stat.length ∧ I64 x.stat.kids ∧ IsSl vsubs
def ansE : CellsOf Ans := fun w ok cs x => ∃ vsubs, ansQ w ok cs x vsubs
theorem ansQ_keep {w w' : World} {S ok : Nat → Prop} {cs : List Value} {x : Ans} {vsubs : Value} (h : ansQ w ok cs x vsubs) (hk : Kept S w w') (hd : Disj ok S) : ansQ w' ok cs x vsubs := by
  obtain ⟨vacl, vkids, hc, h0, h1, hp⟩ := h
  exact ⟨vacl, vkids, hc, h0.keep aclE_ok hk hd, h1.keep textE_ok hk hd, hp⟩
theorem ansQ_mono {w : World} {ok ok' : Nat → Prop} {cs : List Value} {x : Ans} {vsubs : Value} (h : ansQ w ok cs x vsubs) (hm : ∀ k, k < w.heap.size → ok k → ok' k) : ansQ w ok' cs x vsubs := by
  obtain ⟨vacl, vkids, hc, h0, h1, hp⟩ := h
  exact ⟨vacl, vkids, hc, h0.mono aclE_ok hm, h1.mono textE_ok hm, hp⟩
theorem ansE_ok : ansE.Ok := ⟨fun ⟨vsubs, h⟩ hk hd => ⟨vsubs, ansQ_keep h hk hd⟩, fun ⟨vsubs, h⟩ hm => ⟨vsubs, ansQ_mono h hm⟩⟩
theorem ansE_cells {w : World} {ok : Nat → Prop} {cs : List Value} {x : Ans} (h : ansE w ok cs x) : ∃ A_acl n_acl c_acl A_kids n_kids c_kids A_subs n_subs c_subs, cs = [.int .i64 x.xid, .int .i64 x.zxid, .int .i64 x.err, .string x.path, .string x.data, .int .i64 x.stat.czxid, .int .i64 x.stat.mzxid, .int .i64 x.stat.pzxid, .int .i64 x.stat.version, .int .i64 x.stat.cversion, .int .i64 x.stat.aversion, .int .i64 x.stat.owner, .int .i64 x.stat.length, .int .i64 x.stat.kids, .slice A_acl n_acl c_acl, .slice A_kids n_kids c_kids, .slice A_subs n_subs c_subs] := by
  obtain ⟨vsubs, vacl, vkids, rfl, h0, h1, _, _, _, _, _, _, _, _, _, _, _, _, _, _, g0⟩ := h
  obtain ⟨a_acl, b_acl, d_acl, rfl⟩ := h0.shape
  obtain ⟨a_kids, b_kids, d_kids, rfl⟩ := h1.shape
  obtain ⟨a_subs, b_subs, d_subs, rfl⟩ := g0
  exact ⟨a_acl, b_acl, d_acl, a_kids, b_kids, d_kids, a_subs, b_subs, d_subs, rfl⟩
def txnE : CellsOf Txn := fun w ok cs x => ∃ vsubs, partQ w ok cs x.part vsubs ∧ ListR partE w ok 8 vsubs x.subs
theorem txnE_ok : txnE.Ok := ⟨fun ⟨vsubs, h, h0⟩ hk hd => ⟨vsubs, partQ_keep h hk hd, h0.keep partE_ok hk hd⟩, fun ⟨vsubs, h, h0⟩ hm => ⟨vsubs, partQ_mono h hm, h0.mono partE_ok hm⟩⟩
def entryE : CellsOf Entry := fun w ok cs x => ∃ ct, cs = [.int .i64 x.zxid, .int .i64 x.session, .int .i64 x.xid] ++ ct ∧ txnE w ok ct x.txn ∧ I64 x.zxid ∧ I64 x.session ∧ I64 x.xid
theorem entryE_ok : entryE.Ok := ⟨fun ⟨ct, hc, h, hp⟩ hk hd => ⟨ct, hc, txnE_ok.keep h hk hd, hp⟩, fun ⟨ct, hc, h, hp⟩ hm => ⟨ct, hc, txnE_ok.mono h hm, hp⟩⟩
def reqE : CellsOf Req := fun w ok cs x => ∃ vsubs varmed, oper1Q w ok cs x.op vsubs varmed ∧ ListR oper1E w ok 10 vsubs x.subs ∧ ListR armedE w ok 5 varmed x.armed
theorem reqE_ok : reqE.Ok := ⟨fun ⟨vsubs, varmed, h, h0, h1⟩ hk hd => ⟨vsubs, varmed, oper1Q_keep h hk hd, h0.keep oper1E_ok hk hd, h1.keep armedE_ok hk hd⟩, fun ⟨vsubs, varmed, h, h0, h1⟩ hm => ⟨vsubs, varmed, oper1Q_mono h hm, h0.mono oper1E_ok hm, h1.mono armedE_ok hm⟩⟩
def replyE : CellsOf Reply := fun w ok cs x => ∃ vsubs, ansQ w ok cs x.ans vsubs ∧ ListR ansE w ok 17 vsubs x.subs
theorem replyE_ok : replyE.Ok := ⟨fun ⟨vsubs, h, h0⟩ hk hd => ⟨vsubs, ansQ_keep h hk hd, h0.keep ansE_ok hk hd⟩, fun ⟨vsubs, h, h0⟩ hm => ⟨vsubs, ansQ_mono h hm, h0.mono ansE_ok hm⟩⟩
def messageE : CellsOf Message := fun w ok cs x => ∃ vmarks ventries cr vids, cs = [.int .i64 x.kind, .int .i64 x.epoch, .int .i64 x.zxid, .int .i64 x.number, .int .i64 x.session, vmarks, .string x.data, ventries] ++ cr ++ [vids] ∧
  ListR intE w ok 1 vmarks x.marks ∧ ListR entryE w ok 11 ventries x.entries ∧ reqE w ok cr x.request ∧ ListR textE w ok 1 vids x.ids ∧ I64 x.kind ∧ I64 x.epoch ∧ I64 x.zxid ∧ I64 x.number ∧ I64 x.session ∧ Str x.data
theorem messageE_ok : messageE.Ok := ⟨fun ⟨a, b, c, d, hc, h0, h1, h2, h3, hp⟩ hk hd => ⟨a, b, c, d, hc, h0.keep intE_ok hk hd, h1.keep entryE_ok hk hd, reqE_ok.keep h2 hk hd, h3.keep textE_ok hk hd, hp⟩,
  fun ⟨a, b, c, d, hc, h0, h1, h2, h3, hp⟩ hm => ⟨a, b, c, d, hc, h0.mono intE_ok hm, h1.mono entryE_ok hm, reqE_ok.mono h2 hm, h3.mono textE_ok hm, hp⟩⟩
theorem txnE_cells {w : World} {ok : Nat → Prop} {cs : List Value} {x : Txn} (h : txnE w ok cs x) : ∃ A_acl n_acl c_acl A_subs n_subs c_subs, cs = [.int .i64 x.part.kind, .string x.part.path, .string x.part.data, .slice A_acl n_acl c_acl, .int .i64 x.part.owner, .int .i64 x.part.number, .int .i64 x.part.err, .slice A_subs n_subs c_subs] := by
  obtain ⟨vsubs, h, _⟩ := h
  exact partE_cells ⟨vsubs, h⟩
theorem reqE_cells {w : World} {ok : Nat → Prop} {cs : List Value} {x : Req} (h : reqE w ok cs x) : ∃ A_acl n_acl c_acl A_subs n_subs c_subs A_armed n_armed c_armed, cs = [.int .i64 x.op.kind, .int .i64 x.op.xid, .string x.op.path, .string x.op.data, .slice A_acl n_acl c_acl, .int .i64 x.op.flags, .int .i64 x.op.version, .bool x.op.watch, .slice A_subs n_subs c_subs, .slice A_armed n_armed c_armed] := by
  obtain ⟨vsubs, varmed, h, _⟩ := h
  exact oper1E_cells ⟨vsubs, varmed, h⟩
theorem replyE_cells {w : World} {ok : Nat → Prop} {cs : List Value} {x : Reply} (h : replyE w ok cs x) : ∃ A_acl n_acl c_acl A_kids n_kids c_kids A_subs n_subs c_subs, cs = [.int .i64 x.ans.xid, .int .i64 x.ans.zxid, .int .i64 x.ans.err, .string x.ans.path, .string x.ans.data, .int .i64 x.ans.stat.czxid, .int .i64 x.ans.stat.mzxid, .int .i64 x.ans.stat.pzxid, .int .i64 x.ans.stat.version, .int .i64 x.ans.stat.cversion, .int .i64 x.ans.stat.aversion, .int .i64 x.ans.stat.owner, .int .i64 x.ans.stat.length, .int .i64 x.ans.stat.kids, .slice A_acl n_acl c_acl, .slice A_kids n_kids c_kids, .slice A_subs n_subs c_subs] := by
  obtain ⟨vsubs, h, _⟩ := h
  exact ansE_cells ⟨vsubs, h⟩
theorem entryE_cells {w : World} {ok : Nat → Prop} {cs : List Value} {x : Entry} (h : entryE w ok cs x) : ∃ A_acl n_acl c_acl A_subs n_subs c_subs, cs = [.int .i64 x.zxid, .int .i64 x.session, .int .i64 x.xid, .int .i64 x.txn.part.kind, .string x.txn.part.path, .string x.txn.part.data, .slice A_acl n_acl c_acl, .int .i64 x.txn.part.owner, .int .i64 x.txn.part.number, .int .i64 x.txn.part.err, .slice A_subs n_subs c_subs] := by
  obtain ⟨ct, rfl, h, _⟩ := h
  obtain ⟨a, b, c, d, e, f, rfl⟩ := txnE_cells h
  exact ⟨a, b, c, d, e, f, rfl⟩
end Go.Proofs.Ytngcfnffbggniaa
