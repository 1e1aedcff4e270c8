/- The chapter's things: their fields, in their order. Appends to a byte row behind 2^47: the row's next size is at most a quarter beyond what is asked. The writer's calls, on rows up to what the inputs can reach. Where the chapter's things lie in memory. Structs, loaded and stored as a whole. A list that came out of a call may be written over: where it lies, and what that leaves of the rest. The things' cells: how many, each one cell. -/
import Derived.Test.YtpmemcpfoapjmaaGreatV02
import Derived.Test.YtpmemcpfoapjmaaGreatV01
import Derived.Deep.WholeRow
import Derived.Deep.MidRow
namespace Go.Proofs.YtpmemcpfoapjmaaGreat
open Go.RowKit
set_option linter.unusedVariables false

structure Acl where
  perms : Int
  id : ByteArray
def aclF : Fmt Acl := isoF (seqF numF (textF 4096)) (fun x => ⟨x.1, x.2⟩) (fun x => (x.perms, x.id))
theorem aclF_ok : aclF.Ok := isoF_ok (seqF_ok numF_ok (textF_ok (by decide))) (fun _ => rfl) (fun _ => rfl)

structure Stat where
  czxid : Int
  mzxid : Int
  pzxid : Int
  version : Int
  cversion : Int
  aversion : Int
  owner : Int
  length : Int
  kids : Int
def statF : Fmt Stat := isoF (seqF numF (seqF numF (seqF numF (seqF numF (seqF numF (seqF numF (seqF numF (seqF numF numF)))))))) (fun x => ⟨x.1, x.2.1, x.2.2.1, x.2.2.2.1, x.2.2.2.2.1, x.2.2.2.2.2.1, x.2.2.2.2.2.2.1, x.2.2.2.2.2.2.2.1, x.2.2.2.2.2.2.2.2⟩) (fun x => (x.czxid, x.mzxid, x.pzxid, x.version, x.cversion, x.aversion, x.owner, x.length, x.kids))
theorem statF_ok : statF.Ok := isoF_ok (seqF_ok numF_ok (seqF_ok numF_ok (seqF_ok numF_ok (seqF_ok numF_ok (seqF_ok numF_ok (seqF_ok numF_ok (seqF_ok numF_ok (seqF_ok numF_ok numF_ok)))))))) (fun _ => rfl) (fun _ => rfl)

structure Part where
  kind : Int
  path : ByteArray
  data : ByteArray
  acl : List Acl
  owner : Int
  number : Int
  err : Int
def partF : Fmt Part := isoF (seqF numF (seqF (textF 4096) (seqF (textF 4096) (seqF (listF aclF) (seqF numF (seqF numF numF)))))) (fun x => ⟨x.1, x.2.1, x.2.2.1, x.2.2.2.1, x.2.2.2.2.1, x.2.2.2.2.2.1, x.2.2.2.2.2.2⟩) (fun x => (x.kind, x.path, x.data, x.acl, x.owner, x.number, x.err))
theorem partF_ok : partF.Ok := isoF_ok (seqF_ok numF_ok (seqF_ok (textF_ok (by decide)) (seqF_ok (textF_ok (by decide)) (seqF_ok (listF_ok aclF_ok) (seqF_ok numF_ok (seqF_ok numF_ok numF_ok)))))) (fun _ => rfl) (fun _ => rfl)

structure Txn where
  part : Part
  subs : List Part
def txnF : Fmt Txn := isoF (seqF partF (listF partF)) (fun x => ⟨x.1, x.2⟩) (fun x => (x.part, x.subs))
theorem txnF_ok : txnF.Ok := isoF_ok (seqF_ok partF_ok (listF_ok partF_ok)) (fun _ => rfl) (fun _ => rfl)

structure Entry where
  zxid : Int
  session : Int
  xid : Int
  txn : Txn
def entryF : Fmt Entry := isoF (seqF numF (seqF numF (seqF numF txnF))) (fun x => ⟨x.1, x.2.1, x.2.2.1, x.2.2.2⟩) (fun x => (x.zxid, x.session, x.xid, x.txn))
theorem entryF_ok : entryF.Ok := isoF_ok (seqF_ok numF_ok (seqF_ok numF_ok (seqF_ok numF_ok txnF_ok))) (fun _ => rfl) (fun _ => rfl)

structure Armed where
  kind : Int
  path : ByteArray
  czxid : Int
  mzxid : Int
  pzxid : Int
def armedF : Fmt Armed := isoF (seqF numF (seqF (textF 4096) (seqF numF (seqF numF numF)))) (fun x => ⟨x.1, x.2.1, x.2.2.1, x.2.2.2.1, x.2.2.2.2⟩) (fun x => (x.kind, x.path, x.czxid, x.mzxid, x.pzxid))
theorem armedF_ok : armedF.Ok := isoF_ok (seqF_ok numF_ok (seqF_ok (textF_ok (by decide)) (seqF_ok numF_ok (seqF_ok numF_ok numF_ok)))) (fun _ => rfl) (fun _ => rfl)

structure Oper1 where
  kind : Int
  xid : Int
  path : ByteArray
  data : ByteArray
  acl : List Acl
  flags : Int
  version : Int
  watch : Bool
def oper1F : Fmt Oper1 := isoF (seqF numF (seqF numF (seqF (textF 4096) (seqF (textF 4096) (seqF (listF aclF) (seqF numF (seqF numF flagF))))))) (fun x => ⟨x.1, x.2.1, x.2.2.1, x.2.2.2.1, x.2.2.2.2.1, x.2.2.2.2.2.1, x.2.2.2.2.2.2.1, x.2.2.2.2.2.2.2⟩) (fun x => (x.kind, x.xid, x.path, x.data, x.acl, x.flags, x.version, x.watch))
theorem oper1F_ok : oper1F.Ok := isoF_ok (seqF_ok numF_ok (seqF_ok numF_ok (seqF_ok (textF_ok (by decide)) (seqF_ok (textF_ok (by decide)) (seqF_ok (listF_ok aclF_ok) (seqF_ok numF_ok (seqF_ok numF_ok flagF_ok))))))) (fun _ => rfl) (fun _ => rfl)

structure Req where
  op : Oper1
  subs : List Oper1
  armed : List Armed
def reqF : Fmt Req := isoF (seqF oper1F (seqF (listF oper1F) (listF armedF))) (fun x => ⟨x.1, x.2.1, x.2.2⟩) (fun x => (x.op, x.subs, x.armed))
theorem reqF_ok : reqF.Ok := isoF_ok (seqF_ok oper1F_ok (seqF_ok (listF_ok oper1F_ok) (listF_ok armedF_ok))) (fun _ => rfl) (fun _ => rfl)

structure Ans where
  xid : Int
  zxid : Int
  err : Int
  path : ByteArray
  data : ByteArray
  stat : Stat
  acl : List Acl
  kids : List ByteArray
def ansF : Fmt Ans := isoF (seqF numF (seqF numF (seqF numF (seqF (textF 4096) (seqF (textF 4096) (seqF statF (seqF (listF aclF) (listF (textF 4096))))))))) (fun x => ⟨x.1, x.2.1, x.2.2.1, x.2.2.2.1, x.2.2.2.2.1, x.2.2.2.2.2.1, x.2.2.2.2.2.2.1, x.2.2.2.2.2.2.2⟩) (fun x => (x.xid, x.zxid, x.err, x.path, x.data, x.stat, x.acl, x.kids))
theorem ansF_ok : ansF.Ok := isoF_ok (seqF_ok numF_ok (seqF_ok numF_ok (seqF_ok numF_ok (seqF_ok (textF_ok (by decide)) (seqF_ok (textF_ok (by decide)) (seqF_ok statF_ok (seqF_ok (listF_ok aclF_ok) (listF_ok (textF_ok (by decide)))))))))) (fun _ => rfl) (fun _ => rfl)

structure Reply where
  ans : Ans
  subs : List Ans
def replyF : Fmt Reply := isoF (seqF ansF (listF ansF)) (fun x => ⟨x.1, x.2⟩) (fun x => (x.ans, x.subs))
theorem replyF_ok : replyF.Ok := isoF_ok (seqF_ok ansF_ok (listF_ok ansF_ok)) (fun _ => rfl) (fun _ => rfl)

structure Event where
  kind : Int
  path : ByteArray
  zxid : Int
def eventF : Fmt Event := isoF (seqF numF (seqF (textF 4096) numF)) (fun x => ⟨x.1, x.2.1, x.2.2⟩) (fun x => (x.kind, x.path, x.zxid))
theorem eventF_ok : eventF.Ok := isoF_ok (seqF_ok numF_ok (seqF_ok (textF_ok (by decide)) numF_ok)) (fun _ => rfl) (fun _ => rfl)

structure Hello where
  session : Int
  zxid : Int
  timeout : Int
  secret : ByteArray
def helloF : Fmt Hello := isoF (seqF numF (seqF numF (seqF numF (textF 4096)))) (fun x => ⟨x.1, x.2.1, x.2.2.1, x.2.2.2⟩) (fun x => (x.session, x.zxid, x.timeout, x.secret))
theorem helloF_ok : helloF.Ok := isoF_ok (seqF_ok numF_ok (seqF_ok numF_ok (seqF_ok numF_ok (textF_ok (by decide))))) (fun _ => rfl) (fun _ => rfl)

structure Message where
  kind : Int
  epoch : Int
  zxid : Int
  number : Int
  session : Int
  marks : List Int
  data : ByteArray
  entries : List Entry
  request : Req
  ids : List ByteArray
def messageF : Fmt Message := isoF (seqF numF (seqF numF (seqF numF (seqF numF (seqF numF (seqF (listF numF) (seqF (textF 65536) (seqF (listF entryF) (seqF reqF (listF (textF 4096))))))))))) (fun x => ⟨x.1, x.2.1, x.2.2.1, x.2.2.2.1, x.2.2.2.2.1, x.2.2.2.2.2.1, x.2.2.2.2.2.2.1, x.2.2.2.2.2.2.2.1, x.2.2.2.2.2.2.2.2.1, x.2.2.2.2.2.2.2.2.2⟩) (fun x => (x.kind, x.epoch, x.zxid, x.number, x.session, x.marks, x.data, x.entries, x.request, x.ids))
theorem messageF_ok : messageF.Ok := isoF_ok (seqF_ok numF_ok (seqF_ok numF_ok (seqF_ok numF_ok (seqF_ok numF_ok (seqF_ok numF_ok (seqF_ok (listF_ok numF_ok) (seqF_ok (textF_ok (by decide)) (seqF_ok (listF_ok entryF_ok) (seqF_ok reqF_ok (listF_ok (textF_ok (by decide)))))))))))) (fun _ => rfl) (fun _ => rfl)

structure Note where
  from_ : Int
  state : Int
  round : Int
  leader : Int
  epoch : Int
  zxid : Int
def noteF : Fmt Note := isoF (seqF numF (seqF numF (seqF numF (seqF numF (seqF numF numF))))) (fun x => ⟨x.1, x.2.1, x.2.2.1, x.2.2.2.1, x.2.2.2.2.1, x.2.2.2.2.2⟩) (fun x => (x.from_, x.state, x.round, x.leader, x.epoch, x.zxid))
theorem noteF_ok : noteF.Ok := isoF_ok (seqF_ok numF_ok (seqF_ok numF_ok (seqF_ok numF_ok (seqF_ok numF_ok (seqF_ok numF_ok numF_ok))))) (fun _ => rfl) (fun _ => rfl)

end Go.Proofs.YtpmemcpfoapjmaaGreat

namespace Go.Proofs.YtpmemcpfoapjmaaGreat
open Go.ChangeShapes Go.WideShapes Go.ChangeAt Go.RowKit
set_option linter.unusedVariables false

theorem quarter {need old : Nat} (h : old < need) : Builtin.nextslicecap need old ≤ need + need / 4 + 512 := by
  unfold Builtin.nextslicecap
  split
  · omega
  · split
    · omega
    · rw [growBy_four]
      split
      · omega
      · split
        · omega
        · split
          · omega
          · split <;> omega

/-- a new row that bears xs and news -/
theorem grown_row (w : World) (e : TypeId) (xs news : List Value) (N old : Nat) (row : Option Nat) (hN : (xs ++ news).length = N) (h63 : N ≤ maxLen) :
    (w.drew.alloc (.cells (xs.toArray ++ news.toArray ++ Builtin.zeroCells (Value.int .u8 0).cells (grownCap w N old e - N)) e)).ownsRow 0 e 1 (.slice (some ⟨w.heap.size, 0, none⟩) N (grownCap w N old e)) N (xs ++ news) ∧
    w.grownBy (w.drew.alloc (.cells (xs.toArray ++ news.toArray ++ Builtin.zeroCells (Value.int .u8 0).cells (grownCap w N old e - N)) e)) row := by
  have hge := grownCap_ge w N old e
  have hz1 : (Value.int IntKind.u8 0).cells.size = 1 := rfl
  have hnew := heap_alloc_new w.drew (.cells (xs.toArray ++ news.toArray ++ Builtin.zeroCells (Value.int .u8 0).cells (grownCap w N old e - N)) e)
  refine ⟨⟨by rw [hN, Nat.mul_one], Or.inr ⟨w.heap.size, grownCap w N old e, _, rfl, Nat.zero_le _, hnew, hge, grownCap_le_maxLen w N old e h63, ?_, ?_⟩⟩, rfl, rfl, rfl, by simp, fun k hk _ => Below.heap_alloc _ _ _ hk⟩
  · simp only [Array.size_append, List.size_toArray, size_zeroCells, hz1]
    rw [List.length_append] at hN
    omega
  · rw [Nat.mul_one, ← hN, Array.toList_append, Array.toList_append]
    exact List.take_left

theorem run_append_wide {P : Program} (w : World) (t ty e : TypeId) (i : TypeInfo) (ht : P.underlying t = some (.slice e)) (hi : P.info? e = some i) (hz : i.zero = some (.int .u8 0)) (hsize : i.size = 1) (hby : i.bytes = 1)
    (v : Value) (n : Nat) (xs : List Value) (hown : w.ownsRow 0 e 1 v n xs)
    (a : Addr) (m c : Nat) (news : List Value) (hl : news.length = m) (hnews : ∀ j u, news[j]? = some u → w.cell? (a.add j) = some u) (h1 : ∀ u ∈ news, u.oneCell' = true)
    (hm : m ≤ 140737488355328) (h63 : n + m ≤ 145000000000000) :
    ∃ v' w', (Builtin.append_ #[t, t] ty #[v, .slice (some a) m c]).run P w = .ok v' w' ∧ w'.ownsRow 0 e 1 v' (n + m) (xs ++ news) ∧ w.grownBy w' v.ownBlock ∧ Sep w v.ownBlock v' := by
  have hmax : n + m ≤ maxLen := by unfold maxLen; omega
  by_cases hsm : n + m ≤ 140737488355328
  · exact run_append_apart w 0 t ty e i (.int .u8 0) 1 1 ht hi hz hsize hby rfl (by decide) v n xs hown a m c news (by omega) hnews h1 hmax (by omega) (Nat.zero_le _)
  · have hxl : xs.length = n := by simpa using hown.1
    have hall : (xs ++ news).length = n + m := by rw [List.length_append, hxl, hl]
    rcases hown.2 with ⟨rfl, rfl⟩ | ⟨g, cap, cur, rfl, hbg, hg, hnc, hcm, hcs, htake⟩
    · omega
    · have hcs' : cur.size = cap := by simpa using hcs
      by_cases hroom : n + m ≤ cap
      · have hr := run_append_room (P := P) w t ty e i ht hi g n cap cur hg a m c news (by rw [hl, hsize, Nat.mul_one]) hnews h1 hroom (by rw [hsize, hl]; omega)
        rw [hsize] at hr
        refine ⟨_, _, hr, ⟨by rw [hall, Nat.mul_one], Or.inr ⟨g, cap, _, rfl, hbg, setRow_heap w g cur _ e _ hg, hroom, hcm, ?_, ?_⟩⟩, ⟨rfl, rfl, rfl, by simp, fun k _ hk => setRow_other w g k _ (fun e => hk (by simp [Value.ownBlock, e]))⟩, Or.inl rfl⟩
        · simp only [List.size_toArray, List.length_append, List.length_take, List.length_drop, Array.length_toList]
          omega
        · rw [htake, Nat.mul_one, ← hall]
          exact List.take_left
      · have holds : ∀ j u, xs[j]? = some u → w.cell? ((⟨g, 0, none⟩ : Addr).add j) = some u := hown.cells (g := g) rfl
        have hq := quarter (need := n + m) (old := cap) (by omega)
        have hr := run_append_grow (P := P) w t ty e i _ ht hi hz ⟨g, 0, none⟩ n cap xs (by rw [hsize]; omega) holds a m c news (by rw [hsize]; omega) hnews (by omega) (by omega) (by rw [hby]; omega)
        have hgr := grown_row w e xs news (n + m) cap (Value.ownBlock (.slice (some ⟨g, 0, none⟩) n cap)) hall hmax
        refine ⟨_, _, hr, hgr.1, hgr.2, Or.inr fun k hk => ?_⟩
        simp only [Value.ownBlock, Option.some.injEq] at hk
        omega

theorem run_append_wide_string {P : Program} (w : World) (t u ty e : TypeId) (i : TypeInfo) (ht : P.underlying t = some (.slice e)) (hu : P.underlying u = some .string) (hi : P.info? e = some i) (hz : i.zero = some (.int .u8 0)) (hsize : i.size = 1) (hby : i.bytes = 1)
    (v : Value) (n : Nat) (xs : List Value) (hown : w.ownsRow 0 e 1 v n xs) (s : ByteArray)
    (hm : s.size ≤ 140737488355328) (h63 : n + s.size ≤ 145000000000000) :
    ∃ v' w', (Builtin.append_ #[t, u] ty #[v, .string s]).run P w = .ok v' w' ∧ w'.ownsRow 0 e 1 v' (n + s.size) (xs ++ Lib.strCells s) ∧ w.grownBy w' v.ownBlock ∧ Sep w v.ownBlock v' := by
  have hmax : n + s.size ≤ maxLen := by unfold maxLen; omega
  by_cases hsm : n + s.size ≤ 140737488355328
  · exact run_append_apart_string w 0 t u ty e i ht hu hi hz hsize hby v n xs hown s hmax hsm (Nat.zero_le _)
  · have hxl : xs.length = n := by simpa using hown.1
    have hall : (xs ++ Lib.strCells s).length = n + s.size := by rw [List.length_append, hxl, Lib.strCells_length]
    rcases hown.2 with ⟨rfl, rfl⟩ | ⟨g, cap, cur, rfl, hbg, hg, hnc, hcm, hcs, htake⟩
    · omega
    · have hcs' : cur.size = cap := by simpa using hcs
      by_cases hroom : n + s.size ≤ cap
      · have hr := Lib.run_append_room_string (P := P) w t u ty e i ht hu hi hsize g n cap cur hg s hroom (by omega)
        refine ⟨_, _, hr, ⟨by rw [hall, Nat.mul_one], Or.inr ⟨g, cap, _, rfl, hbg, setRow_heap w g cur _ e _ hg, hroom, hcm, ?_, ?_⟩⟩, ⟨rfl, rfl, rfl, by simp, fun k _ hk => setRow_other w g k _ (fun e => hk (by simp [Value.ownBlock, e]))⟩, Or.inl rfl⟩
        · simp only [List.size_toArray, List.length_append, List.length_take, List.length_drop, Array.length_toList, Lib.strCells_length]
          omega
        · have ht' : cur.toList.take n = xs := by simpa using htake
          rw [ht', Nat.mul_one, ← hall]
          exact List.take_left
      · have holds : ∀ j u, xs[j]? = some u → w.cell? ((⟨g, 0, none⟩ : Addr).add j) = some u := hown.cells (g := g) rfl
        have hq := quarter (need := n + s.size) (old := cap) (by omega)
        have hr := Lib.run_append_grow_string (P := P) w t u ty e i (.int .u8 0) ht hu hi hz ⟨g, 0, none⟩ n cap xs (by rw [hsize]; omega) holds s (by omega) (by omega) (by rw [hby]; omega)
        have hgr := grown_row w e xs (Lib.strCells s) (n + s.size) cap (Value.ownBlock (.slice (some ⟨g, 0, none⟩) n cap)) hall hmax
        refine ⟨_, _, hr, hgr.1, hgr.2, Or.inr fun k hk => ?_⟩
        simp only [Value.ownBlock, Option.some.injEq] at hk
        omega

/-- one byte behind a row -/
theorem wpList_byte_wide (w : World) {ops : Array Oper} {rest : List Oper} {o : Oper} {a : Act} {Q : Exit → Act → World → Prop} (hgd : o.guard = none) (s x : Operand)
    (ho : o.op = .call { callee := .builtin .append, args := #[s, x], argTypes := #[136, 136] })
    (v : Value) (l : List UInt8) (hs : a.eval s = v) (hrow : Row w v l) (hl : l.length ≤ 144990000000000)
    (ad : Addr) (c : Nat) (b : UInt8) (hx : a.eval x = .slice (some ad) 1 c) (hb : w.cell? ad = some (.int .u8 b.toNat))
    (h : ∀ v' w', Row w' v' (l ++ [b]) → w.grownBy w' v.ownBlock → Sep w v.ownBlock v' → wpList Tryz.prog ops Q rest (a.put o.dst v') w') : wpList Tryz.prog ops Q (o :: rest) a w := by
  obtain ⟨i0, hi, hz0, hz1, hz2⟩ := info_parts info_u8
  refine wpList_plain hgd fun K hK => ?_
  obtain ⟨v', w', hr, h2, h3, h4⟩ := run_append_wide (P := Tryz.prog) w 136 o.type 5 i0 Tryz.underlying136 hi hz0 hz1 hz2 v l.length (cells l) hrow ad 1 c (cells [b]) rfl (by
    intro j u hu
    cases j with
    | zero => simp only [cells, List.map_cons, List.map_nil, List.getElem?_cons_zero, Option.some.injEq] at hu; subst hu; rw [← hb]; rfl
    | succ j => simp [cells] at hu) (by intro u hu; simp [cells] at hu; subst hu; rfl) (by omega) (by omega)
  unfold Oper.wp execOp
  simp only [ho, resolve, invoke, builtin, Sem.run_bind, Sem.run_pure, Result.andThen_ok, List.map_toArray, List.map_cons, List.map_nil, hs, hx, hr]
  exact hK _ _ (h v' w' (by unfold Row; rw [cells_append, List.length_append]; exact h2) h3 h4)

/-- a text behind a row -/
theorem wpList_text_wide (w : World) {ops : Array Oper} {rest : List Oper} {o : Oper} {a : Act} {Q : Exit → Act → World → Prop} (hgd : o.guard = none) (sl x : Operand)
    (ho : o.op = .call { callee := .builtin .append, args := #[sl, x], argTypes := #[136, 9] })
    (v : Value) (l : List UInt8) (hs : a.eval sl = v) (hrow : Row w v l) (s : ByteArray) (hx : a.eval x = .string s) (hm : s.size ≤ 140737488355328) (h63 : l.length + s.size ≤ 145000000000000)
    (h : ∀ v' w', Row w' v' (l ++ s.data.toList) → w.grownBy w' v.ownBlock → Sep w v.ownBlock v' → wpList Tryz.prog ops Q rest (a.put o.dst v') w') : wpList Tryz.prog ops Q (o :: rest) a w := by
  obtain ⟨i0, hi, hz0, hz1, hz2⟩ := info_parts info_u8
  have hss : s.data.toList.length = s.size := by simp
  refine wpList_plain hgd fun K hK => ?_
  obtain ⟨v', w', hr, h2, h3, h4⟩ := run_append_wide_string (P := Tryz.prog) w 136 9 o.type 5 i0 Tryz.underlying136 Tryz.underlying9 hi hz0 hz1 hz2 v l.length (cells l) hrow s hm h63
  unfold Oper.wp execOp
  simp only [ho, resolve, invoke, builtin, Sem.run_bind, Sem.run_pure, Result.andThen_ok, List.map_toArray, List.map_cons, List.map_nil, hs, hx, hr]
  exact hK _ _ (h v' w' (by unfold Row; rw [cells_append, List.length_append, hss]; exact h2) h3 h4)
end Go.Proofs.YtpmemcpfoapjmaaGreat

namespace Go.Proofs.YtpmemcpfoapjmaaGreat
open Go.ChangeShapes Go.WideShapes Go.ChangeAt Go.RowKit
set_option linter.unusedVariables false

set_option maxRecDepth 100000 in
theorem put_wide (n : Nat) (w : World) (v : Value) (l : List UInt8) (h2 : n ≤ 18446744073709551615) (hl : l.length ≤ 144900000000000) (hown : Row w v l) :
    Calls Tryz.prog 123 #[v, .int .u64 n] w (PutPost w v (l ++ sev n)) := by
  have HN := Lib.hid h2
  clear h2
  go_enter Tryz.func123, Tryz.ntmps123
  go_wp2
  go_loopw [0, 1] (fun v1 i wr => PutRel w v l n v1 i wr) (fun _ i _ => (intOf i).toNat)
  case atStart => exact ⟨n, [], rfl, Nat.le_refl _, rfl, by simpa using hown, World.grownBy.refl _ _, Sep.refl _ _⟩
  case round =>
    obtain ⟨m, done, rfl, hmn, hsev, hrow, hg, hsep⟩ := hrel.ex
    clear hrel
    have HS := Lib.hid hsev; clear hsev
    have hm64 : m ≤ 18446744073709551615 := by have := HN.out; omega
    have hdl : done.length ≤ 10 := by
      have := congrArg List.length HS.out
      simp only [List.length_append] at this
      have := sev_length_u64 HN.out
      omega
    by_cases hlt : 128 ≤ m
    · have hcell : ∀ w : World, (w.alloc (.cells #[.int .u8 (bits BinOp.or IntKind.u8 ((m : Int) % 256) 128)] 5)).cell? ⟨w.heap.size, 0, none⟩ = some (.int .u8 (UInt8.ofNat (m % 128 + 128)).toNat) := fun w => by rw [cell_new, byte_hi]
      have HC := Lib.hid hcell; clear hcell
      go_wp2_with (at_builtin; go_loud (refine wpList_byte_wide _ rfl _ _ rfl u0 (l ++ done) rfl (hrow.alloc _) (by simp; omega) ⟨wr.heap.size, 0, none⟩ 1 (UInt8.ofNat (m % 128 + 128)) rfl (HC.out _) ?_); intro v' w' hrow' hg' hs')
      obtain ⟨hg2, hs2⟩ := step_alloc hg hsep _ hg' hs'
      refine ⟨⟨m / 128, done ++ [UInt8.ofNat (m % 128 + 128)], rfl, by omega, ?_, by rw [← List.append_assoc]; exact hrow', hg2, hs2⟩, by simp [intOf]; omega⟩
      rw [← HS.out, sev_ge hlt]; simp
    · have hcell : ∀ w : World, (w.alloc (.cells #[.int .u8 (m : Int)] 5)).cell? ⟨w.heap.size, 0, none⟩ = some (.int .u8 (UInt8.ofNat m).toNat) := fun w => by rw [cell_new, toNat_ofNat_lt (by omega)]
      have HC := Lib.hid hcell; clear hcell
      go_wp2_with (at_builtin; go_loud (refine wpList_byte_wide _ rfl _ _ rfl u0 (l ++ done) rfl (hrow.alloc _) (by simp; omega) ⟨wr.heap.size, 0, none⟩ 1 (UInt8.ofNat m) rfl (HC.out _) ?_); intro v' w' hrow' hg' hs')
      obtain ⟨hg2, hs2⟩ := step_alloc hg hsep _ hg' hs'
      have hfin : l ++ done ++ [UInt8.ofNat m] = l ++ sev n := by rw [← HS.out, sev_lt (by omega)]; simp
      rw [hfin] at hrow'
      go_ret
      exact ⟨_, rfl, hrow', hg2, hs2⟩

theorem wcount_wide (n : Nat) (w : World) (b : Nat) (v : Value) (l : List UInt8) (hW : WAt w b v l) (h2 : n ≤ 9223372036854775807) (hl : l.length ≤ 144900000000000) :
    Calls Tryz.prog 94 #[.pointer (some ⟨b, 0, none⟩), .int .i64 n] w (WPost w b v (l ++ sev n)) := by
  have hc := cell_of_one hW.at_
  have hf := free_of_one hW.at_
  go_enter Tryz.func94, Tryz.ntmps94
  go_wp2_with (go_at_call 123; refine (put_wide _ _ _ l (by omega) hl hW.row).mono ?_; rintro e w1 ⟨v1, rfl, hrow, hg, hs⟩; obtain ⟨hc1, hf1⟩ := hW.behind hg; obtain ⟨p1, n1, c1, rfl⟩ := hrow.shape)
  go_end0
  exact ⟨_, rfl, (WPost.mk hW hrow hg hs).1, (WPost.mk hW hrow hg hs).2, hs⟩

theorem wnum_wide (n : Int) (w : World) (b : Nat) (v : Value) (l : List UInt8) (hW : WAt w b v l) (h1 : -9223372036854775808 ≤ n) (h2 : n ≤ 9223372036854775807) (hl : l.length ≤ 144900000000000) :
    Calls Tryz.prog 87 #[.pointer (some ⟨b, 0, none⟩), .int .i64 n] w (WPost w b v (l ++ sev (zz n))) := by
  have hc := cell_of_one hW.at_
  have hf := free_of_one hW.at_
  have hz := zz_le h1 h2
  have hz0 : (0 : Int) ≤ zz n := Int.natCast_nonneg _
  go_enter Tryz.func87, Tryz.ntmps87
  go_region_with (first | (go_at_call 124; refine (zig_any n _ h1 h2).mono ?_; rintro e w' ⟨rfl, rfl⟩) | (go_at_call 123; refine (put_wide _ _ _ l (by omega) hl hW.row.drew).mono ?_; rintro e w1 ⟨v1, rfl, hrow, hg, hs⟩; replace hg := grownBy_drew hg; obtain ⟨hc1, hf1⟩ := hW.behind hg; obtain ⟨p1, n1, c1, rfl⟩ := hrow.shape))
  all_goals go_end0
  all_goals exact ⟨_, rfl, (WPost.mk hW hrow hg hs).1, (WPost.mk hW hrow hg hs).2, hs⟩

theorem wflag_wide (x : Bool) (w : World) (b : Nat) (v : Value) (l : List UInt8) (hW : WAt w b v l) (hl : l.length ≤ 144900000000000) :
    Calls Tryz.prog 132 #[.pointer (some ⟨b, 0, none⟩), .bool x] w (WPost w b v (l ++ [if x then 1 else 0])) := by
  have hc := cell_of_one hW.at_
  have hf := free_of_one hW.at_
  have HC : ∀ (w : World) (x : UInt8), (w.alloc (.cells #[.int .u8 (x.toNat : Int)] 5)).cell? ⟨w.heap.size, 0, none⟩ = some (.int .u8 x.toNat) := fun w x => cell_new _ _ _
  have HC := Lib.hid HC
  cases x
  · go_enter Tryz.func132, Tryz.ntmps132
    go_wp2_with (at_builtin; go_loud (refine wpList_byte_wide _ rfl _ _ rfl v l rfl (hW.row.alloc _) (by omega) ⟨w.heap.size, 0, none⟩ 1 0 rfl (HC.out _ 0) ?_); intro v1 w1 hrow hg' hs'; obtain ⟨hg, hs⟩ := step_alloc (World.grownBy.refl w v.ownBlock) (Sep.refl w v) _ hg' hs'; obtain ⟨hc1, hf1⟩ := hW.behind hg; obtain ⟨p1, n1, c1, rfl⟩ := hrow.shape)
    go_end0
    exact ⟨_, rfl, (WPost.mk hW hrow hg hs).1, (WPost.mk hW hrow hg hs).2, hs⟩
  · go_enter Tryz.func132, Tryz.ntmps132
    go_wp2_with (at_builtin; go_loud (refine wpList_byte_wide _ rfl _ _ rfl v l rfl (hW.row.alloc _) (by omega) ⟨w.heap.size, 0, none⟩ 1 1 rfl (HC.out _ 1) ?_); intro v1 w1 hrow hg' hs'; obtain ⟨hg, hs⟩ := step_alloc (World.grownBy.refl w v.ownBlock) (Sep.refl w v) _ hg' hs'; obtain ⟨hc1, hf1⟩ := hW.behind hg; obtain ⟨p1, n1, c1, rfl⟩ := hrow.shape)
    go_end0
    exact ⟨_, rfl, (WPost.mk hW hrow hg hs).1, (WPost.mk hW hrow hg hs).2, hs⟩

theorem wtext_wide (s : ByteArray) (w : World) (b : Nat) (v : Value) (l : List UInt8) (hW : WAt w b v l) (hs : s.size ≤ 140737488355328) (hl : l.length + s.size ≤ 144900000000000) :
    Calls Tryz.prog 55 #[.pointer (some ⟨b, 0, none⟩), .string s] w (WPost w b v (l ++ (sev s.size ++ s.data.toList))) := by
  go_enter Tryz.func55, Tryz.ntmps55
  go_wp2_with fail
  refine (wcount_wide _ _ _ v l hW (by omega) (by omega)).mono ?_
  rintro e w1 ⟨v1, rfl, hW1, hk1, hs1⟩
  obtain ⟨p1, n1, c1, rfl⟩ := hW1.row.shape
  have hc := cell_of_one hW1.at_
  have hf := free_of_one hW1.at_
  have hlen : (sev s.size).length ≤ 10 := sev_length_u64 (by omega)
  go_wp2_with (at_builtin; go_loud (refine wpList_text_wide _ rfl _ _ rfl (.slice p1 n1 c1) _ rfl hW1.row s rfl hs (by simp only [List.length_append]; omega) ?_); intro v2 w2 hrow2 hg2 hs2; obtain ⟨hc2, hf2⟩ := hW1.behind hg2; obtain ⟨p2, n2, c2, rfl⟩ := hrow2.shape)
  go_end0
  have hfin := WPost.mk hW1 hrow2 hg2 hs2
  rw [List.append_assoc] at hfin
  exact ⟨_, rfl, hfin.1, hk1.trans' hfin.2 (WS.sep hs1), hs1.trans hs2 hk1.size⟩
end Go.Proofs.YtpmemcpfoapjmaaGreat

namespace Go.Proofs.YtpmemcpfoapjmaaGreat
open Go.ChangeShapes Go.WideShapes Go.ChangeAt Go.RowKit
set_option linter.unusedVariables false

/-- the types of the things whose lists may be written over -/
def TyOf (sz : Nat) (T : TypeId) : Prop := (sz = 2 → T = 56) ∧ (sz = 8 → T = 36) ∧ (sz = 11 → T = 38) ∧ (sz = 1 → T = 3 ∨ T = 9)
/-- a block of its own, with room for c elements -/
def OwnF (w : World) (g off c sz : Nat) : Prop := off = 0 ∧ ∃ (cur : Array Value) (T : TypeId), w.heap[g]? = some (.cells cur T (0, 0)) ∧ cur.size = c * sz ∧ TyOf sz T
/-- a place of ok, of whose n cells none is frozen; a block of its own, unless ok has the first block of all -/
def OkF (w : World) (ok : Nat → Prop) (g off n c sz : Nat) : Prop := ok g ∧ (∀ k, k < n → w.frozen? ⟨g, off + k, none⟩ = false) ∧ (¬ ok 0 → OwnF w g off c sz)

/-- v is a slice whose elements are the rows of cells, sz each, in a block of ok -/
def SliceR (w : World) (ok : Nat → Prop) (sz : Nat) (v : Value) (rows : List (List Value)) : Prop :=
  ∃ A c, v = .slice A rows.length c ∧ rows.length ≤ c ∧ c ≤ maxLen ∧ ((rows = [] ∧ (c = 0 ∨ ok 0 ∧ 0 < w.heap.size)) ∨ ∃ g off, A = some ⟨g, off, none⟩ ∧ OkF w ok g off (rows.length * sz) c sz ∧ g < w.heap.size ∧
    ∀ i (h : i < rows.length), rows[i].length = sz ∧ ∀ j (hj : j < rows[i].length), w.cell? ⟨g, off + i * sz + j, none⟩ = some rows[i][j])

abbrev CellsOf (α : Type) := World → (Nat → Prop) → List Value → α → Prop

structure CellsOf.Ok {α : Type} (E : CellsOf α) : Prop where
  keep : ∀ {w w' : World} {S ok : Nat → Prop} {cs : List Value} {x : α}, E w ok cs x → Kept S w w' → Disj ok S → E w' ok cs x
  mono : ∀ {w : World} {ok ok' : Nat → Prop} {cs : List Value} {x : α}, E w ok cs x → (∀ k, k < w.heap.size → ok k → ok' k) → E w ok' cs x

def ListR {α : Type} (E : CellsOf α) (w : World) (ok : Nat → Prop) (sz : Nat) (v : Value) (l : List α) : Prop :=
  ∃ rows, SliceR w ok sz v rows ∧ rows.length = l.length ∧ ∀ i (h : i < l.length) (h' : i < rows.length), E w ok rows[i] l[i]

theorem SliceR.keep {w w' : World} {S ok : Nat → Prop} {sz : Nat} {v : Value} {rows : List (List Value)} (h : SliceR w ok sz v rows) (hk : Kept S w w') (hd : Disj ok S) : SliceR w' ok sz v rows := by
  obtain ⟨A, c, hv, h1, h2, h3⟩ := h
  refine ⟨A, c, hv, h1, h2, ?_⟩
  rcases h3 with h3 | ⟨g, off, hA, hok, hg, hc⟩
  · exact Or.inl ⟨h3.1, h3.2.imp id (fun h => ⟨h.1, Nat.lt_of_lt_of_le h.2 hk.size⟩)⟩
  · refine Or.inr ⟨g, off, hA, ⟨hok.1, fun k hk' => by rw [World.frozen?_of_block (hk.block g hg (hd g hok.1))]; exact hok.2.1 k hk', fun h0 => by
      obtain ⟨h1, cur, T, h2, h3⟩ := hok.2.2 h0
      exact ⟨h1, cur, T, by rw [hk.block g hg (hd g hok.1)]; exact h2, h3⟩⟩, Nat.lt_of_lt_of_le hg hk.size, fun i hi => ⟨(hc i hi).1, fun j hj => ?_⟩⟩
    rw [← (hc i hi).2 j hj]
    exact World.cell?_of_block (hk.block g hg (hd g hok.1))
theorem SliceR.mono {w : World} {ok ok' : Nat → Prop} {sz : Nat} {v : Value} {rows : List (List Value)} (h : SliceR w ok sz v rows) (hm : ∀ k, k < w.heap.size → ok k → ok' k) : SliceR w ok' sz v rows := by
  obtain ⟨A, c, hv, h1, h2, h3⟩ := h
  refine ⟨A, c, hv, h1, h2, ?_⟩
  rcases h3 with h3 | ⟨g, off, hA, hok, hg, hc⟩
  · exact Or.inl ⟨h3.1, h3.2.imp id (fun h => ⟨hm 0 h.2 h.1, h.2⟩)⟩
  · exact Or.inr ⟨g, off, hA, ⟨hm g hg hok.1, hok.2.1, fun h0 => hok.2.2 (fun h => h0 (hm 0 (by omega) h))⟩, hg, hc⟩
theorem SliceR.nil (w : World) (ok : Nat → Prop) (sz : Nat) : SliceR w ok sz (.slice none 0 0) [] := ⟨none, 0, rfl, Nat.le_refl _, by unfold maxLen; omega, Or.inl ⟨rfl, Or.inl rfl⟩⟩

theorem ListR.keep {α : Type} {E : CellsOf α} (hE : E.Ok) {w w' : World} {S ok : Nat → Prop} {sz : Nat} {v : Value} {l : List α} (h : ListR E w ok sz v l) (hk : Kept S w w') (hd : Disj ok S) : ListR E w' ok sz v l := by
  obtain ⟨rows, h1, h2, h3⟩ := h
  exact ⟨rows, h1.keep hk hd, h2, fun i hi hi' => hE.keep (h3 i hi hi') hk hd⟩
theorem ListR.mono {α : Type} {E : CellsOf α} (hE : E.Ok) {w : World} {ok ok' : Nat → Prop} {sz : Nat} {v : Value} {l : List α} (h : ListR E w ok sz v l) (hm : ∀ k, k < w.heap.size → ok k → ok' k) : ListR E w ok' sz v l := by
  obtain ⟨rows, h1, h2, h3⟩ := h
  exact ⟨rows, h1.mono hm, h2, fun i hi hi' => hE.mono (h3 i hi hi') hm⟩
theorem ListR.nil {α : Type} (E : CellsOf α) (w : World) (ok : Nat → Prop) (sz : Nat) : ListR E w ok sz (.slice none 0 0) [] := ⟨[], SliceR.nil w ok sz, rfl, fun i h => absurd h (by simp)⟩

/-- v is a slice, whatever is in it -/
def IsSl (v : Value) : Prop := ∃ A n c, v = .slice A n c
theorem ListR.shape {α : Type} {E : CellsOf α} {w : World} {ok : Nat → Prop} {sz : Nat} {v : Value} {l : List α} (h : ListR E w ok sz v l) : IsSl v := by
  obtain ⟨rows, ⟨A, c, rfl, _⟩, _⟩ := h
  exact ⟨A, _, c, rfl⟩

/-- a text that a machine can hold -/
def Str (s : ByteArray) : Prop := s.size ≤ 140737488355328

def intE : CellsOf Int := fun _ _ cs x => cs = [.int .i64 x] ∧ I64 x
def textE : CellsOf ByteArray := fun _ _ cs x => cs = [.string x] ∧ Str x
theorem intE_ok : intE.Ok := ⟨fun h _ _ => h, fun h _ => h⟩
theorem textE_ok : textE.Ok := ⟨fun h _ _ => h, fun h _ => h⟩

def aclE : CellsOf Acl := fun _ _ cs x => cs = [.int .i64 x.perms, .string x.id] ∧ I64 x.perms ∧ Str x.id
theorem aclE_ok : aclE.Ok := ⟨fun h _ _ => h, fun h _ => h⟩
def armedE : CellsOf Armed := fun _ _ cs x => cs = [.int .i64 x.kind, .string x.path, .int .i64 x.czxid, .int .i64 x.mzxid, .int .i64 x.pzxid] ∧ I64 x.kind ∧ Str x.path ∧ I64 x.czxid ∧ I64 x.mzxid ∧ I64 x.pzxid
theorem armedE_ok : armedE.Ok := ⟨fun h _ _ => h, fun h _ => h⟩
def eventE : CellsOf Event := fun _ _ cs x => cs = [.int .i64 x.kind, .string x.path, .int .i64 x.zxid] ∧ I64 x.kind ∧ Str x.path ∧ I64 x.zxid
theorem eventE_ok : eventE.Ok := ⟨fun h _ _ => h, fun h _ => h⟩
def helloE : CellsOf Hello := fun _ _ cs x => cs = [.int .i64 x.session, .int .i64 x.zxid, .int .i64 x.timeout, .string x.secret] ∧ I64 x.session ∧ I64 x.zxid ∧ I64 x.timeout ∧ Str x.secret
theorem helloE_ok : helloE.Ok := ⟨fun h _ _ => h, fun h _ => h⟩
def noteE : CellsOf Note := fun _ _ cs x => cs = [.int .i64 x.from_, .int .i64 x.state, .int .i64 x.round, .int .i64 x.leader, .int .i64 x.epoch, .int .i64 x.zxid] ∧ I64 x.from_ ∧ I64 x.state ∧ I64 x.round ∧ I64 x.leader ∧ I64 x.epoch ∧ I64 x.zxid
theorem noteE_ok : noteE.Ok := ⟨fun h _ _ => h, fun h _ => h⟩
def statE : CellsOf Stat := fun _ _ cs x => cs = [.int .i64 x.czxid, .int .i64 x.mzxid, .int .i64 x.pzxid, .int .i64 x.version, .int .i64 x.cversion, .int .i64 x.aversion, .int .i64 x.owner, .int .i64 x.length, .int .i64 x.kids] ∧ I64 x.czxid ∧ I64 x.mzxid ∧ I64 x.pzxid ∧ I64 x.version ∧ I64 x.cversion ∧ I64 x.aversion ∧ I64 x.owner ∧ I64 x.length ∧ I64 x.kids
theorem statE_ok : statE.Ok := ⟨fun h _ _ => h, fun h _ => h⟩
/-- the cells of a part, its lists, and what else stands there -/
def partQ (w : World) (ok : Nat → Prop) (cs : List Value) (x : Part) (vsubs : Value) : Prop := ∃ vacl, cs = [.int .i64 x.kind, .string x.path, .string x.data, vacl, .int .i64 x.owner, .int .i64 x.number, .int .i64 x.err, vsubs] ∧ ListR aclE w ok 2 vacl x.acl ∧ I64 x.kind ∧ Str x.path ∧ Str x.data ∧ I64 x.owner ∧ I64 x.number ∧ I64 x.err ∧ IsSl vsubs
def partE : CellsOf Part := fun w ok cs x => ∃ vsubs, partQ w ok cs x vsubs
theorem partQ_keep {w w' : World} {S ok : Nat → Prop} {cs : List Value} {x : Part} {vsubs : Value} (h : partQ w ok cs x vsubs) (hk : Kept S w w') (hd : Disj ok S) : partQ w' ok cs x vsubs := by
  obtain ⟨vacl, hc, h0, hp⟩ := h
  exact ⟨vacl, hc, h0.keep aclE_ok hk hd, hp⟩
theorem partQ_mono {w : World} {ok ok' : Nat → Prop} {cs : List Value} {x : Part} {vsubs : Value} (h : partQ w ok cs x vsubs) (hm : ∀ k, k < w.heap.size → ok k → ok' k) : partQ w ok' cs x vsubs := by
  obtain ⟨vacl, hc, h0, hp⟩ := h
  exact ⟨vacl, hc, h0.mono aclE_ok hm, hp⟩
theorem partE_ok : partE.Ok := ⟨fun ⟨vsubs, h⟩ hk hd => ⟨vsubs, partQ_keep h hk hd⟩, fun ⟨vsubs, h⟩ hm => ⟨vsubs, partQ_mono h hm⟩⟩
theorem partE_cells {w : World} {ok : Nat → Prop} {cs : List Value} {x : Part} (h : partE w ok cs x) : ∃ A_acl n_acl c_acl A_subs n_subs c_subs, cs = [.int .i64 x.kind, .string x.path, .string x.data, .slice A_acl n_acl c_acl, .int .i64 x.owner, .int .i64 x.number, .int .i64 x.err, .slice A_subs n_subs c_subs] := by
  obtain ⟨vsubs, vacl, rfl, h0, _, _, _, _, _, _, g0⟩ := h
  obtain ⟨a_acl, b_acl, d_acl, rfl⟩ := h0.shape
  obtain ⟨a_subs, b_subs, d_subs, rfl⟩ := g0
  exact ⟨a_acl, b_acl, d_acl, a_subs, b_subs, d_subs, rfl⟩
/-- the cells of a oper1, its lists, and what else stands there -/
def oper1Q (w : World) (ok : Nat → Prop) (cs : List Value) (x : Oper1) (vsubs varmed : Value) : Prop := ∃ vacl, cs = [.int .i64 x.kind, .int .i64 x.xid, .string x.path, .string x.data, vacl, .int .i64 x.flags, .int .i64 x.version, .bool x.watch, vsubs, varmed] ∧ ListR aclE w ok 2 vacl x.acl ∧ I64 x.kind ∧ I64 x.xid ∧ Str x.path ∧ Str x.data ∧ I64 x.flags ∧ I64 x.version ∧ IsSl vsubs ∧ IsSl varmed
def oper1E : CellsOf Oper1 := fun w ok cs x => ∃ vsubs varmed, oper1Q w ok cs x vsubs varmed
theorem oper1Q_keep {w w' : World} {S ok : Nat → Prop} {cs : List Value} {x : Oper1} {vsubs varmed : Value} (h : oper1Q w ok cs x vsubs varmed) (hk : Kept S w w') (hd : Disj ok S) : oper1Q w' ok cs x vsubs varmed := by
  obtain ⟨vacl, hc, h0, hp⟩ := h
  exact ⟨vacl, hc, h0.keep aclE_ok hk hd, hp⟩
theorem oper1Q_mono {w : World} {ok ok' : Nat → Prop} {cs : List Value} {x : Oper1} {vsubs varmed : Value} (h : oper1Q w ok cs x vsubs varmed) (hm : ∀ k, k < w.heap.size → ok k → ok' k) : oper1Q w ok' cs x vsubs varmed := by
  obtain ⟨vacl, hc, h0, hp⟩ := h
  exact ⟨vacl, hc, h0.mono aclE_ok hm, hp⟩
theorem oper1E_ok : oper1E.Ok := ⟨fun ⟨vsubs, varmed, h⟩ hk hd => ⟨vsubs, varmed, oper1Q_keep h hk hd⟩, fun ⟨vsubs, varmed, h⟩ hm => ⟨vsubs, varmed, oper1Q_mono h hm⟩⟩
theorem oper1E_cells {w : World} {ok : Nat → Prop} {cs : List Value} {x : Oper1} (h : oper1E w ok cs x) : ∃ A_acl n_acl c_acl A_subs n_subs c_subs A_armed n_armed c_armed, cs = [.int .i64 x.kind, .int .i64 x.xid, .string x.path, .string x.data, .slice A_acl n_acl c_acl, .int .i64 x.flags, .int .i64 x.version, .bool x.watch, .slice A_subs n_subs c_subs, .slice A_armed n_armed c_armed] := by
  obtain ⟨vsubs, varmed, vacl, rfl, h0, _, _, _, _, _, _, g0, g1⟩ := h
  obtain ⟨a_acl, b_acl, d_acl, rfl⟩ := h0.shape
  obtain ⟨a_subs, b_subs, d_subs, rfl⟩ := g0
  obtain ⟨a_armed, b_armed, d_armed, rfl⟩ := g1
  exact ⟨a_acl, b_acl, d_acl, a_subs, b_subs, d_subs, a_armed, b_armed, d_armed, rfl⟩
/-- the cells of a ans, its lists, and what else stands there -/
def ansQ (w : World) (ok : Nat → Prop) (cs : List Value) (x : Ans) (vsubs : Value) : Prop := ∃ vacl vkids, cs = [.int .i64 x.xid, .int .i64 x.zxid, .int .i64 x.err, .string x.path, .string x.data, .int .i64 x.stat.czxid, .int .i64 x.stat.mzxid, .int .i64 x.stat.pzxid, .int .i64 x.stat.version, .int .i64 x.stat.cversion, .int .i64 x.stat.aversion, .int .i64 x.stat.owner, .int .i64 x.stat.length, .int .i64 x.stat.kids, vacl, vkids, vsubs] ∧ ListR aclE w ok 2 vacl x.acl ∧ ListR textE w ok 1 vkids x.kids ∧ I64 x.xid ∧ I64 x.zxid ∧ I64 x.err ∧ Str x.path ∧ Str x.data ∧ I64 x.stat.czxid ∧ I64 x.stat.mzxid ∧ I64 x.stat.pzxid ∧ I64 x.stat.version ∧ I64 x.stat.cversion ∧ I64 x.stat.aversion ∧ I64 x.stat.owner ∧ I64 x.stat.length ∧ I64 x.stat.kids ∧ IsSl vsubs
def ansE : CellsOf Ans := fun w ok cs x => ∃ vsubs, ansQ w ok cs x vsubs
theorem ansQ_keep {w w' : World} {S ok : Nat → Prop} {cs : List Value} {x : Ans} {vsubs : Value} (h : ansQ w ok cs x vsubs) (hk : Kept S w w') (hd : Disj ok S) : ansQ w' ok cs x vsubs := by
  obtain ⟨vacl, vkids, hc, h0, h1, hp⟩ := h
  exact ⟨vacl, vkids, hc, h0.keep aclE_ok hk hd, h1.keep textE_ok hk hd, hp⟩
theorem ansQ_mono {w : World} {ok ok' : Nat → Prop} {cs : List Value} {x : Ans} {vsubs : Value} (h : ansQ w ok cs x vsubs) (hm : ∀ k, k < w.heap.size → ok k → ok' k) : ansQ w ok' cs x vsubs := by
  obtain ⟨vacl, vkids, hc, h0, h1, hp⟩ := h
  exact ⟨vacl, vkids, hc, h0.mono aclE_ok hm, h1.mono textE_ok hm, hp⟩
theorem ansE_ok : ansE.Ok := ⟨fun ⟨vsubs, h⟩ hk hd => ⟨vsubs, ansQ_keep h hk hd⟩, fun ⟨vsubs, h⟩ hm => ⟨vsubs, ansQ_mono h hm⟩⟩
theorem ansE_cells {w : World} {ok : Nat → Prop} {cs : List Value} {x : Ans} (h : ansE w ok cs x) : ∃ A_acl n_acl c_acl A_kids n_kids c_kids A_subs n_subs c_subs, cs = [.int .i64 x.xid, .int .i64 x.zxid, .int .i64 x.err, .string x.path, .string x.data, .int .i64 x.stat.czxid, .int .i64 x.stat.mzxid, .int .i64 x.stat.pzxid, .int .i64 x.stat.version, .int .i64 x.stat.cversion, .int .i64 x.stat.aversion, .int .i64 x.stat.owner, .int .i64 x.stat.length, .int .i64 x.stat.kids, .slice A_acl n_acl c_acl, .slice A_kids n_kids c_kids, .slice A_subs n_subs c_subs] := by
  obtain ⟨vsubs, vacl, vkids, rfl, h0, h1, _, _, _, _, _, _, _, _, _, _, _, _, _, _, g0⟩ := h
  obtain ⟨a_acl, b_acl, d_acl, rfl⟩ := h0.shape
  obtain ⟨a_kids, b_kids, d_kids, rfl⟩ := h1.shape
  obtain ⟨a_subs, b_subs, d_subs, rfl⟩ := g0
  exact ⟨a_acl, b_acl, d_acl, a_kids, b_kids, d_kids, a_subs, b_subs, d_subs, rfl⟩
def txnE : CellsOf Txn := fun w ok cs x => ∃ vsubs, partQ w ok cs x.part vsubs ∧ ListR partE w ok 8 vsubs x.subs
theorem txnE_ok : txnE.Ok := ⟨fun ⟨vsubs, h, h0⟩ hk hd => ⟨vsubs, partQ_keep h hk hd, h0.keep partE_ok hk hd⟩, fun ⟨vsubs, h, h0⟩ hm => ⟨vsubs, partQ_mono h hm, h0.mono partE_ok hm⟩⟩
def entryE : CellsOf Entry := fun w ok cs x => ∃ ct, cs = [.int .i64 x.zxid, .int .i64 x.session, .int .i64 x.xid] ++ ct ∧ txnE w ok ct x.txn ∧ I64 x.zxid ∧ I64 x.session ∧ I64 x.xid
theorem entryE_ok : entryE.Ok := ⟨fun ⟨ct, hc, h, hp⟩ hk hd => ⟨ct, hc, txnE_ok.keep h hk hd, hp⟩, fun ⟨ct, hc, h, hp⟩ hm => ⟨ct, hc, txnE_ok.mono h hm, hp⟩⟩
def reqE : CellsOf Req := fun w ok cs x => ∃ vsubs varmed, oper1Q w ok cs x.op vsubs varmed ∧ ListR oper1E w ok 10 vsubs x.subs ∧ ListR armedE w ok 5 varmed x.armed
theorem reqE_ok : reqE.Ok := ⟨fun ⟨vsubs, varmed, h, h0, h1⟩ hk hd => ⟨vsubs, varmed, oper1Q_keep h hk hd, h0.keep oper1E_ok hk hd, h1.keep armedE_ok hk hd⟩, fun ⟨vsubs, varmed, h, h0, h1⟩ hm => ⟨vsubs, varmed, oper1Q_mono h hm, h0.mono oper1E_ok hm, h1.mono armedE_ok hm⟩⟩
def replyE : CellsOf Reply := fun w ok cs x => ∃ vsubs, ansQ w ok cs x.ans vsubs ∧ ListR ansE w ok 17 vsubs x.subs
theorem replyE_ok : replyE.Ok := ⟨fun ⟨vsubs, h, h0⟩ hk hd => ⟨vsubs, ansQ_keep h hk hd, h0.keep ansE_ok hk hd⟩, fun ⟨vsubs, h, h0⟩ hm => ⟨vsubs, ansQ_mono h hm, h0.mono ansE_ok hm⟩⟩
def messageE : CellsOf Message := fun w ok cs x => ∃ vmarks ventries cr vids, cs = [.int .i64 x.kind, .int .i64 x.epoch, .int .i64 x.zxid, .int .i64 x.number, .int .i64 x.session, vmarks, .string x.data, ventries] ++ cr ++ [vids] ∧
  ListR intE w ok 1 vmarks x.marks ∧ ListR entryE w ok 11 ventries x.entries ∧ reqE w ok cr x.request ∧ ListR textE w ok 1 vids x.ids ∧ I64 x.kind ∧ I64 x.epoch ∧ I64 x.zxid ∧ I64 x.number ∧ I64 x.session ∧ Str x.data
theorem messageE_ok : messageE.Ok := ⟨fun ⟨a, b, c, d, hc, h0, h1, h2, h3, hp⟩ hk hd => ⟨a, b, c, d, hc, h0.keep intE_ok hk hd, h1.keep entryE_ok hk hd, reqE_ok.keep h2 hk hd, h3.keep textE_ok hk hd, hp⟩,
  fun ⟨a, b, c, d, hc, h0, h1, h2, h3, hp⟩ hm => ⟨a, b, c, d, hc, h0.mono intE_ok hm, h1.mono entryE_ok hm, reqE_ok.mono h2 hm, h3.mono textE_ok hm, hp⟩⟩
theorem txnE_cells {w : World} {ok : Nat → Prop} {cs : List Value} {x : Txn} (h : txnE w ok cs x) : ∃ A_acl n_acl c_acl A_subs n_subs c_subs, cs = [.int .i64 x.part.kind, .string x.part.path, .string x.part.data, .slice A_acl n_acl c_acl, .int .i64 x.part.owner, .int .i64 x.part.number, .int .i64 x.part.err, .slice A_subs n_subs c_subs] := by
  obtain ⟨vsubs, h, _⟩ := h
  exact partE_cells ⟨vsubs, h⟩
theorem reqE_cells {w : World} {ok : Nat → Prop} {cs : List Value} {x : Req} (h : reqE w ok cs x) : ∃ A_acl n_acl c_acl A_subs n_subs c_subs A_armed n_armed c_armed, cs = [.int .i64 x.op.kind, .int .i64 x.op.xid, .string x.op.path, .string x.op.data, .slice A_acl n_acl c_acl, .int .i64 x.op.flags, .int .i64 x.op.version, .bool x.op.watch, .slice A_subs n_subs c_subs, .slice A_armed n_armed c_armed] := by
  obtain ⟨vsubs, varmed, h, _⟩ := h
  exact oper1E_cells ⟨vsubs, varmed, h⟩
theorem replyE_cells {w : World} {ok : Nat → Prop} {cs : List Value} {x : Reply} (h : replyE w ok cs x) : ∃ A_acl n_acl c_acl A_kids n_kids c_kids A_subs n_subs c_subs, cs = [.int .i64 x.ans.xid, .int .i64 x.ans.zxid, .int .i64 x.ans.err, .string x.ans.path, .string x.ans.data, .int .i64 x.ans.stat.czxid, .int .i64 x.ans.stat.mzxid, .int .i64 x.ans.stat.pzxid, .int .i64 x.ans.stat.version, .int .i64 x.ans.stat.cversion, .int .i64 x.ans.stat.aversion, .int .i64 x.ans.stat.owner, .int .i64 x.ans.stat.length, .int .i64 x.ans.stat.kids, .slice A_acl n_acl c_acl, .slice A_kids n_kids c_kids, .slice A_subs n_subs c_subs] := by
  obtain ⟨vsubs, h, _⟩ := h
  exact ansE_cells ⟨vsubs, h⟩
theorem entryE_cells {w : World} {ok : Nat → Prop} {cs : List Value} {x : Entry} (h : entryE w ok cs x) : ∃ A_acl n_acl c_acl A_subs n_subs c_subs, cs = [.int .i64 x.zxid, .int .i64 x.session, .int .i64 x.xid, .int .i64 x.txn.part.kind, .string x.txn.part.path, .string x.txn.part.data, .slice A_acl n_acl c_acl, .int .i64 x.txn.part.owner, .int .i64 x.txn.part.number, .int .i64 x.txn.part.err, .slice A_subs n_subs c_subs] := by
  obtain ⟨ct, rfl, h, _⟩ := h
  obtain ⟨a, b, c, d, e, f, rfl⟩ := txnE_cells h
  exact ⟨a, b, c, d, e, f, rfl⟩
end Go.Proofs.YtpmemcpfoapjmaaGreat

namespace Go.Proofs.YtpmemcpfoapjmaaGreat
open Go.ChangeShapes Go.WideShapes Go.ChangeAt Go.RowKit
set_option linter.unusedVariables false

theorem wpList_store_new {P : Program} {ops : Array Oper} {rest : List Oper} {op : Oper} {a : Act} {Q : Exit → Act → World → Prop} (w : World) (hgd : op.guard = none) (ty : TypeId) (x y : Operand) (ho : op.op = .store ty x y)
    (c : Array Value) (cs : List Value) (hx : a.eval x = .pointer (some ⟨w.heap.size, 0, none⟩)) (hy : a.eval y = .agg cs.toArray) (hi : (P.info? ty).map (·.size) = some cs.length) (hc : c.size = cs.length) (h1 : ∀ v ∈ cs, v.oneCell' = true)
    (h : wpList P ops Q rest (a.put op.dst undef) (w.alloc (.cells cs.toArray ty))) : wpList P ops Q (op :: rest) a (w.alloc (.cells c ty)) :=
  wpList_plain hgd fun _ hK => by
    unfold Oper.wp execOp
    simp only [ho, hx, hy, Sem.run_bind, Sem.run_pure, Result.andThen_ok, run_storeAt_new (P := P) w ty c cs.toArray (by simpa using hi) (by simpa using hc) (all_oneCell_toArray h1)]
    exact hK _ _ h

theorem wpList_store_row {P : Program} {ops : Array Oper} {rest : List Oper} {op : Oper} {a : Act} {Q : Exit → Act → World → Prop} (w : World) (hgd : op.guard = none) (ty : TypeId) (x y : Operand) (ho : op.op = .store ty x y)
    (g : Nat) (c : Array Value) (cs : List Value) (hx : a.eval x = .pointer (some ⟨g, 0, none⟩)) (hy : a.eval y = .agg cs.toArray) (hg : w.heap[g]? = some (.cells c ty (0, 0))) (hi : (P.info? ty).map (·.size) = some cs.length) (hc : c.size = cs.length) (h1 : ∀ v ∈ cs, v.oneCell' = true)
    (h : wpList P ops Q rest (a.put op.dst undef) (w.setRow g cs.toArray)) : wpList P ops Q (op :: rest) a w :=
  wpList_plain hgd fun _ hK => by
    unfold Oper.wp execOp
    simp only [ho, hx, hy, Instr.storeAt, Instr.sureAddr, Sem.run_bind, Sem.run_pure, Result.andThen_ok, run_storeVar_row (P := P) w g ty ty c cs.toArray hg (by simpa using hi) (by simpa using hc) (all_oneCell_toArray h1)]
    exact hK _ _ h

theorem range_new (w : World) (cs : List Value) (ty : TypeId) : (w.alloc (.cells cs.toArray ty)).rangeAt w.heap.size 0 cs := fun j v hv => by
  have hc := cell_of_row _ w.heap.size j _ ty (0, 0) (heap_alloc_new w (.cells cs.toArray ty))
  rw [Nat.zero_add, hc]
  simpa using hv
theorem range_row {w : World} {g : Nat} {cs : List Value} {ty : TypeId} (h : w.heap[g]? = some (.cells cs.toArray ty (0, 0))) : w.rangeAt g 0 cs := fun j v hv => by
  rw [Nat.zero_add, cell_of_row _ g j _ ty (0, 0) h]
  simpa using hv

theorem setRow_kept (w : World) (g : Nat) (cs : Array Value) : Kept (fun k => k = g) w (w.setRow g cs) :=
  ⟨rfl, rfl, rfl, by simp, fun k _ hk => setRow_other w g k cs hk⟩
end Go.Proofs.YtpmemcpfoapjmaaGreat

namespace Go.Proofs.YtpmemcpfoapjmaaGreat
open Go.ChangeShapes Go.WideShapes Go.ChangeAt Go.RowKit
set_option linter.unusedVariables false

/-- v is a slice whose elements, sz cells each, lie in a block between base and top, and may be written -/
structure ThL (w : World) (base top sz : Nat) (v : Value) : Prop where
  ex : ∃ A n c, v = .slice A n c ∧ n ≤ c ∧ c ≤ maxLen ∧ (n = 0 ∨ ∃ g off, A = some ⟨g, off, none⟩ ∧ base ≤ g ∧ g < top ∧ w.there g off (n * sz))

theorem row_index {k sz n : Nat} (h : k < n * sz) : k / sz < n ∧ k % sz < sz ∧ k = k / sz * sz + k % sz := by
  have hp : 0 < sz := by
    rcases Nat.eq_zero_or_pos sz with h0 | h0
    · subst h0; simp at h
    · exact h0
  refine ⟨(Nat.div_lt_iff_lt_mul hp).2 h, Nat.mod_lt _ hp, ?_⟩
  rw [Nat.mul_comm]
  exact (Nat.div_add_mod k sz).symm

theorem ListR.th {α : Type} {E : CellsOf α} {w : World} {ok : Nat → Prop} {sz : Nat} {v : Value} {l : List α} (h : ListR E w ok sz v l) {base : Nat} (hb : ∀ k, ok k → base ≤ k) : ThL w base w.heap.size sz v := by
  obtain ⟨rows, ⟨A, c, rfl, hc, hm, hat⟩, hlen, hel⟩ := h
  refine ⟨A, rows.length, c, rfl, hc, hm, ?_⟩
  rcases hat with h0 | ⟨g, off, hA, hok, hg, hcell⟩
  · exact Or.inl (by rw [h0.1]; rfl)
  · refine Or.inr ⟨g, off, hA, hb g hok.1, hg, fun j hj => ⟨?_, hok.2.1 j hj⟩⟩
    obtain ⟨h1, h2, h3⟩ := row_index hj
    have hl := (hcell (j / sz) h1).1
    have := (hcell (j / sz) h1).2 (j % sz) (by omega)
    rw [h3, ← Nat.add_assoc, this]
    rfl

theorem ThL.keep {S : Nat → Prop} {w w' : World} {base top sz : Nat} {v : Value} (h : ThL w base top sz v) (hk : Kept S w w') (hs : ∀ k, base ≤ k → k < top → ¬ S k) (ht : top ≤ w.heap.size) : ThL w' base top sz v := by
  obtain ⟨A, n, c, rfl, hc, hm, hx⟩ := h.ex
  refine ⟨A, n, c, rfl, hc, hm, ?_⟩
  rcases hx with h0 | ⟨g, off, hA, hb, hg, hth⟩
  · exact Or.inl h0
  · refine Or.inr ⟨g, off, hA, hb, hg, fun j hj => ?_⟩
    have hblk := hk.block g (by omega) (hs g hb hg)
    rw [World.cell?_of_block hblk, World.frozen?_of_block hblk]
    exact hth j hj
theorem ThL.set {w : World} {base top sz : Nat} {v : Value} (h : ThL w base top sz v) (b o : Nat) (vs : List Value) : ThL (w.setCells b o vs) base top sz v := by
  obtain ⟨A, n, c, rfl, hc, hm, hx⟩ := h.ex
  refine ⟨A, n, c, rfl, hc, hm, ?_⟩
  rcases hx with h0 | ⟨g, off, hA, hb, hg, hth⟩
  · exact Or.inl h0
  · exact Or.inr ⟨g, off, hA, hb, hg, World.there_setCells hth b o vs⟩
/-- the place of the element i -/
theorem ThL.at_ {w : World} {base top sz : Nat} {A : Option Addr} {n c : Nat} (h : ThL w base top sz (.slice A n c)) {i : Nat} (hi : i < n) : ∃ g off, A = some ⟨g, off, none⟩ ∧ base ≤ g ∧ g < top ∧ w.there g (off + i * sz) sz := by
  obtain ⟨A', n', c', hv, hc, hm, hx⟩ := h.ex
  simp only [Value.slice.injEq] at hv
  obtain ⟨rfl, rfl, rfl⟩ := hv
  rcases hx with h0 | ⟨g, off, hA, hb, hg, hth⟩
  · omega
  · refine ⟨g, off, hA, hb, hg, fun j hj => ?_⟩
    have hm' : (i + 1) * sz ≤ n * sz := Nat.mul_le_mul_right _ hi
    rw [Nat.add_mul, Nat.one_mul] at hm'
    have := hth (i * sz + j) (by omega)
    rwa [← Nat.add_assoc] at this
theorem ThL.len {w : World} {base top sz : Nat} {A : Option Addr} {n c : Nat} (h : ThL w base top sz (.slice A n c)) : n ≤ c ∧ c ≤ maxLen := by
  obtain ⟨A', n', c', hv, hc, hm, hx⟩ := h.ex
  simp only [Value.slice.injEq] at hv
  obtain ⟨rfl, rfl, rfl⟩ := hv
  exact ⟨hc, hm⟩

theorem heap_setCells (w : World) (g o : Nat) (vs : List Value) {k : Nat} (hk : k ≠ g) : (w.setCells g o vs).heap[k]? = w.heap[k]? := by
  induction vs generalizing o w with
  | nil => rfl
  | cons v vs ih =>
    rw [World.setCells, ih]
    by_cases hs : k < w.heap.size
    · exact Below.heap_setCell _ _ _ _ (by simpa using hk)
    · simp [World.setCell, Array.getElem?_modify]
      intro h; omega
theorem setCells_kept (w : World) (g o : Nat) (vs : List Value) : Kept (fun k => k = g) w (w.setCells g o vs) := by
  induction vs generalizing o w with
  | nil => exact Kept.refl _ w
  | cons v vs ih =>
    exact (Kept.setCell (S := fun k => k = g) (Kept.refl _ w) (a := ⟨g, o, none⟩) (Or.inl rfl) v).trans (ih _ _)

/-- between base and top only -/
def Mid (base top : Nat) : Nat → Prop := fun k => base ≤ k ∧ k < top
theorem Mid.set {w w' : World} {base top g o : Nat} {vs : List Value} (h : Kept (Mid base top) w w') (hb : base ≤ g) (ht : g < top) : Kept (Mid base top) w (w'.setCells g o vs) :=
  h.trans ((setCells_kept w' g o vs).mono (fun k _ hk => by have hk' : k = g := hk; subst hk'; exact ⟨hb, ht⟩))

/-- an element written over, as a whole -/
theorem wpList_store_over {P : Program} {ops : Array Oper} {rest : List Oper} {op : Oper} {a : Act} {w : World} {Q : Exit → Act → World → Prop} (hgd : op.guard = none) (ty : TypeId) (x y : Operand) (ho : op.op = .store ty x y)
    (b o : Nat) (cs : List Value) (sz : Nat) (hx : a.eval x = .pointer (some ⟨b, o, none⟩)) (hy : a.eval y = .agg cs.toArray) (ht : w.there b o sz) (hl : cs.length = sz) (hi : (P.info? ty).map (·.size) = some sz) (h1 : ∀ v ∈ cs, v.oneCell' = true)
    (w1 : World) (hw : w.setCells b o cs = w1) (h : wpList P ops Q rest (a.put op.dst undef) w1) : wpList P ops Q (op :: rest) a w := by
  subst hw
  subst hl
  exact wpList_store_mid hgd ty x y ho b o cs.toArray hx hy (by simpa using ht) (by simpa using hi) (all_oneCell_toArray h1) (by simpa using h)
/-- an element of one cell written over -/
theorem wpList_store_cell {P : Program} {ops : Array Oper} {rest : List Oper} {op : Oper} {a : Act} {w : World} {Q : Exit → Act → World → Prop} (hgd : op.guard = none) (ty : TypeId) (x y : Operand) (ho : op.op = .store ty x y)
    (g i : Nat) (v : Value) (hx : a.eval x = .pointer (some ⟨g, i, none⟩)) (hy : a.eval y = v) (hv : v.oneCell' = true) (ht : w.there g i 1) (hi : (P.info? ty).map (·.size) = some 1)
    (w1 : World) (hw : w.setCells g i [v] = w1) (h : wpList P ops Q rest (a.put op.dst undef) w1) : wpList P ops Q (op :: rest) a w :=
  wpList_plain hgd fun _ hK => by
    subst hw
    have hc : v.cells = #[v] := by cases v <;> first | rfl | cases hv
    have hrun := run_storeCells_cells (P := P) g i [v] 0 w (fun j hj => by obtain rfl : j = 0 := by simpa using hj
                                                                           exact (ht 0 (by decide)).1) (fun j hj => by obtain rfl : j = 0 := by simpa using hj
                                                                                                                       exact (ht 0 (by decide)).2) (fun u hu => by simp at hu; subst hu; exact hv)
    have hst : (storeVar ty ⟨g, i, none⟩ v).run P w = .ok () (w.setCells g i [v]) := by
      cases hq : P.info? ty with
      | none => simp [hq] at hi
      | some i0 =>
        have hs : i0.size = 1 := by simpa [hq] using hi
        simp only [Nat.add_zero] at hrun
        simp [storeVar, sizeOf, typeInfo, hq, hc, hs, hrun]
    unfold Oper.wp execOp
    simp only [ho, hx, hy, Instr.storeAt, Instr.sureAddr, Sem.run_bind, Sem.run_pure, Result.andThen_ok, hst]
    exact hK _ _ h
end Go.Proofs.YtpmemcpfoapjmaaGreat

namespace Go.Proofs.YtpmemcpfoapjmaaGreat
open Go.ChangeShapes Go.WideShapes Go.ChangeAt Go.RowKit
set_option linter.unusedVariables false

/-- so many cells, each one cell -/
def Flat (n : Nat) (cs : List Value) : Prop := cs.length = n ∧ ∀ v ∈ cs, v.oneCell' = true

theorem aclE_flat {w : World} {ok : Nat → Prop} {cs : List Value} {x : Acl} (h : aclE w ok cs x) : Flat 2 cs := by
  obtain ⟨rfl, _⟩ := h
  exact ⟨rfl, by simp [Value.oneCell']⟩
theorem armedE_flat {w : World} {ok : Nat → Prop} {cs : List Value} {x : Armed} (h : armedE w ok cs x) : Flat 5 cs := by
  obtain ⟨rfl, _⟩ := h
  exact ⟨rfl, by simp [Value.oneCell']⟩
theorem eventE_flat {w : World} {ok : Nat → Prop} {cs : List Value} {x : Event} (h : eventE w ok cs x) : Flat 3 cs := by
  obtain ⟨rfl, _⟩ := h
  exact ⟨rfl, by simp [Value.oneCell']⟩
theorem helloE_flat {w : World} {ok : Nat → Prop} {cs : List Value} {x : Hello} (h : helloE w ok cs x) : Flat 4 cs := by
  obtain ⟨rfl, _⟩ := h
  exact ⟨rfl, by simp [Value.oneCell']⟩
theorem noteE_flat {w : World} {ok : Nat → Prop} {cs : List Value} {x : Note} (h : noteE w ok cs x) : Flat 6 cs := by
  obtain ⟨rfl, _⟩ := h
  exact ⟨rfl, by simp [Value.oneCell']⟩
theorem statE_flat {w : World} {ok : Nat → Prop} {cs : List Value} {x : Stat} (h : statE w ok cs x) : Flat 9 cs := by
  obtain ⟨rfl, _⟩ := h
  exact ⟨rfl, by simp [Value.oneCell']⟩
theorem partE_flat {w : World} {ok : Nat → Prop} {cs : List Value} {x : Part} (h : partE w ok cs x) : Flat 8 cs := by
  obtain ⟨_, _, _, _, _, _, rfl⟩ := partE_cells h
  exact ⟨rfl, by simp [Value.oneCell']⟩
theorem oper1E_flat {w : World} {ok : Nat → Prop} {cs : List Value} {x : Oper1} (h : oper1E w ok cs x) : Flat 10 cs := by
  obtain ⟨_, _, _, _, _, _, _, _, _, rfl⟩ := oper1E_cells h
  exact ⟨rfl, by simp [Value.oneCell']⟩
theorem ansE_flat {w : World} {ok : Nat → Prop} {cs : List Value} {x : Ans} (h : ansE w ok cs x) : Flat 17 cs := by
  obtain ⟨_, _, _, _, _, _, _, _, _, rfl⟩ := ansE_cells h
  exact ⟨rfl, by simp [Value.oneCell']⟩
theorem txnE_flat {w : World} {ok : Nat → Prop} {cs : List Value} {x : Txn} (h : txnE w ok cs x) : Flat 8 cs := by
  obtain ⟨_, _, _, _, _, _, rfl⟩ := txnE_cells h
  exact ⟨rfl, by simp [Value.oneCell']⟩
theorem reqE_flat {w : World} {ok : Nat → Prop} {cs : List Value} {x : Req} (h : reqE w ok cs x) : Flat 10 cs := by
  obtain ⟨_, _, _, _, _, _, _, _, _, rfl⟩ := reqE_cells h
  exact ⟨rfl, by simp [Value.oneCell']⟩
theorem replyE_flat {w : World} {ok : Nat → Prop} {cs : List Value} {x : Reply} (h : replyE w ok cs x) : Flat 17 cs := by
  obtain ⟨_, _, _, _, _, _, _, _, _, rfl⟩ := replyE_cells h
  exact ⟨rfl, by simp [Value.oneCell']⟩
theorem entryE_flat {w : World} {ok : Nat → Prop} {cs : List Value} {x : Entry} (h : entryE w ok cs x) : Flat 11 cs := by
  obtain ⟨_, _, _, _, _, _, rfl⟩ := entryE_cells h
  exact ⟨rfl, by simp [Value.oneCell']⟩
theorem messageE_cells {w : World} {ok : Nat → Prop} {cs : List Value} {x : Message} (h : messageE w ok cs x) : ∃ A_marks n_marks c_marks A_entries n_entries c_entries A_acl n_acl c_acl A_subs n_subs c_subs A_armed n_armed c_armed A_ids n_ids c_ids, cs = [.int .i64 x.kind, .int .i64 x.epoch, .int .i64 x.zxid, .int .i64 x.number, .int .i64 x.session, .slice A_marks n_marks c_marks, .string x.data, .slice A_entries n_entries c_entries, .int .i64 x.request.op.kind, .int .i64 x.request.op.xid, .string x.request.op.path, .string x.request.op.data, .slice A_acl n_acl c_acl, .int .i64 x.request.op.flags, .int .i64 x.request.op.version, .bool x.request.op.watch, .slice A_subs n_subs c_subs, .slice A_armed n_armed c_armed, .slice A_ids n_ids c_ids] := by
  obtain ⟨vm, ve, cr, vi, rfl, h0, h1, h2, h3, _⟩ := h
  obtain ⟨a1, a2, a3, rfl⟩ := h0.shape
  obtain ⟨b1, b2, b3, rfl⟩ := h1.shape
  obtain ⟨d1, d2, d3, rfl⟩ := h3.shape
  obtain ⟨e1, e2, e3, f1, f2, f3, g1, g2, g3, rfl⟩ := reqE_cells h2
  exact ⟨a1, a2, a3, b1, b2, b3, e1, e2, e3, f1, f2, f3, g1, g2, g3, d1, d2, d3, rfl⟩
theorem messageE_flat {w : World} {ok : Nat → Prop} {cs : List Value} {x : Message} (h : messageE w ok cs x) : Flat 19 cs := by
  obtain ⟨vm, ve, cr, vi, rfl, h0, h1, h2, h3, _⟩ := h
  obtain ⟨_, _, _, rfl⟩ := h0.shape
  obtain ⟨_, _, _, rfl⟩ := h1.shape
  obtain ⟨_, _, _, rfl⟩ := h3.shape
  obtain ⟨_, _, _, _, _, _, _, _, _, rfl⟩ := reqE_cells h2
  exact ⟨rfl, by simp [Value.oneCell']⟩
end Go.Proofs.YtpmemcpfoapjmaaGreat
