/- The chapter's things: their fields, in their order. -/
import Derived.Test.YtngcfnffbggniaaFmt
namespace Go.Proofs.Ytngcfnffbggniaa
open Go.RowKit
set_option linter.unusedVariables false

structure Acl where
  perms : Int
  id : ByteArray
def aclF : Fmt Acl := isoF (seqF numF (textF 4096)) (fun x => ⟨x.1, x.2⟩) (fun x => (x.perms, x.id))
theorem aclF_ok : aclF.Ok := isoF_ok (seqF_ok numF_ok (textF_ok (by decide))) (fun _ => rfl) (fun _ => rfl)

structure Stat where
  czxid : Int
  mzxid : Int
  pzxid : Int
  version : Int
  cversion : Int
  aversion : Int
  owner : Int
  length : Int
  kids : Int
def statF : Fmt Stat := isoF (seqF numF (seqF numF (seqF numF (seqF numF (seqF numF (seqF numF (seqF numF (seqF numF numF)))))))) (fun x => ⟨x.1, x.2.1, x.2.2.1, x.2.2.2.1, x.2.2.2.2.1, x.2.2.2.2.2.1, x.2.2.2.2.2.2.1, x.2.2.2.2.2.2.2.1, x.2.2.2.2.2.2.2.2⟩) (fun x => (x.czxid, x.mzxid, x.pzxid, x.version, x.cversion, x.aversion, x.owner, x.length, x.kids))
theorem statF_ok : statF.Ok := isoF_ok (seqF_ok numF_ok (seqF_ok numF_ok (seqF_ok numF_ok (seqF_ok numF_ok (seqF_ok numF_ok (seqF_ok numF_ok (seqF_ok numF_ok (seqF_ok numF_ok numF_ok)))))))) (fun _ => rfl) (fun _ => rfl)

structure Part where
  kind : Int
  path : ByteArray
  data : ByteArray
  acl : List Acl
  owner : Int
  number : Int
  err : Int
def partF : Fmt Part := isoF (seqF numF (seqF (textF 4096) (seqF (textF 4096) (seqF (listF aclF) (seqF numF (seqF numF numF)))))) (fun x => ⟨x.1, x.2.1, x.2.2.1, x.2.2.2.1, x.2.2.2.2.1, x.2.2.2.2.2.1, x.2.2.2.2.2.2⟩) (fun x => (x.kind, x.path, x.data, x.acl, x.owner, x.number, x.err))
theorem partF_ok : partF.Ok := isoF_ok (seqF_ok numF_ok (seqF_ok (textF_ok (by decide)) (seqF_ok (textF_ok (by decide)) (seqF_ok (listF_ok aclF_ok) (seqF_ok numF_ok (seqF_ok numF_ok numF_ok)))))) (fun _ => rfl) (fun _ => rfl)

structure Txn where
  part : Part
  subs : List Part
def txnF : Fmt Txn := isoF (seqF partF (listF partF)) (fun x => ⟨x.1, x.2⟩) (fun x => (x.part, x.subs))
theorem txnF_ok : txnF.Ok := isoF_ok (seqF_ok partF_ok (listF_ok partF_ok)) (fun _ => rfl) (fun _ => rfl)

structure Entry where
  zxid : Int
  session : Int
  xid : Int
  txn : Txn
def entryF : Fmt Entry := isoF (seqF numF (seqF numF (seqF numF txnF))) (fun x => ⟨x.1, x.2.1, x.2.2.1, x.2.2.2⟩) (fun x => (x.zxid, x.session, x.xid, x.txn))
theorem entryF_ok : entryF.Ok := isoF_ok (seqF_ok numF_ok (seqF_ok numF_ok (seqF_ok numF_ok txnF_ok))) (fun _ => rfl) (fun _ => rfl)

structure Armed where
  kind : Int
  path : ByteArray
  czxid : Int
  mzxid : Int
  pzxid : Int
def armedF : Fmt Armed := isoF (seqF numF (seqF (textF 4096) (seqF numF (seqF numF numF)))) (fun x => ⟨x.1, x.2.1, x.2.2.1, x.2.2.2.1, x.2.2.2.2⟩) (fun x => (x.kind, x.path, x.czxid, x.mzxid, x.pzxid))
theorem armedF_ok : armedF.Ok := isoF_ok (seqF_ok numF_ok (seqF_ok (textF_ok (by decide)) (seqF_ok numF_ok (seqF_ok numF_ok numF_ok)))) (fun _ => rfl) (fun _ => rfl)

structure Oper1 where
  kind : Int
  xid : Int
  path : ByteArray
  data : ByteArray
  acl : List Acl
  flags : Int
  version : Int
  watch : Bool
def oper1F : Fmt Oper1 := isoF (seqF numF (seqF numF (seqF (textF 4096) (seqF (textF 4096) (seqF (listF aclF) (seqF numF (seqF numF flagF))))))) (fun x => ⟨x.1, x.2.1, x.2.2.1, x.2.2.2.1, x.2.2.2.2.1, x.2.2.2.2.2.1, x.2.2.2.2.2.2.1, x.2.2.2.2.2.2.2⟩) (fun x => (x.kind, x.xid, x.path, x.data, x.acl, x.flags, x.version, x.watch))
theorem oper1F_ok : oper1F.Ok := isoF_ok (seqF_ok numF_ok (seqF_ok numF_ok (seqF_ok (textF_ok (by decide)) (seqF_ok (textF_ok (by decide)) (seqF_ok (listF_ok aclF_ok) (seqF_ok numF_ok (seqF_ok numF_ok flagF_ok))))))) (fun _ => rfl) (fun _ => rfl)

structure Req where
  op : Oper1
  subs : List Oper1
  armed : List Armed
def reqF : Fmt Req := isoF (seqF oper1F (seqF (listF oper1F) (listF armedF))) (fun x => ⟨x.1, x.2.1, x.2.2⟩) (fun x => (x.op, x.subs, x.armed))
theorem reqF_ok : reqF.Ok := isoF_ok (seqF_ok oper1F_ok (seqF_ok (listF_ok oper1F_ok) (listF_ok armedF_ok))) (fun _ => rfl) (fun _ => rfl)

structure Ans where
  xid : Int
  zxid : Int
  err : Int
  path : ByteArray
  data : ByteArray
  stat : Stat
  acl : List Acl
  kids : List ByteArray
def ansF : Fmt Ans := isoF (seqF numF (seqF numF (seqF numF (seqF (textF 4096) (seqF (textF 4096) (seqF statF (seqF (listF aclF) (listF (textF 4096))))))))) (fun x => ⟨x.1, x.2.1, x.2.2.1, x.2.2.2.1, x.2.2.2.2.1, x.2.2.2.2.2.1, x.2.2.2.2.2.2.1, x.2.2.2.2.2.2.2⟩) (fun x => (x.xid, x.zxid, x.err, x.path, x.data, x.stat, x.acl, x.kids))
theorem ansF_ok : ansF.Ok := isoF_ok (seqF_ok numF_ok (seqF_ok numF_ok (seqF_ok numF_ok (seqF_ok (textF_ok (by decide)) (seqF_ok (textF_ok (by decide)) (seqF_ok statF_ok (seqF_ok (listF_ok aclF_ok) (listF_ok (textF_ok (by decide)))))))))) (fun _ => rfl) (fun _ => rfl)

structure Reply where
  ans : Ans
  subs : List Ans
def replyF : Fmt Reply := isoF (seqF ansF (listF ansF)) (fun x => ⟨x.1, x.2⟩) (fun x => (x.ans, x.subs))
theorem replyF_ok : replyF.Ok := isoF_ok (seqF_ok ansF_ok (listF_ok ansF_ok)) (fun _ => rfl) (fun _ => rfl)

structure Event where
  kind : Int
  path : ByteArray
  zxid : Int
def eventF : Fmt Event := isoF (seqF numF (seqF (textF 4096) numF)) (fun x => ⟨x.1, x.2.1, x.2.2⟩) (fun x => (x.kind, x.path, x.zxid))
theorem eventF_ok : eventF.Ok := isoF_ok (seqF_ok numF_ok (seqF_ok (textF_ok (by decide)) numF_ok)) (fun _ => rfl) (fun _ => rfl)

structure Hello where
  session : Int
  zxid : Int
  timeout : Int
  secret : ByteArray
def helloF : Fmt Hello := isoF (seqF numF (seqF numF (seqF numF (textF 4096)))) (fun x => ⟨x.1, x.2.1, x.2.2.1, x.2.2.2⟩) (fun x => (x.session, x.zxid, x.timeout, x.secret))
theorem helloF_ok : helloF.Ok := isoF_ok (seqF_ok numF_ok (seqF_ok numF_ok (seqF_ok numF_ok (textF_ok (by decide))))) (fun _ => rfl) (fun _ => rfl)

structure Message where
  kind : Int
  epoch : Int
  zxid : Int
  number : Int
  session : Int
  marks : List Int
  data : ByteArray
  entries : List Entry
  request : Req
  ids : List ByteArray
def messageF : Fmt Message := isoF (seqF numF (seqF numF (seqF numF (seqF numF (seqF numF (seqF (listF numF) (seqF (textF 65536) (seqF (listF entryF) (seqF reqF (listF (textF 4096))))))))))) (fun x => ⟨x.1, x.2.1, x.2.2.1, x.2.2.2.1, x.2.2.2.2.1, x.2.2.2.2.2.1, x.2.2.2.2.2.2.1, x.2.2.2.2.2.2.2.1, x.2.2.2.2.2.2.2.2.1, x.2.2.2.2.2.2.2.2.2⟩) (fun x => (x.kind, x.epoch, x.zxid, x.number, x.session, x.marks, x.data, x.entries, x.request, x.ids))
theorem messageF_ok : messageF.Ok := isoF_ok (seqF_ok numF_ok (seqF_ok numF_ok (seqF_ok numF_ok (seqF_ok numF_ok (seqF_ok numF_ok (seqF_ok (listF_ok numF_ok) (seqF_ok (textF_ok (by decide)) (seqF_ok (listF_ok entryF_ok) (seqF_ok reqF_ok (listF_ok (textF_ok (by decide)))))))))))) (fun _ => rfl) (fun _ => rfl)

structure Note where
  from_ : Int
  state : Int
  round : Int
  leader : Int
  epoch : Int
  zxid : Int
def noteF : Fmt Note := isoF (seqF numF (seqF numF (seqF numF (seqF numF (seqF numF numF))))) (fun x => ⟨x.1, x.2.1, x.2.2.1, x.2.2.2.1, x.2.2.2.2.1, x.2.2.2.2.2⟩) (fun x => (x.from_, x.state, x.round, x.leader, x.epoch, x.zxid))
theorem noteF_ok : noteF.Ok := isoF_ok (seqF_ok numF_ok (seqF_ok numF_ok (seqF_ok numF_ok (seqF_ok numF_ok (seqF_ok numF_ok numF_ok))))) (fun _ => rfl) (fun _ => rfl)

end Go.Proofs.Ytngcfnffbggniaa
