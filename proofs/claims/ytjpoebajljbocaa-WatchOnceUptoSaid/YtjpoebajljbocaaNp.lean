/- A tree, plainly: what its calls do to nodes and sessions. -/
import Derived.Test.YtjpoebajljbocaaQc
namespace Go.Proofs.Ytjpoebajljbocaa
set_option linter.unusedVariables false
set_option linter.unusedSimpArgs false
/-- a row of an ACL -/
structure AR where
  perms : Int
  id : ByteArray
structure St where
  cz : Int
  mz : Int
  pz : Int
  ver : Int
  cver : Int
  aver : Int
  owner : Int
structure Nd where
  data : ByteArray
  acl : List AR
  st : St
structure TM where
  N : List UInt8 → Option Nd
  S : Int → Option (Int × ByteArray)
  z : Int
structure Ev where
  kind : Int
  path : ByteArray
  zx : Int
/-- a transaction, but for its parts -/
structure T1 where
  kind : Int
  path : ByteArray
  data : ByteArray
  acl : List AR
  owner : Int
  number : Int
structure Tx where
  t : T1
  err : Int
  subs : List T1
def updN {α β : Type} [DecidableEq α] (f : α → Option β) (k : α) (v : Option β) : α → Option β := fun x => if x = k then v else f x
theorem updN_same {α β : Type} [DecidableEq α] (f : α → Option β) (k : α) (v : Option β) : updN f k v k = v := if_pos rfl
theorem updN_other {α β : Type} [DecidableEq α] (f : α → Option β) (k : α) (v : Option β) {x : α} (h : x ≠ k) : updN f k v x = f x := if_neg h
def okP (p : ByteArray) : Bool := decide (checkS p = 0)
def mayCome (p : ByteArray) : Bool := decide (p.data.toList ≠ [47]) && okP p
def layM (M : TM) (p data : ByteArray) (acl : List AR) (s : St) : TM := if okP p = true then { M with N := updN M.N p.data.toList (some ⟨data, acl, s⟩) } else M
def kidsOf (M : TM) (p : ByteArray) (cv zx : Int) : TM := match M.N p.data.toList with
  | none => M
  | some nd => { M with N := updN M.N p.data.toList (some { nd with st := { nd.st with cver := cv, pz := zx } }) }
def hasN (M : TM) (p : ByteArray) : Bool := (M.N p.data.toList).isSome
def createM (M : TM) (x : T1) (zx : Int) : TM × List Ev :=
  if mayCome x.path = true ∧ hasN M (parS x.path) = true then
    (layM (kidsOf M (parS x.path) x.number zx) x.path x.data x.acl ⟨zx, zx, zx, 0, 0, 0, x.owner⟩, [⟨if hasN (kidsOf M (parS x.path) x.number zx) x.path = true then 3 else 1, x.path, zx⟩, ⟨4, parS x.path, zx⟩])
  else (M, [])
def underL (k : List UInt8) (p : ByteArray) : Bool := underS ⟨k.toArray⟩ p
def dropM (M : TM) (p : ByteArray) : TM := { M with N := fun k => if k = p.data.toList ∨ underL k p = true then none else M.N k }
def removeM (M : TM) (x : T1) (zx : Int) : TM × List Ev :=
  if mayCome x.path = true then
    (kidsOf (dropM M x.path) (parS x.path) x.number zx,
      (if hasN M x.path = true then [⟨2, x.path, zx⟩] else []) ++ (if hasN M x.path = true ∧ hasN (dropM M x.path) (parS x.path) = true then [⟨4, parS x.path, zx⟩] else []))
  else (M, [])
def setM (M : TM) (x : T1) (zx : Int) : TM × List Ev := match M.N x.path.data.toList with
  | none => (M, [])
  | some nd => ({ M with N := updN M.N x.path.data.toList (some { nd with data := x.data, st := { nd.st with ver := x.number, mz := zx } }) }, [⟨3, x.path, zx⟩])
def aclM (M : TM) (x : T1) : TM := match M.N x.path.data.toList with
  | none => M
  | some nd => { M with N := updN M.N x.path.data.toList (some { nd with acl := x.acl, st := { nd.st with aver := x.number } }) }
def partM (M : TM) (x : T1) (zx : Int) : TM × List Ev :=
  if x.kind = 1 then createM M x zx else if x.kind = 2 then removeM M x zx else if x.kind = 3 then setM M x zx else if x.kind = 4 then (aclM M x, []) else (M, [])
def sessM (M : TM) (id timeout : Int) (secret : ByteArray) : TM := if 0 < id then { M with S := updN M.S id (some (timeout, secret)) } else M
/-- parts, one behind the other: those that are deletions alone, or all -/
def partsM (dels : Bool) (zx : Int) : TM → List Ev → List T1 → TM × List Ev
  | M, evs, [] => (M, evs)
  | M, evs, x :: l => if dels = true ∧ x.kind ≠ 2 then partsM dels zx M evs l
    else if dels = true then partsM dels zx (removeM M x zx).1 (evs ++ (removeM M x zx).2) l
    else partsM dels zx (partM M x zx).1 (evs ++ (partM M x zx).2) l
def doM (M : TM) (x : Tx) (zx : Int) : TM × List Ev :=
  if x.t.kind = 5 then (sessM M x.t.owner x.t.number x.t.data, [])
  else if x.t.kind = 6 then ({ (partsM true zx M [] x.subs).1 with S := updN (partsM true zx M [] x.subs).1.S x.t.owner none }, (partsM true zx M [] x.subs).2)
  else if x.t.kind = 7 then partsM false zx M [] x.subs
  else partM M x.t zx
def applyM (M : TM) (x : Tx) (zx : Int) : TM × List Ev × Int :=
  if x.t.kind = 8 then ({ (doM M x zx).1 with z := zx }, [], x.err) else ({ (doM M x zx).1 with z := zx }, (doM M x zx).2, 0)
end Go.Proofs.Ytjpoebajljbocaa
