/-
  NARROWER THAN 'FOR EVERY INPUT', by the rows' own cells (each row's printed sentence says how): TreeAgain: loops · TreeKeeps: loops · TreeNeighbours: loops · TreeSessions: loops · TreeOwners: loops.
  DERIVED. THE GIVEN ROWS OF THIS SEAT. 8 by the template 'for every input the law returns true; each argument reads behind the call as it read before'; 0 by the template 'total and deterministic' (their statements: YtjlffmkiiphfcaaTotals.lean).
  GIVEN WITH THE SEED: the statements are not yours to turn. If you find one false, say at which input.
  Laid BY PROGRAM, IN A SANDBOX (cutbox-rows.mjs): the forced cells as the released guide's own fill.sh prints them over the translation 05be4739dced316b… (all of the seat's roots in one cut). By AI agents, Wed Nov 11 2026. No macro, syntax, notation, axiom, sorry.
-/
import Derived.Test.YtjlffmkiiphfcaaChecked
import GoSem.Claim
import GoSem.ClaimJoined
import GoSem.ClaimMapViews
import Derived.JoinedTies
import Derived.KernelRfl
namespace Go.Proofs.Ytjlffmkiiphfcaa
/- THE CELL 'sum', in the pinned program and in every row, IS THE sha256 OF THE DUMP (.gsa) THAT YtjlffmkiiphfcaaProg.lean LOADS. Nothing in Lean hashes anything: it is a label: what it is worth is what the hold of that sum in a sandbox is worth. -/
noncomputable def Try.pinned : Pinned := { name := "ytjlffmkiiphfcaa", sum := "05be4739dced316b866d425bca9cf26afda2d1d236a277919d65d58fb032fbf1", checked := Try.checked }
namespace Rows
def none {H : Type} : Left H := { results := [], args := [] }

/-- 'arboretumlaw07.TreeAgain': WHATEVER THE INPUT: true; the input reads as it did. -/
def treeAgainSpec : ChangeSpec := { name := "treeAgain", fn := fun _ => fun
  | [d1, d2, d3] => { results := [.lit (.bool true)], args := [d1, d2, d3] }
  | _ => none }
def treeAgainRow : OpenClaim := { program := "ytjlffmkiiphfcaa", sum := "05be4739dced316b866d425bca9cf26afda2d1d236a277919d65d58fb032fbf1", func := "arboretum/arboretumlaw07.TreeAgain", spec := "treeAgain", inPlace := ["maps.clone"], unfollowed := true, recurses := true, loops := true, plainKeys := false, apart := false }
def TreeAgainSaid : Prop := treeAgainRow.holds Try.pinned (OpenSpec.ofChange treeAgainSpec)

/-- ITS FALSE NEIGHBOUR: 'it returns false'. Refute it at one input. -/
def treeAgainWrong : ChangeSpec := { name := "treeAgain", fn := fun _ => fun
  | [d1, d2, d3] => { results := [.lit (.bool false)], args := [d1, d2, d3] }
  | _ => none }
def TreeAgainWrongFalsely : Prop := treeAgainRow.holds Try.pinned (OpenSpec.ofChange treeAgainWrong)

/-- 'arboretumlaw07.TreeKeeps': WHATEVER THE INPUT: true; the input reads as it did. -/
def treeKeepsSpec : ChangeSpec := { name := "treeKeeps", fn := fun _ => fun
  | [d] => { results := [.lit (.bool true)], args := [d] }
  | _ => none }
def treeKeepsRow : OpenClaim := { program := "ytjlffmkiiphfcaa", sum := "05be4739dced316b866d425bca9cf26afda2d1d236a277919d65d58fb032fbf1", func := "arboretum/arboretumlaw07.TreeKeeps", spec := "treeKeeps", unfollowed := true, recurses := true, loops := true, plainKeys := false, apart := false }
def TreeKeepsSaid : Prop := treeKeepsRow.holds Try.pinned (OpenSpec.ofChange treeKeepsSpec)

/-- ITS FALSE NEIGHBOUR: 'it returns false'. Refute it at one input. -/
def treeKeepsWrong : ChangeSpec := { name := "treeKeeps", fn := fun _ => fun
  | [d] => { results := [.lit (.bool false)], args := [d] }
  | _ => none }
def TreeKeepsWrongFalsely : Prop := treeKeepsRow.holds Try.pinned (OpenSpec.ofChange treeKeepsWrong)

/-- 'arboretumlaw07.TreeNeighbours': WHATEVER THE INPUT: true; the input reads as it did. -/
def treeNeighboursSpec : ChangeSpec := { name := "treeNeighbours", fn := fun _ => fun
  | [d1, d2] => { results := [.lit (.bool true)], args := [d1, d2] }
  | _ => none }
def treeNeighboursRow : OpenClaim := { program := "ytjlffmkiiphfcaa", sum := "05be4739dced316b866d425bca9cf26afda2d1d236a277919d65d58fb032fbf1", func := "arboretum/arboretumlaw07.TreeNeighbours", spec := "treeNeighbours", unfollowed := true, recurses := true, loops := true, plainKeys := false, apart := false }
def TreeNeighboursSaid : Prop := treeNeighboursRow.holds Try.pinned (OpenSpec.ofChange treeNeighboursSpec)

/-- ITS FALSE NEIGHBOUR: 'it returns false'. Refute it at one input. -/
def treeNeighboursWrong : ChangeSpec := { name := "treeNeighbours", fn := fun _ => fun
  | [d1, d2] => { results := [.lit (.bool false)], args := [d1, d2] }
  | _ => none }
def TreeNeighboursWrongFalsely : Prop := treeNeighboursRow.holds Try.pinned (OpenSpec.ofChange treeNeighboursWrong)

/-- 'arboretumlaw07.TreeSessions': WHATEVER THE INPUT: true; the input reads as it did. -/
def treeSessionsSpec : ChangeSpec := { name := "treeSessions", fn := fun _ => fun
  | [d1, d2] => { results := [.lit (.bool true)], args := [d1, d2] }
  | _ => none }
def treeSessionsRow : OpenClaim := { program := "ytjlffmkiiphfcaa", sum := "05be4739dced316b866d425bca9cf26afda2d1d236a277919d65d58fb032fbf1", func := "arboretum/arboretumlaw07.TreeSessions", spec := "treeSessions", unfollowed := true, recurses := true, loops := true, plainKeys := false, apart := false }
def TreeSessionsSaid : Prop := treeSessionsRow.holds Try.pinned (OpenSpec.ofChange treeSessionsSpec)

/-- ITS FALSE NEIGHBOUR: 'it returns false'. Refute it at one input. -/
def treeSessionsWrong : ChangeSpec := { name := "treeSessions", fn := fun _ => fun
  | [d1, d2] => { results := [.lit (.bool false)], args := [d1, d2] }
  | _ => none }
def TreeSessionsWrongFalsely : Prop := treeSessionsRow.holds Try.pinned (OpenSpec.ofChange treeSessionsWrong)

/-- 'arboretumlaw07.TreeOwners': WHATEVER THE INPUT: true; the input reads as it did. -/
def treeOwnersSpec : ChangeSpec := { name := "treeOwners", fn := fun _ => fun
  | [d] => { results := [.lit (.bool true)], args := [d] }
  | _ => none }
def treeOwnersRow : OpenClaim := { program := "ytjlffmkiiphfcaa", sum := "05be4739dced316b866d425bca9cf26afda2d1d236a277919d65d58fb032fbf1", func := "arboretum/arboretumlaw07.TreeOwners", spec := "treeOwners", unfollowed := true, recurses := true, loops := true, plainKeys := false, apart := false }
def TreeOwnersSaid : Prop := treeOwnersRow.holds Try.pinned (OpenSpec.ofChange treeOwnersSpec)

/-- ITS FALSE NEIGHBOUR: 'it returns false'. Refute it at one input. -/
def treeOwnersWrong : ChangeSpec := { name := "treeOwners", fn := fun _ => fun
  | [d] => { results := [.lit (.bool false)], args := [d] }
  | _ => none }
def TreeOwnersWrongFalsely : Prop := treeOwnersRow.holds Try.pinned (OpenSpec.ofChange treeOwnersWrong)

/-- 'arboretumlaw11.WatchOnce': WHATEVER THE INPUT: true; the input reads as it did. -/
def watchOnceSpec : ChangeSpec := { name := "watchOnce", fn := fun _ => fun
  | [d1, d2] => { results := [.lit (.bool true)], args := [d1, d2] }
  | _ => none }
def watchOnceRow : OpenClaim := { program := "ytjlffmkiiphfcaa", sum := "05be4739dced316b866d425bca9cf26afda2d1d236a277919d65d58fb032fbf1", func := "arboretum/arboretumlaw11.WatchOnce", spec := "watchOnce", recurses := true, plainKeys := false, apart := false }
def WatchOnceSaid : Prop := watchOnceRow.holds Try.pinned (OpenSpec.ofChange watchOnceSpec)

/-- ITS FALSE NEIGHBOUR: 'it returns false'. Refute it at one input. -/
def watchOnceWrong : ChangeSpec := { name := "watchOnce", fn := fun _ => fun
  | [d1, d2] => { results := [.lit (.bool false)], args := [d1, d2] }
  | _ => none }
def WatchOnceWrongFalsely : Prop := watchOnceRow.holds Try.pinned (OpenSpec.ofChange watchOnceWrong)

/-- 'arboretumlaw11.WatchApart': WHATEVER THE INPUT: true; the input reads as it did. -/
def watchApartSpec : ChangeSpec := { name := "watchApart", fn := fun _ => fun
  | [d1, d2, d3] => { results := [.lit (.bool true)], args := [d1, d2, d3] }
  | _ => none }
def watchApartRow : OpenClaim := { program := "ytjlffmkiiphfcaa", sum := "05be4739dced316b866d425bca9cf26afda2d1d236a277919d65d58fb032fbf1", func := "arboretum/arboretumlaw11.WatchApart", spec := "watchApart", recurses := true, plainKeys := false, apart := false }
def WatchApartSaid : Prop := watchApartRow.holds Try.pinned (OpenSpec.ofChange watchApartSpec)

/-- ITS FALSE NEIGHBOUR: 'it returns false'. Refute it at one input. -/
def watchApartWrong : ChangeSpec := { name := "watchApart", fn := fun _ => fun
  | [d1, d2, d3] => { results := [.lit (.bool false)], args := [d1, d2, d3] }
  | _ => none }
def WatchApartWrongFalsely : Prop := watchApartRow.holds Try.pinned (OpenSpec.ofChange watchApartWrong)

/-- 'arboretumlaw11.WatchGone': WHATEVER THE INPUT: true; the input reads as it did. -/
def watchGoneSpec : ChangeSpec := { name := "watchGone", fn := fun _ => fun
  | [d1, d2, d3] => { results := [.lit (.bool true)], args := [d1, d2, d3] }
  | _ => none }
def watchGoneRow : OpenClaim := { program := "ytjlffmkiiphfcaa", sum := "05be4739dced316b866d425bca9cf26afda2d1d236a277919d65d58fb032fbf1", func := "arboretum/arboretumlaw11.WatchGone", spec := "watchGone", recurses := true, plainKeys := false, apart := false }
def WatchGoneSaid : Prop := watchGoneRow.holds Try.pinned (OpenSpec.ofChange watchGoneSpec)

/-- ITS FALSE NEIGHBOUR: 'it returns false'. Refute it at one input. -/
def watchGoneWrong : ChangeSpec := { name := "watchGone", fn := fun _ => fun
  | [d1, d2, d3] => { results := [.lit (.bool false)], args := [d1, d2, d3] }
  | _ => none }
def WatchGoneWrongFalsely : Prop := watchGoneRow.holds Try.pinned (OpenSpec.ofChange watchGoneWrong)

/- THE SECOND FORM. 'bulk': how many values and letters a reading holds, each counted each time it is reached (what is shared counts as often as it is met; a slice's spare places count too). A statement '..UptoSaid' is the law's where the arguments, and the package variables that the reading takes, are together of bulk at most 1048576: NARROWER than '..Said'. Prove '..Said' where nothing that the law and all that it calls make is longer than what came in: it says more and counts as full. Else prove '..UptoSaid'. A law counts once. -/
mutual
def uptoBulk {H : Type} : DataW H → Nat
  | .lit (.string bytes) => bytes.length + 1
  | .lit _ => 1
  | .nil => 1
  | .ptr d => uptoBulk d + 1
  | .slice elems spare => uptoBulkAll elems + uptoBulkAll spare + 1
  | .agg parts => uptoBulkAll parts + 1
  | .iface _ d => uptoBulk d + 1
  | .map entries => uptoBulkEntries entries + 1
  | .held _ => 1
def uptoBulkAll {H : Type} : List (DataW H) → Nat
  | [] => 0
  | d :: r => uptoBulk d + uptoBulkAll r
def uptoBulkEntries {H : Type} : List (Lit × DataW H) → Nat
  | [] => 0
  | x :: r => uptoBulkEntry x + uptoBulkEntries r
def uptoBulkEntry {H : Type} : Lit × DataW H → Nat
  | (.string bytes, d) => bytes.length + uptoBulk d + 1
  | (_, d) => uptoBulk d + 1
 end
def uptoSmall : (H : Type) → List (DataW H) → Bool := fun _ ds => decide (uptoBulkAll ds ≤ 1048576)
def OpenSpec.upto (s : _root_.Go.ChangeSpec) : _root_.Go.OpenSpec := { _root_.Go.OpenSpec.ofChange s with cond := some uptoSmall }

/-- 'arboretumlaw07.TreeAgain', WHERE WHAT IT READS IS OF BULK AT MOST 1048576: true; the input reads as it did. -/
def treeAgainUptoRow : OpenClaim := { program := "ytjlffmkiiphfcaa", sum := "05be4739dced316b866d425bca9cf26afda2d1d236a277919d65d58fb032fbf1", func := "arboretum/arboretumlaw07.TreeAgain", spec := "treeAgain", inPlace := ["maps.clone"], unfollowed := true, recurses := true, loops := true, plainKeys := false, apart := false, narrowed := true }
def TreeAgainUptoSaid : Prop := treeAgainUptoRow.holds Try.pinned (OpenSpec.upto treeAgainSpec)

/-- 'arboretumlaw07.TreeKeeps', WHERE WHAT IT READS IS OF BULK AT MOST 1048576: true; the input reads as it did. -/
def treeKeepsUptoRow : OpenClaim := { program := "ytjlffmkiiphfcaa", sum := "05be4739dced316b866d425bca9cf26afda2d1d236a277919d65d58fb032fbf1", func := "arboretum/arboretumlaw07.TreeKeeps", spec := "treeKeeps", unfollowed := true, recurses := true, loops := true, plainKeys := false, apart := false, narrowed := true }
def TreeKeepsUptoSaid : Prop := treeKeepsUptoRow.holds Try.pinned (OpenSpec.upto treeKeepsSpec)

/-- 'arboretumlaw07.TreeNeighbours', WHERE WHAT IT READS IS OF BULK AT MOST 1048576: true; the input reads as it did. -/
def treeNeighboursUptoRow : OpenClaim := { program := "ytjlffmkiiphfcaa", sum := "05be4739dced316b866d425bca9cf26afda2d1d236a277919d65d58fb032fbf1", func := "arboretum/arboretumlaw07.TreeNeighbours", spec := "treeNeighbours", unfollowed := true, recurses := true, loops := true, plainKeys := false, apart := false, narrowed := true }
def TreeNeighboursUptoSaid : Prop := treeNeighboursUptoRow.holds Try.pinned (OpenSpec.upto treeNeighboursSpec)

/-- 'arboretumlaw07.TreeSessions', WHERE WHAT IT READS IS OF BULK AT MOST 1048576: true; the input reads as it did. -/
def treeSessionsUptoRow : OpenClaim := { program := "ytjlffmkiiphfcaa", sum := "05be4739dced316b866d425bca9cf26afda2d1d236a277919d65d58fb032fbf1", func := "arboretum/arboretumlaw07.TreeSessions", spec := "treeSessions", unfollowed := true, recurses := true, loops := true, plainKeys := false, apart := false, narrowed := true }
def TreeSessionsUptoSaid : Prop := treeSessionsUptoRow.holds Try.pinned (OpenSpec.upto treeSessionsSpec)

/-- 'arboretumlaw07.TreeOwners', WHERE WHAT IT READS IS OF BULK AT MOST 1048576: true; the input reads as it did. -/
def treeOwnersUptoRow : OpenClaim := { program := "ytjlffmkiiphfcaa", sum := "05be4739dced316b866d425bca9cf26afda2d1d236a277919d65d58fb032fbf1", func := "arboretum/arboretumlaw07.TreeOwners", spec := "treeOwners", unfollowed := true, recurses := true, loops := true, plainKeys := false, apart := false, narrowed := true }
def TreeOwnersUptoSaid : Prop := treeOwnersUptoRow.holds Try.pinned (OpenSpec.upto treeOwnersSpec)

/-- 'arboretumlaw11.WatchOnce', WHERE WHAT IT READS IS OF BULK AT MOST 1048576: true; the input reads as it did. -/
def watchOnceUptoRow : OpenClaim := { program := "ytjlffmkiiphfcaa", sum := "05be4739dced316b866d425bca9cf26afda2d1d236a277919d65d58fb032fbf1", func := "arboretum/arboretumlaw11.WatchOnce", spec := "watchOnce", recurses := true, plainKeys := false, apart := false, narrowed := true }
def WatchOnceUptoSaid : Prop := watchOnceUptoRow.holds Try.pinned (OpenSpec.upto watchOnceSpec)

/-- 'arboretumlaw11.WatchApart', WHERE WHAT IT READS IS OF BULK AT MOST 1048576: true; the input reads as it did. -/
def watchApartUptoRow : OpenClaim := { program := "ytjlffmkiiphfcaa", sum := "05be4739dced316b866d425bca9cf26afda2d1d236a277919d65d58fb032fbf1", func := "arboretum/arboretumlaw11.WatchApart", spec := "watchApart", recurses := true, plainKeys := false, apart := false, narrowed := true }
def WatchApartUptoSaid : Prop := watchApartUptoRow.holds Try.pinned (OpenSpec.upto watchApartSpec)

/-- 'arboretumlaw11.WatchGone', WHERE WHAT IT READS IS OF BULK AT MOST 1048576: true; the input reads as it did. -/
def watchGoneUptoRow : OpenClaim := { program := "ytjlffmkiiphfcaa", sum := "05be4739dced316b866d425bca9cf26afda2d1d236a277919d65d58fb032fbf1", func := "arboretum/arboretumlaw11.WatchGone", spec := "watchGone", recurses := true, plainKeys := false, apart := false, narrowed := true }
def WatchGoneUptoSaid : Prop := watchGoneUptoRow.holds Try.pinned (OpenSpec.upto watchGoneSpec)

end Rows
end Go.Proofs.Ytjlffmkiiphfcaa
