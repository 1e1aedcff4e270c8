/- What Get answers of an entry, of a message. -/
import Derived.Test.YtngcfnffbggniaaGot
import Derived.Test.YtngcfnffbggniaaIentry
import Derived.Test.YtngcfnffbggniaaImsg
namespace Go.Proofs.Ytngcfnffbggniaa
open Go.ChangeShapes Go.WideShapes Go.ChangeAt Go.RowKit
set_option linter.unusedVariables false

theorem got_entry (s : ByteArray) (w : World) (hs : s.size ≤ maxLen) {o : Option Entry} (ho : entryF.read s = o) : Calls Try.prog 29 #[.string s] w (GotPost entryE 11 o w) :=
  (GetEntry_any s w hs).mono fun _ _ h => got_of_taken entryE_ok entryE_flat (ho ▸ h)
theorem got_message (s : ByteArray) (w : World) (hs : s.size ≤ maxLen) {o : Option Message} (ho : messageF.read s = o) : Calls Try.prog 30 #[.string s] w (GotPost messageE 19 o w) :=
  (GetMessage_any s w hs).mono fun _ _ h => got_of_taken messageE_ok messageE_flat (ho ▸ h)
end Go.Proofs.Ytngcfnffbggniaa
