/- What Get answers, each of the seven. -/
import Derived.Test.YtcejgdkagbhceaaGreatGot
import Derived.Test.YtcejgdkagbhceaaGreatIsmall
import Derived.Test.YtcejgdkagbhceaaGreatIentry
import Derived.Test.YtcejgdkagbhceaaGreatIreq
import Derived.Test.YtcejgdkagbhceaaGreatIreply
import Derived.Test.YtcejgdkagbhceaaGreatImsg
namespace Go.Proofs.YtcejgdkagbhceaaGreat
open Go.ChangeShapes Go.WideShapes Go.ChangeAt Go.RowKit
set_option linter.unusedVariables false

theorem got_entry (s : ByteArray) (w : World) (hs : s.size ≤ maxLen) {o : Option Entry} (ho : entryF.read s = o) : Calls Tryz.prog 16 #[.string s] w (GotPost entryE 11 o w) :=
  (GetEntry_any s w hs).mono fun _ _ h => got_of_taken entryE_ok entryE_flat (ho ▸ h)

theorem got_req (s : ByteArray) (w : World) (hs : s.size ≤ maxLen) {o : Option Req} (ho : reqF.read s = o) : Calls Tryz.prog 17 #[.string s] w (GotPost reqE 10 o w) :=
  (GetRequest_any s w hs).mono fun _ _ h => got_of_taken reqE_ok reqE_flat (ho ▸ h)

theorem got_reply (s : ByteArray) (w : World) (hs : s.size ≤ maxLen) {o : Option Reply} (ho : replyF.read s = o) : Calls Tryz.prog 18 #[.string s] w (GotPost replyE 17 o w) :=
  (GetReply_any s w hs).mono fun _ _ h => got_of_taken replyE_ok replyE_flat (ho ▸ h)

theorem got_message (s : ByteArray) (w : World) (hs : s.size ≤ maxLen) {o : Option Message} (ho : messageF.read s = o) : Calls Tryz.prog 19 #[.string s] w (GotPost messageE 19 o w) :=
  (GetMessage_any s w hs).mono fun _ _ h => got_of_taken messageE_ok messageE_flat (ho ▸ h)

theorem got_event (s : ByteArray) (w : World) (hs : s.size ≤ maxLen) {o : Option Event} (ho : eventF.read s = o) : Calls Tryz.prog 20 #[.string s] w (GotPost eventE 3 o w) :=
  (GetEvent_any s w hs).mono fun _ _ h => got_of_taken eventE_ok eventE_flat (ho ▸ h)

theorem got_hello (s : ByteArray) (w : World) (hs : s.size ≤ maxLen) {o : Option Hello} (ho : helloF.read s = o) : Calls Tryz.prog 21 #[.string s] w (GotPost helloE 4 o w) :=
  (GetHello_any s w hs).mono fun _ _ h => got_of_taken helloE_ok helloE_flat (ho ▸ h)

theorem got_note (s : ByteArray) (w : World) (hs : s.size ≤ maxLen) {o : Option Note} (ho : noteF.read s = o) : Calls Tryz.prog 22 #[.string s] w (GotPost noteE 6 o w) :=
  (GetNote_any s w hs).mono fun _ _ h => got_of_taken noteE_ok noteE_flat (ho ▸ h)

end Go.Proofs.YtcejgdkagbhceaaGreat
