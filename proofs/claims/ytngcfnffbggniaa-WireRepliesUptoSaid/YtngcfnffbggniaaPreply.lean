/- A reply, laid. -/
import Derived.Test.YtngcfnffbggniaaPansl
namespace Go.Proofs.Ytngcfnffbggniaa
open Go.ChangeShapes Go.WideShapes Go.ChangeAt Go.RowKit
set_option linter.unusedVariables false

set_option maxRecDepth 100000 in
set_option maxHeartbeats 600000 in
theorem put_reply (x : Reply) (cs : List Value) (ok : Nat → Prop) (w : World) (b : Nat) (v : Value) (l : List UInt8) (hW : WAt w b v l) (hE : replyE w ok cs x) (hd : Disj ok (WS b v)) (hi : In w ok) (hl : l.length + (replyF.lay x).length ≤ 144900000000000) :
    Calls Try.prog 47 #[.pointer (some ⟨b, 0, none⟩), .agg cs.toArray] w (WPost w b v (l ++ replyF.lay x)) := by
  obtain ⟨vsubs, hq, hsubs⟩ := hE
  have hans : ansE w ok cs x.ans := ⟨vsubs, hq⟩
  obtain ⟨vacl, vkids, rfl, hacl, hkids, _⟩ := hq
  obtain ⟨A_acl, n_acl, c_acl, rfl⟩ := hacl.shape
  obtain ⟨A_kids, n_kids, c_kids, rfl⟩ := hkids.shape
  obtain ⟨A_subs, n_subs, c_subs, rfl⟩ := hsubs.shape
  have S0 := WSt.box hW (.cells #[.int .i64 x.ans.xid, .int .i64 x.ans.zxid, .int .i64 x.ans.err, .string x.ans.path, .string x.ans.data, .int .i64 x.ans.stat.czxid, .int .i64 x.ans.stat.mzxid, .int .i64 x.ans.stat.pzxid, .int .i64 x.ans.stat.version, .int .i64 x.ans.stat.cversion, .int .i64 x.ans.stat.aversion, .int .i64 x.ans.stat.owner, .int .i64 x.ans.stat.length, .int .i64 x.ans.stat.kids, .slice A_acl n_acl c_acl, .slice A_kids n_kids c_kids, .slice A_subs n_subs c_subs] 46)
  have hnb := box_new hW
  have hbk := heap_alloc_new w (.cells #[.int .i64 x.ans.xid, .int .i64 x.ans.zxid, .int .i64 x.ans.err, .string x.ans.path, .string x.ans.data, .int .i64 x.ans.stat.czxid, .int .i64 x.ans.stat.mzxid, .int .i64 x.ans.stat.pzxid, .int .i64 x.ans.stat.version, .int .i64 x.ans.stat.cversion, .int .i64 x.ans.stat.aversion, .int .i64 x.ans.stat.owner, .int .i64 x.ans.stat.length, .int .i64 x.ans.stat.kids, .slice A_acl n_acl c_acl, .slice A_kids n_kids c_kids, .slice A_subs n_subs c_subs] 46)
  replace hans := ansE_ok.keep hans ((Kept.refl (fun _ => False) w).alloc (.cells #[.int .i64 x.ans.xid, .int .i64 x.ans.zxid, .int .i64 x.ans.err, .string x.ans.path, .string x.ans.data, .int .i64 x.ans.stat.czxid, .int .i64 x.ans.stat.mzxid, .int .i64 x.ans.stat.pzxid, .int .i64 x.ans.stat.version, .int .i64 x.ans.stat.cversion, .int .i64 x.ans.stat.aversion, .int .i64 x.ans.stat.owner, .int .i64 x.ans.stat.length, .int .i64 x.ans.stat.kids, .slice A_acl n_acl c_acl, .slice A_kids n_kids c_kids, .slice A_subs n_subs c_subs] 46)) (disj_none ok)
  replace hsubs := hsubs.keep ansE_ok ((Kept.refl (fun _ => False) w).alloc (.cells #[.int .i64 x.ans.xid, .int .i64 x.ans.zxid, .int .i64 x.ans.err, .string x.ans.path, .string x.ans.data, .int .i64 x.ans.stat.czxid, .int .i64 x.ans.stat.mzxid, .int .i64 x.ans.stat.pzxid, .int .i64 x.ans.stat.version, .int .i64 x.ans.stat.cversion, .int .i64 x.ans.stat.aversion, .int .i64 x.ans.stat.owner, .int .i64 x.ans.stat.length, .int .i64 x.ans.stat.kids, .slice A_acl n_acl c_acl, .slice A_kids n_kids c_kids, .slice A_subs n_subs c_subs] 46)) (disj_none ok)
  replace hi := hi.kept ((Kept.refl (fun _ => False) w).alloc (.cells #[.int .i64 x.ans.xid, .int .i64 x.ans.zxid, .int .i64 x.ans.err, .string x.ans.path, .string x.ans.data, .int .i64 x.ans.stat.czxid, .int .i64 x.ans.stat.mzxid, .int .i64 x.ans.stat.pzxid, .int .i64 x.ans.stat.version, .int .i64 x.ans.stat.cversion, .int .i64 x.ans.stat.aversion, .int .i64 x.ans.stat.owner, .int .i64 x.ans.stat.length, .int .i64 x.ans.stat.kids, .slice A_acl n_acl c_acl, .slice A_kids n_kids c_kids, .slice A_subs n_subs c_subs] 46))
  have hlen : (replyF.lay x).length = (ansF.lay x.ans).length + ((listF ansF).lay x.subs).length := by simp only [replyF, isoF, seqF, List.length_append] <;> omega
  have hl1 : l.length + ((ansF.lay x.ans).length + ((listF ansF).lay x.subs).length) ≤ 144900000000000 := by rw [← hlen]; exact hl
  clear hlen
  clear hl
  go_enter Try.func47, Try.ntmps47
  go_wp2_with fail
  refine (put_ans x.ans _ ok _ b _ _ S0.at_ (ansE_ok.keep hans S0.kept hd) (hd.symm.sep hi S0.sep).symm (hi.kept S0.kept) (by omega)).mono ?_
  rintro e w1 h1
  obtain ⟨v1, rfl, S1⟩ := S0.step h1
  clear S0 h1
  have hb1 := S1.blk hbk hnb
  have c1_16 : w1.cell? ⟨w.heap.size, 16, none⟩ = some (.slice A_subs n_subs c_subs) := by simp [World.cell?, hb1]
  clear hb1
  go_wp2_with fail
  refine (putList_ans x.subs _ ok _ b _ _ S1.at_ (hsubs.keep ansE_ok S1.kept hd) (hd.symm.sep hi S1.sep).symm (hi.kept S1.kept) (by simp only [List.length_append]; omega)).mono ?_
  rintro e w2 h2
  obtain ⟨v2, rfl, S2⟩ := S1.step h2
  clear S1 h2
  go_wp2_with fail
  go_end0
  exact S2.unbox (by simp only [replyF, isoF, seqF, List.append_assoc])

end Go.Proofs.Ytngcfnffbggniaa
