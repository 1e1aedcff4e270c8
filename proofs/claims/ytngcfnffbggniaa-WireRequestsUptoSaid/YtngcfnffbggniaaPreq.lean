/- A request, laid. -/
import Derived.Test.YtngcfnffbggniaaPop
namespace Go.Proofs.Ytngcfnffbggniaa
open Go.ChangeShapes Go.WideShapes Go.ChangeAt Go.RowKit
set_option linter.unusedVariables false

set_option maxRecDepth 100000 in
set_option maxHeartbeats 600000 in
theorem put_req (x : Req) (cs : List Value) (ok : Nat → Prop) (w : World) (b : Nat) (v : Value) (l : List UInt8) (hW : WAt w b v l) (hE : reqE w ok cs x) (hd : Disj ok (WS b v)) (hi : In w ok) (hl : l.length + (reqF.lay x).length ≤ 144900000000000) :
    Calls Try.prog 39 #[.pointer (some ⟨b, 0, none⟩), .agg cs.toArray] w (WPost w b v (l ++ reqF.lay x)) := by
  obtain ⟨vsubs, varmed, hq, hsubs, harmed⟩ := hE
  have hop : oper1E w ok cs x.op := ⟨vsubs, varmed, hq⟩
  obtain ⟨vacl, rfl, hacl, _⟩ := hq
  obtain ⟨A_acl, n_acl, c_acl, rfl⟩ := hacl.shape
  obtain ⟨A_subs, n_subs, c_subs, rfl⟩ := hsubs.shape
  obtain ⟨A_armed, n_armed, c_armed, rfl⟩ := harmed.shape
  have S0 := WSt.box hW (.cells #[.int .i64 x.op.kind, .int .i64 x.op.xid, .string x.op.path, .string x.op.data, .slice A_acl n_acl c_acl, .int .i64 x.op.flags, .int .i64 x.op.version, .bool x.op.watch, .slice A_subs n_subs c_subs, .slice A_armed n_armed c_armed] 38)
  have hnb := box_new hW
  have hbk := heap_alloc_new w (.cells #[.int .i64 x.op.kind, .int .i64 x.op.xid, .string x.op.path, .string x.op.data, .slice A_acl n_acl c_acl, .int .i64 x.op.flags, .int .i64 x.op.version, .bool x.op.watch, .slice A_subs n_subs c_subs, .slice A_armed n_armed c_armed] 38)
  replace hop := oper1E_ok.keep hop ((Kept.refl (fun _ => False) w).alloc (.cells #[.int .i64 x.op.kind, .int .i64 x.op.xid, .string x.op.path, .string x.op.data, .slice A_acl n_acl c_acl, .int .i64 x.op.flags, .int .i64 x.op.version, .bool x.op.watch, .slice A_subs n_subs c_subs, .slice A_armed n_armed c_armed] 38)) (disj_none ok)
  replace hsubs := hsubs.keep oper1E_ok ((Kept.refl (fun _ => False) w).alloc (.cells #[.int .i64 x.op.kind, .int .i64 x.op.xid, .string x.op.path, .string x.op.data, .slice A_acl n_acl c_acl, .int .i64 x.op.flags, .int .i64 x.op.version, .bool x.op.watch, .slice A_subs n_subs c_subs, .slice A_armed n_armed c_armed] 38)) (disj_none ok)
  replace harmed := harmed.keep armedE_ok ((Kept.refl (fun _ => False) w).alloc (.cells #[.int .i64 x.op.kind, .int .i64 x.op.xid, .string x.op.path, .string x.op.data, .slice A_acl n_acl c_acl, .int .i64 x.op.flags, .int .i64 x.op.version, .bool x.op.watch, .slice A_subs n_subs c_subs, .slice A_armed n_armed c_armed] 38)) (disj_none ok)
  replace hi := hi.kept ((Kept.refl (fun _ => False) w).alloc (.cells #[.int .i64 x.op.kind, .int .i64 x.op.xid, .string x.op.path, .string x.op.data, .slice A_acl n_acl c_acl, .int .i64 x.op.flags, .int .i64 x.op.version, .bool x.op.watch, .slice A_subs n_subs c_subs, .slice A_armed n_armed c_armed] 38))
  have hlen : (reqF.lay x).length = (oper1F.lay x.op).length + ((listF oper1F).lay x.subs).length + ((listF armedF).lay x.armed).length := by simp only [reqF, isoF, seqF, List.length_append] <;> omega
  have hl1 : l.length + ((oper1F.lay x.op).length + ((listF oper1F).lay x.subs).length + ((listF armedF).lay x.armed).length) ≤ 144900000000000 := by rw [← hlen]; exact hl
  clear hlen
  clear hl
  go_enter Try.func39, Try.ntmps39
  go_wp2_with fail
  refine (put_oper1 x.op _ ok _ b _ _ S0.at_ (oper1E_ok.keep hop S0.kept hd) (hd.symm.sep hi S0.sep).symm (hi.kept S0.kept) (by omega)).mono ?_
  rintro e w1 h1
  obtain ⟨v1, rfl, S1⟩ := S0.step h1
  clear S0 h1
  have hb1 := S1.blk hbk hnb
  have c1_8 : w1.cell? ⟨w.heap.size, 8, none⟩ = some (.slice A_subs n_subs c_subs) := by simp [World.cell?, hb1]
  clear hb1
  go_wp2_with fail
  refine (putList_oper1 x.subs _ ok _ b _ _ S1.at_ (hsubs.keep oper1E_ok S1.kept hd) (hd.symm.sep hi S1.sep).symm (hi.kept S1.kept) (by simp only [List.length_append]; omega)).mono ?_
  rintro e w2 h2
  obtain ⟨v2, rfl, S2⟩ := S1.step h2
  clear S1 h2
  have hb2 := S2.blk hbk hnb
  have c2_9 : w2.cell? ⟨w.heap.size, 9, none⟩ = some (.slice A_armed n_armed c_armed) := by simp [World.cell?, hb2]
  clear hb2
  go_wp2_with fail
  refine (putList_armed x.armed _ ok _ b _ _ S2.at_ (harmed.keep armedE_ok S2.kept hd) (hd.symm.sep hi S2.sep).symm (hi.kept S2.kept) (by simp only [List.length_append]; omega)).mono ?_
  rintro e w3 h3
  obtain ⟨v3, rfl, S3⟩ := S2.step h3
  clear S2 h3
  go_wp2_with fail
  go_end0
  exact S3.unbox (by simp only [reqF, isoF, seqF, List.append_assoc])

end Go.Proofs.Ytngcfnffbggniaa
