/- Write. -/
import Derived.Test.YtmfngbgdmlnlcaaDa
import Derived.StillTailTactics
import Derived.Laws.CopyOwn
namespace Go.Proofs.Ytmfngbgdmlnlcaa
open Go.ChangeShapes Go.WideShapes Go.ChangeAt Go.RowKit
set_option linter.unusedVariables false
set_option linter.unusedSimpArgs false

theorem run_copy_string {P : Program} (w : World) (dT sT ty elem : TypeId) (b o : Nat) (s : ByteArray) (hl : s.size = 64) (hu : P.underlying dT = some (.slice elem)) (hs : (P.info? elem).map (·.size) = some 1) (ht : w.there b o 64) :
    (Builtin.copy_ #[dT, sT] ty #[.slice (some ⟨b, o, none⟩) 64 64, .string s]).run P w = .ok (goInt 64) (w.setCells b o (secL s.data.toList)) := by
  have hsl : (secL s.data.toList).length = 64 := by simp [secL, hl]
  have hst := run_storeCells_cells (P := P) b o (secL s.data.toList) 0 w (fun j hj => by simpa using (ht j (by omega)).1) (fun j hj => by simpa using (ht j (by omega)).2) (secL_one _)
  cases hq : P.info? elem with
  | none => simp [hq] at hs
  | some i =>
    have hi : i.size = 1 := by simpa [hq] using hs
    have he : List.take 64 (List.map (fun b => Value.int .u8 (b.toNat : Int)) s.data.toList) = secL s.data.toList := by
      rw [List.take_of_length_le (by simp [hl])]; rfl
    simp [Builtin.copy_, run_underlying hu, Builtin.lenOf, Builtin.firstCells, sizeOf, typeInfo, hq, hi, hl]
    simp only [Nat.add_zero] at hst
    rw [he, hst]
    rfl

theorem wpList_copy_string {P : Program} {w : World} {ops : Array Oper} {rest : List Oper} {o : Oper} {a : Act} {Q : Exit → Act → World → Prop} (hgd : o.guard = none) (d s : Operand) (dT sT : TypeId)
    (ho : o.op = .call { callee := .builtin .copy, args := #[d, s], argTypes := #[dT, sT] }) (elem : TypeId) (hu : P.underlying dT = some (.slice elem)) (hsz : (P.info? elem).map (·.size) = some 1)
    (b off : Nat) (hd : a.eval d = .slice (some ⟨b, off, none⟩) 64 64) (x : ByteArray) (hs : a.eval s = .string x) (hl : x.size = 64) (ht : w.there b off 64)
    (h : wpList P ops Q rest (a.put o.dst (goInt 64)) (w.setCells b off (secL x.data.toList))) : wpList P ops Q (o :: rest) a w := by
  refine wpList_plain hgd fun K hK => ?_
  have hrun := run_copy_string (P := P) w dT sT o.type elem b off x hl hu hsz ht
  unfold Oper.wp
  simp [execOp, ho, resolve, invoke, builtin, hd, hs, hrun, Result.andThen]
  exact hK _ _ h

theorem wpList_store_new {P : Program} {ops : Array Oper} {rest : List Oper} {op : Oper} {a : Act} {Q : Exit → Act → World → Prop} (w : World) (hgd : op.guard = none) (ty : TypeId) (x y : Operand) (ho : op.op = .store ty x y)
    (c : Array Value) (cs : List Value) (hx : a.eval x = .pointer (some ⟨w.heap.size, 0, none⟩)) (hy : a.eval y = .agg cs.toArray) (hi : (P.info? ty).map (·.size) = some cs.length) (hc : c.size = cs.length) (h1 : ∀ v ∈ cs, v.oneCell' = true)
    (h : wpList P ops Q rest (a.put op.dst undef) (w.alloc (.cells cs.toArray ty))) : wpList P ops Q (op :: rest) a (w.alloc (.cells c ty)) :=
  wpList_plain hgd fun _ hK => by
    unfold Oper.wp execOp
    simp only [ho, hx, hy, Sem.run_bind, Sem.run_pure, Result.andThen_ok, run_storeAt_new (P := P) w ty c cs.toArray (by simpa using hi) (by simpa using hc) (all_oneCell_toArray h1)]
    exact hK _ _ h

theorem wpList_store_row {P : Program} {ops : Array Oper} {rest : List Oper} {op : Oper} {a : Act} {Q : Exit → Act → World → Prop} (w : World) (hgd : op.guard = none) (ty : TypeId) (x y : Operand) (ho : op.op = .store ty x y)
    (g : Nat) (c : Array Value) (cs : List Value) (hx : a.eval x = .pointer (some ⟨g, 0, none⟩)) (hy : a.eval y = .agg cs.toArray) (hg : w.heap[g]? = some (.cells c ty (0, 0))) (hi : (P.info? ty).map (·.size) = some cs.length) (hc : c.size = cs.length) (h1 : ∀ v ∈ cs, v.oneCell' = true)
    (h : wpList P ops Q rest (a.put op.dst undef) (w.setRow g cs.toArray)) : wpList P ops Q (op :: rest) a w :=
  wpList_plain hgd fun _ hK => by
    unfold Oper.wp execOp
    simp only [ho, hx, hy, Instr.storeAt, Instr.sureAddr, Sem.run_bind, Sem.run_pure, Result.andThen_ok, run_storeVar_row (P := P) w g ty ty c cs.toArray hg (by simpa using hi) (by simpa using hc) (all_oneCell_toArray h1)]
    exact hK _ _ h

theorem wpStill_load_mid {P : Program} {ops : Array Oper} {w : World} {Q : Act → Prop} {a : Act} {o : Oper} {rest : List Oper} (hgd : o.guard = none) (ty : TypeId) (x : Operand) (ho : o.op = .load ty x)
    (b off : Nat) (hx : a.eval x = .pointer (some ⟨b, off, none⟩)) (cs : List Value) (d : TypeDesc) (hc : w.rangeAt b off cs)
    (hu : P.underlying ty = some d) (hd : d.isRow = true) (hi : (P.info? ty).map (·.size) = some cs.length) (h : wpStill P ops w Q rest (a.put o.dst (.agg cs.toArray))) : wpStill P ops w Q (o :: rest) a := by
  refine wpStill_step (fun K hK => ?_)
  rw [if_pos (by simp [Region.wanted, hgd])]
  unfold Oper.still execOp
  simp only [ho, hx, Instr.loadAt, Instr.sureAddr, Sem.run_bind, Sem.run_pure, Result.andThen_ok, run_loadVar_mid (P := P) w b off ty cs d hc hu hd hi]
  exact ⟨rfl, hK _ h⟩

/-! ### The map of those that are pending -/
def zeros : List UInt8 := List.replicate 64 0
theorem byte_size : (Try.prog.info? 5).map (·.size) = some 1 := by kernel_rfl
theorem zero_sector : (Try.prog.info? 64).map (fun i => (i.zero, i.size)) = some (some (sec zeros), 64) := by kernel_rfl

theorem OldAt.look_ok {w : World} {mb nn n : Nat} {O : Nat → Option (List UInt8)} (h : OldAt w mb nn O) (sup : ∀ k l, O k = some l → k < n ∧ l.length = 64) (i : Nat) (hi : i ≤ 32768) :
    ∃ l : List UInt8, l.length = 64 ∧ Sem.run Try.prog (Instr.lookup 55 (.map (some mb)) (.int .i64 i) true) w = .ok (.tuple #[sec l, .bool (O i).isSome]) w := by
  obtain ⟨D, hown, hhas, hat⟩ := h.ex
  have hz := (zero_of_info zero_sector).1 w
  have hkey : keyOf Try.prog 3 (.int .i64 i) = some (kI i) := Maps.keyOf_int_mk Try.underlying3 (by simp [Lit.wf, IntKind.min, IntKind.max, IntKind.bits, IntKind.signed]; omega)
  obtain ⟨v, ps, hrun, hR⟩ := hown.look_ok (Maps.int_keyed Try.underlying3) Try.underlying55 hz (RB_sec zeros) hkey
  obtain ⟨l, rfl, hd⟩ := RB_inv hR
  have hb : Maps.has D (kI i) = (O i).isSome := by
    rw [Bool.eq_iff_iff, hhas]
    simp
  rw [hb] at hrun
  refine ⟨l, ?_, hrun⟩
  cases hO : O i with
  | some l0 =>
    rw [hat i l0 hO] at hd
    simp only [DataW.lit.injEq, Lit.string.injEq] at hd
    rw [← hd]; exact (sup i l0 hO).2
  | none =>
    rw [hO] at hb
    have hna := Maps.atKey_of_not_has hb (.lit (.string zeros))
    rw [hna] at hd
    simp only [DataW.lit.injEq, Lit.string.injEq] at hd
    rw [← hd]; rfl

theorem key_lit (i : Int) : WideAt.IsKeyLit (kI i) := by trivial

theorem OldAt.put {w : World} {mb nn : Nat} {O : Nat → Option (List UInt8)} (h : OldAt w mb nn O) (i : Nat) (hi : i ≤ 32768) (hn : nn ≤ 32768) (l : List UInt8) :
    ∃ w', Sem.run Try.prog (Instr.mapUpdate 55 (.map (some mb)) (.int .i64 i) (sec l)) w = .ok () w' ∧ OldAt w' mb (nn + 1) (upd O i (some l)) ∧ Kept (fun k => k = mb) w w' := by
  obtain ⟨D, hown, hhas, hat⟩ := h.ex
  have hkey : keyOf Try.prog 3 (.int .i64 i) = some (kI i) := Maps.keyOf_int_mk Try.underlying3 (by simp [Lit.wf, IntKind.min, IntKind.max, IntKind.bits, IntKind.signed]; omega)
  obtain ⟨w', hrun, hown', hg⟩ := hown.update (Maps.int_keyed Try.underlying3) Try.underlying55 (by unfold maxLen; omega) hkey (RB_sec l)
  have him := hown.isMap
  refine ⟨w', hrun, ⟨⟨_, hown', ?_, ?_⟩⟩, (Kept.of_grownBy hg).mono fun k _ e => by simpa using e⟩
  · intro k
    by_cases e : k = i
    · subst e
      have hs := Maps.has_put_same him (key_lit i) (.lit (.string l))
      simp [hs, upd_same]
    · have hne : kI k ≠ kI i := by simp [kI]; exact e
      rw [Maps.has_put_other hne, hhas]
      constructor
      · rintro ⟨h1, h2⟩
        exact ⟨h1, by rw [upd_other _ _ _ (by omega)]; exact h2⟩
      · rintro ⟨h1, h2⟩
        rw [upd_other _ _ _ (by omega)] at h2
        exact ⟨h1, h2⟩
  · intro k l' hk z
    by_cases e : k = i
    · subst e
      rw [upd_same] at hk
      obtain rfl := Option.some.inj hk
      exact Maps.atKey_put_same him (key_lit k) _ _
    · have hne : kI k ≠ kI i := by simp [kI]; omega
      rw [upd_other _ _ _ e] at hk
      rw [Maps.atKey_put_other hne]
      exact hat k l' hk z

theorem pend_more (n : Nat) (O : Nat → Option (List UInt8)) (i : Nat) (hi : i < n) (l : List UInt8) (h : O i = none) : (pendL n O).length + 1 ≤ (pendL n (upd O i (some l))).length := by
  induction n with
  | zero => omega
  | succ n ih =>
    unfold pendL at ih ⊢
    rw [List.range_succ, List.filter_append, List.filter_append, List.length_append, List.length_append]
    by_cases e : i = n
    · subst e
      have e1 : (List.range i).filter (fun k => (upd O i (some l) k).isSome) = (List.range i).filter (fun k => (O k).isSome) := by
        apply List.filter_congr
        intro k hk
        rw [upd_other _ _ _ (by have := List.mem_range.1 hk; omega)]
      rw [e1]
      simp [upd_same, h]
    · have := ih (by omega)
      have e2 : (upd O i (some l) n) = O n := upd_other _ _ _ (by omega)
      simp only [List.filter_cons, List.filter_nil, e2] at this ⊢
      omega

theorem pend_le (n : Nat) (O : Nat → Option (List UInt8)) : (pendL n O).length ≤ n := by
  unfold pendL
  refine Nat.le_trans (List.length_filter_le _ _) ?_
  simp

def writeD (d : DSt) (k : Int) (s : List UInt8) : DSt × Int :=
  if d.dead then (d, 2) else if ¬ (hasD d k = true ∧ s.length = 64) then (d, 20)
  else actD { d with S := upd d.S k.toNat s, O := if (d.O k.toNat).isSome then d.O else upd d.O k.toNat (some (d.S k.toNat)) }

section
variable {w : World} {b sb mb nn : Nat} {d : DSt}

theorem DAt.putOld {w' : World} (h : DAt w b sb mb nn d) {i : Nat} (hi : i < d.n) (hO : d.O i = none) (ho : OldAt w' mb (nn + 1) (upd d.O i (some (d.S i)))) (hk : Kept (fun k => k = mb) w w') :
    DAt w' b sb mb (nn + 1) { d with O := upd d.O i (some (d.S i)) } := by
  refine ⟨by rw [hk.block b (lt_of_block h.at_) h.a2]; exact h.at_, h.sec.kept hk h.a3, ho, h.a1, h.a2, h.a3, ?_, ?_, h.lo, h.hi, h.lft⟩
  · intro k l hk
    by_cases e : k = i
    · subst e
      simp only [upd_same, Option.some.injEq] at hk
      subst hk
      exact ⟨hi, h.sec.len _ hi⟩
    · simp only [upd_other _ _ _ e] at hk
      exact h.sup k l hk
  · exact Nat.le_trans (Nat.add_le_add_right h.few 1) (pend_more d.n d.O i hi _ hO)
theorem DAt.setSec (h : DAt w b sb mb nn d) {i : Nat} (hi : i < d.n) {l : List UInt8} (hl : l.length = 64) : DAt (w.setCells sb (i * 64) (secL l)) b sb mb nn { d with S := upd d.S i l } := by
  have hk : Kept (fun k => k = sb) w (w.setCells sb (i * 64) (secL l)) := Kept.setCells _ _ (Kept.refl _ _) (.inl rfl)
  exact ⟨by rw [hk.block b (lt_of_block h.at_) h.a1]; exact h.at_, h.sec.set hi hl, h.old.kept hk (fun e => h.a3 e.symm), h.a1, h.a2, h.a3, h.sup, h.few, h.lo, h.hi, h.lft⟩

def WritePost (w : World) (b sb mb nn : Nat) (r : DSt × Int) (e : Ending) (w' : World) : Prop :=
  e = .returned (.int .i64 r.2) ∧ (∃ nn', DAt w' b sb mb nn' r.1) ∧ Kept (DB b sb mb) w w'

set_option maxHeartbeats 1000000 in
set_option maxRecDepth 100000 in
theorem write_any (h : DAt w b sb mb nn d) (k : Int) (s : ByteArray) (ha : d.acts < 9223372036854775807) : Calls Try.prog 7 #[.pointer (some ⟨b, 0, none⟩), .int .i64 k, .string s] w (WritePost w b sb mb nn (writeD d k s.data.toList)) := by
  obtain ⟨c0, c1, c2, c3, c4, f⟩ := h.five
  have HD := Lib.hid h
  have HH := Lib.hid (has_any h k)
  have hhi := h.hi
  clear h
  by_cases hd : d.dead = true
  · have e : Hid (writeD d k s.data.toList = (d, 2)) := Lib.hid (by unfold writeD; simp [hd])
    rw [hd] at c4
    clear hd
    go_enter Try.func7, Try.ntmps7
    go_wp2
    go_ret
    exact ⟨by rw [e.out]; rfl, ⟨_, by rw [e.out]; exact HD.out⟩, Kept.refl _ _⟩
  · replace hd : d.dead = false := by simpa using hd
    rw [hd] at c4
    by_cases hh : hasD d k = true
    · by_cases hs : s.size = 64
      · obtain ⟨h1, h2⟩ := (hasD_iff d k).1 hh
        obtain ⟨i, rfl⟩ := Int.eq_ofNat_of_zero_le h1
        have hi : i < d.n := by omega
        have hti : ((i : Int)).toNat = i := by omega
        obtain ⟨l0, hl0, hlook⟩ := HD.out.old.look_ok HD.out.sup i (by omega)
        rw [hh] at HH
        have E : Hid (writeD d (i : Int) s.data.toList = actD { d with S := upd d.S i s.data.toList, O := if (d.O i).isSome then d.O else upd d.O i (some (d.S i)) }) := Lib.hid (by
          unfold writeD; simp [hd, hh, hs, hti])
        clear hd hh h1 h2 hti
        cases hp : (d.O i).isSome
        · rw [hp] at hlook E
          have E2 : Hid (writeD d (i : Int) s.data.toList = actD { d with S := upd d.S i s.data.toList, O := upd d.O i (some (d.S i)) }) := Lib.hid (by rw [E.out]; rfl)
          go_enter Try.func7, Try.ntmps7
          go_wp2_with fail
          refine HH.out.mono ?_
          rintro e w' ⟨rfl, rfl⟩
          have hsz : (Try.prog.info? 64).map (·.size) = some (secL l0).length := by
            rw [(zero_of_info zero_sector).2]; simp [secL, hl0]
          have HSZ := Lib.hid hsz
          have hl1 : (secL l0).length = 64 := by simp [secL, hl0]
          have HL1 := Lib.hid hl1
          clear hsz hl1
          go_wp2_with (refine wpList_store_new _ rfl 64 _ _ rfl _ (secL l0) rfl rfl HSZ.out (by rw [HL1.out]; rfl) (secL_one _) ?_)
          have hk1 : Kept (fun _ => False) w (w.alloc (.cells (secL l0).toArray 64)) := (Kept.refl _ w).alloc _
          have h1 := HD.out.kept hk1 (fun _ _ f => f)
          generalize w.alloc (.cells (secL l0).toArray 64) = W1 at hk1 h1 ⊢
          have HK1 := Lib.hid hk1
          have H1 := Lib.hid h1
          clear c0 c1 c2 c3 c4 f hk1 hlook
          obtain ⟨c0, c1, c2, c3, c4, f⟩ := h1.five
          have hrg : W1.drew.rangeAt sb (i * 64) (secL (d.S i)) := (World.rangeAt_drew _ _ _ _).2 (h1.sec.range hi)
          have hsz2 : (Try.prog.info? 64).map (·.size) = some (secL (d.S i)).length := by rw [(zero_of_info zero_sector).2]; simp [secL, h1.sec.len i hi]
          have HR := Lib.hid hrg
          have HZ2 := Lib.hid hsz2
          clear hrg hsz2
          clear h1
          go_still_tail 12, (by kernel_rfl)
          refine wpStill_load_mid rfl 64 _ rfl sb (i * 64) rfl (secL (d.S i)) _ HR.out Try.underlying64 rfl HZ2.out ?_
          refine wpStill_nil ?_
          change wpList _ _ _ _ _ W1.drew
          have hd1 : DAt W1.drew b sb mb nn d := H1.out.drewN 1
          have HKD : Hid (Kept (fun _ => False) w W1.drew) := Lib.hid (HK1.out.drew)
          generalize W1.drew = Wd at hd1 HKD ⊢
          obtain ⟨W2, hput, hold2, hk2⟩ := hd1.old.put i (by omega) (Nat.le_trans hd1.few (by have := pend_le d.n d.O; omega)) (d.S i)
          have hO : d.O i = none := by simpa using hp
          have h2 := hd1.putOld hi hO hold2 hk2
          have H2 := Lib.hid h2
          have HK2 := Lib.hid hk2
          have HI := Lib.hid hi
          clear c0 c1 c2 c3 c4 f hold2 hk2 hO hp hd1 hl0
          obtain ⟨c0, c1, c2, c3, c4, f⟩ := h2.five
          have hth := h2.sec.there hi
          have HTH := Lib.hid hth
          clear h2 hth
          simp only [sec] at hput
          simp only [Act.put, List.setIfInBounds_toArray, List.set_cons_zero, List.set_cons_succ]
          go_wp2_with (refine wpList_copy_string rfl _ _ 31 9 rfl 5 Try.underlying31 byte_size sb (i * 64) rfl s rfl hs HTH.out ?_)
          have h3 := H2.out.setSec HI.out (l := s.data.toList) (by rw [size_toList]; exact hs)
          refine (act_any h3 ha).mono ?_
          rintro e W4 ⟨rfl, h4, hk4⟩
          have H4 := Lib.hid h4
          clear h3 h4
          go_wp2_with fail
          go_ret
          refine ⟨by rw [E2.out]; rfl, ⟨_, by rw [E2.out]; exact H4.out⟩, ?_⟩
          have q1 := HKD.out.mono (T := DB b sb mb) (fun k _ f => f.elim)
          have q2 := HK2.out.mono (T := DB b sb mb) (fun k _ f => .inr (.inr f))
          have q3 : Kept (DB b sb mb) W2 (W2.setCells sb (i * 64) (secL s.data.toList)) := Kept.setCells _ _ (Kept.refl _ _) (.inl (.inr (.inl rfl)))
          have q4 := hk4.mono (T := DB b sb mb) (fun k _ f => .inl f)
          exact ((q1.trans q2).trans q3).trans q4
        · rw [hp] at hlook E
          have E2 : Hid (writeD d (i : Int) s.data.toList = actD { d with S := upd d.S i s.data.toList }) := Lib.hid (by rw [E.out]; rfl)
          go_enter Try.func7, Try.ntmps7
          go_wp2_with fail
          refine HH.out.mono ?_
          rintro e w' ⟨rfl, rfl⟩
          have hsz : (Try.prog.info? 64).map (·.size) = some (secL l0).length := by
            rw [(zero_of_info zero_sector).2]; simp [secL, hl0]
          have HSZ := Lib.hid hsz
          have hl1 : (secL l0).length = 64 := by simp [secL, hl0]
          have HL1 := Lib.hid hl1
          clear hsz hl1 hl0
          have hk1 : Kept (fun _ => False) w (w.alloc (.cells (secL l0).toArray 64)) := (Kept.refl _ w).alloc _
          have h1 := HD.out.kept hk1 (fun _ _ f => f)
          have hth := h1.sec.there hi
          have HTH := Lib.hid hth
          have HKD := Lib.hid hk1
          have H2 := Lib.hid h1
          have HI := Lib.hid hi
          have hbl := lt_of_block HD.out.at_
          clear hth hk1 h1
          go_wp2_with (first
            | (refine wpList_store_new _ rfl 64 _ _ rfl _ (secL l0) rfl rfl HSZ.out (by rw [HL1.out]; rfl) (secL_one _) ?_)
            | (refine wpList_copy_string rfl _ _ 31 9 rfl 5 Try.underlying31 byte_size sb (i * 64) rfl s rfl hs HTH.out ?_))
          have h3 := H2.out.setSec HI.out (l := s.data.toList) (by rw [size_toList]; exact hs)
          refine (act_any h3 ha).mono ?_
          rintro e W4 ⟨rfl, h4, hk4⟩
          have H4 := Lib.hid h4
          clear h3 h4
          go_wp2_with fail
          go_ret
          refine ⟨by rw [E2.out]; rfl, ⟨_, by rw [E2.out]; exact H4.out⟩, ?_⟩
          have q1 := HKD.out.mono (T := DB b sb mb) (fun k _ f => f.elim)
          have q4 := hk4.mono (T := DB b sb mb) (fun k _ f => .inl f)
          exact (q1.trans (Kept.setCells _ _ (Kept.refl _ _) (.inl (.inr (.inl rfl))))).trans q4
      · have e : Hid (writeD d k s.data.toList = (d, 20)) := Lib.hid (by unfold writeD; simp [hd, hs])
        rw [hh] at HH
        have hs1 : ((s.size : Int) != 64) = true := by simp; omega
        clear hd hh hs
        go_enter Try.func7, Try.ntmps7
        go_wp2_with fail
        refine HH.out.mono ?_
        rintro e2 w' ⟨rfl, rfl⟩
        go_wp2_with fail
        go_ret
        exact ⟨by rw [e.out]; rfl, ⟨_, by rw [e.out]; exact HD.out⟩, Kept.refl _ _⟩
    · have hh' : hasD d k = false := by simpa using hh
      have e : Hid (writeD d k s.data.toList = (d, 20)) := Lib.hid (by unfold writeD; simp [hd, hh'])
      rw [hh'] at HH
      clear hd hh hh'
      go_enter Try.func7, Try.ntmps7
      go_wp2_with fail
      refine HH.out.mono ?_
      rintro e2 w' ⟨rfl, rfl⟩
      go_wp2_with fail
      go_ret
      exact ⟨by rw [e.out]; rfl, ⟨_, by rw [e.out]; exact HD.out⟩, Kept.refl _ _⟩
end
end Go.Proofs.Ytmfngbgdmlnlcaa
