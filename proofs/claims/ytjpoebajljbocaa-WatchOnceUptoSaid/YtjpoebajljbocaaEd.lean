/- take. -/
import Derived.Test.YtjpoebajljbocaaEc
namespace Go.Proofs.Ytjpoebajljbocaa
open Go.ChangeShapes Go.WideShapes Go.ChangeAt Go.RowKit Go.Maps
set_option linter.unusedVariables false
set_option linter.unusedSimpArgs false
theorem strike_snoc (ks : List Int) (k : Int) (p : ByteArray) (l : List Wt) : strikeW (ks ++ [k]) p l = (strikeW ks p l).filter (fun y => !(y == (k, p))) := by
  unfold strikeW
  rw [List.filter_filter]
  congr 1
  funext y
  have e : (y == (k, p)) = (y.1 == k && y.2 == p) := rfl
  rw [e]
  unfold hitB
  have e2 : (ks ++ [k]).contains y.1 = (ks.contains y.1 || y.1 == k) := by
    rw [Bool.eq_iff_iff]; simp
  rw [e2]
  cases ks.contains y.1 <;> cases (y.1 == k) <;> cases (y.2 == p) <;> rfl
theorem strike_nil (p : ByteArray) (l : List Wt) : strikeW [] p l = l := by
  unfold strikeW hitB; simp
section
variable {w w' : World} {q : WQ} {L : WL} {D : DV} {E : Int → DV}
theorem ranges_kept {P : Program} {k : TypeId} {R : Value → Option (DV × List MemPlace)} {b r n cnt : Nat} {left : Lit → Bool} {X : Nat → Prop} (h : w.ranges P k R b r n D left cnt) (hk : Kept X w w') (hb : ¬ X b) (hr : ¬ X r) : w'.ranges P k R b r n D left cnt := by
  have h1 := h.owns.lt
  have h2 := h.lt
  obtain ⟨es, clock, since, seen, c0, hbb, F, hs, hD, hrr, rest⟩ := h
  exact ⟨es, clock, since, seen, c0, (hk.block b h1 hb).trans hbb, F, hs, hD, (hk.block r h2 hr).trans hrr, rest⟩
structure TakeW (w : World) (q : WQ) (L : WL) (s : Int) (k : Nat) (l' : List Wt) (r n : Nat) (left : Lit → Bool) (cnt : Nat) (w' : World) : Prop where
  ex : ∃ (q' : WQ) (D' : DV) (E' : Int → DV) (left' : Lit → Bool) (cnt' : Nat), WD w' q' (setW L s l') D' E' ∧ w'.ranges Try.prog 3 tok q.m r n D' left' cnt' ∧ cnt' ≤ cnt ∧ (∀ z, left' z = true → left z = true) ∧
    (∀ z : Int, z ≠ s → left' (.int .i64 z) = left (.int .i64 z)) ∧ q'.t = q.t ∧ q'.m = q.m ∧ (∀ a j, q'.B a = some j → q.B a = some j) ∧ Kept (fun j => j = q.m ∨ j = k) w w'
structure TkRel (w : World) (k n : Nat) (ks : List Int) (p : ByteArray) (l : List Wt) (iv : Value) (wr : World) : Prop where
  ex : ∃ (j : Nat) (E' : DV), iv = .int .i64 j ∧ j ≤ ks.length ∧ wr.ownsMap Try.prog 123 tok k n E' ∧ SetIs E' (strikeW (ks.take j) p l) ∧ Kept (fun b => b = k) w wr
theorem irow_kept {X : Nat → Prop} {B : Nat} {v : Value} {l : List Int} (h : IRow B w v l) (hk : Kept X w w') (hx : ∀ k, v.ownBlock = some k → ¬ X k) : IRow B w' v l := ownKept h hk hx
set_option maxRecDepth 100000 in
set_option maxHeartbeats 1000000 in
theorem take_any (h : WD w q L D E) {s : Int} {k : Nat} (hb : q.B s = some k) (hs : I64 s) {p : ByteArray} (hp : p.size ≤ 140737488355328) {ks : List Int} (hks : ∀ x ∈ ks, I64 x) (hkl : ks.length ≤ 100) {v : Value} {B : Nat} (hv : IRow B w v ks) (hvB : ∀ j, v.ownBlock = some j → j ≠ k)
    {r n cnt : Nat} {left : Lit → Bool} (hrg : w.ranges Try.prog 3 tok q.m r n D left cnt) (hrk : r ≠ k) :
    Calls Try.prog 81 #[.pointer (some ⟨q.t, 0, none⟩), .int .i64 s, .string p, v] w fun e w' =>
      e = .returned (.bool (decide ((strikeW ks p (listW L s)).length < (listW L s).length))) ∧ TakeW w q L s k (strikeW ks p (listW L s)) r n left cnt w' := by
  have hcnt := h.count s hs
  have hbt := h.bt hb
  have hmt := h.mt
  have hnm := h.nm _ _ hb
  have hown := h.b s k hb
  have hset := h.E s k hb
  obtain ⟨l1, l2, l3⟩ := h.ok.list s
  have hfit := fits_of l3
  obtain ⟨va, vc, rfl, hcell⟩ := own_cell hv
  have HD := Lib.hid h
  have HB := Lib.hid hb
  have HC := Lib.hid hcnt
  have HV := Lib.hid hv
  have HVB := Lib.hid hvB
  have HRG := Lib.hid hrg
  have HKS := Lib.hid hks
  have HF := Lib.hid hfit
  have HN := Lib.hid l1
  have HL3 := Lib.hid l3
  have hsub : ∀ ks', ∀ x ∈ strikeW ks' p (listW L s), Fit1 x := fun ks' x hx => hfit x ((strikeW_sub ks' p _).subset hx)
  have HSB := Lib.hid hsub
  have hids := h.ok.id64
  have hid : 1 ≤ s ∧ s ≤ 9223372036854775807 := by
    have hne := (h.has s).1 (by rw [hb]; rfl)
    unfold listW at hne
    cases hg : getW L s with
    | none => rw [hg] at hne; exact absurd rfl hne
    | some t => have := hids t (getW_mem hg); rw [getW_id hg] at this; exact this
  have HID := Lib.hid hid
  have hsz0 : Maps.size (E s) = (listW L s).length := h.sizeB hb
  generalize hl0 : listW L s = l at *
  have HL0 := Lib.hid hl0
  have HSZ := Lib.hid hsz0
  have hlt := h.lt _ (.inl rfl)
  have HCN : Hid (countW L s = l.length) := Lib.hid (by unfold countW; rw [hl0])
  have hms : ∀ wr, Kept (fun b => b = k) w wr → (wr.cell? ⟨q.t, 0, none⟩ = some (.map (some q.m)) ∧ (Instr.lookup 118 (.map (some q.m)) (.int .i64 s) false).run Try.prog wr = .ok (.map (some k)) wr) := fun wr hk => by
    refine ⟨(box_keptW hk h.at_ (fun e => hbt e.symm)).1, ?_⟩
    have := owns_look1 (ownsMap_kept h.m hk (fun e => hnm e.symm)) (t := 118) (e := 127) keyI Try.underlying118 (zero_watches wr) (keyI64 hs)
    rw [h.D, hb] at this
    exact this
  have HMS := Lib.hid hms
  clear h hb hcnt hv hvB hrg hks hfit l1 l3 hsub hids hid hms hl0 hsz0 hcell l2
  go_enter Try.func81, Try.ntmps81
  go_wp2_with (first
    | (go_at_call 30; refine HC.out.mono ?_; rintro e w1 ⟨rfl, rfl⟩; rw [HCN.out])
    | fail)
  go_loopw [18] (fun iv wr => TkRel w k (Maps.size (E s)) ks p l iv wr) (fun iv _ => ks.length - (Go.RowKit.intOf iv).toNat)
  case atStart => exact ⟨0, E s, rfl, Nat.zero_le _, hown, by rw [List.take_zero, strike_nil]; exact hset, Kept.refl _ _⟩
  case round =>
    obtain ⟨j, E', rfl, hj, hown', hset', hkp⟩ := hrel.ex
    clear hrel
    have HS' := Lib.hid hset'
    have HK := Lib.hid hkp
    obtain ⟨c0, hlk⟩ := HMS.out _ hkp
    by_cases hlt2 : j < ks.length
    · obtain ⟨g, hga, _, hgl, hcc, _⟩ : ∃ g, va = some ⟨g, 0, none⟩ ∧ B ≤ g ∧ g < wr.heap.size ∧ wr.cell? ⟨g, j, none⟩ = some (.int .i64 ks[j]) ∧ True := by
        obtain ⟨va', vc', e, hc2⟩ := own_cell (irow_kept HV.out hkp (fun kk hkk e => HVB.out kk hkk e))
        injection e with e1 e2 e3
        subst e1
        obtain ⟨g, h1, h2, h3, h4, _⟩ := hc2 j (.int .i64 ks[j]) (by rw [List.getElem?_map, List.getElem?_eq_getElem hlt2]; rfl)
        exact ⟨g, h1, h2, h3, h4, trivial⟩
      subst hga
      have hx64 := HKS.out _ (List.getElem_mem hlt2)
      have HT : Hid (ks.take (j + 1) = ks.take j ++ [ks[j]]) := Lib.hid (by rw [List.take_succ_eq_append_getElem hlt2])
      obtain ⟨x, hx⟩ : ∃ x, ks[j] = x := ⟨_, rfl⟩
      rw [hx] at hcc hx64 HT
      have hkey : keyOf Try.prog 123 (.agg #[.int .i64 x, .string p]) = some (wk (x, p)) := key_watch (x := (x, p)) hx64 (by unfold maxLen; exact Nat.le_trans hp (by decide))
      have HX64 := Lib.hid hx64
      clear hx hset' hkp hx64
      go_wp2_with (first
        | (at_delete; refine wpList_delete_own _ rfl _ _ 127 123 rfl 124 keyW Try.underlying127 tok k _ E' rfl hown' _ _ rfl hkey ?_; intro w2 hown2 hturn2; go_frame)
        | fail)
      go_roundw
      case rel => exact ⟨j + 1, E'.del (wk (x, p)), by go_num, by omega, hown2, by
          rw [HT.out, strike_snoc]
          exact HS'.out.del (HSB.out _) ⟨HX64.out, by unfold maxLen; exact Nat.le_trans hp (by decide)⟩, HK.out.trans (keptM hturn2)⟩
      case measure => simp [Go.RowKit.intOf]; omega
    · obtain ⟨jj, hjj⟩ : ∃ jj, jj = j := ⟨_, rfl⟩
      have hge : ks.length ≤ j := by omega
      have hall : SetIs E' (strikeW ks p l) := by rw [List.take_of_length_le hge] at hset'; exact hset'
      have hszE : Maps.size E' = (strikeW ks p l).length := hall.size (hown'.entries keyW) (HN.out.filter _) (HSB.out _)
      have hlow := count_low c0 hlk hown'
      rw [hszE] at hlow
      have HLOW := Lib.hid hlow
      have HALL := Lib.hid hall
      have HOWN := Lib.hid hown'
      have hr1 : wr.ranges Try.prog 3 tok q.m r n D left cnt := ranges_kept HRG.out hkp (fun e => hnm e.symm) hrk
      have HR1 := Lib.hid hr1
      have hdrop := drop_ranges c0 hr1 s hs
      have HDR := Lib.hid hdrop
      obtain ⟨nl, hnl⟩ : ∃ nl, (strikeW ks p l).length = nl := ⟨_, rfl⟩
      rw [hnl] at HLOW
      have HNL := Lib.hid hnl
      clear hset' hkp hown' hall hszE hlow hr1 hdrop hnl hjj
      by_cases hz : nl = 0
      · subst hz
        go_wp2_with (first
          | (go_at_call 30; refine HLOW.out.mono ?_; rintro e w1 ⟨rfl, rfl⟩)
          | (go_at_call 32; refine HDR.out.mono ?_; rintro e w3 ⟨rfl, cnt3, hrg3, hle3, hk3⟩; have HG3 := Lib.hid hrg3; have HK3 := Lib.hid hk3; clear hrg3 hk3)
          | fail)
        go_ret
        have hnil : strikeW ks p l = [] := List.eq_nil_of_length_eq_zero HNL.out
        rw [hnil]
        have hkk : Kept (fun j => j = q.m ∨ j = k) w w3 := (HK.out.mono (T := fun j => j = q.m ∨ j = k) (fun _ _ e => .inr e)).trans (HK3.out.mono (fun _ _ e => .inl e))
        refine ⟨ret_boolW (by rw [Bool.eq_iff_iff]; simp), ⟨{ q with B := updB q.B s none }, _, E, _, cnt3, ?_, HG3.out, hle3, ?_, ?_, rfl, rfl, ?_, hkk⟩⟩
        · rw [show setW L s [] = delW L s by unfold setW; rw [if_pos rfl]]
          exact HD.out.del (owns_tight HG3.out.owns) (hkk.mono (fun j _ e => e.imp id (fun e => by rw [e]; exact HB.out)))
        · intro z hz; simp at hz; exact hz.1
        · intro z hz
          have : (Lit.int .i64 z).sameKey (.int .i64 s) = false := by
            cases hh : (Lit.int .i64 z).sameKey (.int .i64 s) with
            | false => rfl
            | true => have := WideAt.sameKey_eq hh; injection this with _ e; exact absurd e hz
          rw [this]; simp
        · intro a j ha
          have ha : updB q.B s none a = some j := ha
          unfold updB at ha
          split at ha
          · cases ha
          · exact ha
      · have hz' : ((nl : Int) == 0) = false := by simp; omega
        go_wp2_with (first
          | (go_at_call 30; refine HLOW.out.mono ?_; rintro e w1 ⟨rfl, rfl⟩)
          | fail)
        go_ret
        have hne : strikeW ks p l ≠ [] := fun e => hz (by rw [← HNL.out, e]; rfl)
        have hsubl := strikeW_sub ks p l
        refine ⟨ret_boolW (by rw [HNL.out]), ⟨q, _, _, _, cnt, HD.out.set1 HB.out hne (HD.out.ok.set HID.out (HN.out.filter _) (Nat.le_trans hsubl.length_le ?_) (fun x hx => HL3.out x (hsubl.subset hx))) (owns_tight HOWN.out) HALL.out HK.out, HR1.out, Nat.le_refl _, fun z h => h, fun z _ => rfl, rfl, rfl, fun a j ha => ha, HK.out.mono (fun _ _ e => .inr e)⟩⟩
        have := (HD.out.ok.list s).2.1
        rw [HL0.out] at this
        exact this
end
end Go.Proofs.Ytjpoebajljbocaa
