/- Fire. -/
import Derived.Test.YtjpoebajljbocaaEf
namespace Go.Proofs.Ytjpoebajljbocaa
open Go.ChangeShapes Go.WideShapes Go.ChangeAt Go.RowKit Go.Maps
set_option linter.unusedVariables false
set_option linter.unusedSimpArgs false
abbrev To := Int × Ev
def toC (l : List To) : List Value := l.flatMap fun x => [.int .i64 x.1, .int .i64 x.2.kind, .string x.2.path, .int .i64 x.2.zx]
abbrev ToAt (B : Nat) (w : World) (v : Value) (l : List To) : Prop := w.ownsRow B 72 4 v l.length (toC l)
theorem tyTo : RowTy Try.prog 67 72 4 40 := RowTy.of (z := .agg #[.int .i64 0, .int .i64 0, .string ByteArray.empty, .int .i64 0]) Try.underlying67 (by kernel_rfl) rfl (by omega)
def totW (L : WL) : Nat := (L.map (fun s => s.l.length)).sum
theorem toC_append (a b : List To) : toC (a ++ b) = toC a ++ toC b := by unfold toC; rw [List.flatMap_append]
def fireAll (L : WL) (l : List Ev) : WL := l.foldl (fun M e => fireL e.kind e.path M) L
def toldAll : WL → List Ev → List To
  | _, [] => []
  | L, e :: r => (toldL e.kind e.path L).map (fun s => (s, e)) ++ toldAll (fireL e.kind e.path L) r
theorem fireAll_snoc (L : WL) (l : List Ev) (e : Ev) : fireAll L (l ++ [e]) = fireL e.kind e.path (fireAll L l) := by
  unfold fireAll; rw [List.foldl_append]; rfl
theorem toldAll_snoc (l : List Ev) (e : Ev) : ∀ L : WL, toldAll L (l ++ [e]) = toldAll L l ++ (toldL e.kind e.path (fireAll L l)).map (fun s => (s, e)) := by
  induction l with
  | nil => intro L; simp [toldAll, fireAll]
  | cons a r ih => intro L; simp only [List.cons_append, toldAll]; rw [ih, List.append_assoc]; rfl
theorem WlOk.fireAll {L : WL} (h : WlOk L) (l : List Ev) : WlOk (fireAll L l) := by
  induction l generalizing L with
  | nil => exact h
  | cons a r ih => exact ih (h.fire a.kind a.path)
theorem tot_part (ks : List Int) (p : ByteArray) (L : WL) : totW (partF (fun _ => true) ks p L) + (L.filter (fun s => s.l.any (hitB ks p))).length ≤ totW L := by
  induction L with
  | nil => simp [totW, partF]
  | cons s r ih =>
    have h1 : totW (partF (fun _ => true) ks p (s :: r)) = (strikeW ks p s.l).length + totW (partF (fun _ => true) ks p r) := by
      unfold partF totW
      simp only [if_pos, List.map_cons, List.filter_cons]
      by_cases he : strikeW ks p s.l = []
      · simp [he]
      · have : (strikeW ks p s.l).isEmpty = false := by simpa using he
        simp [this]
    have h2 : totW (s :: r) = s.l.length + totW r := by simp [totW]
    have hle : (strikeW ks p s.l).length ≤ s.l.length := (strikeW_sub ks p s.l).length_le
    rw [h1, h2, List.filter_cons]
    cases hb : s.l.any (hitB ks p) with
    | true =>
      have := strike_any.2 hb
      simp only [if_true, List.length_cons]; omega
    | false => simp only [Bool.false_eq_true, if_false]; omega
theorem tot_fire (k : Int) (p : ByteArray) (L : WL) : totW (fireL k p L) + (toldL k p L).length ≤ totW L := by
  unfold fireL toldL; rw [List.length_map]; exact tot_part _ _ _
theorem tot_all (l : List Ev) : ∀ L : WL, totW (fireAll L l) + (toldAll L l).length ≤ totW L := by
  induction l with
  | nil => intro L; simp [fireAll, toldAll]
  | cons a r ih =>
    intro L
    have h1 := ih (fireL a.kind a.path L)
    have h2 := tot_fire a.kind a.path L
    simp only [toldAll, List.length_append, List.length_map]
    have : fireAll L (a :: r) = fireAll (fireL a.kind a.path L) r := rfl
    rw [this]; omega
theorem WlOk.len_tot {L : WL} (h : WlOk L) : L.length ≤ totW L := by
  have hs := h.some_
  clear h
  induction L with
  | nil => simp [totW]
  | cons s r ih =>
    have h1 := hs s (List.mem_cons_self ..)
    have h2 := ih (fun t ht => hs t (List.mem_cons_of_mem _ ht))
    have h3 : totW (s :: r) = s.l.length + totW r := by simp [totW]
    have := List.length_pos_iff.2 h1
    rw [h3, List.length_cons]; omega
/-- events handed in -/
structure EvR (w : World) (a : Option Addr) (l : List Ev) : Prop where
  at_ : ∀ i (h : i < l.length), ∃ g off, a = some ⟨g, off, none⟩ ∧ g < w.heap.size ∧
    w.cell? ⟨g, off + i * 3, none⟩ = some (.int .i64 l[i].kind) ∧ w.cell? ⟨g, off + i * 3 + 1, none⟩ = some (.string l[i].path) ∧ w.cell? ⟨g, off + i * 3 + 2, none⟩ = some (.int .i64 l[i].zx)
  room : l.length ≤ 9223372036854775807
  small : ∀ e ∈ l, e.path.size ≤ 140737488355328
section
variable {w w' : World} {q : WQ} {L : WL}
theorem EvR.kept {X : Nat → Prop} {a : Option Addr} {l : List Ev} (h : EvR w a l) (hk : Kept X w w') (hx : ∀ b off s, a = some ⟨b, off, s⟩ → ¬ X b) : EvR w' a l :=
  ⟨fun i hi => by
    obtain ⟨g, off, ha, hg, h0, h1, h2⟩ := h.at_ i hi
    have k : ∀ o, w'.cell? ⟨g, o, none⟩ = w.cell? ⟨g, o, none⟩ := fun o => World.cell?_of_block (w := w) (hk.block g hg (hx g off none ha))
    exact ⟨g, off, ha, Nat.lt_of_lt_of_le hg hk.size, by rw [k]; exact h0, by rw [k]; exact h1, by rw [k]; exact h2⟩, h.room, h.small⟩
structure FoRel (w : World) (q : WQ) (L : WL) (l : List Ev) (v5 iv : Value) (wr : World) : Prop where
  ex : ∃ (i : Nat) (q' : WQ), iv = .int .i64 i ∧ i ≤ l.length ∧ WAt wr q' (fireAll L (l.take i)) ∧ q'.t = q.t ∧ (∀ j, WQs q' j → WQs q j) ∧ Kept (WQs q) w wr ∧ ToAt w.heap.size wr v5 (toldAll L (l.take i))
structure FiRel (w : World) (q q4 : WQ) (M : WL) (v18 : Value) (eb : Nat) (T : List To) (tl : List Int) (e : Ev) (v5 iv : Value) (wx : World) : Prop where
  ex : ∃ (j : Nat), iv = .int .i64 j ∧ j ≤ tl.length ∧ ToAt w.heap.size wx v5 (T ++ (tl.take j).map (fun s => (s, e))) ∧ WAt wx q4 M ∧ IRow w.heap.size wx v18 tl ∧ wx.heap[eb]? = some (EvO e.kind e.path e.zx) ∧ Kept (WQs q) w wx
theorem rows_apart {B1 B2 n1 n2 s1 s2 : Nat} {e1 e2 : TypeId} {v1 v2 : Value} {x1 x2 : List Value} (h1 : w.ownsRow B1 e1 s1 v1 n1 x1) (h2 : w.ownsRow B2 e2 s2 v2 n2 x2) (hne : e1 ≠ e2) {k : Nat} (k1 : v1.ownBlock = some k) (k2 : v2.ownBlock = some k) : False := by
  obtain ⟨_, _, c1, g1⟩ := own_lo h1 k1
  obtain ⟨_, _, c2, g2⟩ := own_lo h2 k2
  rw [g1] at g2
  injection g2 with g2
  injection g2 with _ g2
  exact hne g2
def FirePost (w : World) (q : WQ) (L : WL) (l : List Ev) (e : Ending) (w' : World) : Prop := ∃ v, e = .returned v ∧ ToAt w.heap.size w' v (toldAll L l) ∧ ∃ q', WAt w' q' (fireAll L l) ∧ q'.t = q.t ∧ (∀ j, WQs q' j → WQs q j) ∧ Kept (WQs q) w w'
set_option maxRecDepth 100000 in
set_option maxHeartbeats 2000000 in
theorem fire_any (h : WAt w q L) (a : Option Addr) (cap : Nat) (l : List Ev) (hl : EvR w a l) (hg : ∀ b off s, a = some ⟨b, off, s⟩ → ¬ WQs q b) (hT : totW L ≤ 3000000000000) :
    Calls Try.prog 31 #[.pointer (some ⟨q.t, 0, none⟩), .slice a l.length cap] w (FirePost w q L l) := by
  have HH := Lib.hid h
  have HL := Lib.hid hl
  have HG := Lib.hid hg
  have hroom := hl.room
  have hqlt := h.lt
  have HQ := Lib.hid hqlt
  clear h hl hg hqlt
  go_enter Try.func31, Try.ntmps31
  go_wp2_with fail
  go_loopw [5, 12] (fun v5 iv wr => FoRel w q L l v5 iv wr) (fun _ iv _ => l.length - (Go.RowKit.intOf iv).toNat)
  case atStart => exact ⟨0, q, rfl, Nat.zero_le _, HH.out, rfl, fun j h => h, Kept.refl _ _, World.ownsRow_nil _ _ _ _⟩
  case round =>
    obtain ⟨i, q', rfl, hi, hW, hqt, hqs, hkw, hrow⟩ := hrel.ex
    clear hrel
    obtain ⟨wo, hwo⟩ : ∃ wo, wo = wr := ⟨_, rfl⟩
    subst hwo
    have HW := Lib.hid hW
    have HQT := Lib.hid hqt
    have HQS := Lib.hid hqs
    have HKW := Lib.hid hkw
    have HR := Lib.hid hrow
    obtain ⟨a5, c5, rfl⟩ := own_shape hrow
    clear hW hqt hqs hkw hrow
    by_cases hlt : i < l.length
    · obtain ⟨g, off, rfl, hgl, c0, c1, c2⟩ := (HL.out.kept HKW.out HG.out).at_ i hlt
      obtain ⟨e, he⟩ : ∃ e, l[i] = e := ⟨_, rfl⟩
      rw [he] at c0 c1 c2
      have HT1 : Hid (l.take (i + 1) = l.take i ++ [e]) := Lib.hid (by rw [List.take_succ_eq_append_getElem hlt, he])
      have hes : e.path.size ≤ 140737488355328 := by rw [← he]; exact HL.out.small _ (List.getElem_mem hlt)
      have hkA : Kept (fun _ => False) wo (wo.alloc (EvO e.kind e.path e.zx)) := (Kept.refl _ _).alloc _
      have hbx := heap_alloc_new wo (EvO e.kind e.path e.zx)
      obtain ⟨x0, x1, x2⟩ := ev_cells hbx
      have HBX := Lib.hid hbx
      have HKA := Lib.hid hkA
      have htot : totW (fireAll L (l.take i)) + (toldAll L (l.take i)).length ≤ 3000000000000 := Nat.le_trans (tot_all _ L) hT
      have HLL := HW.out.ok.len_tot
      have HM := Lib.hid (meet_any (HW.out.kept0 hkA) e.kind e.path e.zx hes (by omega))
      rw [HQT.out] at HM
      have HTOT : Hid ((toldAll L (l.take i)).length + (toldL e.kind e.path (fireAll L (l.take i))).length ≤ 3000000000000) := Lib.hid (by
        have := tot_fire e.kind e.path (fireAll L (l.take i)); omega)
      clear hkA hbx he htot HLL hes
      unfold EvO at x0 x1 x2 HM HBX HKA
      go_wp2_with (first
        | (go_at_call 57; refine HM.out.mono ?_; rintro ee w4 ⟨v18, rfl, hv18, q4, hq4, hqt4, hqs4, hk4⟩
           have HV18 := Lib.hid hv18
           have HQ4 := Lib.hid hq4
           have HT4 := Lib.hid hqt4
           have HS4 := Lib.hid hqs4
           have HK4 := Lib.hid hk4
           obtain ⟨a18, c18, rfl⟩ := own_shape hv18
           clear hv18 hq4 hqt4 hqs4 hk4)
        | fail)
      obtain ⟨tl, htl⟩ : ∃ tl, toldL e.kind e.path (fireAll L (l.take i)) = tl := ⟨_, rfl⟩
      have HTL := Lib.hid htl
      rw [htl] at HV18 HTOT ⊢
      obtain ⟨T, hT0⟩ : ∃ T, toldAll L (l.take i) = T := ⟨_, rfl⟩
      have HT0 := Lib.hid hT0
      rw [hT0] at HR HTOT ⊢
      have htl3 : tl.length ≤ 3000000000000 := by have := HTOT.out; omega
      have hbnd : ∀ j, WQs q' j → j < w.heap.size := fun j e => HQ.out _ (HQS.out _ e)
      have hwr := HKW.out.size
      have HB4 := Lib.hid ((HK4.out.block _ (by simp) (fun e => by have := hbnd _ e; omega)).trans HBX.out)
      have HR4 := Lib.hid (ownKept (ownKept HR.out HKA.out (fun _ _ f => f)) HK4.out (fun j hj e => by have := hbnd _ e; have := (own_lo HR.out hj).1; omega))
      have HV4 : Hid (IRow w.heap.size w4 (.slice a18 tl.length c18) tl) := Lib.hid ⟨HV18.out.1, HV18.out.2.imp id (fun ⟨g, cap, cur, e1, e2, e3⟩ => ⟨g, cap, cur, e1, by simp at e2; omega, e3⟩)⟩
      have HK5 := Lib.hid ((HKW.out.trans (HKA.out.mono (T := WQs q) (fun _ _ f => f.elim))).trans (HK4.out.mono (T := WQs q) (fun j hj e => HQS.out _ e)))
      clear htl hT0 x0 x1 x2 c0 c1 c2 hbnd
      go_loopw [5, 20] (fun v5 iv wx => FiRel w q q4 (fireL e.kind e.path (fireAll L (l.take i))) (.slice a18 tl.length c18) wo.heap.size T tl e v5 iv wx) (fun _ iv _ => tl.length - (Go.RowKit.intOf iv).toNat)
      case atStart => exact ⟨0, rfl, Nat.zero_le _, by simpa using HR4.out, HQ4.out, HV4.out, HB4.out, HK5.out⟩
      case round =>
        obtain ⟨j, rfl, hj, hrow, hWx, hvx, hbx, hkx⟩ := hrel.ex
        clear hrel
        have HRX := Lib.hid hrow
        have HWX := Lib.hid hWx
        have HVX := Lib.hid hvx
        have HBX5 := Lib.hid hbx
        have HKX := Lib.hid hkx
        obtain ⟨a6, c6, rfl⟩ := own_shape hrow
        by_cases hlt2 : j < tl.length
        · obtain ⟨va', vc', ev, hc2⟩ := own_cell hvx
          injection ev with e1 e2 e3
          subst e1
          obtain ⟨g, h1, h2, h3, hcc, _⟩ := hc2 j (.int .i64 tl[j]) (by rw [List.getElem?_map, List.getElem?_eq_getElem hlt2]; rfl)
          subst h1
          have HTT : Hid (tl.take (j + 1) = tl.take j ++ [tl[j]]) := Lib.hid (by rw [List.take_succ_eq_append_getElem hlt2])
          obtain ⟨s, hs⟩ : ∃ s, tl[j] = s := ⟨_, rfl⟩
          rw [hs] at hcc HTT
          obtain ⟨y0, y1, y2⟩ := ev_cells hbx
          have hlen : (T ++ (tl.take j).map (fun s => (s, e))).length + 1 ≤ 3000000000000 := by
            have := HTOT.out
            rw [List.length_append, List.length_map, List.length_take]; omega
          have hbase := hkx.size
          clear hs hc2 e2 e3 hrow hWx hvx hbx hkx
          go_wp2_with (first
            | (at_builtin; refine wpList_row1 tyTo rfl _ _ rfl rfl HRX.out [.int .i64 s, .int .i64 e.kind, .string e.path, .int .i64 e.zx] rfl rfl (by simp [Value.oneCell']) (by omega) (by unfold maxLen; omega) hbase ?_; intro v6' w6 hown6 hg6)
            | fail)
          have hal : Kept (fun _ => False) wr (wr.alloc (.cells #[.int .i64 s, .int .i64 e.kind, .string e.path, .int .i64 e.zx] 72)) := (Kept.refl _ _).alloc _
          have hR1 := ownKept HRX.out hal (fun _ _ f => f)
          have hV1 := ownKept HVX.out hal (fun _ _ f => f)
          have hk6 := Kept.of_grownBy hg6
          have hlo : ∀ b, (Value.slice a6 (T ++ (tl.take j).map (fun s => (s, e))).length c6).ownBlock = some b → w.heap.size ≤ b := fun b hb => (own_lo HRX.out hb).1
          have HTS : Hid (∀ b, WQs q4 b → b < w.heap.size) := Lib.hid (fun b hb => HQ.out _ (HQS.out _ (HS4.out _ hb)))
          go_roundw
          case rel =>
            refine ⟨j + 1, by go_num, by omega, ?_, (HWX.out.kept0 hal).kept hk6 (fun b hb e' => by have := hlo b e'.symm; have := HTS.out b hb; omega), ownKept hV1 hk6 (fun b hb e' => rows_apart hR1 hV1 (by decide) e'.symm hb), ?_, (HKX.out.trans (hal.mono (T := WQs q) (fun _ _ f => f.elim))).trans' hk6 (fun b hb e' => by have := hlo b e'.symm; omega)⟩
            · have h8 := hown6
              have e8 : toC (T ++ (tl.take j).map (fun s => (s, e))) ++ [.int .i64 s, .int .i64 e.kind, .string e.path, .int .i64 e.zx] = toC (T ++ (tl.take (j + 1)).map (fun s => (s, e))) := by
                rw [HTT.out, List.map_append, ← List.append_assoc, toC_append (_ ++ _)]; rfl
              have e9 : (T ++ (tl.take j).map (fun s => (s, e))).length + 1 = (T ++ (tl.take (j + 1)).map (fun s => (s, e))).length := by
                rw [HTT.out]; simp; omega
              rw [e8, e9] at h8; exact h8
            · rw [hk6.block _ (lt_of_block ((hal.block _ (lt_of_block HBX5.out) (fun f => f)).trans HBX5.out)) (fun e' => by
                obtain ⟨_, _, cur, g2⟩ := own_lo hR1 e'.symm
                rw [(hal.block _ (lt_of_block HBX5.out) (fun f => f)).trans HBX5.out] at g2
                unfold EvO at g2
                injection g2 with g2
                injection g2 with _ g2
                exact absurd g2 (by decide))]
              exact (hal.block _ (lt_of_block HBX5.out) (fun f => f)).trans HBX5.out
          case measure => simp [Go.RowKit.intOf]; omega
        · have hge : tl.length ≤ j := by omega
          have hrow' : ToAt w.heap.size wr (.slice a6 (T ++ (tl.take j).map (fun s => (s, e))).length c6) (toldAll L (l.take (i + 1))) := by
            have : toldAll L (l.take (i + 1)) = T ++ (tl.take j).map (fun s => (s, e)) := by
              rw [HT1.out, toldAll_snoc, HT0.out, HTL.out, List.take_of_length_le hge]
            rw [this]; exact HRX.out
          have HROW := Lib.hid hrow'
          clear hrow hWx hvx hbx hkx hrow'
          go_wp2_with fail
          go_roundw
          case rel => exact ⟨i + 1, q4, by go_num, by omega, by rw [HT1.out, fireAll_snoc]; exact HWX.out, HT4.out.trans HQT.out, fun b hb => HQS.out _ (HS4.out _ hb), HKX.out, HROW.out⟩
          case measure => simp [Go.RowKit.intOf]; omega
    · have hge : l.length ≤ i := by omega
      have HTK : Hid (l.take i = l) := Lib.hid (List.take_of_length_le hge)
      go_wp2_with fail
      go_ret
      refine ⟨_, rfl, ?_, q', ?_, HQT.out, HQS.out, HKW.out⟩
      · show ToAt _ _ (.slice a5 (toldAll L (l.take i)).length c5) (toldAll L l)
        have := HR.out
        rw [HTK.out] at this ⊢; exact this
      · have := HW.out
        rw [HTK.out] at this; exact this
end
end Go.Proofs.Ytjpoebajljbocaa
