/- The document's own answers of layer 2: what they take up, whole or wrong; lists of rows and of texts. -/
import Derived.Test.YtngcfnffbggniaaRget
import Derived.Test.YtngcfnffbggniaaGacl
namespace Go.Proofs.Ytngcfnffbggniaa
open Go.ChangeShapes Go.WideShapes Go.ChangeAt Go.RowKit
set_option linter.unusedVariables false

/-- E, if nothing is wrong -/
def WkE {α : Type} (e : Nat) (E : CellsOf α) : CellsOf α := fun w ok cs x => e = 0 → E w ok cs x
theorem WkE_ok {α : Type} {e : Nat} {E : CellsOf α} (hE : E.Ok) : (WkE e E).Ok := ⟨fun h hk hd h0 => hE.keep (h h0) hk hd, fun h hm h0 => hE.mono (h h0) hm⟩

def FGPost {α : Type} (E : CellsOf α) (n : Nat) (nl : List Nat) (w : World) (b : Nat) (s : ByteArray) (x : α) (q e' : Nat) (en : Ending) (w' : World) : Prop :=
  ∃ cs p', en = .returned (.agg cs.toArray) ∧ Flat n cs ∧ (∀ i ∈ nl, cs[i]? = some (.slice none 0 0)) ∧ WkE e' E w' (New w) cs x ∧ FAt w' b s p' e' ∧ (e' = 0 → p' = q) ∧ Kept (RS b) w w'
def FLPost {α : Type} (E : CellsOf α) (sz : Nat) (w : World) (b : Nat) (s : ByteArray) (xs : List α) (q e' : Nat) (en : Ending) (w' : World) : Prop :=
  ∃ sv p', en = .returned sv ∧ IsSl sv ∧ (e' = 0 → ListR E w' (New w) sz sv xs) ∧ FAt w' b s p' e' ∧ (e' = 0 → p' = q) ∧ Kept (RS b) w w'

theorem AccR.weak {α : Type} {E : CellsOf α} {w0 w : World} {T : TypeId} {sz : Nat} {acc : Value} {ys : List α} {e e' : Nat} (h : AccR (WkE e E) w0 w T sz acc ys) (he : e' = 0 → e = 0) : AccR (WkE e' E) w0 w T sz acc ys := by
  obtain ⟨rows, h1, h2, h3, h4⟩ := h
  exact ⟨rows, h1, h2, h3, fun i hi hi' h0 => h4 i hi hi' (he h0)⟩
theorem AccR.isSl {α : Type} {E : CellsOf α} {w0 w : World} {T : TypeId} {sz : Nat} {acc : Value} {ys : List α} (h : AccR E w0 w T sz acc ys) : IsSl acc := by
  obtain ⟨rows, h1, _⟩ := h
  rcases h1.2 with ⟨rfl, _⟩ | ⟨g, cap, cur, rfl, _⟩
  · exact ⟨_, _, _, rfl⟩
  · exact ⟨_, _, _, rfl⟩
theorem ListR.weak {α : Type} {E : CellsOf α} {w : World} {ok : Nat → Prop} {sz : Nat} {v : Value} {l : List α} {e : Nat} (h : ListR (WkE e E) w ok sz v l) : e = 0 → ListR E w ok sz v l := by
  intro h0
  obtain ⟨rows, h1, h2, h3⟩ := h
  exact ⟨rows, h1, h2, fun i hi hi' => h3 i hi hi' h0⟩

/-- at the head of a loop that takes up n things -/
structure FGetRel {α : Type} (E : CellsOf α) (f : Fmt α) (w0 : World) (b : Nat) (s : ByteArray) (T : TypeId) (sz n p e : Nat) (acc iv : Value) (wr : World) : Prop where
  ex : ∃ k p', iv = .int .i64 (k : Nat) ∧ k ≤ n ∧ AccR (WkE (getN f.get k s.data.toList p e).2.2 E) w0 wr T sz acc (getN f.get k s.data.toList p e).1 ∧
    FAt wr b s p' (getN f.get k s.data.toList p e).2.2 ∧ ((getN f.get k s.data.toList p e).2.2 = 0 → p' = (getN f.get k s.data.toList p e).2.1) ∧ Kept (RS b) w0 wr

theorem getN_wrong {α : Type} {f : Fmt α} (hf : f.Ok) {k n : Nat} (hk : k ≤ n) {l : List UInt8} {p e : Nat} (h : (getN f.get k l p e).2.2 ≠ 0) : (getN f.get n l p e).2.2 = (getN f.get k l p e).2.2 := by
  obtain ⟨m, rfl⟩ : ∃ m, n = k + m := ⟨n - k, by omega⟩
  clear hk
  induction m with
  | zero => rfl
  | succ m ih =>
    rw [show k + (m + 1) = (k + m) + 1 from rfl, getN_snoc]
    dsimp only
    rw [hf.stays _ _ _ (by rw [ih]; exact h), ih]

theorem refcnt_any (w : World) (b : Nat) (s : ByteArray) (p pos e : Nat) (hF : FAt w b s p e) (hp : e = 0 → p = pos) {n q e' : Nat} (h : rCount s.data.toList 256 pos e = (n, q, e')) :
    Calls Try.prog 92 #[.pointer (some ⟨b, 0, none⟩)] w (FPost w b s (.int .i64 n) q e') := by
  have hc := fcount_any 256 w b s p pos e hF hp (by unfold I64; omega)
  rw [h] at hc
  have HC := Lib.hid hc; clear hc
  clear h hp
  go_enter Try.func92, Try.ntmps92
  go_wp2_with fail
  refine HC.out.mono ?_
  rintro en w1 ⟨p1, rfl, hF1, hp1, hk1⟩
  have HP := Lib.hid hp1; clear hp1
  go_wp2_with fail
  go_ret
  exact ⟨p1, rfl, hF1, HP.out, hk1⟩

set_option maxRecDepth 100000 in
set_option maxHeartbeats 800000 in
theorem reftake_acls (w : World) (b : Nat) (s : ByteArray) (p pos e : Nat) (hF : FAt w b s p e) (hp : e = 0 → p = pos) {xs : List Acl} {q e' : Nat} (h : (listF aclF).get s.data.toList pos e = (xs, q, e')) :
    Calls Try.prog 136 #[.pointer (some ⟨b, 0, none⟩)] w (FLPost aclE 2 w b s xs q e') := by
  obtain ⟨i0, hi, hz0, hz1, hz2⟩ := info_parts info_acl
  have hcl := rCount_le s.data.toList 256 pos e
  rcases h1 : rCount s.data.toList 256 pos e with ⟨n, p1, e1⟩
  have HCC := Lib.hid (refcnt_any w b s p pos e hF hp h1)
  rw [h1] at hcl
  simp only [listF, h1] at h hcl
  have HH := Lib.hid h; clear h
  have HZ1 := Lib.hid hz1; clear hz1
  have HZ2 := Lib.hid hz2; clear hz2
  have HZ0 := Lib.hid hz0; clear hz0
  have HI := Lib.hid hi; clear hi
  clear h1 hp
  have hn : n ≤ 256 := by omega
  clear hcl
  have hbw := lt_of_block hF.at_
  clear hF
  go_enter Try.func136, Try.ntmps136
  go_wp2_with fail
  refine HCC.out.mono ?_
  rintro en w0 ⟨p0, rfl, hF0, hp0, hk0⟩
  have HP0 := Lib.hid hp0; clear hp0
  go_wp2_with fail
  go_loopw [3, 5] (fun acc iv wr => FGetRel aclE aclF w b s 73 2 n p1 e1 acc iv wr) (fun _ iv _ => n - (intOf iv).toNat)
  case atStart => exact ⟨0, p0, rfl, Nat.zero_le _, AccR.nil _ _ _ _ _, hF0, HP0.out, hk0⟩
  case round =>
    obtain ⟨k, pk, rfl, hkn, hacc, hFk, hpk, hK⟩ := hrel.ex
    clear hrel HCC hF0 hk0 HP0
    have c2 := hFk.c2
    by_cases hlt : k < n
    · have hkl : (k : Int) < (n : Int) := by omega
      by_cases hz : (getN aclF.get k s.data.toList p1 e1).2.2 = 0
      · rcases hgn : getN aclF.get k s.data.toList p1 e1 with ⟨ys, qk, ek⟩
        have hlen := getN_len (aclF).get k s.data.toList p1 e1
        have hsn := getN_snoc (aclF).get k s.data.toList p1 e1
        rw [hgn] at hacc hFk hpk c2 hz hlen hsn
        simp only at hacc hFk hpk c2 hz hlen hsn
        subst hz
        rcases g1 : numF.get s.data.toList qk 0 with ⟨a1, qa, ea⟩
        rcases g2 : (textF 4096).get s.data.toList qa ea with ⟨a2, qb, eb⟩
        have hone : aclF.get s.data.toList qk 0 = (⟨a1, a2⟩, qb, eb) := by simp only [aclF, isoF, seqF, g1, g2]
        rw [hone] at hsn
        simp only at hsn
        have i1 : I64 a1 := num_fit g1
        have i2 : Str a2 := text_fit (by decide) g2
        have K1 := Lib.hid (fnum_of g1)
        have K2 := Lib.hid (ftext_of (by decide) g2)
        have HSN := Lib.hid hsn
        have HPK := Lib.hid hpk
        clear hgn g1 g2 hone hsn hpk
        go_wp2_with fail
        refine (K1.out _ _ _ hFk HPK.out).mono ?_
        rintro en w1 ⟨pa, rfl, hFa, hpa, hka⟩
        have HPA := Lib.hid hpa; clear hpa
        go_wp2_with fail
        refine (K2.out _ _ _ hFa HPA.out).mono ?_
        rintro en w2 ⟨pb, rfl, hFb, hpb, hkb⟩
        have HPB := Lib.hid hpb; clear hpb
        have hka2 := hka.trans hkb
        have hacc1 := (hacc.keep (WkE_ok aclE_ok) hka2 (fun g hg hs => by have hs' : g = b := hs; have hg' : w.heap.size ≤ g := hg; omega)).weak (e' := eb) (fun _ => rfl)
        have hE2 : WkE eb aclE w2 (fun g => w.heap.size ≤ g ∧ some g ≠ u3.ownBlock) [.int .i64 a1, .string a2] ⟨a1, a2⟩ := fun _ => ⟨rfl, i1, i2⟩
        have hfl : Flat 2 [Value.int .i64 a1, Value.string a2] := ⟨rfl, by simp [Value.oneCell']⟩
        have hwl : w.heap.size ≤ w2.heap.size := Nat.le_trans hK.size hka2.size
        have hK1 := hK.trans hka2
        clear hacc hka hkb hK hka2 hFa hFk K1 K2 c2 HPA HPK
        go_wp2_with (first | (refine wpList_one rfl 22 73 (.tmp 29) rfl (.agg #[.int .i64 a1, .string a2]) [.int .i64 a1, .string a2] rfl rfl i0 _ Try.underlying22 HI.out HZ0.out (by rw [HZ1.out]; rfl) (by decide) (by decide) ?_) | (at_builtin; go_loud (refine wpList_push (WkE_ok aclE_ok) w w2 rfl (.tmp 26) (.tmp 30) 22 rfl 73 i0 _ 2 24 Try.underlying22 HI.out HZ0.out HZ1.out HZ2.out rfl (by decide) u3 _ hacc1 _ _ hE2 hfl rfl rfl (by omega) (by decide) hwl ?_); intro v' w' hacc' hk'))
        go_roundw
        case rel => exact ⟨k + 1, pb, by go_num, hlt, by rw [HSN.out]; exact hacc', by rw [HSN.out]; exact hFb.keep hk' (fun hs => by have hs' : w.heap.size ≤ b := hs; omega), by rw [HSN.out]; exact HPB.out, Kept.trans' hK1 hk' (fun g hg hs => by have hs' : w.heap.size ≤ g := hs; omega)⟩
        case measure => simp [intOf]; omega
      · have hne : (((getN aclF.get k s.data.toList p1 e1).2.2 : Nat) : Int) ≠ 0 := by omega
        have hfin : e' ≠ 0 := by
          have h2 := getN_wrong aclF_ok hkn hz
          rw [HH.out] at h2
          simp only at h2
          omega
        have hee : (getN aclF.get k s.data.toList p1 e1).2.2 = e' := by
          have h2 := getN_wrong aclF_ok hkn hz
          rw [HH.out] at h2
          exact h2.symm
        have hsl := hacc.isSl
        rw [hee] at hFk c2 hne
        have HSL := Lib.hid hsl
        clear hacc hpk hz hee hsl HH
        have hneb : (((e' : Nat) : Int) == 0) = false := by simpa using hne
        go_wp2_with fail
        go_ret
        exact ⟨_, pk, rfl, HSL.out, fun h0 => absurd h0 hfin, hFk, fun h0 => absurd h0 hfin, hK⟩
    · have hkl : ¬ (k : Int) < (n : Int) := by omega
      obtain rfl : k = n := by omega
      have hlist := hacc.list (WkE_ok aclE_ok)
      have hsl := hacc.isSl
      rw [HH.out] at hlist hFk hpk c2
      have HL := Lib.hid hlist.weak
      have HSL := Lib.hid hsl
      have HPK := Lib.hid hpk
      clear hacc hlist hpk hsl HH
      go_wp2_with fail
      go_ret
      exact ⟨_, pk, rfl, HSL.out, HL.out, hFk, HPK.out, hK⟩
end Go.Proofs.Ytngcfnffbggniaa
