/- DiskLasts holds: behind any crash each sector that was not written since the last sync is as it was synced; each other one is a beginning of what was written last, and the end of what it had (D3 to D6). No condition. -/
import Derived.Test.YtkabdhpimokigaaRows
import Derived.Test.YtkabdhpimokigaaDx
import Derived.WalkKit
import Derived.ProofKit
import Derived.OpenShut
import Derived.ShutString
import Derived.ChangeOld
import Derived.Below
namespace Go.Proofs.Ytkabdhpimokigaa.diskLasts
open Go.ChangeShapes Go.WideShapes Go.ChangeAt Go.RowKit
open Go.ChangeMaps (open_string shut_string)
open Go.Maps Go.Sort Go.Shelf Go.Proofs
set_option linter.unusedVariables false
set_option linter.unusedSimpArgs false

def zstr : Value := .string ⟨zeros.toArray⟩
theorem zrow : List.replicate 32 zstr = strV (fun _ => zeros) := by rfl
theorem conv_zeros (w : World) : Sem.run Try.prog (convert 39 9 (.slice (some ⟨w.heap.size, 0, none⟩) 64 64)) (w.alloc (.cells (secL zeros).toArray 5)) = .ok (.string ⟨zeros.toArray⟩) (w.alloc (.cells (secL zeros).toArray 5)) :=
  run_convert_bytes_back (P := Try.prog) _ 39 9 5 ⟨w.heap.size, 0, none⟩ 64 zeros Try.underlying39 Try.underlying5 Try.underlying9 (fun j hj => by
    rw [Addr.add_mid, cell_of_row _ w.heap.size (0 + j) _ _ (0, 0) (heap_alloc_last w _), List.getElem?_toArray]
    simp [secL, bcell, hj])

theorem row_alloc {w : World} {base : Nat} {e : TypeId} {size n : Nat} {v : Value} {xs : List Value} (h : w.ownsRow base e size v n xs) (o : Obj) : (w.alloc o).ownsRow base e size v n xs :=
  row_kept h ((Kept.refl (fun _ => False) w).alloc o) (fun _ _ f => f)

theorem kept_row {w w' : World} {base : Nat} {e : TypeId} {size n : Nat} {v : Value} {xs : List Value} (h : w.ownsRow base e size v n xs) (hg : w.grownBy w' v.ownBlock) : Kept (fun j => base ≤ j) w w' :=
  (Kept.of_grownBy hg).mono (fun j hj e => by
    rcases h.2 with ⟨rfl, _⟩ | ⟨g, cap, cur, rfl, hbg, r⟩
    · exact absurd e (by simp [Value.ownBlock])
    · simp only [Value.ownBlock, Option.some.injEq] at e
      omega)
structure Rel1 (w2 : World) (ov nv : Value) (wr : World) : Prop where
  ex : ∃ (k : Nat) (v : Value), ov = v ∧ k ≤ 32 ∧ nv = .int .i64 k ∧ wr.ownsRow w2.heap.size 9 1 v k (List.replicate k zstr) ∧ Kept (fun j => w2.heap.size ≤ j) w2 wr

structure Rel2 (w : World) (b g len : Nat) (iv : Value) (wr : World) : Prop where
  ex : ∃ (k : Nat) (d : DSt) (L : Nat → List UInt8), iv = .int .i64 k ∧ k ≤ 60 ∧ k ≤ len ∧ Dx w.heap.size (fun k => k = g) wr b d ∧ La1 d k L ∧ StrsAt wr g L ∧ Below w.heap.size w wr

structure Rel3 (w : World) (b g gl len : Nat) (L : Nat → List UInt8) (dv iv : Value) (wr : World) : Prop where
  ex : ∃ (k : Nat) (d : DSt) (last : Nat → List UInt8) (dd : Bool), dv = .bool dd ∧ iv = .int .i64 k ∧ k ≤ 60 ∧ k ≤ len ∧ Dx w.heap.size (fun k => k = g ∨ k = gl) wr b d ∧ La2 d (61 + k) L last ∧ d.dead = dd ∧ StrsAt wr g L ∧ StrsAt wr gl last ∧ Below w.heap.size w wr

structure Rel4 (w : World) (b g gl : Nat) (d : DSt) (L last : Nat → List UInt8) (nv : Value) (wr : World) : Prop where
  ex : ∃ k : Nat, nv = .int .i64 k ∧ k ≤ 32 ∧ Dx w.heap.size (fun k => k = g ∨ k = gl) wr b d ∧ StrsAt wr g L ∧ StrsAt wr gl last ∧ Below w.heap.size w wr

def isTorn (s la lo : List UInt8) (c : Nat) : Bool := s == la.take c ++ lo.drop c
theorem torn_at {s la lo : List UInt8} {c : Nat} (hc : c ≤ 64) (h1 : la.length = 64) (h2 : lo.length = 64) :
    (s == ((⟨la.toArray⟩ : ByteArray).extract 0 c ++ (⟨lo.toArray⟩ : ByteArray).extract c 64).toList) = isTorn s la lo c := by
  unfold isTorn
  congr 1
  rw [ByteArray.toList_eq, ByteArray.data_append]
  simp only [Array.toList_append, ByteArray.data_extract, Array.toList_extract]
  simp [List.extract_eq_take_drop, List.extract]
  rw [List.take_of_length_le (by simp [h2])]
structure Rel5 (w4 : World) (s la lo : List UInt8) (tv bv : Value) (wr : World) : Prop where
  ex : ∃ (c m : Nat), bv = .int .i64 c ∧ c ≤ 65 ∧ tv = .bool ((List.range c).any (isTorn s la lo)) ∧ wr = w4.drewN m

theorem half {y : Int} (h1 : -9223372036854775808 ≤ y) (h2 : y ≤ 9223372036854775807) : -9223372036854775808 ≤ y.tdiv 2 ∧ y.tdiv 2 ≤ 9223372036854775807 := by
  rcases Int.lt_or_le y 0 with h | h
  · have : y.tdiv 2 = -((-y) / 2) := by rw [← Int.tdiv_eq_ediv_of_nonneg (by omega), Int.neg_tdiv, Int.neg_neg]
    omega
  · rw [Int.tdiv_eq_ediv_of_nonneg h]; omega

set_option maxHeartbeats 8000000 in
set_option maxRecDepth 100000 in
theorem walk (a1 : Option Addr) (c1 : Nat) (first : List Int) (a2 : Option Addr) (c2 : Nat) (late : List Int) (x : Int) (a3 : Option Addr) (c3 : Nat) (how : List Int) (w : World)
    (hx1 : -9223372036854775808 ≤ x) (hx2 : x ≤ 9223372036854775807) (l1 : first.length ≤ maxLen) (l2 : late.length ≤ maxLen)
    (h1 : HowAt w (fun k => k < w.heap.size) (.slice a1 first.length c1) first) (h2 : HowAt w (fun k => k < w.heap.size) (.slice a2 late.length c2) late) (h3 : HowAt w (fun k => k < w.heap.size) (.slice a3 how.length c3) how) :
    Calls Try.prog 4 #[.slice a1 first.length c1, .slice a2 late.length c2, .int .i64 x, .slice a3 how.length c3] w fun e w' => e = .returned (.bool true) ∧ Below w.heap.size w w' := by
  have H1 := Lib.hid h1
  have H2 := Lib.hid h2
  have H3 := Lib.hid h3
  unfold maxLen at l1 l2
  clear h1 h2 h3
  obtain ⟨i0, hsi, hsz0, hss, hsb⟩ := info_parts string_info
  have HSI := Lib.hid hsi
  have HSZ := Lib.hid hsz0
  have HSS := Lib.hid hss
  have HSB := Lib.hid hsb
  clear hsi hsz0 hss hsb
  go_enter Try.func4, Try.ntmps4
  go_wp2_with fail
  refine (awake_any _).mono ?_
  rintro e w1 ⟨rfl, hk1⟩
  have hb1 := Lib.hid (hk1.bel (Nat.le_refl _))
  go_wp2_with fail
  refine (dk_new _ 32 (by decide) (by decide)).mono ?_
  rintro e w2 ⟨b, rfl, h2, hk2⟩
  have hle := hk1.size
  have HB2 := Lib.hid (hb1.out.trans (hk2.bel hle))
  have h2' : Dk w.heap.size w2 b (newD 32) := by
    obtain ⟨sb, mb, nn, hD, e1, e2, e3⟩ := h2.ex
    exact ⟨sb, mb, nn, hD, by omega, by omega, by omega⟩
  have HD2 := Lib.hid h2'
  clear h2 h2' hk1 hk2 hb1 hle
  go_wp2_with fail
  go_loopw [12, 13] (fun ov nv wr => Rel1 w2 ov nv wr) (fun _ nv _ => 32 - (Go.RowKit.intOf nv).toNat)
  case atStart => exact ⟨0, _, rfl, by omega, rfl, World.ownsRow_nil w2 _ _ 1, Kept.refl _ _⟩
  case round =>
    obtain ⟨k, ov, rfl, hk32, rfl, hown, hk⟩ := hrel.ex
    clear hrel
    have HOWN := Lib.hid hown
    have HK := Lib.hid hk
    clear hown hk
    by_cases hlt : k < 32
    · have hmk := make_64 wr
      have hcv := conv_zeros wr
      have HCEL : Hid (∀ j u, [zstr][j]? = some u → (((wr.alloc (.cells (secL zeros).toArray 5)).alloc (.cells #[zstr] 9)).cell? ((⟨wr.heap.size + 1, 0, none⟩ : Addr).add j) = some u)) := Lib.hid (fun j u hj => by
        have hl := heap_alloc_last (wr.alloc (.cells (secL zeros).toArray 5)) (.cells #[zstr] 9)
        have hs1 : (wr.alloc (.cells (secL zeros).toArray 5)).heap.size = wr.heap.size + 1 := by simp
        rw [hs1] at hl
        rw [Addr.add_mid, cell_of_row _ (wr.heap.size + 1) (0 + j) _ _ (0, 0) hl]
        simpa using hj)
      have HK2 : Hid (Kept (fun j => w2.heap.size ≤ j) w2 ((wr.alloc (.cells (secL zeros).toArray 5)).alloc (.cells #[zstr] 9))) := Lib.hid ((HK.out.alloc _).alloc _)
      have HOWN2 := Lib.hid (row_alloc (row_alloc HOWN.out (.cells (secL zeros).toArray 5)) (.cells #[zstr] 9))
      go_wp2_with (at_builtin; refine wpList_append_own _ rfl _ _ 38 rfl w2.heap.size 9 i0 (.string ByteArray.empty) 1 16 Try.underlying38 HSI.out HSZ.out HSS.out HSB.out rfl (by decide) u12 k (List.replicate k zstr) rfl HOWN2.out ⟨wr.heap.size + 1, 0, none⟩ 1 1 [zstr] rfl rfl HCEL.out (by intro u hu; simp only [List.mem_singleton] at hu; subst hu; rfl) (by unfold maxLen; omega) (by omega) HK2.out.size (fun v' w' hown' hg' hnil' => ?_))
      have HOWN3 : Hid (w'.ownsRow w2.heap.size 9 1 v' (k + 1) (List.replicate (k + 1) zstr)) := Lib.hid (by rw [List.replicate_succ']; exact hown')
      have HK3 := Lib.hid (HK2.out.trans (kept_row HOWN2.out hg'))
      clear hown' hg' hnil' hmk hcv
      go_wp2_with fail
      go_roundw
      case rel => exact ⟨k + 1, v', rfl, by omega, by go_num, HOWN3.out, HK3.out⟩
      case measure => simp [Go.RowKit.intOf]; omega
    · have hge : 32 ≤ k := by omega
      obtain ⟨g, cap, rfl, hg2, hcap, hcap2, hstr⟩ := StrsAt.of_row (L := fun _ => zeros) (by have := HOWN.out; rw [show k = 32 by omega, zrow] at this; exact this) (fun _ _ => rfl)
      have hdx : Dx w.heap.size (fun k => k = g) wr b (newD 32) := by
        obtain ⟨sb, mb, nn, hD, e1, e2, e3⟩ := HD2.out.ex
        refine ⟨sb, mb, nn, hD.kept HK.out (fun j hj hj2 => by have := hD.inn j hj; omega), ⟨e1, e2, e3⟩, fun j hj => ?_⟩
        have hj' : j = g := hj
        subst hj'
        exact ⟨hstr.lt, fun hb => by have := hD.inn _ hb; omega⟩
      have HBW : Hid (Below w.heap.size w wr) := Lib.hid (HB2.out.trans (HK.out.below (fun j hj => by have hj : w2.heap.size ≤ j := hj; have := HB2.out.size; omega) HB2.out.size))
      have HDX := Lib.hid hdx
      have HSTR := Lib.hid hstr
      clear hdx hstr HK HOWN hlt
      go_wp2_with fail
      go_loopw [14] (fun iv wr => Rel2 w b g first.length iv wr) (fun iv _ => 60 - (Go.RowKit.intOf iv).toNat)
      case atStart => exact ⟨0, _, _, rfl, by omega, by omega, HDX.out, la1_new, HSTR.out, HBW.out⟩
      case round =>
        obtain ⟨k, d, L, rfl, hk60, hkl, hdx, hla, hstr, hbw⟩ := hrel.ex
        clear hrel HDX HSTR HBW
        have HDX := Lib.hid hdx
        have HLA := Lib.hid hla
        have HSTR := Lib.hid hstr
        have HBW := Lib.hid hbw
        clear hdx hla hstr hbw
        have HH1 := Lib.hid (fun (i : Nat) (hi : i < first.length) => by
          obtain ⟨g1, off1, ha, hg, hc⟩ := H1.out.ex_at hi
          exact (⟨g1, off1, ha, by rw [World.cell?_of_block (w := w) (HBW.out.block g1 hg)]; exact hc⟩ : ∃ g1 off1, a1 = some ⟨g1, off1, none⟩ ∧ wr.cell? ⟨g1, off1 + i, none⟩ = some (.int .i64 first[i])))
        by_cases hin : k < first.length
        · by_cases h60 : k < 60
          · obtain ⟨g1, off1, ha1, hcell⟩ := HH1.out k hin
            have hwf := H1.out.wf first[k] (List.getElem_mem hin)
            obtain ⟨y, hy⟩ : ∃ y, first[k] = y := ⟨_, rfl⟩
            rw [hy] at hcell hwf
            clear hy HH1
            subst ha1
            obtain ⟨q, hq, hq32⟩ : ∃ q : Nat, (fateN y : Int) % 32 = (q : Int) ∧ q < 32 := ⟨fateN y % 32, by omega, by omega⟩
            go_wp2_with fail
            refine (pick_any y 32 _ hwf.1 hwf.2 (by decide) (by decide)).mono ?_
            rw [hq]
            rintro e w5 ⟨rfl, rfl⟩
            go_wp2_with fail
            refine (filled_any y _ hwf.1 hwf.2).mono ?_
            rintro e w5 ⟨rfl, hk5⟩
            have HDX5 := Lib.hid (HDX.out.kept0 hk5)
            have HSTR5 := Lib.hid (HSTR.out.kept hk5 (fun f => f))
            have HBW5 := Lib.hid (HBW.out.trans (hk5.bel HBW.out.size))
            clear hk5
            obtain ⟨e1, e2⟩ := la1_write HLA.out hq32 (filledL_len y)
            have E2 := Lib.hid e2
            clear e2
            go_wp2_with fail
            refine (dx_write HDX5.out (q : Int) _ (by rw [HLA.out.acts]; omega)).mono ?_
            rintro e w6 ⟨he, h6, hk6⟩
            replace he := he.trans (ret_int e1)
            subst he
            have HDX6 := Lib.hid h6
            have hstr6 := HSTR5.out.kept hk6 (fun f => f.2 rfl)
            have HSTR6 := Lib.hid hstr6
            have HBW6 := Lib.hid (HBW5.out.trans (hk6.belX HBW5.out.size))
            have hc6 := hstr6.cell hq32
            have hf6 := hstr6.frozen q
            clear hstr6 h6 hk6 e1
            go_wp2_with fail
            go_roundw
            case rel =>
              have hks := (Kept.refl (fun k => k = g) w6).setCell (a := ⟨g, q, none⟩) (.inl rfl) (.string ⟨(filledL y).toArray⟩)
              exact ⟨k + 1, _, _, by go_num, by omega, by omega, HDX6.out.kept hks (fun _ _ e => e), E2.out, HSTR6.out.set hq32 (filledL_len y), HBW6.out.trans (hks.below (fun j hj => by have hj : j = g := hj; have := HB2.out.size; omega) HBW6.out.size)⟩
            case measure => simp [Go.RowKit.intOf]; omega
          · have hge60 : 60 ≤ k := by omega
            have hka : d.acts < 9223372036854775807 := by rw [HLA.out.acts]; omega
            clear HH1
            obtain ⟨q, hq, hq70⟩ : ∃ q : Nat, (fateN x : Int) % 70 = (q : Int) ∧ q < 70 := ⟨fateN x % 70, by omega, by omega⟩
            obtain ⟨e1, e2, e3, e4, e5⟩ := la2_start HLA.out q
            have E3 := Lib.hid e3
            have E4 := Lib.hid e4
            clear e3 e4
            go_wp2_with fail
            refine (dx_sync HDX.out hka).mono ?_
            rintro e w5 ⟨he, h5, hk5⟩
            replace he := he.trans (ret_int e1)
            subst he
            have HDX5 := Lib.hid h5
            have HSTR5 := Lib.hid (HSTR.out.kept hk5 (fun f => f.2 rfl))
            have HBW5 := Lib.hid (HBW.out.trans (hk5.belX HBW.out.size))
            clear h5 hk5 e1
            go_wp2_with fail
            refine (pick_any x 70 _ hx1 hx2 (by decide) (by decide)).mono ?_
            rw [hq]
            rintro e w6 ⟨rfl, rfl⟩
            go_wp2_with fail
            refine (dx_arm HDX5.out (q : Int) (by omega)).mono ?_
            rintro e w6 ⟨he, h6, hk6⟩
            replace he := he.trans (ret_int e2)
            subst he
            have HDX6 := Lib.hid h6
            have HSTR6 := Lib.hid (HSTR5.out.kept hk6 (fun f => f.2 rfl))
            have HBW6 := Lib.hid (HBW5.out.trans (hk6.belX HBW5.out.size))
            clear h6 hk6 e2
            generalize (armD (syncD d).1 (q : Int)).1 = dA at E3 E4 HDX6
            have hm : k + 1 ≤ 61 := by omega
            have E3' : Hid (La2 dA 61 L L) := Lib.hid (by have h := E3.out; exact ⟨h.n, Nat.le_trans h.acts hm, h.S, h.none, h.some⟩)
            clear E3 hm e5 hq hq70 hka
            have HLA' : Hid True := Lib.hid trivial
            clear HLA
            go_wp2_with (at_builtin; refine wpList_append_own _ rfl _ _ 38 rfl w6.heap.size 9 i0 (.string ByteArray.empty) 1 16 Try.underlying38 HSI.out HSZ.out HSS.out HSB.out rfl (by decide) (.slice none 0 0) 0 [] rfl (World.ownsRow_nil w6 _ _ 1) ⟨g, 0, none⟩ 32 cap (strV L) rfl (strV_len L) HSTR6.out.range (strV_one L) (by unfold maxLen; omega) (by omega) (Nat.le_refl _) (fun v' w' hown' hg' hnil' => ?_))
            obtain ⟨gl, capl, rfl, hgl2, hcapl, hcapl2, hstrl⟩ := StrsAt.of_row (L := L) (by rw [Nat.zero_add, List.nil_append] at hown'; exact hown') HSTR6.out.len
            have hkg : Kept (fun _ => False) w6 w' := (Kept.of_grownBy hg').mono (fun j _ e => by simp [Value.ownBlock] at e)
            have HDX7 : Hid (Dx w.heap.size (fun k => k = g ∨ k = gl) w' b dA) := Lib.hid (HDX6.out.more hkg hgl2 hstrl.lt)
            have HNE : Hid (g ≠ gl) := Lib.hid (by have := HSTR6.out.lt; omega)
            have HSTR7 := Lib.hid (HSTR6.out.kept hkg (fun f => f))
            have HSTRL := Lib.hid hstrl
            have HBW7 := Lib.hid (HBW6.out.trans (hkg.bel HBW6.out.size))
            have HGL : Hid (w.heap.size ≤ gl) := Lib.hid (by have := HBW6.out.size; omega)
            clear hown' hg' hnil' hstrl hkg hgl2 HDX6 HSTR6 HBW6 HDX5 HSTR5 HBW5 HDX HSTR HBW
            go_wp2_with fail
            go_loopw [18, 19] (fun dv iv wr => Rel3 w b g gl late.length L dv iv wr) (fun _ iv _ => 60 - (Go.RowKit.intOf iv).toNat)
            case atStart => exact ⟨0, dA, L, false, rfl, rfl, by omega, by omega, HDX7.out, E3'.out, E4.out, HSTR7.out, HSTRL.out, HBW7.out⟩
            case round =>
              obtain ⟨k, d, last, dd, rfl, rfl, hk60, hkl, hdx, hla, hdd, hstr, hstl, hbw⟩ := hrel.ex
              clear hrel HDX7 HSTR7 HSTRL HBW7 E3' E4
              have HDX := Lib.hid hdx
              have HLA := Lib.hid hla
              have HSTR := Lib.hid hstr
              have HSTL := Lib.hid hstl
              have HBW := Lib.hid hbw
              clear hdx hla hstr hstl hbw
              have HH2 := Lib.hid (fun (i : Nat) (hi : i < late.length) => by
                obtain ⟨g1, off1, ha, hg, hc⟩ := H2.out.ex_at hi
                exact (⟨g1, off1, ha, by rw [World.cell?_of_block (w := w) (HBW.out.block g1 hg)]; exact hc⟩ : ∃ g1 off1, a2 = some ⟨g1, off1, none⟩ ∧ wr.cell? ⟨g1, off1 + i, none⟩ = some (.int .i64 late[i])))
              by_cases hin : k < late.length
              · by_cases h60 : k < 60
                · obtain ⟨g1, off1, ha1, hcell⟩ := HH2.out k hin
                  have hwf := H2.out.wf late[k] (List.getElem_mem hin)
                  obtain ⟨y, hy⟩ : ∃ y, late[k] = y := ⟨_, rfl⟩
                  rw [hy] at hcell hwf
                  clear hy HH2
                  subst ha1
                  obtain ⟨q, hq, hq32⟩ : ∃ q : Nat, (fateN y : Int) % 32 = (q : Int) ∧ q < 32 := ⟨fateN y % 32, by omega, by omega⟩
                  have hy2 := half hwf.1 hwf.2
                  cases dd
                  · obtain ⟨e1, e2⟩ := la2_write HLA.out hdd hq32 (filledL_len (y.tdiv 2))
                    have E2 := Lib.hid e2
                    clear e2
                    cases hd' : (writeD d (q : Int) (filledL (y.tdiv 2))).1.dead
                    · rw [hd', if_neg (by decide)] at e1
                      have E1 := Lib.hid e1
                      have HD' := Lib.hid hd'
                      clear e1 hd' hdd
                      go_wp2_with fail
                      refine (pick_any y 32 _ hwf.1 hwf.2 (by decide) (by decide)).mono ?_
                      rw [hq]
                      rintro e w5 ⟨rfl, rfl⟩
                      go_wp2_with fail
                      refine (filled_any (y.tdiv 2) _ hy2.1 hy2.2).mono ?_
                      rintro e w5 ⟨rfl, hk5⟩
                      have HDX5 := Lib.hid (HDX.out.kept0 hk5)
                      have HSTR5 := Lib.hid (HSTR.out.kept hk5 (fun f => f))
                      have HSTL5 := Lib.hid (HSTL.out.kept hk5 (fun f => f))
                      have HBW5 := Lib.hid (HBW.out.trans (hk5.bel HBW.out.size))
                      clear hk5
                      go_wp2_with fail
                      refine (dx_write HDX5.out (q : Int) _ (by have := HLA.out.acts; omega)).mono ?_
                      rintro e w6 ⟨he, h6, hk6⟩
                      replace he := he.trans (ret_int E1.out)
                      subst he
                      have HDX6 := Lib.hid h6
                      have HSTR6 := Lib.hid (HSTR5.out.kept hk6 (fun f => f.2 (.inl rfl)))
                      have hstl6 := HSTL5.out.kept hk6 (fun f => f.2 (.inr rfl))
                      have HSTL6 := Lib.hid hstl6
                      have HBW6 := Lib.hid (HBW5.out.trans (hk6.belX HBW5.out.size))
                      have hc6 := hstl6.cell hq32
                      have hf6 := hstl6.frozen q
                      clear h6 hk6 hstl6
                      go_wp2_with fail
                      refine (dx_dead HDX6.out HD'.out).mono ?_
                      rintro e w7 ⟨rfl, rfl⟩
                      have HKS := Lib.hid ((Kept.refl (fun k => k = gl) w6).setCell (a := ⟨gl, q, none⟩) (.inl rfl) (.string ⟨(filledL (y.tdiv 2)).toArray⟩))
                      go_wp2_with fail
                      have HDX7 := Lib.hid (HDX6.out.kept HKS.out (fun _ _ e => .inr e))
                      refine (dx_dead HDX7.out HD'.out).mono ?_
                      rintro e w7 ⟨rfl, rfl⟩
                      go_wp2_with fail
                      go_roundw
                      case rel => exact ⟨k + 1, _, _, false, rfl, by go_num, by omega, by omega, HDX7.out, E2.out, HD'.out, HSTR6.out.kept HKS.out (fun e => HNE.out e), HSTL6.out.set hq32 (filledL_len _), HBW6.out.trans (HKS.out.below (fun j hj => by have hj : j = gl := hj; have := HGL.out; omega) HBW6.out.size)⟩
                      case measure => simp [Go.RowKit.intOf]; omega
                    · rw [hd', if_pos rfl] at e1
                      have E1 := Lib.hid e1
                      have HD' := Lib.hid hd'
                      clear e1 hd' hdd
                      go_wp2_with fail
                      refine (pick_any y 32 _ hwf.1 hwf.2 (by decide) (by decide)).mono ?_
                      rw [hq]
                      rintro e w5 ⟨rfl, rfl⟩
                      go_wp2_with fail
                      refine (filled_any (y.tdiv 2) _ hy2.1 hy2.2).mono ?_
                      rintro e w5 ⟨rfl, hk5⟩
                      have HDX5 := Lib.hid (HDX.out.kept0 hk5)
                      have HSTR5 := Lib.hid (HSTR.out.kept hk5 (fun f => f))
                      have HSTL5 := Lib.hid (HSTL.out.kept hk5 (fun f => f))
                      have HBW5 := Lib.hid (HBW.out.trans (hk5.bel HBW.out.size))
                      clear hk5
                      go_wp2_with fail
                      refine (dx_write HDX5.out (q : Int) _ (by have := HLA.out.acts; omega)).mono ?_
                      rintro e w6 ⟨he, h6, hk6⟩
                      replace he := he.trans (ret_int E1.out)
                      subst he
                      have HDX6 := Lib.hid h6
                      have HSTR6 := Lib.hid (HSTR5.out.kept hk6 (fun f => f.2 (.inl rfl)))
                      have hstl6 := HSTL5.out.kept hk6 (fun f => f.2 (.inr rfl))
                      have HSTL6 := Lib.hid hstl6
                      have HBW6 := Lib.hid (HBW5.out.trans (hk6.belX HBW5.out.size))
                      have hc6 := hstl6.cell hq32
                      have hf6 := hstl6.frozen q
                      clear h6 hk6 hstl6
                      go_wp2_with fail
                      refine (dx_dead HDX6.out HD'.out).mono ?_
                      rintro e w7 ⟨rfl, rfl⟩
                      have HKS := Lib.hid ((Kept.refl (fun k => k = gl) w6).setCell (a := ⟨gl, q, none⟩) (.inl rfl) (.string ⟨(filledL (y.tdiv 2)).toArray⟩))
                      go_wp2_with fail
                      have HDX7 := Lib.hid (HDX6.out.kept HKS.out (fun _ _ e => .inr e))
                      refine (dx_dead HDX7.out HD'.out).mono ?_
                      rintro e w7 ⟨rfl, rfl⟩
                      go_wp2_with fail
                      go_roundw
                      case rel => exact ⟨k + 1, _, _, true, rfl, by go_num, by omega, by omega, HDX7.out, E2.out, HD'.out, HSTR6.out.kept HKS.out (fun e => HNE.out e), HSTL6.out.set hq32 (filledL_len _), HBW6.out.trans (HKS.out.below (fun j hj => by have hj : j = gl := hj; have := HGL.out; omega) HBW6.out.size)⟩
                      case measure => simp [Go.RowKit.intOf]; omega
                  · have e1 := writeD_dead hdd (q : Int) (filledL (y.tdiv 2))
                    have HDD := Lib.hid hdd
                    clear hdd
                    go_wp2_with fail
                    refine (pick_any y 32 _ hwf.1 hwf.2 (by decide) (by decide)).mono ?_
                    rw [hq]
                    rintro e w5 ⟨rfl, rfl⟩
                    go_wp2_with fail
                    refine (filled_any (y.tdiv 2) _ hy2.1 hy2.2).mono ?_
                    rintro e w5 ⟨rfl, hk5⟩
                    have HDX5 := Lib.hid (HDX.out.kept0 hk5)
                    have HSTR5 := Lib.hid (HSTR.out.kept hk5 (fun f => f))
                    have HSTL5 := Lib.hid (HSTL.out.kept hk5 (fun f => f))
                    have HBW5 := Lib.hid (HBW.out.trans (hk5.bel HBW.out.size))
                    clear hk5
                    go_wp2_with fail
                    refine (dx_write HDX5.out (q : Int) _ (by have := HLA.out.acts; omega)).mono ?_
                    rw [e1]
                    rintro e w6 ⟨rfl, h6, hk6⟩
                    have HDX6 := Lib.hid h6
                    have HSTR6 := Lib.hid (HSTR5.out.kept hk6 (fun f => f.2 (.inl rfl)))
                    have HSTL6 := Lib.hid (HSTL5.out.kept hk6 (fun f => f.2 (.inr rfl)))
                    have HBW6 := Lib.hid (HBW5.out.trans (hk6.belX HBW5.out.size))
                    clear h6 hk6 e1
                    go_wp2_with fail
                    refine (dx_dead HDX6.out HDD.out).mono ?_
                    rintro e w7 ⟨rfl, rfl⟩
                    go_wp2_with fail
                    go_roundw
                    case rel => exact ⟨k + 1, d, last, true, rfl, by go_num, by omega, by omega, HDX6.out, (by have h := HLA.out; exact ⟨h.n, Nat.le_trans h.acts (by omega), h.S, h.none, h.some⟩), HDD.out, HSTR6.out, HSTL6.out, HBW6.out⟩
                    case measure => simp [Go.RowKit.intOf]; omega
                · have hge60 : 60 ≤ k := by omega
                  clear HH2
                  go_wp2_with fail
                  refine (dx_crash HDX.out (how := how) ⟨⟨_, _, rfl, fun i hi => by
                    obtain ⟨g1, off1, ha, hg, hc⟩ := H3.out.ex_at hi
                    exact ⟨g1, off1, ha, .inl hg, by rw [World.cell?_of_block (w := w) (HBW.out.block g1 hg)]; exact hc⟩⟩, H3.out.wf⟩).mono ?_
                  rintro e w8 ⟨rfl, h8, hk8⟩
                  have HDX8 := Lib.hid h8
                  have HSTR8 := Lib.hid (HSTR.out.kept hk8 (fun f => f.2 (.inl rfl)))
                  have HSTL8 := Lib.hid (HSTL.out.kept hk8 (fun f => f.2 (.inr rfl)))
                  have HBW8 := Lib.hid (HBW.out.trans (hk8.belX HBW.out.size))
                  have HTORN := Lib.hid (fun (i : Nat) (hi : i < 32) => la_crash HLA.out how HSTL.out.len HSTR.out.len hi)
                  have hN : (crashD d how).n = 32 := HLA.out.n
                  have hDe : (crashD d how).dead = false := rfl
                  have hOe : (crashD d how).O = fun _ => none := rfl
                  generalize crashD d how = dc at hN hDe hOe HDX8 HTORN
                  have HN := Lib.hid hN
                  have HDE := Lib.hid hDe
                  clear h8 hk8 hN hDe HLA HDX HSTR HSTL HBW
                  go_wp2_with fail
                  refine (dx_dead HDX8.out HDE.out).mono ?_
                  rintro e w9 ⟨rfl, rfl⟩
                  go_wp2_with fail
                  refine (dx_pending HDX8.out).mono ?_
                  rw [hOe, show pendL dc.n (fun _ => none) = [] from List.filter_eq_nil_iff.2 (fun a _ => by simp)]
                  rintro e w9 ⟨a9, cap9, rfl, h9, hk9⟩
                  have HDX9 := Lib.hid h9
                  have HSTR9 := Lib.hid (HSTR8.out.kept hk9 (fun f => f.2 (.inl rfl)))
                  have HSTL9 := Lib.hid (HSTL8.out.kept hk9 (fun f => f.2 (.inr rfl)))
                  have HBW9 := Lib.hid (HBW8.out.trans (hk9.belX HBW8.out.size))
                  clear h9 hk9 hOe HDX8 HSTR8 HSTL8 HBW8
                  go_wp2_with fail
                  go_loopw [23] (fun nv wr => Rel4 w b g gl dc L last nv wr) (fun nv _ => 32 - (Go.RowKit.intOf nv).toNat)
                  case atStart => exact ⟨0, rfl, by omega, HDX9.out, HSTR9.out, HSTL9.out, HBW9.out⟩
                  case round =>
                    obtain ⟨n, rfl, hn32, hdx, hstr, hstl, hbw⟩ := hrel.ex
                    clear hrel HDX9 HSTR9 HSTL9 HBW9
                    have HDX := Lib.hid hdx
                    have HSTR := Lib.hid hstr
                    have HSTL := Lib.hid hstl
                    have HBW := Lib.hid hbw
                    clear hdx hstr hstl hbw
                    by_cases hlt : n < 32
                    · obtain ⟨bb, hbb, hS⟩ := HTORN.out n hlt
                      have hll := HSTL.out.len n hlt
                      have hlo := HSTR.out.len n hlt
                      have hr : readD dc (n : Int) = (dc.S n, 0) := by
                        unfold readD
                        rw [if_neg (by simp [HDE.out]), if_pos ((hasD_iff dc _).2 ⟨by omega, by rw [HN.out]; omega⟩)]
                        simp
                      have hSl : (dc.S n).length = 64 := by rw [hS]; simp [hll, hlo]; omega
                      have HANY : Hid ((List.range 65).any (isTorn (dc.S n) (last n) (L n)) = true) := Lib.hid (List.any_eq_true.2 ⟨bb, List.mem_range.2 (by omega), by unfold isTorn; rw [hS]; exact beq_self_eq_true _⟩)
                      clear hS hbb
                      have HTA := Lib.hid (fun (c : Nat) (hc : c ≤ 64) => torn_at (s := dc.S n) hc hll hlo)
                      have hcl := HSTL.out.cell hlt
                      have hco := HSTR.out.cell hlt
                      go_wp2_with fail
                      refine (dx_read HDX.out (n : Int)).mono ?_
                      rw [hr]
                      rintro e w10 ⟨rfl, rfl⟩
                      clear hr
                      generalize dc.S n = sl at hSl HANY HTA
                      generalize last n = la at hll HANY HTA hcl
                      generalize L n = lo at hlo HANY HTA hco
                      have hzs : (⟨sl.toArray⟩ : ByteArray).size = 64 := by rw [← size_toList]; exact hSl
                      have hzl : (⟨la.toArray⟩ : ByteArray).size = 64 := by rw [← size_toList]; exact hll
                      have hzo : (⟨lo.toArray⟩ : ByteArray).size = 64 := by rw [← size_toList]; exact hlo
                      have HRR : Hid (∃ w10, wr = w10) := Lib.hid ⟨_, rfl⟩
                      clear hSl hll hlo
                      go_wp2_with fail
                      go_loopw [26, 27] (fun tv bv wr' => Rel5 wr sl la lo tv bv wr') (fun _ bv _ => 65 - (Go.RowKit.intOf bv).toNat)
                      case atStart => exact ⟨0, 0, rfl, by omega, rfl, rfl⟩
                      case round =>
                        obtain ⟨c, m, rfl, hc65, rfl, rfl⟩ := hrel.ex
                        clear hrel
                        have HSUC : Hid ((List.range (c + 1)).any (isTorn sl la lo) = ((List.range c).any (isTorn sl la lo) || isTorn sl la lo c)) := Lib.hid (by rw [List.range_succ, List.any_append]; simp)
                        by_cases hc : c ≤ 64
                        · have ht := HTA.out c hc
                          obtain ⟨t0, ht0⟩ : ∃ t0, (List.range c).any (isTorn sl la lo) = t0 := ⟨_, rfl⟩
                          rw [ht0] at HSUC ⊢
                          cases t0
                          · go_wp2_with fail
                            go_quiet (fail)
                            go_wp2_with fail
                            go_roundw
                            case rel => exact ⟨c + 1, m + nq, by go_num, by omega, by rw [HSUC.out, Bool.false_or], rfl⟩
                            case measure => simp [Go.RowKit.intOf]; omega
                          · go_wp2_with fail
                            go_quiet (fail)
                            go_wp2_with fail
                            go_roundw
                            case rel => exact ⟨c + 1, m + nq, by go_num, by omega, by rw [HSUC.out, Bool.true_or], rfl⟩
                            case measure => simp [Go.RowKit.intOf]; omega
                        · have hgec : 65 ≤ c := by omega
                          have hany : (List.range c).any (isTorn sl la lo) = true := by rw [show c = 65 by omega]; exact HANY.out
                          rw [hany]
                          go_wp2_with fail
                          go_roundw
                          case rel => exact ⟨n + 1, by go_num, by omega, HDX.out.kept0 ((Kept.refl _ _).drewN m), HSTR.out.kept ((Kept.refl (fun _ => False) _).drewN m) (fun f => f), HSTL.out.kept ((Kept.refl (fun _ => False) _).drewN m) (fun f => f), HBW.out.trans (((Kept.refl _ _).drewN m).bel HBW.out.size)⟩
                          case measure => simp [Go.RowKit.intOf]; omega
                    · have hgen : 32 ≤ n := by omega
                      go_wp2_with fail
                      go_ret
                      exact ⟨rfl, HBW.out⟩
              · have hgel2 : late.length ≤ k := by omega
                clear HH2
                go_wp2_with fail
                refine (dx_crash HDX.out (how := how) ⟨⟨_, _, rfl, fun i hi => by
                  obtain ⟨g1, off1, ha, hg, hc⟩ := H3.out.ex_at hi
                  exact ⟨g1, off1, ha, .inl hg, by rw [World.cell?_of_block (w := w) (HBW.out.block g1 hg)]; exact hc⟩⟩, H3.out.wf⟩).mono ?_
                rintro e w8 ⟨rfl, h8, hk8⟩
                have HDX8 := Lib.hid h8
                have HSTR8 := Lib.hid (HSTR.out.kept hk8 (fun f => f.2 (.inl rfl)))
                have HSTL8 := Lib.hid (HSTL.out.kept hk8 (fun f => f.2 (.inr rfl)))
                have HBW8 := Lib.hid (HBW.out.trans (hk8.belX HBW.out.size))
                have HTORN := Lib.hid (fun (i : Nat) (hi : i < 32) => la_crash HLA.out how HSTL.out.len HSTR.out.len hi)
                have hN : (crashD d how).n = 32 := HLA.out.n
                have hDe : (crashD d how).dead = false := rfl
                have hOe : (crashD d how).O = fun _ => none := rfl
                generalize crashD d how = dc at hN hDe hOe HDX8 HTORN
                have HN := Lib.hid hN
                have HDE := Lib.hid hDe
                clear h8 hk8 hN hDe HLA HDX HSTR HSTL HBW
                go_wp2_with fail
                refine (dx_dead HDX8.out HDE.out).mono ?_
                rintro e w9 ⟨rfl, rfl⟩
                go_wp2_with fail
                refine (dx_pending HDX8.out).mono ?_
                rw [hOe, show pendL dc.n (fun _ => none) = [] from List.filter_eq_nil_iff.2 (fun a _ => by simp)]
                rintro e w9 ⟨a9, cap9, rfl, h9, hk9⟩
                have HDX9 := Lib.hid h9
                have HSTR9 := Lib.hid (HSTR8.out.kept hk9 (fun f => f.2 (.inl rfl)))
                have HSTL9 := Lib.hid (HSTL8.out.kept hk9 (fun f => f.2 (.inr rfl)))
                have HBW9 := Lib.hid (HBW8.out.trans (hk9.belX HBW8.out.size))
                clear h9 hk9 hOe HDX8 HSTR8 HSTL8 HBW8
                go_wp2_with fail
                go_loopw [23] (fun nv wr => Rel4 w b g gl dc L last nv wr) (fun nv _ => 32 - (Go.RowKit.intOf nv).toNat)
                case atStart => exact ⟨0, rfl, by omega, HDX9.out, HSTR9.out, HSTL9.out, HBW9.out⟩
                case round =>
                  obtain ⟨n, rfl, hn32, hdx, hstr, hstl, hbw⟩ := hrel.ex
                  clear hrel HDX9 HSTR9 HSTL9 HBW9
                  have HDX := Lib.hid hdx
                  have HSTR := Lib.hid hstr
                  have HSTL := Lib.hid hstl
                  have HBW := Lib.hid hbw
                  clear hdx hstr hstl hbw
                  by_cases hlt : n < 32
                  · obtain ⟨bb, hbb, hS⟩ := HTORN.out n hlt
                    have hll := HSTL.out.len n hlt
                    have hlo := HSTR.out.len n hlt
                    have hr : readD dc (n : Int) = (dc.S n, 0) := by
                      unfold readD
                      rw [if_neg (by simp [HDE.out]), if_pos ((hasD_iff dc _).2 ⟨by omega, by rw [HN.out]; omega⟩)]
                      simp
                    have hSl : (dc.S n).length = 64 := by rw [hS]; simp [hll, hlo]; omega
                    have HANY : Hid ((List.range 65).any (isTorn (dc.S n) (last n) (L n)) = true) := Lib.hid (List.any_eq_true.2 ⟨bb, List.mem_range.2 (by omega), by unfold isTorn; rw [hS]; exact beq_self_eq_true _⟩)
                    clear hS hbb
                    have HTA := Lib.hid (fun (c : Nat) (hc : c ≤ 64) => torn_at (s := dc.S n) hc hll hlo)
                    have hcl := HSTL.out.cell hlt
                    have hco := HSTR.out.cell hlt
                    go_wp2_with fail
                    refine (dx_read HDX.out (n : Int)).mono ?_
                    rw [hr]
                    rintro e w10 ⟨rfl, rfl⟩
                    clear hr
                    generalize dc.S n = sl at hSl HANY HTA
                    generalize last n = la at hll HANY HTA hcl
                    generalize L n = lo at hlo HANY HTA hco
                    have hzs : (⟨sl.toArray⟩ : ByteArray).size = 64 := by rw [← size_toList]; exact hSl
                    have hzl : (⟨la.toArray⟩ : ByteArray).size = 64 := by rw [← size_toList]; exact hll
                    have hzo : (⟨lo.toArray⟩ : ByteArray).size = 64 := by rw [← size_toList]; exact hlo
                    have HRR : Hid (∃ w10, wr = w10) := Lib.hid ⟨_, rfl⟩
                    clear hSl hll hlo
                    go_wp2_with fail
                    go_loopw [26, 27] (fun tv bv wr' => Rel5 wr sl la lo tv bv wr') (fun _ bv _ => 65 - (Go.RowKit.intOf bv).toNat)
                    case atStart => exact ⟨0, 0, rfl, by omega, rfl, rfl⟩
                    case round =>
                      obtain ⟨c, m, rfl, hc65, rfl, rfl⟩ := hrel.ex
                      clear hrel
                      have HSUC : Hid ((List.range (c + 1)).any (isTorn sl la lo) = ((List.range c).any (isTorn sl la lo) || isTorn sl la lo c)) := Lib.hid (by rw [List.range_succ, List.any_append]; simp)
                      by_cases hc : c ≤ 64
                      · have ht := HTA.out c hc
                        obtain ⟨t0, ht0⟩ : ∃ t0, (List.range c).any (isTorn sl la lo) = t0 := ⟨_, rfl⟩
                        rw [ht0] at HSUC ⊢
                        cases t0
                        · go_wp2_with fail
                          go_quiet (fail)
                          go_wp2_with fail
                          go_roundw
                          case rel => exact ⟨c + 1, m + nq, by go_num, by omega, by rw [HSUC.out, Bool.false_or], rfl⟩
                          case measure => simp [Go.RowKit.intOf]; omega
                        · go_wp2_with fail
                          go_quiet (fail)
                          go_wp2_with fail
                          go_roundw
                          case rel => exact ⟨c + 1, m + nq, by go_num, by omega, by rw [HSUC.out, Bool.true_or], rfl⟩
                          case measure => simp [Go.RowKit.intOf]; omega
                      · have hgec : 65 ≤ c := by omega
                        have hany : (List.range c).any (isTorn sl la lo) = true := by rw [show c = 65 by omega]; exact HANY.out
                        rw [hany]
                        go_wp2_with fail
                        go_roundw
                        case rel => exact ⟨n + 1, by go_num, by omega, HDX.out.kept0 ((Kept.refl _ _).drewN m), HSTR.out.kept ((Kept.refl (fun _ => False) _).drewN m) (fun f => f), HSTL.out.kept ((Kept.refl (fun _ => False) _).drewN m) (fun f => f), HBW.out.trans (((Kept.refl _ _).drewN m).bel HBW.out.size)⟩
                        case measure => simp [Go.RowKit.intOf]; omega
                  · have hgen : 32 ≤ n := by omega
                    go_wp2_with fail
                    go_ret
                    exact ⟨rfl, HBW.out⟩

        · have hgel : first.length ≤ k := by omega
          have hka : d.acts < 9223372036854775807 := by rw [HLA.out.acts]; omega
          clear HH1
          obtain ⟨q, hq, hq70⟩ : ∃ q : Nat, (fateN x : Int) % 70 = (q : Int) ∧ q < 70 := ⟨fateN x % 70, by omega, by omega⟩
          obtain ⟨e1, e2, e3, e4, e5⟩ := la2_start HLA.out q
          have E3 := Lib.hid e3
          have E4 := Lib.hid e4
          clear e3 e4
          go_wp2_with fail
          refine (dx_sync HDX.out hka).mono ?_
          rintro e w5 ⟨he, h5, hk5⟩
          replace he := he.trans (ret_int e1)
          subst he
          have HDX5 := Lib.hid h5
          have HSTR5 := Lib.hid (HSTR.out.kept hk5 (fun f => f.2 rfl))
          have HBW5 := Lib.hid (HBW.out.trans (hk5.belX HBW.out.size))
          clear h5 hk5 e1
          go_wp2_with fail
          refine (pick_any x 70 _ hx1 hx2 (by decide) (by decide)).mono ?_
          rw [hq]
          rintro e w6 ⟨rfl, rfl⟩
          go_wp2_with fail
          refine (dx_arm HDX5.out (q : Int) (by omega)).mono ?_
          rintro e w6 ⟨he, h6, hk6⟩
          replace he := he.trans (ret_int e2)
          subst he
          have HDX6 := Lib.hid h6
          have HSTR6 := Lib.hid (HSTR5.out.kept hk6 (fun f => f.2 rfl))
          have HBW6 := Lib.hid (HBW5.out.trans (hk6.belX HBW5.out.size))
          clear h6 hk6 e2
          generalize (armD (syncD d).1 (q : Int)).1 = dA at E3 E4 HDX6
          have hm : k + 1 ≤ 61 := by omega
          have E3' : Hid (La2 dA 61 L L) := Lib.hid (by have h := E3.out; exact ⟨h.n, Nat.le_trans h.acts hm, h.S, h.none, h.some⟩)
          clear E3 hm e5 hq hq70 hka
          have HLA' : Hid True := Lib.hid trivial
          clear HLA
          go_wp2_with (at_builtin; refine wpList_append_own _ rfl _ _ 38 rfl w6.heap.size 9 i0 (.string ByteArray.empty) 1 16 Try.underlying38 HSI.out HSZ.out HSS.out HSB.out rfl (by decide) (.slice none 0 0) 0 [] rfl (World.ownsRow_nil w6 _ _ 1) ⟨g, 0, none⟩ 32 cap (strV L) rfl (strV_len L) HSTR6.out.range (strV_one L) (by unfold maxLen; omega) (by omega) (Nat.le_refl _) (fun v' w' hown' hg' hnil' => ?_))
          obtain ⟨gl, capl, rfl, hgl2, hcapl, hcapl2, hstrl⟩ := StrsAt.of_row (L := L) (by rw [Nat.zero_add, List.nil_append] at hown'; exact hown') HSTR6.out.len
          have hkg : Kept (fun _ => False) w6 w' := (Kept.of_grownBy hg').mono (fun j _ e => by simp [Value.ownBlock] at e)
          have HDX7 : Hid (Dx w.heap.size (fun k => k = g ∨ k = gl) w' b dA) := Lib.hid (HDX6.out.more hkg hgl2 hstrl.lt)
          have HNE : Hid (g ≠ gl) := Lib.hid (by have := HSTR6.out.lt; omega)
          have HSTR7 := Lib.hid (HSTR6.out.kept hkg (fun f => f))
          have HSTRL := Lib.hid hstrl
          have HBW7 := Lib.hid (HBW6.out.trans (hkg.bel HBW6.out.size))
          have HGL : Hid (w.heap.size ≤ gl) := Lib.hid (by have := HBW6.out.size; omega)
          clear hown' hg' hnil' hstrl hkg hgl2 HDX6 HSTR6 HBW6 HDX5 HSTR5 HBW5 HDX HSTR HBW
          go_wp2_with fail
          go_loopw [18, 19] (fun dv iv wr => Rel3 w b g gl late.length L dv iv wr) (fun _ iv _ => 60 - (Go.RowKit.intOf iv).toNat)
          case atStart => exact ⟨0, dA, L, false, rfl, rfl, by omega, by omega, HDX7.out, E3'.out, E4.out, HSTR7.out, HSTRL.out, HBW7.out⟩
          case round =>
            obtain ⟨k, d, last, dd, rfl, rfl, hk60, hkl, hdx, hla, hdd, hstr, hstl, hbw⟩ := hrel.ex
            clear hrel HDX7 HSTR7 HSTRL HBW7 E3' E4
            have HDX := Lib.hid hdx
            have HLA := Lib.hid hla
            have HSTR := Lib.hid hstr
            have HSTL := Lib.hid hstl
            have HBW := Lib.hid hbw
            clear hdx hla hstr hstl hbw
            have HH2 := Lib.hid (fun (i : Nat) (hi : i < late.length) => by
              obtain ⟨g1, off1, ha, hg, hc⟩ := H2.out.ex_at hi
              exact (⟨g1, off1, ha, by rw [World.cell?_of_block (w := w) (HBW.out.block g1 hg)]; exact hc⟩ : ∃ g1 off1, a2 = some ⟨g1, off1, none⟩ ∧ wr.cell? ⟨g1, off1 + i, none⟩ = some (.int .i64 late[i])))
            by_cases hin : k < late.length
            · by_cases h60 : k < 60
              · obtain ⟨g1, off1, ha1, hcell⟩ := HH2.out k hin
                have hwf := H2.out.wf late[k] (List.getElem_mem hin)
                obtain ⟨y, hy⟩ : ∃ y, late[k] = y := ⟨_, rfl⟩
                rw [hy] at hcell hwf
                clear hy HH2
                subst ha1
                obtain ⟨q, hq, hq32⟩ : ∃ q : Nat, (fateN y : Int) % 32 = (q : Int) ∧ q < 32 := ⟨fateN y % 32, by omega, by omega⟩
                have hy2 := half hwf.1 hwf.2
                cases dd
                · obtain ⟨e1, e2⟩ := la2_write HLA.out hdd hq32 (filledL_len (y.tdiv 2))
                  have E2 := Lib.hid e2
                  clear e2
                  cases hd' : (writeD d (q : Int) (filledL (y.tdiv 2))).1.dead
                  · rw [hd', if_neg (by decide)] at e1
                    have E1 := Lib.hid e1
                    have HD' := Lib.hid hd'
                    clear e1 hd' hdd
                    go_wp2_with fail
                    refine (pick_any y 32 _ hwf.1 hwf.2 (by decide) (by decide)).mono ?_
                    rw [hq]
                    rintro e w5 ⟨rfl, rfl⟩
                    go_wp2_with fail
                    refine (filled_any (y.tdiv 2) _ hy2.1 hy2.2).mono ?_
                    rintro e w5 ⟨rfl, hk5⟩
                    have HDX5 := Lib.hid (HDX.out.kept0 hk5)
                    have HSTR5 := Lib.hid (HSTR.out.kept hk5 (fun f => f))
                    have HSTL5 := Lib.hid (HSTL.out.kept hk5 (fun f => f))
                    have HBW5 := Lib.hid (HBW.out.trans (hk5.bel HBW.out.size))
                    clear hk5
                    go_wp2_with fail
                    refine (dx_write HDX5.out (q : Int) _ (by have := HLA.out.acts; omega)).mono ?_
                    rintro e w6 ⟨he, h6, hk6⟩
                    replace he := he.trans (ret_int E1.out)
                    subst he
                    have HDX6 := Lib.hid h6
                    have HSTR6 := Lib.hid (HSTR5.out.kept hk6 (fun f => f.2 (.inl rfl)))
                    have hstl6 := HSTL5.out.kept hk6 (fun f => f.2 (.inr rfl))
                    have HSTL6 := Lib.hid hstl6
                    have HBW6 := Lib.hid (HBW5.out.trans (hk6.belX HBW5.out.size))
                    have hc6 := hstl6.cell hq32
                    have hf6 := hstl6.frozen q
                    clear h6 hk6 hstl6
                    go_wp2_with fail
                    refine (dx_dead HDX6.out HD'.out).mono ?_
                    rintro e w7 ⟨rfl, rfl⟩
                    have HKS := Lib.hid ((Kept.refl (fun k => k = gl) w6).setCell (a := ⟨gl, q, none⟩) (.inl rfl) (.string ⟨(filledL (y.tdiv 2)).toArray⟩))
                    go_wp2_with fail
                    have HDX7 := Lib.hid (HDX6.out.kept HKS.out (fun _ _ e => .inr e))
                    refine (dx_dead HDX7.out HD'.out).mono ?_
                    rintro e w7 ⟨rfl, rfl⟩
                    go_wp2_with fail
                    go_roundw
                    case rel => exact ⟨k + 1, _, _, false, rfl, by go_num, by omega, by omega, HDX7.out, E2.out, HD'.out, HSTR6.out.kept HKS.out (fun e => HNE.out e), HSTL6.out.set hq32 (filledL_len _), HBW6.out.trans (HKS.out.below (fun j hj => by have hj : j = gl := hj; have := HGL.out; omega) HBW6.out.size)⟩
                    case measure => simp [Go.RowKit.intOf]; omega
                  · rw [hd', if_pos rfl] at e1
                    have E1 := Lib.hid e1
                    have HD' := Lib.hid hd'
                    clear e1 hd' hdd
                    go_wp2_with fail
                    refine (pick_any y 32 _ hwf.1 hwf.2 (by decide) (by decide)).mono ?_
                    rw [hq]
                    rintro e w5 ⟨rfl, rfl⟩
                    go_wp2_with fail
                    refine (filled_any (y.tdiv 2) _ hy2.1 hy2.2).mono ?_
                    rintro e w5 ⟨rfl, hk5⟩
                    have HDX5 := Lib.hid (HDX.out.kept0 hk5)
                    have HSTR5 := Lib.hid (HSTR.out.kept hk5 (fun f => f))
                    have HSTL5 := Lib.hid (HSTL.out.kept hk5 (fun f => f))
                    have HBW5 := Lib.hid (HBW.out.trans (hk5.bel HBW.out.size))
                    clear hk5
                    go_wp2_with fail
                    refine (dx_write HDX5.out (q : Int) _ (by have := HLA.out.acts; omega)).mono ?_
                    rintro e w6 ⟨he, h6, hk6⟩
                    replace he := he.trans (ret_int E1.out)
                    subst he
                    have HDX6 := Lib.hid h6
                    have HSTR6 := Lib.hid (HSTR5.out.kept hk6 (fun f => f.2 (.inl rfl)))
                    have hstl6 := HSTL5.out.kept hk6 (fun f => f.2 (.inr rfl))
                    have HSTL6 := Lib.hid hstl6
                    have HBW6 := Lib.hid (HBW5.out.trans (hk6.belX HBW5.out.size))
                    have hc6 := hstl6.cell hq32
                    have hf6 := hstl6.frozen q
                    clear h6 hk6 hstl6
                    go_wp2_with fail
                    refine (dx_dead HDX6.out HD'.out).mono ?_
                    rintro e w7 ⟨rfl, rfl⟩
                    have HKS := Lib.hid ((Kept.refl (fun k => k = gl) w6).setCell (a := ⟨gl, q, none⟩) (.inl rfl) (.string ⟨(filledL (y.tdiv 2)).toArray⟩))
                    go_wp2_with fail
                    have HDX7 := Lib.hid (HDX6.out.kept HKS.out (fun _ _ e => .inr e))
                    refine (dx_dead HDX7.out HD'.out).mono ?_
                    rintro e w7 ⟨rfl, rfl⟩
                    go_wp2_with fail
                    go_roundw
                    case rel => exact ⟨k + 1, _, _, true, rfl, by go_num, by omega, by omega, HDX7.out, E2.out, HD'.out, HSTR6.out.kept HKS.out (fun e => HNE.out e), HSTL6.out.set hq32 (filledL_len _), HBW6.out.trans (HKS.out.below (fun j hj => by have hj : j = gl := hj; have := HGL.out; omega) HBW6.out.size)⟩
                    case measure => simp [Go.RowKit.intOf]; omega
                · have e1 := writeD_dead hdd (q : Int) (filledL (y.tdiv 2))
                  have HDD := Lib.hid hdd
                  clear hdd
                  go_wp2_with fail
                  refine (pick_any y 32 _ hwf.1 hwf.2 (by decide) (by decide)).mono ?_
                  rw [hq]
                  rintro e w5 ⟨rfl, rfl⟩
                  go_wp2_with fail
                  refine (filled_any (y.tdiv 2) _ hy2.1 hy2.2).mono ?_
                  rintro e w5 ⟨rfl, hk5⟩
                  have HDX5 := Lib.hid (HDX.out.kept0 hk5)
                  have HSTR5 := Lib.hid (HSTR.out.kept hk5 (fun f => f))
                  have HSTL5 := Lib.hid (HSTL.out.kept hk5 (fun f => f))
                  have HBW5 := Lib.hid (HBW.out.trans (hk5.bel HBW.out.size))
                  clear hk5
                  go_wp2_with fail
                  refine (dx_write HDX5.out (q : Int) _ (by have := HLA.out.acts; omega)).mono ?_
                  rw [e1]
                  rintro e w6 ⟨rfl, h6, hk6⟩
                  have HDX6 := Lib.hid h6
                  have HSTR6 := Lib.hid (HSTR5.out.kept hk6 (fun f => f.2 (.inl rfl)))
                  have HSTL6 := Lib.hid (HSTL5.out.kept hk6 (fun f => f.2 (.inr rfl)))
                  have HBW6 := Lib.hid (HBW5.out.trans (hk6.belX HBW5.out.size))
                  clear h6 hk6 e1
                  go_wp2_with fail
                  refine (dx_dead HDX6.out HDD.out).mono ?_
                  rintro e w7 ⟨rfl, rfl⟩
                  go_wp2_with fail
                  go_roundw
                  case rel => exact ⟨k + 1, d, last, true, rfl, by go_num, by omega, by omega, HDX6.out, (by have h := HLA.out; exact ⟨h.n, Nat.le_trans h.acts (by omega), h.S, h.none, h.some⟩), HDD.out, HSTR6.out, HSTL6.out, HBW6.out⟩
                  case measure => simp [Go.RowKit.intOf]; omega
              · have hge60 : 60 ≤ k := by omega
                clear HH2
                go_wp2_with fail
                refine (dx_crash HDX.out (how := how) ⟨⟨_, _, rfl, fun i hi => by
                  obtain ⟨g1, off1, ha, hg, hc⟩ := H3.out.ex_at hi
                  exact ⟨g1, off1, ha, .inl hg, by rw [World.cell?_of_block (w := w) (HBW.out.block g1 hg)]; exact hc⟩⟩, H3.out.wf⟩).mono ?_
                rintro e w8 ⟨rfl, h8, hk8⟩
                have HDX8 := Lib.hid h8
                have HSTR8 := Lib.hid (HSTR.out.kept hk8 (fun f => f.2 (.inl rfl)))
                have HSTL8 := Lib.hid (HSTL.out.kept hk8 (fun f => f.2 (.inr rfl)))
                have HBW8 := Lib.hid (HBW.out.trans (hk8.belX HBW.out.size))
                have HTORN := Lib.hid (fun (i : Nat) (hi : i < 32) => la_crash HLA.out how HSTL.out.len HSTR.out.len hi)
                have hN : (crashD d how).n = 32 := HLA.out.n
                have hDe : (crashD d how).dead = false := rfl
                have hOe : (crashD d how).O = fun _ => none := rfl
                generalize crashD d how = dc at hN hDe hOe HDX8 HTORN
                have HN := Lib.hid hN
                have HDE := Lib.hid hDe
                clear h8 hk8 hN hDe HLA HDX HSTR HSTL HBW
                go_wp2_with fail
                refine (dx_dead HDX8.out HDE.out).mono ?_
                rintro e w9 ⟨rfl, rfl⟩
                go_wp2_with fail
                refine (dx_pending HDX8.out).mono ?_
                rw [hOe, show pendL dc.n (fun _ => none) = [] from List.filter_eq_nil_iff.2 (fun a _ => by simp)]
                rintro e w9 ⟨a9, cap9, rfl, h9, hk9⟩
                have HDX9 := Lib.hid h9
                have HSTR9 := Lib.hid (HSTR8.out.kept hk9 (fun f => f.2 (.inl rfl)))
                have HSTL9 := Lib.hid (HSTL8.out.kept hk9 (fun f => f.2 (.inr rfl)))
                have HBW9 := Lib.hid (HBW8.out.trans (hk9.belX HBW8.out.size))
                clear h9 hk9 hOe HDX8 HSTR8 HSTL8 HBW8
                go_wp2_with fail
                go_loopw [23] (fun nv wr => Rel4 w b g gl dc L last nv wr) (fun nv _ => 32 - (Go.RowKit.intOf nv).toNat)
                case atStart => exact ⟨0, rfl, by omega, HDX9.out, HSTR9.out, HSTL9.out, HBW9.out⟩
                case round =>
                  obtain ⟨n, rfl, hn32, hdx, hstr, hstl, hbw⟩ := hrel.ex
                  clear hrel HDX9 HSTR9 HSTL9 HBW9
                  have HDX := Lib.hid hdx
                  have HSTR := Lib.hid hstr
                  have HSTL := Lib.hid hstl
                  have HBW := Lib.hid hbw
                  clear hdx hstr hstl hbw
                  by_cases hlt : n < 32
                  · obtain ⟨bb, hbb, hS⟩ := HTORN.out n hlt
                    have hll := HSTL.out.len n hlt
                    have hlo := HSTR.out.len n hlt
                    have hr : readD dc (n : Int) = (dc.S n, 0) := by
                      unfold readD
                      rw [if_neg (by simp [HDE.out]), if_pos ((hasD_iff dc _).2 ⟨by omega, by rw [HN.out]; omega⟩)]
                      simp
                    have hSl : (dc.S n).length = 64 := by rw [hS]; simp [hll, hlo]; omega
                    have HANY : Hid ((List.range 65).any (isTorn (dc.S n) (last n) (L n)) = true) := Lib.hid (List.any_eq_true.2 ⟨bb, List.mem_range.2 (by omega), by unfold isTorn; rw [hS]; exact beq_self_eq_true _⟩)
                    clear hS hbb
                    have HTA := Lib.hid (fun (c : Nat) (hc : c ≤ 64) => torn_at (s := dc.S n) hc hll hlo)
                    have hcl := HSTL.out.cell hlt
                    have hco := HSTR.out.cell hlt
                    go_wp2_with fail
                    refine (dx_read HDX.out (n : Int)).mono ?_
                    rw [hr]
                    rintro e w10 ⟨rfl, rfl⟩
                    clear hr
                    generalize dc.S n = sl at hSl HANY HTA
                    generalize last n = la at hll HANY HTA hcl
                    generalize L n = lo at hlo HANY HTA hco
                    have hzs : (⟨sl.toArray⟩ : ByteArray).size = 64 := by rw [← size_toList]; exact hSl
                    have hzl : (⟨la.toArray⟩ : ByteArray).size = 64 := by rw [← size_toList]; exact hll
                    have hzo : (⟨lo.toArray⟩ : ByteArray).size = 64 := by rw [← size_toList]; exact hlo
                    have HRR : Hid (∃ w10, wr = w10) := Lib.hid ⟨_, rfl⟩
                    clear hSl hll hlo
                    go_wp2_with fail
                    go_loopw [26, 27] (fun tv bv wr' => Rel5 wr sl la lo tv bv wr') (fun _ bv _ => 65 - (Go.RowKit.intOf bv).toNat)
                    case atStart => exact ⟨0, 0, rfl, by omega, rfl, rfl⟩
                    case round =>
                      obtain ⟨c, m, rfl, hc65, rfl, rfl⟩ := hrel.ex
                      clear hrel
                      have HSUC : Hid ((List.range (c + 1)).any (isTorn sl la lo) = ((List.range c).any (isTorn sl la lo) || isTorn sl la lo c)) := Lib.hid (by rw [List.range_succ, List.any_append]; simp)
                      by_cases hc : c ≤ 64
                      · have ht := HTA.out c hc
                        obtain ⟨t0, ht0⟩ : ∃ t0, (List.range c).any (isTorn sl la lo) = t0 := ⟨_, rfl⟩
                        rw [ht0] at HSUC ⊢
                        cases t0
                        · go_wp2_with fail
                          go_quiet (fail)
                          go_wp2_with fail
                          go_roundw
                          case rel => exact ⟨c + 1, m + nq, by go_num, by omega, by rw [HSUC.out, Bool.false_or], rfl⟩
                          case measure => simp [Go.RowKit.intOf]; omega
                        · go_wp2_with fail
                          go_quiet (fail)
                          go_wp2_with fail
                          go_roundw
                          case rel => exact ⟨c + 1, m + nq, by go_num, by omega, by rw [HSUC.out, Bool.true_or], rfl⟩
                          case measure => simp [Go.RowKit.intOf]; omega
                      · have hgec : 65 ≤ c := by omega
                        have hany : (List.range c).any (isTorn sl la lo) = true := by rw [show c = 65 by omega]; exact HANY.out
                        rw [hany]
                        go_wp2_with fail
                        go_roundw
                        case rel => exact ⟨n + 1, by go_num, by omega, HDX.out.kept0 ((Kept.refl _ _).drewN m), HSTR.out.kept ((Kept.refl (fun _ => False) _).drewN m) (fun f => f), HSTL.out.kept ((Kept.refl (fun _ => False) _).drewN m) (fun f => f), HBW.out.trans (((Kept.refl _ _).drewN m).bel HBW.out.size)⟩
                        case measure => simp [Go.RowKit.intOf]; omega
                  · have hgen : 32 ≤ n := by omega
                    go_wp2_with fail
                    go_ret
                    exact ⟨rfl, HBW.out⟩
            · have hgel2 : late.length ≤ k := by omega
              clear HH2
              go_wp2_with fail
              refine (dx_crash HDX.out (how := how) ⟨⟨_, _, rfl, fun i hi => by
                obtain ⟨g1, off1, ha, hg, hc⟩ := H3.out.ex_at hi
                exact ⟨g1, off1, ha, .inl hg, by rw [World.cell?_of_block (w := w) (HBW.out.block g1 hg)]; exact hc⟩⟩, H3.out.wf⟩).mono ?_
              rintro e w8 ⟨rfl, h8, hk8⟩
              have HDX8 := Lib.hid h8
              have HSTR8 := Lib.hid (HSTR.out.kept hk8 (fun f => f.2 (.inl rfl)))
              have HSTL8 := Lib.hid (HSTL.out.kept hk8 (fun f => f.2 (.inr rfl)))
              have HBW8 := Lib.hid (HBW.out.trans (hk8.belX HBW.out.size))
              have HTORN := Lib.hid (fun (i : Nat) (hi : i < 32) => la_crash HLA.out how HSTL.out.len HSTR.out.len hi)
              have hN : (crashD d how).n = 32 := HLA.out.n
              have hDe : (crashD d how).dead = false := rfl
              have hOe : (crashD d how).O = fun _ => none := rfl
              generalize crashD d how = dc at hN hDe hOe HDX8 HTORN
              have HN := Lib.hid hN
              have HDE := Lib.hid hDe
              clear h8 hk8 hN hDe HLA HDX HSTR HSTL HBW
              go_wp2_with fail
              refine (dx_dead HDX8.out HDE.out).mono ?_
              rintro e w9 ⟨rfl, rfl⟩
              go_wp2_with fail
              refine (dx_pending HDX8.out).mono ?_
              rw [hOe, show pendL dc.n (fun _ => none) = [] from List.filter_eq_nil_iff.2 (fun a _ => by simp)]
              rintro e w9 ⟨a9, cap9, rfl, h9, hk9⟩
              have HDX9 := Lib.hid h9
              have HSTR9 := Lib.hid (HSTR8.out.kept hk9 (fun f => f.2 (.inl rfl)))
              have HSTL9 := Lib.hid (HSTL8.out.kept hk9 (fun f => f.2 (.inr rfl)))
              have HBW9 := Lib.hid (HBW8.out.trans (hk9.belX HBW8.out.size))
              clear h9 hk9 hOe HDX8 HSTR8 HSTL8 HBW8
              go_wp2_with fail
              go_loopw [23] (fun nv wr => Rel4 w b g gl dc L last nv wr) (fun nv _ => 32 - (Go.RowKit.intOf nv).toNat)
              case atStart => exact ⟨0, rfl, by omega, HDX9.out, HSTR9.out, HSTL9.out, HBW9.out⟩
              case round =>
                obtain ⟨n, rfl, hn32, hdx, hstr, hstl, hbw⟩ := hrel.ex
                clear hrel HDX9 HSTR9 HSTL9 HBW9
                have HDX := Lib.hid hdx
                have HSTR := Lib.hid hstr
                have HSTL := Lib.hid hstl
                have HBW := Lib.hid hbw
                clear hdx hstr hstl hbw
                by_cases hlt : n < 32
                · obtain ⟨bb, hbb, hS⟩ := HTORN.out n hlt
                  have hll := HSTL.out.len n hlt
                  have hlo := HSTR.out.len n hlt
                  have hr : readD dc (n : Int) = (dc.S n, 0) := by
                    unfold readD
                    rw [if_neg (by simp [HDE.out]), if_pos ((hasD_iff dc _).2 ⟨by omega, by rw [HN.out]; omega⟩)]
                    simp
                  have hSl : (dc.S n).length = 64 := by rw [hS]; simp [hll, hlo]; omega
                  have HANY : Hid ((List.range 65).any (isTorn (dc.S n) (last n) (L n)) = true) := Lib.hid (List.any_eq_true.2 ⟨bb, List.mem_range.2 (by omega), by unfold isTorn; rw [hS]; exact beq_self_eq_true _⟩)
                  clear hS hbb
                  have HTA := Lib.hid (fun (c : Nat) (hc : c ≤ 64) => torn_at (s := dc.S n) hc hll hlo)
                  have hcl := HSTL.out.cell hlt
                  have hco := HSTR.out.cell hlt
                  go_wp2_with fail
                  refine (dx_read HDX.out (n : Int)).mono ?_
                  rw [hr]
                  rintro e w10 ⟨rfl, rfl⟩
                  clear hr
                  generalize dc.S n = sl at hSl HANY HTA
                  generalize last n = la at hll HANY HTA hcl
                  generalize L n = lo at hlo HANY HTA hco
                  have hzs : (⟨sl.toArray⟩ : ByteArray).size = 64 := by rw [← size_toList]; exact hSl
                  have hzl : (⟨la.toArray⟩ : ByteArray).size = 64 := by rw [← size_toList]; exact hll
                  have hzo : (⟨lo.toArray⟩ : ByteArray).size = 64 := by rw [← size_toList]; exact hlo
                  have HRR : Hid (∃ w10, wr = w10) := Lib.hid ⟨_, rfl⟩
                  clear hSl hll hlo
                  go_wp2_with fail
                  go_loopw [26, 27] (fun tv bv wr' => Rel5 wr sl la lo tv bv wr') (fun _ bv _ => 65 - (Go.RowKit.intOf bv).toNat)
                  case atStart => exact ⟨0, 0, rfl, by omega, rfl, rfl⟩
                  case round =>
                    obtain ⟨c, m, rfl, hc65, rfl, rfl⟩ := hrel.ex
                    clear hrel
                    have HSUC : Hid ((List.range (c + 1)).any (isTorn sl la lo) = ((List.range c).any (isTorn sl la lo) || isTorn sl la lo c)) := Lib.hid (by rw [List.range_succ, List.any_append]; simp)
                    by_cases hc : c ≤ 64
                    · have ht := HTA.out c hc
                      obtain ⟨t0, ht0⟩ : ∃ t0, (List.range c).any (isTorn sl la lo) = t0 := ⟨_, rfl⟩
                      rw [ht0] at HSUC ⊢
                      cases t0
                      · go_wp2_with fail
                        go_quiet (fail)
                        go_wp2_with fail
                        go_roundw
                        case rel => exact ⟨c + 1, m + nq, by go_num, by omega, by rw [HSUC.out, Bool.false_or], rfl⟩
                        case measure => simp [Go.RowKit.intOf]; omega
                      · go_wp2_with fail
                        go_quiet (fail)
                        go_wp2_with fail
                        go_roundw
                        case rel => exact ⟨c + 1, m + nq, by go_num, by omega, by rw [HSUC.out, Bool.true_or], rfl⟩
                        case measure => simp [Go.RowKit.intOf]; omega
                    · have hgec : 65 ≤ c := by omega
                      have hany : (List.range c).any (isTorn sl la lo) = true := by rw [show c = 65 by omega]; exact HANY.out
                      rw [hany]
                      go_wp2_with fail
                      go_roundw
                      case rel => exact ⟨n + 1, by go_num, by omega, HDX.out.kept0 ((Kept.refl _ _).drewN m), HSTR.out.kept ((Kept.refl (fun _ => False) _).drewN m) (fun f => f), HSTL.out.kept ((Kept.refl (fun _ => False) _).drewN m) (fun f => f), HBW.out.trans (((Kept.refl _ _).drewN m).bel HBW.out.size)⟩
                      case measure => simp [Go.RowKit.intOf]; omega
                · have hgen : 32 ≤ n := by omega
                  go_wp2_with fail
                  go_ret
                  exact ⟨rfl, HBW.out⟩

theorem own : ownKnob Try.prog.godebug = none := by kernel_rfl
theorem laidOut : laidOutB Try.prog = true := by kernel_rfl

theorem lifted (os : Os) (started : os.Started) (H : Type) (enc : TypeId × Value → H) :
    ReturnsInHanded {} Try.checked os 4 .any (Rows.diskLastsSpec.pre6 enc Try.prog Try.f4 Rows.diskLastsRow.domain false) (Rows.diskLastsSpec.post enc Try.prog Try.f4 false true false false) := by
  refine returnsInHanded_of_change (C := Try.checked) own started (by kernel_rfl) Try.func4
    (ChangeSpec.witness6 (enc := enc) (C := Try.checked) false ⟨#[], #[.slice none 0 0, .slice none 0 0, .int .i64 0, .slice none 0 0], []⟩ 8 (by kernel_rfl) (by kernel_rfl) (by kernel_rfl) (by kernel_rfl)) ?_
  intro W base args ds gs before hval0 hW hcnd hsz
  have hval : ∀ (j : Nat) t v, Try.f4.params[j]? = some t → args[j]? = some v → Value.okWide Try.prog W .any base t v := hval0
  have hW' := hW
  obtain ⟨p, q, hA0, hV, rfl, hfz, hnd⟩ := hW
  have hA : DataW.TrodAll enc Try.prog W 0 (fun _ => true) true Try.f4.params.toList args.toList ds p := hA0
  rw [Try.params4] at hA hval
  obtain ⟨v0, vs0, d0, ds0, p0, q0, hargs, rfl, rfl, h0, r0⟩ := trodAll_cons hA
  obtain ⟨v1, vs1, d1, ds1, p1, q1, rfl, rfl, rfl, h1, r1⟩ := trodAll_cons r0
  obtain ⟨v2, vs2, d2, ds2, p2, q2, rfl, rfl, rfl, h2, r2⟩ := trodAll_cons r1
  obtain ⟨v3, vs3, d3, ds3, p3, q3, rfl, rfl, rfl, h3, r3⟩ := trodAll_cons r2
  obtain ⟨rfl, rfl, rfl⟩ := trodAll_nil r3
  obtain rfl : args = #[v0, v1, v2, v3] := by cases args; simp_all
  obtain ⟨rfl, rfl⟩ := trodVars_none hV
  have k0 := h0
  have lt0 : ∀ x ∈ p0, x.block < W.heap.size := by obtain ⟨m, hm⟩ := k0; exact DataW.trod_lt m _ _ _ hm
  obtain ⟨zs0, aa0, cc0, rfl, w0, zl0, zm0⟩ : ∃ zs aa cap1, v0 = .slice aa (List.length zs) cap1 ∧ HowAt W (fun k => k < W.heap.size) (.slice aa (List.length zs) cap1) zs ∧ zs.length ≤ cap1 ∧ cap1 ≤ maxLen := by
    obtain ⟨fuel, hf⟩ := h0
    obtain ⟨a9, len9, cap9, rfl⟩ := okWide_slice Try.underlying23 (hval 0 23 v0 rfl rfl)
    exact ints_of hf
  have k1 := h1
  have lt1 : ∀ x ∈ p1, x.block < W.heap.size := by obtain ⟨m, hm⟩ := k1; exact DataW.trod_lt m _ _ _ hm
  obtain ⟨zs1, aa1, cc1, rfl, w1, zl1, zm1⟩ : ∃ zs aa cap1, v1 = .slice aa (List.length zs) cap1 ∧ HowAt W (fun k => k < W.heap.size) (.slice aa (List.length zs) cap1) zs ∧ zs.length ≤ cap1 ∧ cap1 ≤ maxLen := by
    obtain ⟨fuel, hf⟩ := h1
    obtain ⟨a9, len9, cap9, rfl⟩ := okWide_slice Try.underlying23 (hval 1 23 v1 rfl rfl)
    exact ints_of hf
  have k2 := h2
  have lt2 : ∀ x ∈ p2, x.block < W.heap.size := by obtain ⟨m, hm⟩ := k2; exact DataW.trod_lt m _ _ _ hm
  obtain ⟨a2, e2, f2, g2, w2⟩ := open_int Try.underlying3 (hval 2 3 v2 rfl rfl) h2
  subst e2
  have k3 := h3
  have lt3 : ∀ x ∈ p3, x.block < W.heap.size := by obtain ⟨m, hm⟩ := k3; exact DataW.trod_lt m _ _ _ hm
  obtain ⟨zs3, aa3, cc3, rfl, w3, zl3, zm3⟩ : ∃ zs aa cap1, v3 = .slice aa (List.length zs) cap1 ∧ HowAt W (fun k => k < W.heap.size) (.slice aa (List.length zs) cap1) zs ∧ zs.length ≤ cap1 ∧ cap1 ≤ maxLen := by
    obtain ⟨fuel, hf⟩ := h3
    obtain ⟨a9, len9, cap9, rfl⟩ := okWide_slice Try.underlying23 (hval 3 23 v3 rfl rfl)
    exact ints_of hf
  have b2 : -9223372036854775808 ≤ a2 ∧ a2 ≤ 9223372036854775807 := by have w := w2; simp [Lit.wf, IntKind.min, IntKind.max, IntKind.bits, IntKind.signed] at w; omega
  clear hA0 hval0
  refine (walk aa0 cc0 zs0 aa1 cc1 zs1 a2 aa3 cc3 zs3 W b2.1 b2.2 (Nat.le_trans zl0 zm0) (Nat.le_trans zl1 zm1) w0 w1 w3).mono fun e W' ⟨he, bel⟩ => ?_
  subst he
  exact ⟨_, rfl, _, _, _, [], _, [], hW', trodAll_mk1 (shut_bool Try.underlying4 _), (trodAll_cons_mk (Below.trod laidOut (by kernel_rfl) (of_decide_eq_true (by kernel_rfl)) k0 bel lt0) (trodAll_cons_mk (Below.trod laidOut (by kernel_rfl) (of_decide_eq_true (by kernel_rfl)) k1 bel lt1) (trodAll_cons_mk (Below.trod laidOut (by kernel_rfl) (of_decide_eq_true (by kernel_rfl)) k2 bel lt2) (trodAll_cons_mk (Below.trod laidOut (by kernel_rfl) (of_decide_eq_true (by kernel_rfl)) k3 bel lt3) trodAll_mk0)))), rfl, bel.frame _, fun h => by cases h⟩

theorem over : Rows.diskLastsRow.holds Try.pinned (OpenSpec.ofChange Rows.diskLastsSpec) :=
  OpenClaim.holds_of_wide 4 Try.f4 rfl rfl rfl rfl rfl rfl rfl ⟨rfl, rfl, rfl, rfl, rfl⟩ rfl rfl rfl rfl rfl (by kernel_rfl) Try.func4 (by kernel_rfl)
    (of_decide_eq_true (by kernel_rfl)) (by unfold Func.isWrapper; first | (rw [if_pos (by decide +kernel)]; kernel_rfl) | (rw [if_neg (by decide +kernel)]; exact ⟨rfl, rfl⟩))
    (fun os started H enc _ => lifted os started H enc)

/-- the given statement -/
theorem proved : Rows.DiskLastsSaid := over
#print axioms proved
end Go.Proofs.Ytkabdhpimokigaa.diskLasts
