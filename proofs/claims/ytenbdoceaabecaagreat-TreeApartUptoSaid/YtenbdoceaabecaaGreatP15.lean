/- Entries that came in, opened to their cells. -/
import Derived.Test.YtenbdoceaabecaaGreatRows
import Derived.Test.YtenbdoceaabecaaGreatP13
import Derived.Test.YtenbdoceaabecaaGreatP14
namespace Go.Proofs.YtenbdoceaabecaaGreat
open Go.ChangeShapes Go.WideShapes Go.ChangeAt Go.RowKit
set_option linter.unusedVariables false
set_option linter.unusedSimpArgs false
/-! bulk -/
theorem bulk_pos {H : Type} (d : DataW H) : 1 ≤ Rows.uptoBulk d := by
  cases d with
  | lit l => cases l <;> simp [Rows.uptoBulk]
  | _ => simp [Rows.uptoBulk]
theorem bulk_len {H : Type} : ∀ (l : List (DataW H)), l.length ≤ Rows.uptoBulkAll l
  | [] => Nat.zero_le _
  | d :: l => by
    have := bulk_len l
    have h1 := bulk_pos d
    simp only [List.length_cons, Rows.uptoBulkAll]
    omega
theorem bulk_get {H : Type} : ∀ {l : List (DataW H)} {j : Nat} {d : DataW H}, l[j]? = some d → Rows.uptoBulk d ≤ Rows.uptoBulkAll l
  | [], _, _, h => by simp at h
  | x :: l, 0, d, h => by
    simp at h; subst h
    simp only [Rows.uptoBulkAll]; omega
  | x :: l, j + 1, d, h => by
    have := bulk_get (l := l) (j := j) (d := d) (by simpa using h)
    simp only [Rows.uptoBulkAll]; omega
theorem bulk_two {H : Type} : ∀ {l : List (DataW H)} {i j : Nat} {d e : DataW H}, l[i]? = some d → l[j]? = some e → i < j → Rows.uptoBulk d + Rows.uptoBulk e ≤ Rows.uptoBulkAll l
  | [], _, _, _, _, h, _, _ => by simp at h
  | x :: l, 0, j + 1, d, e, h, h2, _ => by
    simp at h; subst h
    have := bulk_get (l := l) (j := j) (d := e) (by simpa using h2)
    simp only [Rows.uptoBulkAll]; omega
  | x :: l, i + 1, j + 1, d, e, h, h2, hij => by
    have := bulk_two (l := l) (i := i) (j := j) (d := d) (e := e) (by simpa using h) (by simpa using h2) (by omega)
    simp only [Rows.uptoBulkAll]; omega
theorem bulk_app {H : Type} (l r : List (DataW H)) : Rows.uptoBulkAll (l ++ r) = Rows.uptoBulkAll l + Rows.uptoBulkAll r := by
  induction l with
  | nil => simp [Rows.uptoBulkAll]
  | cons x l ih => simp only [List.cons_append, Rows.uptoBulkAll, ih]; omega
theorem snocI {α : Type} {p : List α → Prop} (h0 : p []) (h1 : ∀ l a, p l → p (l ++ [a])) (l : List α) : p l := by
  have : ∀ (r : List α), p r.reverse := fun r => by
    induction r with
    | nil => exact h0
    | cons a r ih => rw [List.reverse_cons]; exact h1 _ _ ih
  have := this l.reverse
  rwa [List.reverse_reverse] at this
theorem le_sum : ∀ {l : List Nat} {x : Nat}, x ∈ l → x ≤ l.sum
  | [], _, h => (List.not_mem_nil h).elim
  | a :: l, x, h => by
    rw [List.sum_cons]
    rcases List.mem_cons.1 h with rfl | h
    · omega
    · have := le_sum h; omega
theorem bulk_sum {H : Type} {α : Type} {f : α → Nat} {D : Nat → DataW H} {l : List α} (h : ∀ i (h : i < l.length), f l[i] ≤ Rows.uptoBulk (D i)) : (l.map f).sum ≤ Rows.uptoBulkAll ((List.range l.length).map D) := by
  induction l using snocI with
  | h0 => simp
  | h1 l a ih =>
    have h1 := ih (fun i hi => by
      have := h i (by simp; omega)
      rwa [List.getElem_append_left hi] at this)
    have h2 := h l.length (by simp)
    rw [List.getElem_append_right (by omega)] at h2
    simp only [Nat.sub_self, List.getElem_cons_zero] at h2
    rw [List.map_append, List.sum_append, List.length_append, List.length_singleton, List.range_succ, List.map_append, bulk_app]
    simp only [List.map_cons, List.map_nil, List.sum_cons, List.sum_nil, Rows.uptoBulkAll]
    omega
theorem flat_back {α : Type} {f : α → List Value} {c : Nat} (hc : ∀ a, (f a).length = c) (h0 : 0 < c) : ∀ (l : List α) (j : Nat) (u : Value), (l.flatMap f)[j]? = some u → ∃ x, l[j / c]? = some x ∧ (f x)[j % c]? = some u
  | [], j, u, h => by simp at h
  | a :: l, j, u, h => by
    rw [List.flatMap_cons] at h
    by_cases hj : j < c
    · rw [List.getElem?_append_left (by rw [hc]; exact hj)] at h
      exact ⟨a, by rw [Nat.div_eq_of_lt hj]; rfl, by rw [Nat.mod_eq_of_lt hj]; exact h⟩
    · rw [List.getElem?_append_right (by rw [hc]; omega), hc] at h
      obtain ⟨x, h1, h2⟩ := flat_back hc h0 l (j - c) u h
      have e1 : j / c = (j - c) / c + 1 := by rw [Nat.div_eq_sub_div h0 (by omega)]
      have e2 : j % c = (j - c) % c := by rw [Nat.mod_eq_sub_mod (by omega)]
      exact ⟨x, by rw [e1]; exact h1, by rw [e2]; exact h2⟩
section
variable {H : Type} {enc : TypeId × Value → H} {w : World} {base : Nat} {held : Bool}
/-- a slice's elements, one by one; and how many -/
theorem elems_of {tS e : TypeId} {sz by_ : Nat} (hu : Tryz.prog.underlying tS = some (.slice e)) (hC : Tryz.prog.cellsOf e = sz) (hB : Tryz.prog.bytesOf e = by_) (h1 : 0 < sz) {fuel : Nat} {a : Option Addr} {len cap : Nat} {x : DataW H × List MemPlace}
    (h : DataW.trod enc Tryz.prog w base (fun _ => true) held fuel tS [.slice a len cap] = some x) (hz : ∀ n ∈ x.1.weights Tryz.prog tS, n ≤ reachBytes) :
    len * by_ ≤ reachBytes ∧ (a = none → len = 0 ∧ cap = 0) ∧ ∃ D : Nat → DataW H, Rows.uptoBulkAll ((List.range len).map D) + 1 ≤ Rows.uptoBulk x.1 ∧ ∀ i, i < len → ∃ g off n cs y, a = some ⟨g, off, none⟩ ∧ g < w.heap.size ∧ (∀ j v, cs[j]? = some v → w.cell? ⟨g, off + i * sz + j, none⟩ = some v) ∧ DataW.trod enc Tryz.prog w base (fun _ => true) held n e cs = some y ∧ y.1 = D i ∧ ∀ n ∈ y.1.weights Tryz.prog e, n ≤ reachBytes := by
  rcases Go.Deep.open_slice hu h with ⟨hc, _⟩ | ⟨a', len', cap', m, n, D, Pl, hc, hb, hl, hm, hmm, hx, hi⟩
  · simp at hc
    obtain ⟨rfl, rfl, rfl⟩ := hc
    exact ⟨by simp, fun _ => ⟨rfl, rfl⟩, fun _ => .nil, by simpa [Rows.uptoBulkAll] using bulk_pos x.1, fun i h => by simp at h⟩
  · simp at hc
    obtain ⟨rfl, rfl, rfl⟩ := hc
    simp only [if_true] at hmm
    have hlb : len * by_ ≤ reachBytes := by
      have hw := hz (((List.range len).map D).length * by_ + ((List.range (m - len)).map fun j => D (len + j)).length * by_) (by
        rw [hx]
        simp only [DataW.weights, hu, hB, Nat.add_mul]
        exact List.mem_cons_self)
      rw [List.length_map, List.length_range] at hw
      omega
    refine ⟨hlb, fun e => (by cases e), D, by rw [hx]; simp only [Rows.uptoBulk]; omega, fun i hil => ?_⟩
    rw [hC] at hi
    obtain ⟨cs', hcells, ht⟩ := hi i (by omega)
    obtain ⟨_, hlen', hat⟩ := World.cells?_some hcells
    have hat' : ∀ j v, cs'[j]? = some v → w.cell? ((a'.add (i * sz)).add j) = some v := fun j v hj => by
      have hj5 : j < sz := by have := (List.getElem?_eq_some_iff.1 hj).1; omega
      rw [hat j (by omega)]; exact hj
    obtain ⟨b, off, spot⟩ := a'
    have hspot : spot = none := by
      obtain ⟨cs0, hc0, _⟩ := hi 0 (by omega)
      obtain ⟨_, hl0, hat0⟩ := World.cells?_some hc0
      have h0 := hat0 0 (by omega)
      obtain ⟨v0, hv0⟩ : ∃ v, cs0[0]? = some v := ⟨cs0[0]'(by omega), List.getElem?_eq_getElem _⟩
      have h1 := World.cell?_spot (h0.trans hv0)
      simpa [Addr.add] using h1
    subst hspot
    have hadd : ∀ o j, (⟨b, o, none⟩ : Addr).add j = ⟨b, o + j, none⟩ := fun o j => by unfold Addr.add; split <;> simp_all
    simp only [hadd] at hat'
    refine ⟨b, off, n, cs', (D i, Pl i), rfl, World.block_lt_of_cell? w _ (hat' 0 _ (List.getElem?_eq_getElem (by omega))), hat', ht, rfl, fun n hn => hz n ?_⟩
    rw [hx]
    simp only [DataW.weights, hu]
    exact List.mem_cons_of_mem _ (List.mem_append_left _ (weights_all (l := (List.range len).map D) (i := i) (d := D i) (by simp [hil]) hn))
/-- a row of an ACL -/
theorem ar_of {n : Nat} {cs : List Value} {x : DataW H × List MemPlace} (h : DataW.trod enc Tryz.prog w base (fun _ => true) held n 89 cs = some x) : ∃ r : AR, cs = r.cells := by
  obtain ⟨m, dd, hlen, hxd, hf⟩ := struct_read Tryz.underlying89 (by kernel_rfl) (by kernel_rfl) h
  have hl : cs.length = 2 := hlen
  match cs, hl with
  | [c0, c1], _ =>
    obtain ⟨v0, y0, e0, h0, _⟩ := hf 0 _ rfl
    obtain ⟨v1, y1, e1, h1, _⟩ := hf 1 _ rfl
    simp at e0 e1
    subst e0 e1
    obtain ⟨k, ek, _, _⟩ := DataW.trod_int Tryz.underlying3 h0
    obtain ⟨s, es, _, _⟩ := DataW.trod_string Tryz.underlying9 h1
    simp only [List.cons.injEq, and_true] at ek es
    subst ek es
    exact ⟨⟨k, s⟩, rfl⟩
theorem acl_of {fuel : Nat} {a : Option Addr} {len cap : Nat} {x : DataW H × List MemPlace}
    (h : DataW.trod enc Tryz.prog w base (fun _ => true) held fuel 28 [.slice a len cap] = some x) (hz : ∀ n ∈ x.1.weights Tryz.prog 28, n ≤ reachBytes) :
    ∃ l : List AR, l.length = len ∧ AclIn w (.slice a len cap) l ∧ ∀ ad, a = some ad → l = [] ∨ ad.block < w.heap.size := by
  obtain ⟨hlen, hnone, D, hD, hall⟩ := elems_of Tryz.underlying28 (sz := 2) (by_ := 24) (by kernel_rfl) (by kernel_rfl) (by decide) h hz
  obtain ⟨l, hl, hq⟩ := list_of (α := AR) (Q := fun i r => ∃ g off, a = some ⟨g, off, none⟩ ∧ g < w.heap.size ∧ ∀ j v, (r.cells)[j]? = some v → w.cell? ⟨g, off + i * 2 + j, none⟩ = some v) len (fun i hi => by
    obtain ⟨g, off, n, cs, y, ha, hg, hc, ht, _, _⟩ := hall i hi
    obtain ⟨r, rfl⟩ := ar_of ht
    exact ⟨r, g, off, ha, hg, hc⟩)
  refine ⟨l, hl, ⟨?_, ?_⟩, fun ad e => ?_⟩
  · cases a with
    | none =>
      obtain ⟨rfl, rfl⟩ := hnone rfl
      exact .inl ⟨rfl, List.length_eq_zero_iff.1 hl⟩
    | some ad =>
      refine .inr ⟨ad, cap, by rw [hl], fun j u hu => ?_⟩
      obtain ⟨r, h1, h2⟩ := flat_back (f := AR.cells) (c := 2) (fun _ => rfl) (by decide) l j u hu
      obtain ⟨hi, rfl⟩ := List.getElem?_eq_some_iff.1 h1
      obtain ⟨g, off, ha, hg, hc⟩ := hq _ hi
      injection ha with ha
      subst ha
      have := hc _ _ h2
      rw [show off + j / 2 * 2 + j % 2 = off + j by omega] at this
      rw [show (⟨g, off, none⟩ : Addr).add j = ⟨g, off + j, none⟩ by unfold Addr.add; split <;> simp_all]
      exact this
  · rw [hl]
    have h9 : reachBytes = 140737488351232 := rfl
    omega
  · cases l with
    | nil => exact .inl rfl
    | cons r l =>
      right
      obtain ⟨g, off, ha, hg, _⟩ := hq 0 (by simp)
      rw [e] at ha
      injection ha with ha
      subst ha; exact hg
theorem acl_bulk {fuel : Nat} {a : Option Addr} {len cap : Nat} {x : DataW H × List MemPlace}
    (h : DataW.trod enc Tryz.prog w base (fun _ => true) held fuel 28 [.slice a len cap] = some x) (hz : ∀ n ∈ x.1.weights Tryz.prog 28, n ≤ reachBytes) : len ≤ Rows.uptoBulk x.1 := by
  obtain ⟨_, _, D, hD, _⟩ := elems_of Tryz.underlying28 (sz := 2) (by_ := 24) (by kernel_rfl) (by kernel_rfl) (by decide) h hz
  have := bulk_len ((List.range len).map D)
  rw [List.length_map, List.length_range] at this
  omega
/-- a slice's shape -/
theorem shape_of {tS e : TypeId} (hu : Tryz.prog.underlying tS = some (.slice e)) {n : Nat} {c : Value} {y : DataW H × List MemPlace} (h : DataW.trod enc Tryz.prog w base (fun _ => true) held n tS [c] = some y) : ∃ a l cap, c = Value.slice a l cap := by
  rcases Go.Deep.open_slice hu h with ⟨hc, _⟩ | ⟨a', len', cap', m, n, D, Pl, hc, _⟩
  · simp only [List.cons.injEq, and_true] at hc
    exact ⟨_, _, _, hc⟩
  · simp only [List.cons.injEq, and_true] at hc
    exact ⟨_, _, _, hc⟩
theorem text_fit {s : ByteArray} {y : DataW H × List MemPlace} (hy : y = (.lit (.string s.data.toList), [])) (hz : ∀ n ∈ y.1.weights Tryz.prog 9, n ≤ reachBytes) : s.size ≤ 140737488351232 := by
  have := hz s.data.toList.length (by rw [hy]; simp [DataW.weights])
  rw [Array.length_toList] at this
  exact this
theorem lit64 {k : Int} (h : (Lit.int .i64 k).wf = true) : -9223372036854775808 ≤ k ∧ k ≤ 9223372036854775807 := by
  simp [Lit.wf, IntKind.min, IntKind.max, IntKind.bits, IntKind.signed] at h; omega
/-- what is known of a transaction that came in, but for its parts -/
structure TxIn1 (w : World) (x : T1) (y : TX) : Prop where
  acl : AclIn w (.slice y.aa y.an y.ac) x.acl
  blk : ∀ ad, y.aa = some ad → x.acl = [] ∨ ad.block < w.heap.size
  path : x.path.size ≤ 140737488351232
  data : x.data.size ≤ 140737488351232
  kind : -9223372036854775808 ≤ x.kind ∧ x.kind ≤ 9223372036854775807
  owner : -9223372036854775808 ≤ x.owner ∧ x.owner ≤ 9223372036854775807
  number : -9223372036854775808 ≤ x.number ∧ x.number ≤ 9223372036854775807
  err : -9223372036854775808 ≤ y.err ∧ y.err ≤ 9223372036854775807
theorem tx1_of {n : Nat} {cs : List Value} {x : DataW H × List MemPlace} (h : DataW.trod enc Tryz.prog w base (fun _ => true) held n 32 cs = some x) (hz : ∀ n ∈ x.1.weights Tryz.prog 32, n ≤ reachBytes) :
    ∃ (t : T1) (y : TX) (m : Nat) (z : DataW H × List MemPlace), cs = txnL t y ∧ TxIn1 w t y ∧ DataW.trod enc Tryz.prog w base (fun _ => true) held m 30 [.slice y.sa y.sn y.sc] = some z ∧ (∀ n ∈ z.1.weights Tryz.prog 30, n ≤ reachBytes) ∧ (t.path.size ≤ Rows.uptoBulk x.1 ∧ t.acl.length ≤ Rows.uptoBulk x.1) ∧ Rows.uptoBulk z.1 + 1 ≤ Rows.uptoBulk x.1 := by
  obtain ⟨m, dd, hlen, hxd, hf⟩ := struct_read Tryz.underlying32 (by kernel_rfl) (by kernel_rfl) h
  have hl : cs.length = 8 := hlen
  match cs, hl with
  | [c0, c1, c2, c3, c4, c5, c6, c7], _ =>
    obtain ⟨v0, y0, e0, h0, u0⟩ := hf 0 _ rfl
    obtain ⟨v1, y1, e1, h1, u1⟩ := hf 1 _ rfl
    obtain ⟨v2, y2, e2, h2, u2⟩ := hf 2 _ rfl
    obtain ⟨v3, y3, e3, h3, u3⟩ := hf 3 _ rfl
    obtain ⟨v4, y4, e4, h4, u4⟩ := hf 4 _ rfl
    obtain ⟨v5, y5, e5, h5, u5⟩ := hf 5 _ rfl
    obtain ⟨v6, y6, e6, h6, u6⟩ := hf 6 _ rfl
    obtain ⟨v7, y7, e7, h7, u7⟩ := hf 7 _ rfl
    simp at e0 e1 e2 e3 e4 e5 e6 e7
    subst e0 e1 e2 e3 e4 e5 e6 e7
    have hw1 : ∀ n ∈ y1.1.weights Tryz.prog 9, n ≤ reachBytes := fun n hn => hz n (by
      rw [hxd]
      simp only [DataW.weights, Tryz.underlying32]
      exact DataW.weights_mem_each (j := 1) rfl u1 _ hn)
    have hw2 : ∀ n ∈ y2.1.weights Tryz.prog 9, n ≤ reachBytes := fun n hn => hz n (by
      rw [hxd]
      simp only [DataW.weights, Tryz.underlying32]
      exact DataW.weights_mem_each (j := 2) rfl u2 _ hn)
    have hw3 : ∀ n ∈ y3.1.weights Tryz.prog 28, n ≤ reachBytes := fun n hn => hz n (by
      rw [hxd]
      simp only [DataW.weights, Tryz.underlying32]
      exact DataW.weights_mem_each (j := 3) rfl u3 _ hn)
    have hw7 : ∀ n ∈ y7.1.weights Tryz.prog 30, n ≤ reachBytes := fun n hn => hz n (by
      rw [hxd]
      simp only [DataW.weights, Tryz.underlying32]
      exact DataW.weights_mem_each (j := 7) rfl u7 _ hn)
    obtain ⟨k0, ek0, _, w0⟩ := DataW.trod_int Tryz.underlying3 h0
    obtain ⟨s1, es1, ys1, _⟩ := DataW.trod_string Tryz.underlying9 h1
    obtain ⟨s2, es2, ys2, _⟩ := DataW.trod_string Tryz.underlying9 h2
    obtain ⟨a3, l3, p3, rfl⟩ := shape_of Tryz.underlying28 h3
    obtain ⟨k4, ek4, _, w4⟩ := DataW.trod_int Tryz.underlying3 h4
    obtain ⟨k5, ek5, _, w5⟩ := DataW.trod_int Tryz.underlying3 h5
    obtain ⟨k6, ek6, _, w6⟩ := DataW.trod_int Tryz.underlying29 h6
    obtain ⟨a7, l7, p7, rfl⟩ := shape_of Tryz.underlying30 h7
    simp only [List.cons.injEq, and_true] at ek0 es1 es2 ek4 ek5 ek6
    subst ek0 es1 es2 ek4 ek5 ek6
    obtain ⟨al, hal, hacl, hblk⟩ := acl_of h3 hw3
    refine ⟨⟨k0, s1, s2, al, k4, k5⟩, ⟨a3, l3, p3, k6, a7, l7, p7⟩, _, y7, rfl, ⟨hacl, hblk, text_fit ys1 hw1, text_fit ys2 hw2, lit64 w0, lit64 w4, lit64 w5, lit64 w6⟩, h7, hw7, ⟨?_, ?_⟩, ?_⟩
    · have := bulk_get u1
      rw [hxd, ys1] at *
      simp only [Rows.uptoBulk, Array.length_toList] at this ⊢
      show s1.data.size ≤ _
      omega
    · have h9 := acl_bulk h3 hw3
      have := bulk_get u3
      rw [hxd]
      simp only [Rows.uptoBulk]
      show al.length ≤ _
      omega
    · have := bulk_get u7
      rw [hxd]
      simp only [Rows.uptoBulk]
      omega
/-- a transaction that came in, with its parts (their own parts are not looked at) -/
structure TxIn (w : World) (x : T1) (y : TX) (l : List (T1 × TX)) : Prop where
  one : TxIn1 w x y
  len : y.sn = l.length
  few : l.length ≤ 2000000000000
  subs : ∀ p ∈ l, TxIn1 w p.1 p.2
  at_ : ∀ i p, l[i]? = some p → ∃ g off, y.sa = some ⟨g, off, none⟩ ∧ g < w.heap.size ∧ ∀ j u, (txnL p.1 p.2)[j]? = some u → w.cell? ⟨g, off + i * 8 + j, none⟩ = some u
/-- how much a transaction holds -/
structure TxLess (t : T1) (l : List (T1 × TX)) (n : Nat) : Prop where
  path : t.path.size ≤ n ∧ t.acl.length ≤ n
  len : l.length + 1 ≤ n
  subs : ∀ p ∈ l, p.1.path.size ≤ n ∧ p.1.acl.length ≤ n
theorem TxLess.mono {t : T1} {l : List (T1 × TX)} {n m : Nat} (h : TxLess t l n) (hm : n ≤ m) : TxLess t l m := ⟨⟨Nat.le_trans h.path.1 hm, Nat.le_trans h.path.2 hm⟩, Nat.le_trans h.len hm, fun p hp => ⟨Nat.le_trans (h.subs p hp).1 hm, Nat.le_trans (h.subs p hp).2 hm⟩⟩
theorem tx_of {n : Nat} {cs : List Value} {x : DataW H × List MemPlace} (h : DataW.trod enc Tryz.prog w base (fun _ => true) held n 32 cs = some x) (hz : ∀ n ∈ x.1.weights Tryz.prog 32, n ≤ reachBytes) :
    ∃ (t : T1) (y : TX) (l : List (T1 × TX)), cs = txnL t y ∧ TxIn w t y l ∧ TxLess t l (Rows.uptoBulk x.1) := by
  obtain ⟨t, y, m, z, rfl, ht, hs, hsz, hbp, hbz⟩ := tx1_of h hz
  obtain ⟨hlen, _, D, hD, hall⟩ := elems_of Tryz.underlying30 (sz := 8) (by_ := 112) (by kernel_rfl) (by kernel_rfl) (by decide) hs hsz
  obtain ⟨l, hl, hq⟩ := list_of (α := T1 × TX) (Q := fun i p => TxIn1 w p.1 p.2 ∧ (p.1.path.size ≤ Rows.uptoBulk (D i) ∧ p.1.acl.length ≤ Rows.uptoBulk (D i)) ∧ ∃ g off, y.sa = some ⟨g, off, none⟩ ∧ g < w.heap.size ∧ ∀ j u, (txnL p.1 p.2)[j]? = some u → w.cell? ⟨g, off + i * 8 + j, none⟩ = some u) y.sn (fun i hi => by
    obtain ⟨g, off, n, cs, y', ha, hg, hc, ht, hyd, hw⟩ := hall i hi
    obtain ⟨t', yy, _, _, rfl, h1, _, _, hb1, _⟩ := tx1_of ht hw
    exact ⟨(t', yy), h1, by rw [← hyd]; exact hb1, g, off, ha, hg, hc⟩)
  have hbl : (l.map fun p => p.1.path.size).sum ≤ Rows.uptoBulkAll ((List.range y.sn).map D) := by
    rw [← hl]; exact bulk_sum fun i hi => (hq i hi).2.1.1
  have hbl2 : (l.map fun p => p.1.acl.length).sum ≤ Rows.uptoBulkAll ((List.range y.sn).map D) := by
    rw [← hl]; exact bulk_sum fun i hi => (hq i hi).2.1.2
  have hbn := bulk_len ((List.range y.sn).map D)
  rw [List.length_map, List.length_range] at hbn
  refine ⟨t, y, l, rfl, ⟨ht, hl.symm, ?_, fun p hp => ?_, fun i p hp => ?_⟩, ⟨hbp, by omega, fun p hp => ?_⟩⟩
  · have h9 : reachBytes = 140737488351232 := rfl
    rw [hl]; omega
  · obtain ⟨i, hi, rfl⟩ := List.getElem_of_mem hp
    exact (hq i hi).1
  · obtain ⟨hi, rfl⟩ := List.getElem?_eq_some_iff.1 hp
    exact (hq i hi).2.2
  · have h1 := le_sum (l := l.map fun p => p.1.path.size) (List.mem_map.2 ⟨p, hp, rfl⟩)
    have h2 := le_sum (l := l.map fun p => p.1.acl.length) (List.mem_map.2 ⟨p, hp, rfl⟩)
    constructor <;> omega
/-- an entry's own numbers -/
structure ExIn (e : EX) : Prop where
  zx : -9223372036854775808 ≤ e.zx ∧ e.zx ≤ 9223372036854775807
  sess : -9223372036854775808 ≤ e.sess ∧ e.sess ≤ 9223372036854775807
  xid : -9223372036854775808 ≤ e.xid ∧ e.xid ≤ 9223372036854775807
def entC1 (e : EX) (x : T1) (y : TX) : List Value := [.int .i64 e.zx, .int .i64 e.sess, .int .i64 e.xid] ++ txnL x y
set_option maxRecDepth 100000 in
theorem ent_of {n : Nat} {cs : List Value} {x : DataW H × List MemPlace} (h : DataW.trod enc Tryz.prog w base (fun _ => true) held n 34 cs = some x) (hz : ∀ n ∈ x.1.weights Tryz.prog 34, n ≤ reachBytes) :
    ∃ (e : EX) (t : T1) (y : TX) (l : List (T1 × TX)), cs = entC1 e t y ∧ ExIn e ∧ TxIn w t y l ∧ TxLess t l (Rows.uptoBulk x.1) := by
  obtain ⟨xs, m, _, hxe, hlen, hxl, hf⟩ := DataW.trod_struct Tryz.underlying34 h
  rw [show Tryz.prog.cellsOf 34 = 11 by kernel_rfl] at hlen
  have hxl : xs.length = 4 := hxl
  have h0 := hf 0 _ rfl
  have h1 := hf 1 _ rfl
  have h2 := hf 2 _ rfl
  have h3 := hf 3 _ rfl
  match cs, hlen with
  | [c0, c1, c2, c3, c4, c5, c6, c7, c8, c9, c10], _ =>
    match xs, hxl with
    | [x0, x1, x2, x3], _ =>
      have e8 : Tryz.prog.cellsOf 32 = 8 := by kernel_rfl
      have e1 : Tryz.prog.cellsOf 3 = 1 := by kernel_rfl
      have h0 : DataW.trod enc Tryz.prog w base (fun _ => true) held m 3 ([c0, c1, c2, c3, c4, c5, c6, c7, c8, c9, c10].take (Tryz.prog.cellsOf 3)) = some x0 := h0
      have h1 : DataW.trod enc Tryz.prog w base (fun _ => true) held m 3 ([c1, c2, c3, c4, c5, c6, c7, c8, c9, c10].take (Tryz.prog.cellsOf 3)) = some x1 := h1
      have h2 : DataW.trod enc Tryz.prog w base (fun _ => true) held m 3 ([c2, c3, c4, c5, c6, c7, c8, c9, c10].take (Tryz.prog.cellsOf 3)) = some x2 := h2
      have h3 : DataW.trod enc Tryz.prog w base (fun _ => true) held m 32 ([c3, c4, c5, c6, c7, c8, c9, c10].take (Tryz.prog.cellsOf 32)) = some x3 := h3
      rw [e1] at h0 h1 h2
      rw [e8] at h3
      obtain ⟨k0, ek0, _, w0⟩ := DataW.trod_int Tryz.underlying3 h0
      obtain ⟨k1, ek1, _, w1⟩ := DataW.trod_int Tryz.underlying3 h1
      obtain ⟨k2, ek2, _, w2⟩ := DataW.trod_int Tryz.underlying3 h2
      simp only [List.take_succ_cons, List.take_zero, List.cons.injEq, and_true] at ek0 ek1 ek2
      subst ek0 ek1 ek2
      obtain ⟨t, y, l, ht, hx, hbt⟩ := tx_of h3 (fun n hn => hz n (by
        rw [hxe]
        simp only [DataW.weights, Tryz.underlying34]
        exact DataW.weights_mem_each (j := 3) rfl rfl _ hn))
      have ht : [c3, c4, c5, c6, c7, c8, c9, c10] = txnL t y := ht
      exact ⟨⟨k0, k1, k2⟩, t, y, l, by unfold entC1; rw [← ht]; rfl, ⟨lit64 w0, lit64 w1, lit64 w2⟩, hx, hbt.mono (by rw [hxe]; simp only [Rows.uptoBulk, List.map_cons, List.map_nil, Rows.uptoBulkAll]; omega)⟩
/-- entries in memory that came in -/
structure EntsIn (w : World) (a : Option Addr) (l : List (EX × T1 × TX × List (T1 × TX))) : Prop where
  fits : ∀ p ∈ l, ExIn p.1 ∧ TxIn w p.2.1 p.2.2.1 p.2.2.2
  len : l.length ≤ 1100000000000
  at_ : ∀ i p, l[i]? = some p → ∃ g off, a = some ⟨g, off, none⟩ ∧ g < w.heap.size ∧ ∀ j u, (entC1 p.1 p.2.1 p.2.2.1)[j]? = some u → w.cell? ⟨g, off + i * 11 + j, none⟩ = some u
theorem ents_of {fuel : Nat} {a : Option Addr} {len cap : Nat} {x : DataW H × List MemPlace}
    (h : DataW.trod enc Tryz.prog w base (fun _ => true) held fuel 44 [.slice a len cap] = some x) (hz : ∀ n ∈ x.1.weights Tryz.prog 44, n ≤ reachBytes) :
    ∃ l : List (EX × T1 × TX × List (T1 × TX)), l.length = len ∧ EntsIn w a l ∧ (∀ p ∈ l, TxLess p.2.1 p.2.2.2 (Rows.uptoBulk x.1)) ∧ (l.map fun p => p.2.2.2.length + 1).sum ≤ Rows.uptoBulk x.1 := by
  obtain ⟨hlen, _, D, hD, hall⟩ := elems_of Tryz.underlying44 (sz := 11) (by_ := 136) (by kernel_rfl) (by kernel_rfl) (by decide) h hz
  obtain ⟨l, hl, hq⟩ := list_of (α := EX × T1 × TX × List (T1 × TX)) (Q := fun i p => ((ExIn p.1 ∧ TxIn w p.2.1 p.2.2.1 p.2.2.2) ∧ TxLess p.2.1 p.2.2.2 (Rows.uptoBulk (D i))) ∧ ∃ g off, a = some ⟨g, off, none⟩ ∧ g < w.heap.size ∧ ∀ j u, (entC1 p.1 p.2.1 p.2.2.1)[j]? = some u → w.cell? ⟨g, off + i * 11 + j, none⟩ = some u) len (fun i hi => by
    obtain ⟨g, off, n, cs, y', ha, hg, hc, ht, hyd, hw⟩ := hall i hi
    obtain ⟨e, t, y, sl, rfl, he, hx, hb⟩ := ent_of ht hw
    exact ⟨(e, t, y, sl), ⟨⟨he, hx⟩, by rw [← hyd]; exact hb⟩, g, off, ha, hg, hc⟩)
  have hbl : (l.map fun p => p.2.2.2.length + 1).sum ≤ Rows.uptoBulkAll ((List.range len).map D) := by
    rw [← hl]; exact bulk_sum fun i hi => (hq i hi).1.2.len
  refine ⟨l, hl, ⟨fun p hp => ?_, ?_, fun i p hp => ?_⟩, fun p hp => ?_, by omega⟩
  · obtain ⟨i, hi, rfl⟩ := List.getElem_of_mem hp
    exact (hq i hi).1.1
  · have h9 : reachBytes = 140737488351232 := rfl
    rw [hl]; omega
  · obtain ⟨hi, rfl⟩ := List.getElem?_eq_some_iff.1 hp
    exact (hq i hi).2
  · obtain ⟨i, hi, rfl⟩ := List.getElem_of_mem hp
    refine (hq i hi).1.2.mono ?_
    have := bulk_get (l := (List.range len).map D) (j := i) (d := D i) (by simp [← hl, hi])
    omega
end
end Go.Proofs.YtenbdoceaabecaaGreat
