/-
  A sector put behind others, to both caches; the list is lent.
-/
import Derived.Test.YtamoepninddbcaaGreatMF
namespace Go.Proofs.YtamoepninddbcaaGreat
open Go.RowKit

/-- A step of a script. -/
structure SV where
  kind : Int
  N : Int
  tag : Int
  byte : Int
  af : List Int
structure SV.OK (x : SV) : Prop where
  k : I64 x.kind
  n : I64 x.N
  t : I64 x.tag
  a : ∀ k, k < x.af.length → I64 (x.af.getD k 0)
  l : x.af.length ≤ 17592186043904
def SV.cells (x : SV) (a : Option Addr) (ca : Nat) : List Value := [.int .i64 x.kind, .int .i64 x.N, .int .i64 x.tag, .int .i64 x.byte, .slice a x.af.length ca]
/-- The step lies in memory. -/
def StepB (w : World) (b : Nat) (x : SV) (a : Option Addr) (ca : Nat) : Prop := w.heap[b]? = some (.cells (x.cells a ca).toArray 29 (0, 0))
section
variable {w : World} {b : Nat} {x : SV} {a : Option Addr} {ca : Nat}
theorem StepB.c0 (h : StepB w b x a ca) : w.cell? ⟨b, 0, none⟩ = some (.int .i64 x.kind) := by rw [cell_of_row _ _ _ _ _ _ h]; rfl
theorem StepB.c1 (h : StepB w b x a ca) : w.cell? ⟨b, 1, none⟩ = some (.int .i64 x.N) := by rw [cell_of_row _ _ _ _ _ _ h]; rfl
theorem StepB.c2 (h : StepB w b x a ca) : w.cell? ⟨b, 2, none⟩ = some (.int .i64 x.tag) := by rw [cell_of_row _ _ _ _ _ _ h]; rfl
theorem StepB.c3 (h : StepB w b x a ca) : w.cell? ⟨b, 3, none⟩ = some (.int .i64 x.byte) := by rw [cell_of_row _ _ _ _ _ _ h]; rfl
theorem StepB.c4 (h : StepB w b x a ca) : w.cell? ⟨b, 4, none⟩ = some (.slice a x.af.length ca) := by rw [cell_of_row _ _ _ _ _ _ h]; rfl
end
theorem pr1 {w : World} {A : PA} {lo : Bool} {f : Nat × Nat} (h : w.heap[A.pp]? = some (.cells (PrC A lo) 36 f)) : w.cell? ⟨A.pp, 1, none⟩ = some (.pointer (some ⟨A.c, 0, none⟩)) := by rw [cell_of_row _ _ _ _ _ _ h]; rfl
theorem pr3 {w : World} {A : PA} {lo : Bool} {f : Nat × Nat} (h : w.heap[A.pp]? = some (.cells (PrC A lo) 36 f)) : w.cell? ⟨A.pp, 3, none⟩ = some (.pointer (some ⟨A.r, 0, none⟩)) := by rw [cell_of_row _ _ _ _ _ _ h]; rfl
theorem wp_bs0I {ops : Array Oper} {rest : List Oper} {o : Oper} {a : Act} {Q : Exit → Act → World → Prop} {w : World} (hg : o.guard = none) (hop : o.op = .buildSlice 27 0 #[]) (hK : wpList Tryz.prog ops Q rest (a.put o.dst (.slice (some ⟨w.heap.size, 0, none⟩) 0 0)) (w.alloc (.cells #[] 3))) : wpList Tryz.prog ops Q (o :: rest) a w := by
  refine wpList_plain hg fun K' hK' => ?_
  unfold Oper.wp
  simp [execOp, hop, build0I w, Result.andThen]
  exact hK' _ _ hK
theorem lat_three (w : World) (x y z : Int) : LAt (w.alloc (.cells #[.int .i64 x, .int .i64 y, .int .i64 z] 3)) (some ⟨w.heap.size, 0, none⟩) [x, y, z] :=
  .inr ⟨_, rfl, by simp, fun k hk => by
    have h3 : k < 3 := hk
    rw [cell_of_row _ _ _ _ _ _ (heap_alloc_new _ _)]
    match k, h3 with
    | 0, _ => rfl
    | 1, _ => rfl
    | 2, _ => rfl⟩
theorem getD_map0 {f : Int → Int} {l : List Int} {k : Nat} (hk : k < l.length) : (l.map f).getD k 0 = f (l.getD k 0) := by
  simp [List.getD_eq_getElem?_getD, hk]
theorem getD_appM {L T : List Int} {j : Nat} (hj : j < L.length) : (L ++ T).getD j 0 = L.getD j 0 := by
  rw [List.getD_eq_getElem?_getD, List.getElem?_append_left hj, ← List.getD_eq_getElem?_getD]
theorem LAt.pre {w : World} {a : Option Addr} {L T : List Int} (h : LAt w a (L ++ T)) (hT : 0 < T.length) : LAt w a L := by
  rcases h with e | ⟨g, e, hg, hc⟩
  · have := congrArg List.length e
    simp at this
    have : T.length = 0 := by rw [this.2]; rfl
    omega
  · exact .inr ⟨g, e, hg, fun k hk => by rw [hc k (by rw [List.length_append]; omega), getD_appM hk]⟩
/-- The lent list from place i on. -/
def Lent (w : World) (g : Nat) (L : List Int) (i : Nat) : Prop := ∃ arr : Array Value, w.heap[g]? = some (.cells arr 3 (0, 0)) ∧ ∀ k, i ≤ k → k < L.length → arr[k]? = some (.int .i64 (L.getD k 0))
theorem Lent.cell {w : World} {g i k : Nat} {L : List Int} (h : Lent w g L i) (hk : i ≤ k) (hl : k < L.length) : w.cell? ⟨g, k, none⟩ = some (.int .i64 (L.getD k 0)) := by
  obtain ⟨arr, h1, h2⟩ := h
  rw [cell_of_row _ _ _ _ _ _ h1]
  exact h2 k hk hl
theorem Lent.fz {w : World} {g i : Nat} {L : List Int} (h : Lent w g L i) (k : Nat) : w.frozen? ⟨g, k, none⟩ = false := by
  obtain ⟨arr, h1, h2⟩ := h
  exact frozen_of_row _ _ _ _ _ h1
theorem Lent.set {w : World} {g i : Nat} {L : List Int} (h : Lent w g L i) (v : Value) : Lent (w.setCell ⟨g, i, none⟩ v) g L (i + 1) := by
  obtain ⟨arr, h1, h2⟩ := h
  refine ⟨_, heap_setCell_same w g i _ _ _ h1, fun k hk hl => ?_⟩
  rw [Array.getElem?_setIfInBounds, if_neg (by omega)]
  exact h2 k (by omega) hl
theorem Lent.keep {w w' : World} {g i : Nat} {L : List Int} {ks : Nat → Prop} (h : Lent w g L i) (hc : Chg w w' ks) (hn : ¬ ks g) : Lent w' g L i := by
  obtain ⟨arr, h1, h2⟩ := h
  exact ⟨arr, hc.keep h1 hn, h2⟩
theorem Ints.lent {w : World} {base : Nat} {v : Value} {L : List Int} (h : Ints w base v L) (h0 : 0 < L.length) : ∃ g c, v = .slice (some ⟨g, 0, none⟩) L.length c ∧ Lent w g L 0 ∧ base ≤ g ∧ L.length ≤ c := by
  rcases h.2 with ⟨_, e⟩ | ⟨g, cap, cur, rfl, hge, hb, h1, h2, h3, h4⟩
  · omega
  · refine ⟨g, cap, rfl, ⟨cur, hb, fun k _ hk => ?_⟩, hge, h1⟩
    have e := congrArg (fun t => t[k]?) h4
    rw [Nat.mul_one] at e
    simp only [List.getElem?_take_of_lt hk, Array.getElem?_toList] at e
    rw [e]
    simp [hk, List.getD_eq_getElem?_getD]
theorem IsP.keepG {w w' : World} {A : PA} {σ : Nat → Option PRole} {zc zr : CSt} {lo : Bool} {V M E : List Lst} {g : Nat} (h : IsP w A σ zc zr lo V M E) (hc : Chg w w' (· = g)) (hg : ¬ OwnP σ g) : IsP w' A σ zc zr lo V M E := h.keep hc fun _ hk e => hg (e ▸ hk)
theorem chg_step {w0 w1 w2 : World} {P Q : Nat → Prop} (h : Chg w0 w1 P) (k : Chg w1 w2 Q) (hq : ∀ j, Q j → P j ∨ w0.heap.size ≤ j) : Chg w0 w2 P := h.trans k (fun _ _ e => e) (fun j hj e => (hq j e).resolve_right (by omega))
section
variable {w w0 : World} {A : PA} {σ0 : Nat → Option PRole} {z : CSt} {lo : Bool} {V M E : List Lst}
/-- What a Put of both leaves. -/
noncomputable def putP (n : Nat) (z : CSt) (x : SV) : CSt × Int := putC n z (secP n x.N) (fullS (IntKind.u8.wrap x.byte)) (x.af.map (secP n))
set_option maxRecDepth 100000 in
set_option maxHeartbeats 8000000 in
theorem puts_any (x : SV) (a : Option Addr) (ca : Nat) (h : PF w0 w A σ0 z z lo V M E) (hx : x.OK) (hA : AAt w a x.af) (ht : TB z) (hw : z.d.wr < 4611686018427380000)
    (hrp : ∀ (W : World) (ρ : Nat → Option RRole) (y : Int) (s l : List Int) (a : Option Addr) (ca : Nat), IsRC W A.r A.rd A.n ρ z → s.length = 128 → LAt W a l → l.length ≤ 17592186044000 → (∀ g, a = some ⟨g, 0, none⟩ → ¬ OwnR ρ g) → Calls Tryz.prog 69 #[.pointer (some ⟨A.r, 0, none⟩), .int .i64 y, .agg (D.SA s), .slice a l.length ca] W fun e w' => e = .returned (.int .i64 (putC A.n z y s l).2) ∧ RPost W w' A.r A.rd A.n ρ (putC A.n z y s l).1) :
    Calls Tryz.prog 27 #[.pointer (some ⟨A.pp, 0, none⟩), .agg (x.cells a ca).toArray] w fun e w' => e = .returned (.bool true) ∧ PF w0 w' A σ0 (putP A.n z x).1 (putP A.n z x).1 (decide ((putP A.n z x).2 = 22)) V M E := by
  obtain ⟨σ, hI, ho, hc⟩ := h
  have hn := hI.inv.1.top
  have hc1 : Chg w (w.alloc (.cells (x.cells a ca).toArray 29)) No := Chg.alloc _ _ _
  have hb1 : StepB (w.alloc (.cells (x.cells a ca).toArray 29)) w.heap.size x a ca := heap_alloc_new _ _
  obtain ⟨w1, hw1⟩ : ∃ q, q = w.alloc (.cells (x.cells a ca).toArray 29) := ⟨_, rfl⟩
  obtain ⟨bx, hbx⟩ : ∃ q, q = w.heap.size := ⟨_, rfl⟩
  rw [← hw1] at hc1 hb1
  rw [← hbx] at hb1
  have HBx : Hid (¬ OwnP σ bx ∧ bx < w1.heap.size) := hid ⟨fun e => by have := hI.lt e; omega, slt hb1⟩
  have hI1 := hI.call hc1
  have q1 := hb1.c1
  have q4 := hb1.c4
  have HS := sector_any x.N hI1 hx.n
  have HAF := after_any x.af a ca hI1 (hA.call hc1) (by have := hx.l; omega) hx.a
  obtain ⟨L, hL⟩ : ∃ L, L = x.af.map (secP A.n) := ⟨_, rfl⟩
  have HLI : Hid (∀ k, k < L.length → I64 (L.getD k 0)) := hid (fun k hk => by
    rw [hL, List.length_map] at hk
    rw [hL, getD_map0 hk]
    exact secP_i64 hn (hx.a k hk))
  have HIN : Hid (I64 (secP A.n x.N)) := hid (secP_i64 hn hx.n)
  obtain ⟨m, hm⟩ : ∃ m, m = L.length := ⟨_, rfl⟩
  have HM := hid hm
  have hmb : m ≤ 17592186043904 := by rw [hm, hL, List.length_map]; exact hx.l
  rw [← hL] at HAF
  have HPP : Hid (putP A.n z x = putC A.n z (secP A.n x.N) (fullS (IntKind.u8.wrap x.byte)) L) := hid (by unfold putP; rw [hL])
  generalize putP A.n z x = PP at *
  generalize secP A.n x.N = sn at *
  obtain ⟨af, haf⟩ : ∃ q, q = x.af.length := ⟨_, rfl⟩
  rw [← haf] at q4 HAF
  have H1 := hid hI1
  have HB1 := hid hb1
  have HC1 := hid hc1
  have HO := hid ho
  have HC := hid hc
  have HT := hid ht
  have HW := hid hw
  have HRP := hid hrp
  have HSw1 : Hid (w.heap.size ≤ w1.heap.size) := hid hc1.size
  clear hI hI1 hb1 hc1 ho hc ht hw hrp hx hA hL hm haf hn
  go_enter Tryz.func27, Tryz.ntmps27
  go_upto_region 1 with fail
  rw [← hw1, ← hbx]
  clear hw1 hbx
  go_upto_region 4 with (first
    | (go_at_call 25; go_must (refine HS.mono ?_; rintro e w' ⟨rfl, hw⟩; have hw := hw.symm; subst hw; clear HS))
    | (go_at_call 44; go_must (refine HAF.mono ?_; rintro e w2 ⟨v2, rfl, hv2, hc2⟩; have HV2 := hid hv2; have HC2 := hid hc2; obtain ⟨a2, c2, hw2, hl2, hg2⟩ := hv2.lat; rw [← HM.out] at hw2; subst hw2; have HL2 := hid hl2; have HG2 := hid hg2; have HN2 := hid hv2.nilcap.1; have HZ2 := hid (fun g (e : a2 = some ⟨g, 0, none⟩) => (row_ge hv2 (hv2.nilcap.2 _ e).2).2); clear HAF hv2 hc2 hl2 hg2))
    | (refine wp_bs0I rfl rfl ?_)
    | (at_builtin; go_must (first
      | (refine wp_appL rfl _ _ rfl w2.heap.size (.slice (some ⟨w2.heap.size, 0, none⟩) 0 0) [] L a2 c2 rfl (by rw [← HM.out]; rfl) (ints_new0 w2) (HL2.out.call (Chg.alloc _ _ _)) HN2.out (by have := HM.out; simp only [List.length_nil]; omega) (by simp) ?_; intro v5 w5 h51 h52 h53; rw [List.nil_append] at h51; have H51 := hid h51; have HC5 : Hid (Chg w2 w5 No) := hid ((Chg.alloc w2 _ No).trans h52 (fun _ _ e => e) (fun j hj e => by have e : some w2.heap.size = some j := e; simp at e; omega)); obtain ⟨a5, c5, hw5, _, _⟩ := h51.lat; rw [← HM.out] at hw5; subst hw5; clear h51 h52 h53)
      | (refine wp_appL rfl _ _ rfl w2.heap.size (.slice a5 m c5) L [-31, -32, -33] (some ⟨w5.heap.size, 0, none⟩) 3 rfl rfl (row_keep H51.out (Chg.alloc w5 _ No) (fun _ _ e => e)) (lat_three _ _ _ _) (fun e => by cases e) (by have := HM.out; simp only [List.length_cons, List.length_nil]; omega) (by have := HC5.out.size; simp; omega) ?_; intro v6 w6 h61 h62 h63; have HC6 : Hid (Chg w2 w6 No) := hid ((HC5.out.tr (Chg.alloc w5 _ No)).trans h62 (fun _ _ e => e) (fun j hj e => by have := (row_ge H51.out e).1; omega)); have hlen : (L ++ [-31, -32, -33]).length = m + 3 := (by rw [List.length_append, ← HM.out]; rfl); obtain ⟨g6, c6, hw6, hl6, hge6, hcap6⟩ := h61.lent (by rw [hlen]; omega); rw [hlen] at hw6 hcap6; subst hw6; have HL6 := hid hl6; have HG6 := hid hge6; have HSz6 := hid (slt hl6.choose_spec.1); have HLA6 : Hid (LAt w6 (some ⟨g6, 0, none⟩) L) := hid (by obtain ⟨a9, c9, e9, l9, _⟩ := h61.lat; rw [(Value.slice.inj e9).1]; exact l9.pre (by decide)); clear h61 h62 h63 hl6 hge6)))
    | fail)
  clear q1 q4
  have HX6 : Hid (Chg w1 w6 No) := hid (HC2.out.tr HC6.out)
  have HG1 : Hid (¬ OwnP σ g6) := hid (fun e => by have := H1.out.lt e; have := HC2.out.size; have := HG6.out; omega)
  have HGa : Hid (∀ g, a2 = some ⟨g, 0, none⟩ → ¬ OwnP σ g ∧ g < w6.heap.size ∧ g ≠ g6) := hid (fun g e => ⟨fun e2 => by have := H1.out.lt e2; have := HG2.out g e; omega, by have := HZ2.out g e; have := HC6.out.size; omega, by have := HZ2.out g e; have := HG6.out; omega⟩)
  have mi0 : (0 : Int) ≤ (m : Int) := by omega
  have mi1 : (m : Int) ≤ (c6 : Int) := by omega
  obtain ⟨bt, hbt⟩ : ∃ q, q = IntKind.u8.wrap x.byte := ⟨_, rfl⟩
  have HBt := hid hbt
  refine wp_region_noPanic ?_
  refine wp_region_held_drew (S := fun W => W.heap[A.pp]? = some (.cells (PrC A lo) 36 (0, 0)) ∧ StepB W bx x a ca) (by kernel_rfl) ⟨(H1.out.call HX6.out).me, HX6.out.keep HB1.out (fun e => e)⟩ (fun hHeld => ?_)
  obtain ⟨wD, hwD⟩ : ∃ q, q = w6.drew := ⟨_, rfl⟩
  have HXD : Hid (Chg w6 wD No) := hid (by rw [hwD]; exact (Chg.refl w6 No).drew)
  rw [← hwD] at hHeld ⊢
  clear hwD
  refine takeVal 0 24 (.pointer (some ⟨A.pp, 0, none⟩)) rfl (by kernel_rfl) (by kernel_rfl) (by kernel_rfl) rfl (by rfl) (fun _ _ _ h => h) hHeld (fun _ hw' => rfl) ?_
  simp only [List.setIfInBounds_toArray, List.set_cons_zero, List.set_cons_succ]
  refine takeVal 1 25 (.pointer (some ⟨A.pp, 0, none⟩)) rfl (by kernel_rfl) (by kernel_rfl) (by kernel_rfl) rfl (by rfl) (fun _ _ _ h => h) hHeld (fun _ hw' => by go_simp) ?_
  simp only [List.setIfInBounds_toArray, List.set_cons_zero, List.set_cons_succ]
  refine takeVal 2 26 (.pointer (some ⟨A.pp, 1, none⟩)) rfl (by kernel_rfl) (by kernel_rfl) (by kernel_rfl) rfl (by rfl) (fun _ _ _ h => h) hHeld (fun _ hw' => by go_simp) ?_
  simp only [List.setIfInBounds_toArray, List.set_cons_zero, List.set_cons_succ]
  refine takeVal 3 27 (.pointer (some ⟨A.c, 0, none⟩)) rfl (by kernel_rfl) (by kernel_rfl) (by kernel_rfl) rfl (by rfl) (fun _ _ _ h => h) hHeld (fun _ hw' => by have hc := pr1 hw'.1; go_simp) ?_
  simp only [List.setIfInBounds_toArray, List.set_cons_zero, List.set_cons_succ]
  refine takeVal 4 28 (.int .i64 sn) rfl (by kernel_rfl) (by kernel_rfl) (by kernel_rfl) rfl (by rfl) (fun _ _ _ h => h) hHeld (fun _ hw' => rfl) ?_
  simp only [List.setIfInBounds_toArray, List.set_cons_zero, List.set_cons_succ]
  refine takeVal 5 29 (.pointer (some ⟨bx, 3, none⟩)) rfl (by kernel_rfl) (by kernel_rfl) (by kernel_rfl) rfl (by rfl) (fun _ _ _ h => h) hHeld (fun _ hw' => by go_simp) ?_
  simp only [List.setIfInBounds_toArray, List.set_cons_zero, List.set_cons_succ]
  refine takeVal 6 30 (.int .i64 x.byte) rfl (by kernel_rfl) (by kernel_rfl) (by kernel_rfl) rfl (by rfl) (fun _ _ _ h => h) hHeld (fun _ hw' => by have hc := hw'.2.c3; go_simp) ?_
  simp only [List.setIfInBounds_toArray, List.set_cons_zero, List.set_cons_succ]
  refine takeVal 7 31 (.int .u8 bt) rfl (by kernel_rfl) (by kernel_rfl) (by kernel_rfl) rfl (by rfl) (fun _ _ _ h => h) hHeld (fun _ hw' => by rw [hbt]; go_simp) ?_
  simp only [List.setIfInBounds_toArray, List.set_cons_zero, List.set_cons_succ]
  refine takeVal 9 33 (.slice (some ⟨g6, 0, none⟩) (m + 3) c6) rfl (by kernel_rfl) (by kernel_rfl) (by kernel_rfl) rfl (by rfl) (fun _ _ _ h => h) hHeld (fun _ hw' => rfl) ?_
  simp only [List.setIfInBounds_toArray, List.set_cons_zero, List.set_cons_succ]
  refine takeVal 10 34 (.slice a2 m c2) rfl (by kernel_rfl) (by kernel_rfl) (by kernel_rfl) rfl (by rfl) (fun _ _ _ h => h) hHeld (fun _ hw' => rfl) ?_
  simp only [List.setIfInBounds_toArray, List.set_cons_zero, List.set_cons_succ]
  refine takeVal 11 35 (.int .i64 (m : Int)) rfl (by kernel_rfl) (by kernel_rfl) (by kernel_rfl) rfl (by rfl) (fun _ _ _ h => h) hHeld (fun _ hw' => by go_simp) ?_
  simp only [List.setIfInBounds_toArray, List.set_cons_zero, List.set_cons_succ]
  refine takeVal 12 36 (.slice (some ⟨g6, 0, none⟩) m c6) rfl (by kernel_rfl) (by kernel_rfl) (by kernel_rfl) rfl (by rfl) (fun _ _ _ h => h) hHeld (fun _ hw' => by go_simp) ?_
  simp only [List.setIfInBounds_toArray, List.set_cons_zero, List.set_cons_succ]
  refine step1 8 (by kernel_rfl) ?_
  refine stCall 8 32 15 #[.int .u8 bt] _ rfl rfl (by rfl) (by go_simp) (full_any bt _) ?_
  rintro e w7 ⟨rfl, hc7⟩
  have HX7 : Hid (Chg w1 w7 No) := hid (HX6.out.tr (HXD.out.tr hc7))
  have HX67 : Hid (Chg w6 w7 No) := hid (HXD.out.tr hc7)
  obtain ⟨ρ, ρ', lv, mv, ev, h07⟩ := H1.out.call HX7.out
  have hHeld : w7.heap[A.pp]? = some (.cells (PrC A lo) 36 (0, 0)) ∧ StepB w7 bx x a ca := ⟨h07.me, HX7.out.keep HB1.out (fun e => e)⟩
  refine ⟨_, rfl, hHeld, ?_⟩
  simp only [List.setIfInBounds_toArray, List.set_cons_zero, List.set_cons_succ]
  have HP := put_any sn (fullS bt) L (some ⟨g6, 0, none⟩) c6 h07.ca (fullS_len _) HIN.out (HLA6.out.call HX67.out) (fun e => by cases e) (fun k hk => by
    have e := (Addr.mk.inj (Option.some.inj hk)).1
    subst e
    exact ⟨by have := HSz6.out; have := HX67.out.size; omega, fun ho => HG1.out ⟨_, h07.sc _ ho⟩⟩) (by have := HM.out; omega) HLI.out HT.out HW.out
  rw [HBt.out, ← HPP.out, ← HBt.out, ← HM.out] at HP
  refine step1 13 (by kernel_rfl) ?_
  refine stCall 13 37 20 #[.pointer (some ⟨A.c, 0, none⟩), .int .i64 sn, .agg (D.SA (fullS bt)), .slice (some ⟨g6, 0, none⟩) m c6] _ rfl rfl (by rfl) (by go_simp) HP ?_
  rintro e w8 ⟨rfl, hP⟩
  obtain ⟨σ8, hI8, ho8, hc8⟩ := h07.progC hP
  have HI8 := hid hI8
  have HO8 := hid ho8
  have HC8 := hid hc8
  have HB7 := hid hHeld.2
  have hHeld : w8.heap[A.pp]? = some (.cells (PrC A lo) 36 (0, 0)) ∧ StepB w8 bx x a ca := ⟨hI8.me, hc8.keep hHeld.2 HBx.out.1⟩
  refine ⟨_, rfl, hHeld, ?_⟩
  simp only [List.setIfInBounds_toArray, List.set_cons_zero, List.set_cons_succ]
  have HB8 := hid hHeld
  clear HP hP hI8 ho8 hc8 h07 hc7
  refine takeVal 14 8 (.int .i64 PP.2) rfl (by kernel_rfl) (by kernel_rfl) (by kernel_rfl) rfl (by rfl) (fun _ _ _ h => h) hHeld (fun _ hw' => rfl) ?_
  simp only [List.setIfInBounds_toArray, List.set_cons_zero, List.set_cons_succ]
  refine wpAnyH_done (by kernel_rfl) ?_ _
  refine NoPanic.normal ?_
  clear hHeld ρ ρ' lv mv ev
  have HSz7 : Hid (w6.heap.size ≤ w7.heap.size) := hid HX67.out.size
  have HLa8 : Hid (LAt w8 a2 L) := hid (((HL2.out.call HC6.out).call HX67.out).keep HC8.out (fun g e => (HGa.out g e).1))
  have HLe8 : Hid (Lent w8 g6 (L ++ [-31, -32, -33]) 0) := hid ((HL6.out.keep HX67.out (fun e => e)).keep HC8.out HG1.out)
  have HN8 : Hid (∀ k, k < w6.heap.size → ¬ OwnP σ k → ¬ OwnP σ8 k) := hid (fun k hk hn e => by
    rcases HO8.out k e with e | e
    · exact hn e
    · have := HSz7.out; omega)
  go_upto_region 5 with fail
  refine wp_region_noPanic ?_
  refine wp_region_held_drew (S := fun W => W.heap[A.pp]? = some (.cells (PrC A lo) 36 (0, 0)) ∧ StepB W bx x a ca) (by kernel_rfl) HB8.out (fun hHeld => ?_)
  obtain ⟨wE, hwE⟩ : ∃ q, q = w8.drew := ⟨_, rfl⟩
  have HXE : Hid (Chg w8 wE No) := hid (by rw [hwE]; exact (Chg.refl w8 No).drew)
  rw [← hwE] at hHeld ⊢
  clear hwE
  refine takeVal 0 38 (.pointer (some ⟨A.pp, 0, none⟩)) rfl (by kernel_rfl) (by kernel_rfl) (by kernel_rfl) rfl (by rfl) (fun _ _ _ h => h) hHeld (fun _ hw' => rfl) ?_
  simp only [List.setIfInBounds_toArray, List.set_cons_zero, List.set_cons_succ]
  refine takeVal 1 39 (.pointer (some ⟨A.pp, 0, none⟩)) rfl (by kernel_rfl) (by kernel_rfl) (by kernel_rfl) rfl (by rfl) (fun _ _ _ h => h) hHeld (fun _ hw' => by go_simp) ?_
  simp only [List.setIfInBounds_toArray, List.set_cons_zero, List.set_cons_succ]
  refine takeVal 2 40 (.pointer (some ⟨A.pp, 3, none⟩)) rfl (by kernel_rfl) (by kernel_rfl) (by kernel_rfl) rfl (by rfl) (fun _ _ _ h => h) hHeld (fun _ hw' => by go_simp) ?_
  simp only [List.setIfInBounds_toArray, List.set_cons_zero, List.set_cons_succ]
  refine takeVal 3 41 (.pointer (some ⟨A.r, 0, none⟩)) rfl (by kernel_rfl) (by kernel_rfl) (by kernel_rfl) rfl (by rfl) (fun _ _ _ h => h) hHeld (fun _ hw' => by have hc := pr3 hw'.1; go_simp) ?_
  simp only [List.setIfInBounds_toArray, List.set_cons_zero, List.set_cons_succ]
  refine takeVal 4 42 (.int .i64 sn) rfl (by kernel_rfl) (by kernel_rfl) (by kernel_rfl) rfl (by rfl) (fun _ _ _ h => h) hHeld (fun _ hw' => rfl) ?_
  simp only [List.setIfInBounds_toArray, List.set_cons_zero, List.set_cons_succ]
  refine takeVal 5 43 (.pointer (some ⟨bx, 3, none⟩)) rfl (by kernel_rfl) (by kernel_rfl) (by kernel_rfl) rfl (by rfl) (fun _ _ _ h => h) hHeld (fun _ hw' => by go_simp) ?_
  simp only [List.setIfInBounds_toArray, List.set_cons_zero, List.set_cons_succ]
  refine takeVal 6 44 (.int .i64 x.byte) rfl (by kernel_rfl) (by kernel_rfl) (by kernel_rfl) rfl (by rfl) (fun _ _ _ h => h) hHeld (fun _ hw' => by have hc := hw'.2.c3; go_simp) ?_
  simp only [List.setIfInBounds_toArray, List.set_cons_zero, List.set_cons_succ]
  refine takeVal 7 45 (.int .u8 bt) rfl (by kernel_rfl) (by kernel_rfl) (by kernel_rfl) rfl (by rfl) (fun _ _ _ h => h) hHeld (fun _ hw' => by rw [hbt]; go_simp) ?_
  simp only [List.setIfInBounds_toArray, List.set_cons_zero, List.set_cons_succ]
  refine takeVal 9 47 (.slice a2 m c2) rfl (by kernel_rfl) (by kernel_rfl) (by kernel_rfl) rfl (by rfl) (fun _ _ _ h => h) hHeld (fun _ hw' => rfl) ?_
  simp only [List.setIfInBounds_toArray, List.set_cons_zero, List.set_cons_succ]
  refine step1 8 (by kernel_rfl) ?_
  refine stCall 8 46 15 #[.int .u8 bt] _ rfl rfl (by rfl) (by go_simp) (full_any bt _) ?_
  rintro e w9 ⟨rfl, hc9⟩
  have HX9 : Hid (Chg w8 w9 No) := hid (HXE.out.tr hc9)
  obtain ⟨ρ, ρ', lv, mv, ev, h09⟩ := HI8.out.call HX9.out
  have hHeld : w9.heap[A.pp]? = some (.cells (PrC A lo) 36 (0, 0)) ∧ StepB w9 bx x a ca := ⟨h09.me, HX9.out.keep HB8.out.2 (fun e => e)⟩
  refine ⟨_, rfl, hHeld, ?_⟩
  simp only [List.setIfInBounds_toArray, List.set_cons_zero, List.set_cons_succ]
  have HP := HRP.out w9 ρ' sn (fullS bt) L a2 c2 h09.rc (fullS_len _) (HLa8.out.call HX9.out) (by have := HM.out; omega) (fun g e ho => HN8.out g (HGa.out g e).2.1 (HGa.out g e).1 ⟨_, h09.sr _ ho⟩)
  rw [HBt.out, ← HPP.out, ← HBt.out, ← HM.out] at HP
  refine step1 10 (by kernel_rfl) ?_
  refine stCall 10 48 69 #[.pointer (some ⟨A.r, 0, none⟩), .int .i64 sn, .agg (D.SA (fullS bt)), .slice a2 m c2] _ rfl rfl (by rfl) (by go_simp) HP ?_
  rintro e w10 ⟨rfl, hP⟩
  obtain ⟨σ10, hI10, ho10, hc10⟩ := h09.docC hP
  have HI10 := hid hI10
  have HO10 := hid ho10
  have HC10 := hid hc10
  have hHeld : w10.heap[A.pp]? = some (.cells (PrC A lo) 36 (0, 0)) ∧ StepB w10 bx x a ca := ⟨hI10.me, hc10.keep hHeld.2 (HN8.out bx (by have := HBx.out.2; have := HX6.out.size; omega) HBx.out.1)⟩
  refine ⟨_, rfl, hHeld, ?_⟩
  simp only [List.setIfInBounds_toArray, List.set_cons_zero, List.set_cons_succ]
  clear HP hP hI10 ho10 hc10 h09 hc9
  refine takeVal 11 9 (.int .i64 PP.2) rfl (by kernel_rfl) (by kernel_rfl) (by kernel_rfl) rfl (by rfl) (fun _ _ _ h => h) hHeld (fun _ hw' => rfl) ?_
  simp only [List.setIfInBounds_toArray, List.set_cons_zero, List.set_cons_succ]
  refine wpAnyH_done (by kernel_rfl) ?_ _
  refine NoPanic.normal ?_
  clear hHeld ρ ρ' lv mv ev hbt
  have HN10 : Hid (∀ k, k < w6.heap.size → ¬ OwnP σ k → ¬ OwnP σ10 k) := hid (fun k hk hn e => by
    rcases HO10.out k e with e | e
    · exact HN8.out k hk hn e
    · have := HSz7.out; have := HC8.out.size; have := HX9.out.size; omega)
  have HLa10 : Hid (LAt w10 a2 L) := hid ((HLa8.out.call HX9.out).keep HC10.out (fun g e => HN8.out g (HGa.out g e).2.1 (HGa.out g e).1))
  have HLe10 : Hid (Lent w10 g6 (L ++ [-31, -32, -33]) 0) := hid ((HLe8.out.keep HX9.out (fun e => e)).keep HC10.out (HN8.out g6 HSz6.out HG1.out))
  have HF : Hid (∀ wr, Chg w10 wr (· = g6) → PF w0 (wr.setCell ⟨A.pp, 4, none⟩ (.bool (decide (PP.2 = 22)))) A σ0 PP.1 PP.1 (decide (PP.2 = 22)) V M E) := hid (fun wr hwr => by
    have hg10 := HN10.out g6 HSz6.out HG1.out
    have hIr := HI10.out.keepG hwr hg10
    have hs0 := HC.out.size
    have hs1 := HC1.out.size
    have hs6 := HX6.out.size
    have hs7 := HSz7.out
    have hs8 := HC8.out.size
    have hs9 := HX9.out.size
    have t1 : Chg w w7 (OwnP σ) := (HC1.out.tr (HX6.out.tr HX67.out)).mono (fun _ _ e => e.elim)
    have t2 : Chg w w9 (OwnP σ) := (chg_step t1 HC8.out (fun _ e => .inl e)).trans HX9.out (fun _ _ e => e) (fun _ _ e => e.elim)
    have t3 : Chg w w10 (OwnP σ) := chg_step t2 HC10.out (fun j e => (HO8.out j e).imp (fun e => e) (fun e => by omega))
    have t4 : Chg w wr (OwnP σ) := chg_step t3 hwr (fun j e => .inr (by rw [e]; have := HG6.out; have := HC2.out.size; omega))
    refine PF.and (σ := σ10) (fun k hk => ?_) (chg_step HC.out t4 (fun j e => HO.out j e)) ((PF.start hIr).flag _)
    rcases HO10.out k hk with e | e
    · rcases HO8.out k e with e | e
      · exact HO.out k e
      · exact .inr (by omega)
    · exact .inr (by omega))
  have HMe : Hid (∀ wr, Chg w10 wr (· = g6) → wr.heap[A.pp]? = some (.cells (PrC A lo) 36 (0, 0))) := hid (fun wr hwr => (HI10.out.keepG hwr (HN10.out g6 HSz6.out HG1.out)).me)
  have HGa' : Hid (∀ g, a2 = some ⟨g, 0, none⟩ → g ≠ g6) := hid (fun g e => (HGa.out g e).2.2)
  go_wp2_with fail
  go_loopw [10] (fun x10 wr => ∃ i : Nat, x10 = .int .i64 (i : Int) ∧ i ≤ m ∧ Hid (Chg w10 wr (· = g6)) ∧ Hid (Lent wr g6 (L ++ [-31, -32, -33]) i)) (fun x10 _ => m - (intOf x10).toNat)
  case atStart => exact ⟨0, rfl, Nat.zero_le _, hid (Chg.refl _ _), HLe10⟩
  case round =>
    obtain ⟨i, rfl, hi, HCr, HLr⟩ := hrel
    have i0 : (0 : Int) ≤ (i : Int) := by omega
    have hll : (L ++ [-31, -32, -33]).length = m + 3 := by rw [List.length_append, ← HM.out]; rfl
    by_cases hlt : i < m
    · have i1 : (i : Int) < (m : Int) := by omega
      have i2 : (i : Int) < (m : Int) + 3 := by omega
      obtain ⟨ga, hga, _, p2⟩ := lat_at (HLa10.out.keep HCr.out (fun g e => HGa'.out g e)) (i := i) (by rw [← HM.out]; exact hlt)
      subst hga
      have p1 := HLr.out.cell (Nat.le_refl i) (by rw [hll]; omega)
      rw [getD_appM (by rw [← HM.out]; exact hlt)] at p1
      have pf := HLr.out.fz i
      generalize L.getD i 0 = y at *
      clear hll
      go_wp2_with fail
      go_quiet (fail)
      go_wp2_with fail
      exact ⟨⟨i + 1, by go_num, by omega, hid ((HCr.out.trans (chg_drewN _ _) (fun _ _ e => e) (fun _ _ e => e.elim)).trans Chg.setCell (fun _ _ e => e) (fun _ _ e => e)), hid ((HLr.out.keep (chg_drewN _ _) (fun e => e)).set _)⟩, by simp [intOf]; omega⟩
    · have i1 : ¬ (i : Int) < (m : Int) := by omega
      have him : i = m := by omega
      subst him
      have p1 := HLr.out.cell (Nat.le_refl i) (by rw [hll]; omega)
      have p2 := HLr.out.cell (k := i + 2) (by omega) (by rw [hll]; omega)
      have e31 : (L ++ [-31, -32, -33]).getD i 0 = -31 := by rw [HM.out, List.getD_eq_getElem?_getD, List.getElem?_append_right (Nat.le_refl _), Nat.sub_self]; rfl
      have e33 : (L ++ [-31, -32, -33]).getD (i + 2) 0 = -33 := by rw [HM.out, List.getD_eq_getElem?_getD, List.getElem?_append_right (by omega), Nat.add_sub_cancel_left]; rfl
      rw [e31] at p1
      rw [e33] at p2
      clear e31 e33
      have hme := HMe.out wr HCr.out
      have k4 : wr.cell? ⟨A.pp, 4, none⟩ = some (.bool lo) := (cell_of_row _ _ 4 _ _ _ hme).trans rfl
      have f4 := frozen_of_row (j := 4) _ _ _ _ hme
      clear hme hll hlt
      go_wp2_with fail
      go_ret
      exact ⟨rfl, HF.out wr HCr.out⟩
end
end Go.Proofs.YtamoepninddbcaaGreat
