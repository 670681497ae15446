/-
  Tables: the sectors of pointers, in their order.
-/
import Derived.Test.YtjlhmojofjkkdabC4
import Derived.Test.YtjlhmojofjkkdabC3
namespace Go.Proofs.Ytjlhmojofjkkdab
open Go.RowKit Go.Shelf

attribute [local go_sem] Oper.semAt_some

section
variable {F : Fence} {n : Nat} {ops : Array Oper} {rest : List Oper} {o o2 : Oper} {a : Act} {w : World} {Q : Exit → Act → World → Prop}
/-- append of one number onto a list in a box, and the box's store. -/
theorem li_appS (hF : ∀ f, F.fn f) (hg : o.guard = none) (s x : Operand) (hop : o.op = .call { callee := .builtin .append, args := #[s, x], argTypes := #[39, 39] }) (xb y2 : Operand) (hg2 : o2.guard = none) (hop2 : o2.op = .store 39 xb y2) (B bx : Nat) (v : Value) (l : List Int) (y : Int) (hs : a.eval s = v) (hx : a.eval x = .slice (some ⟨w.heap.size, 0, none⟩) 1 1)
    (hxb : ∀ u, (a.put o.dst u).eval xb = .pointer (some ⟨bx, 0, none⟩)) (hyb : ∀ u, (a.put o.dst u).eval y2 = u)
    (hown : IOwn w B v l) (hbox : w.heap[bx]? = some (.cells #[v] 39 (0, 0))) (hl : l.length ≤ 1000000) (hB : B ≤ w.heap.size) (hBx : B ≤ bx)
    (hK : ∀ a' c' X, X.heap[bx]? = some (.cells #[.slice a' (l.length + 1) c'] 39 (0, 0)) → IOwn X B (.slice a' (l.length + 1) c') (l ++ [y]) → KeepsOthers w X → Below B w X →
      (∀ (k : Nat) cs t f, w.heap[k]? = some (.cells cs t f) → t ≠ 3 → k ≠ bx → X.heap[k]? = some (.cells cs t f)) →
      wpListIn F n Try.prog ops Q rest ((a.put o.dst (.slice a' (l.length + 1) c')).put o2.dst undef) X) : wpListIn F n Try.prog ops Q (o :: o2 :: rest) a (w.alloc (.cells #[.int .i64 y] 3)) := by
  refine li_appI hg s x hop B bx v l y hs hx hown hbox hl hB hBx ?_
  intro a' c' w1 e1 e2 e3 e4 e5 e6 e7
  refine li_skip hF hg2 (fun _ e => by rw [hop2] at e; cases e) ?_ (hK a' c' _ e3 e4 e5 e6 e7)
  unfold execOp
  rw [hop2]
  simp only [hxb, hyb]
  go_simp
end
theorem there_le32 (s : Src) (n : Int) : (thereL (tabS s n).1).length ≤ 32 := by have := there_le (tabS s n).1; rwa [tabS_len] at this
theorem tblR_none {s : Src} {z : List Int} (h : z.getD 17 0 = 0) : tblR s z = ((if z.getD 16 0 = 0 then [] else [z.getD 16 0]), 0) := if_pos h
theorem tblR_bad {s : Src} {z : List Int} (h : ¬ z.getD 17 0 = 0) (he : ¬ (tabS s (z.getD 17 0)).2 = 0) : tblR s z = ([], (tabS s (z.getD 17 0)).2) := by
  unfold tblR; rw [if_neg h, if_neg he]
theorem tblR_ok {s : Src} {z : List Int} (h : ¬ z.getD 17 0 = 0) (he : (tabS s (z.getD 17 0)).2 = 0) : tblR s z = ((if z.getD 16 0 = 0 then [] else [z.getD 16 0]) ++ [z.getD 17 0] ++ (thereL (tabS s (z.getD 17 0)).1).map (fun y : Nat × Int => y.2), 0) := by
  unfold tblR; rw [if_neg h, if_pos he]
/-- What is known between the rounds. -/
structure TbI (w : World) (g : Nat) (T : List Int) (l : List Int) (W : World) : Prop where
  low : Below w.heap.size w W
  tab : W.heap[g]? = some (.cells (NA T) 59 (0, 0))
  box : ∃ v, W.heap[w.heap.size + 1]? = some (.cells #[v] 39 (0, 0)) ∧ IOwn W w.heap.size v l
theorem iown_own {A B : World} {row : Option Nat} {D n : Nat} {v : Value} {l : List Int} (h : IOwn A n v l) (hg : A.grownBy B row) (hq : ∀ r, row = some r → D ≤ r ∧ ∃ o : Obj, A.heap[r]? = some o ∧ o.isCells = false) : IOwn B n v l := by
  refine World.ownsRow.kept h hg ?_
  rcases h.2 with ⟨rfl, _⟩ | ⟨g, cap, cur, rfl, _, hgb, _⟩
  · exact .inl rfl
  · right
    intro e
    obtain ⟨_, o, ho, hc⟩ := hq g e.symm
    rw [hgb] at ho
    cases ho
    cases hc
theorem TbI.own {w : World} {g : Nat} {T l : List Int} {A B : World} {row : Option Nat} {D : Nat} (h : TbI w g T l A) (hg : A.grownBy B row) (hq : ∀ r, row = some r → D ≤ r ∧ ∃ o : Obj, A.heap[r]? = some o ∧ o.isCells = false) (hD : w.heap.size ≤ D) : TbI w g T l B := by
  obtain ⟨h1, h2, v, h3, h4⟩ := h
  exact ⟨ownFrom_below (β := Unit) (Nat.le_refl _) hD () A B row h1 hg hq, own_row (β := Unit) _ _ _ _ _ () A B row h2 hg hq, v, own_row (β := Unit) _ _ _ _ _ () A B row h3 hg hq, iown_own h4 hg hq⟩
theorem iown_below {A B : World} {n : Nat} {v : Value} {l : List Int} (h : IOwn A n v l) (hb : Below A.heap.size A B) : IOwn B n v l :=
  iown_own (D := 0) (row := none) h ⟨hb.os, hb.tape, hb.output, hb.size, fun i hi _ => hb.block i hi⟩ (fun r e => by cases e)

set_option maxRecDepth 100000 in
set_option maxHeartbeats 4000000 in
theorem Tables_any (pm : Nat) (s : Src) (z : List Int) (w : World) (hz : z.length = 18) (hr : Rd w pm s) :
    Calls Try.prog 9 #[rdV pm, .agg (NA z)] w fun e w' => ∃ v, e = .returned (.tuple #[v, .int .i64 (tblR s z).2]) ∧ IOwn w' w.heap.size v (tblR s z).1 ∧ Below w.heap.size w w' := by
  obtain ⟨n⟩ : Nonempty Nat := ⟨3⟩
  refine (callsIn_wide (n := n)).1 ?_
  have hqn : ∀ w, (binOp .eql 54 (rdV pm) .nilIface).run Try.prog w = .ok (.bool false) w := fun _ => by unfold rdV; rfl
  have hqg : ∀ w, (eqGuard .eql 54 (.tmp 11) (.const .nilIface) (rdV pm) .nilIface).run Try.prog w = .ok () w := fun _ => by unfold rdV; rfl
  have hzp := zero_ptr
  refine callsIn_of_wp_marks Try.func9 rfl trivial ?_ rfl
  simp only [Try.ntmps9, List.size_toArray, List.length_cons, List.length_nil, Nat.reduceAdd, Nat.reduceSub, Array.replicate_succ, Array.replicate_zero, List.push_toArray, List.append_toArray, List.nil_append, List.cons_append]
  obtain ⟨U, hU⟩ : ∃ y, y = (w.alloc (.cells (NA z) 24)).alloc (.cells #[.slice none 0 0] 39) := ⟨_, rfl⟩
  have U0 : Hid (U.heap[w.heap.size]? = some (.cells (NA z) 24 (0, 0))) := by rw [hU]; exact heap_alloc2_old w _ _
  have U1' : U.heap[w.heap.size + 1]? = some (.cells #[.slice none 0 0] 39 (0, 0)) := by rw [hU]; exact heap_alloc2_new w _ _
  have UB : Hid (Below w.heap.size w U) := by rw [hU]; exact ((Below.refl _ _).alloc (Nat.le_refl _) _).alloc (by simp) _
  obtain ⟨a0, ha0⟩ : ∃ y : Option Addr, y = none := ⟨_, rfl⟩
  obtain ⟨c0, hc0⟩ : ∃ y : Nat, y = 0 := ⟨_, rfl⟩
  have U1 : Hid (U.heap[w.heap.size + 1]? = some (.cells #[.slice a0 0 c0] 39 (0, 0))) := by rw [ha0, hc0]; exact U1'
  obtain ⟨S1, hS1⟩ : ∃ y, y = z.getD 16 0 := ⟨_, rfl⟩
  obtain ⟨D1, hD1⟩ : ∃ y, y = z.getD 17 0 := ⟨_, rfl⟩
  have cS : ((w.alloc (.cells (NA z) 24)).alloc (.cells #[.slice none 0 0] 39)).cell? ⟨w.heap.size, 16, none⟩ = some (.int .i64 S1) := by rw [← hU, hS1]; exact row_cell U0.out 16 (by omega)
  have cD : ((w.alloc (.cells (NA z) 24)).alloc (.cells #[.slice none 0 0] 39)).cell? ⟨w.heap.size, 17, none⟩ = some (.int .i64 D1) := by rw [← hU, hD1]; exact row_cell U0.out 17 (by omega)
  have cL : ((w.alloc (.cells (NA z) 24)).alloc (.cells #[.slice none 0 0] 39)).cell? ⟨w.heap.size + 1, 0, none⟩ = some (.slice a0 0 c0) := by rw [← hU, cell_of_row _ _ _ _ _ _ U1.out]; rfl
  have HA0 := hid ha0
  have HC0 := hid hc0
  have HS1 := hid hS1
  have HD1 := hid hD1
  have HU := hid hU
  have UO : Hid (IOwn U w.heap.size (.slice a0 0 c0) []) := by rw [HA0.out, HC0.out]; exact hid (World.ownsRow_nil _ _ _ _)
  have TN := hid (@tblR_none s z)
  have TB := hid (@tblR_bad s z)
  have TO := hid (@tblR_ok s z)
  rw [← hS1, ← hD1] at TN
  rw [← hD1] at TB
  rw [← hS1, ← hD1] at TO
  clear hS1 hD1 hU ha0 hc0 U1'
  by_cases h16 : S1 = 0
  · have L0e : Hid ((if S1 = 0 then [] else [S1]) = ([] : List Int)) := if_pos h16
    subst h16
    by_cases h17 : D1 = 0
    · have HE := hid ((TN.out h17).trans (by rw [L0e.out]))
      subst h17
      gi_wp2
      refine ⟨_, results_2t Try.results9 _ _, _, by rw [HE.out]; rfl, by rw [HE.out]; exact HU.out ▸ UO.out, HU.out ▸ UB.out⟩
    · have hT := tabS_len s D1
      by_cases he : (tabS s D1).2 = 0
      · have HE := hid ((TO.out h17 he).trans (by rw [L0e.out]))
        gi_wp2_with (first | (refine ⟨trivial, wdep, (callsIn_wide.2 (table_any pm s D1 _ (HU.out ▸ hr.below UB.out))).mono ?_⟩; rintro e w7 ⟨rfl, hb7⟩; have HB7 : Hid (Below U.heap.size U w7) := hid (HU.out ▸ hb7); clear hb7) | (refine li_store (fun _ => trivial) rfl 59 (.tmp 7) (.tmp 30) rfl w7.heap.size (NA (tabS s D1).1) rfl rfl 59 (NA Zp) (heap_alloc_new _ _) (by rw [szP, NA_size, tabS_len]) (by rw [NA_size, NA_size, Zp_len, tabS_len]) (NA_one _) ?_; intro w8 p8; have HP8 := hid p8.here; have HB8 : Hid (Below U.heap.size U w8) := hid (p8.below (HB7.out.alloc HB7.out.size _) HB7.out.size); have c8L : w8.cell? ⟨w.heap.size + 1, 0, none⟩ = some (.slice a0 0 c0) := (by rw [HB8.out.cell (p := ⟨w.heap.size + 1, 0, none⟩) (slt U1.out), cell_of_row _ _ _ _ _ _ U1.out]; rfl); have c8D : w8.cell? ⟨w.heap.size, 17, none⟩ = some (.int .i64 D1) := (by rw [HB8.out.cell (p := ⟨w.heap.size, 17, none⟩) (slt U0.out), HD1.out]; exact row_cell U0.out 17 (by omega)); have H18 : Hid (w8.heap[w.heap.size + 1]? = some (.cells #[.slice a0 0 c0] 39 (0, 0))) := (by rw [HB8.out.block _ (slt U1.out)]; exact U1); have HO8 : Hid (IOwn w8 w.heap.size (.slice a0 0 c0) []) := hid (iown_below UO.out HB8.out); have HW8 : Hid (Below w.heap.size w w8) := hid (UB.out.trans (HB8.out.mono UB.out.size)); clear p8) | (gi_at_builtin; (refine li_appS (fun _ => trivial) rfl _ _ rfl (.tmp 6) _ rfl rfl w.heap.size (w.heap.size + 1) (.slice a0 0 c0) [] D1 rfl rfl (fun _ => rfl) (fun _ => rfl) HO8.out H18.out (by simp) HW8.out.size (by omega) ?_); intro a2 c2 Y hb2 ho2 hk2 hl2 ht2; have Y1 := hid hb2; have YO := hid ho2; have YP := hid (ht2 _ _ _ _ HP8.out (by decide) (by have := slt U1.out; have := HB7.out.size; omega)); have YB : Hid (Below w.heap.size w Y) := hid (HW8.out.trans hl2); clear hb2 ho2 hk2 hl2 ht2 HO8) | (refine ⟨trivial, wdep, (callsIn_wide.2 (there_any _ _ _ _)).mono ?_⟩; rintro e w9 ⟨rfl, rfl⟩))
        obtain ⟨V, hV⟩ : ∃ y, y = Y.alloc (.cells #[.slice (some ⟨w7.heap.size, 0, none⟩) 32 32] 39) := ⟨_, rfl⟩
        have hVY : Below Y.heap.size Y V := by rw [hV]; exact (Below.refl _ _).alloc (Nat.le_refl _) _
        have VX : V.heap[Y.heap.size]? = some (.cells #[.slice (some ⟨w7.heap.size, 0, none⟩) 32 32] 39 (0, 0)) := by rw [hV]; exact heap_alloc_new _ _
        have VT : TbI w w7.heap.size (tabS s D1).1 ([] ++ [D1]) V := ⟨YB.out.trans (hVY.mono YB.out.size), by rw [hVY.block _ (slt YP.out)]; exact YP.out, _, by rw [hVY.block _ (slt Y1.out)]; exact Y1.out, iown_below YO.out hVY⟩
        have VBs := VT.low.size
        have hlen := there_le32 s D1
        rw [← hV]
        clear hV
        refine range_noneA (gf := 24) (lb := #[.pointer (some ⟨Y.heap.size, 0, none⟩)]) rfl (enters_of Try.func24 (by kernel_rfl) rfl) (there_iter Y.heap.size w7.heap.size 0 32 (tabS s D1).1 (by rw [tabS_len]; decide))
          (fun o o' => ?start) (fun x gs W h => by rw [h]; rfl) (fun h k => k.trans h) (fun W' l' o o' hl' ho hc => World.putObj_heap_other (fun e => by rw [← e] at hl'; have := slt VT.tab; omega))
          (fun k W' => TbI w w7.heap.size (tabS s D1).1 ([] ++ [D1] ++ ((thereL (tabS s D1).1).take k).map (fun y : Nat × Int => y.2)) W')
          (fun c W' => False) ?hI ?hIx (by simpa using VT)
          (fun a x (_ : Nat) => { tmps := ((a.tmps.setIfInBounds 42 (.int .i64 (x.1 : Int))).setIfInBounds 43 (.int .i64 x.2)).setIfInBounds 10 (.int .i64 x.2), defers := [] })
          (fun k x _ W' => TbI w w7.heap.size (tabS s D1).1 ([] ++ [D1] ++ ((thereL (tabS s D1).1).take k).map (fun y : Nat × Int => y.2)) W') (fun k x b => ?hE) ?assign ?body ?done ?stop
        case start =>
          have hb2 : Below V.heap.size V ((V.alloc o).alloc o') := ((Below.refl _ _).alloc (Nat.le_refl _) _).alloc (by simp) _
          refine ⟨?_, fun j y hj => ?_⟩
          · rw [hb2.cell (p := ⟨Y.heap.size, 0, none⟩) (slt VX), cell_of_row _ _ _ _ _ _ VX, tabS_len]; rfl
          · rw [hb2.cell (p := ⟨w7.heap.size, 0 + j, none⟩) (slt VT.tab), Nat.zero_add, row_cell VT.tab j (List.getElem?_eq_some_iff.1 hj).1]
            simp [hj]
        case hI =>
          intro k A B row h hg hq
          exact h.own hg hq VBs
        case hE =>
          intro _ A B row h hg hq
          exact TbI.own h hg hq VBs
        case hIx =>
          intro c _ A B row h hg hq
          exact h
        case assign =>
          rintro l' k x gs W' m hx rfl hi
          have HI := hid hi
          unfold encT
          rw [fold2]
          simp only [List.setIfInBounds_toArray, List.set_cons_zero, List.set_cons_succ]
          gi_wp2
          exact ⟨KeepsFrom.refl _ _, trivial, 0, trivial, HI.out⟩
        case body =>
          rintro l' k x b W' m hl' hx ⟨r', hr'⟩ ⟨i1, i2, v, i3, i4⟩
          obtain ⟨xa, xn⟩ := x
          have c3 : W'.cell? ⟨w.heap.size + 1, 0, none⟩ = some v := by rw [cell_of_row _ _ _ _ _ _ i3]; rfl
          obtain ⟨av, cv, rfl, _, _⟩ := row_shape9 i4
          have hk := (List.getElem?_eq_some_iff.1 hx).1
          obtain ⟨LK, hLK⟩ : ∃ y, y = [] ++ [D1] ++ ((thereL (tabS s D1).1).take k).map (fun y : Nat × Int => y.2) := ⟨_, rfl⟩
          have htk : [] ++ [D1] ++ ((thereL (tabS s D1).1).take (k + 1)).map (fun y : Nat × Int => y.2) = LK ++ [xn] := by rw [List.take_add_one, hx, hLK]; simp
          have hLl : LK.length ≤ 100 := by rw [hLK]; simp; omega
          rw [← hLK] at i4 c3 i3
          have HTK := hid htk
          have H1 := hid i1
          have H2 := hid i2
          have H3 := hid i3
          have H4 := hid i4
          clear i1 i2 i3 i4 htk hLK
          simp only [List.setIfInBounds_toArray, List.set_cons_zero, List.set_cons_succ]
          gi_wp2_with (first
            | (gi_at_builtin; (refine li_appS (fun _ => trivial) rfl _ _ rfl (.tmp 6) _ rfl rfl w.heap.size (w.heap.size + 1) (.slice av LK.length cv) LK xn rfl rfl (fun _ => rfl) (fun _ => rfl) H4.out H3.out (by omega) H1.out.size (by omega) ?_); intro a3 c3 Z hb3 ho3 hk3 hl3 ht3))
          have hne : w7.heap.size ≠ w.heap.size + 1 := fun e => by have h3 := H3.out; rw [← e, H2.out] at h3; exact absurd (Obj.cells.inj (Option.some.inj h3)).2.1 (by decide)
          have hP3 := ht3 _ _ _ _ H2.out (by decide) hne
          exact ⟨hk3.from _, none, rfl, hP3.trans H2.out.symm, H1.out.trans hl3, hP3, _, hb3, by rw [HTK.out]; exact ho3⟩
        case stop =>
          rintro D c W' hD h hK
          exact h.elim
        case done =>
          rintro D W' hD ⟨i1, i2, v, i3, i4⟩ hK
          rw [List.take_length] at i4
          obtain ⟨LK, hLK⟩ : ∃ y, y = [] ++ [D1] ++ (thereL (tabS s D1).1).map (fun y : Nat × Int => y.2) := ⟨_, rfl⟩
          rw [← hLK] at i4
          rw [← hLK] at HE
          obtain ⟨av, cv, rfl, _, _⟩ := row_shape9 i4
          have c3 : W'.cell? ⟨w.heap.size + 1, 0, none⟩ = some (.slice av LK.length cv) := by rw [cell_of_row _ _ _ _ _ _ i3]; rfl
          clear hLK
          have H1 := hid i1
          have H4 := hid i4
          clear i1 i2 i3 i4
          gi_wp2
          refine ⟨by simp, .inl ⟨_, _, rfl, run_takeDeferred hK, ?_⟩⟩
          exact ⟨_, results_2t Try.results9 _ _, _, by rw [HE.out]; rfl, by rw [HE.out]; exact ownsRow_putObj H4.out _ hK rfl, H1.out.trans (belowK_b (w := w) (Nat.le_refl _) W' D _ _ (by omega) hK rfl rfl)⟩
      · have HE := hid (TB.out h17 he)
        gi_wp2_with (first | (refine ⟨trivial, wdep, (callsIn_wide.2 (table_any pm s D1 _ (HU.out ▸ hr.below UB.out))).mono ?_⟩; rintro e w7 ⟨rfl, hb7⟩; have HB7 : Hid (Below U.heap.size U w7) := hid (HU.out ▸ hb7); clear hb7) | (refine li_store (fun _ => trivial) rfl 59 (.tmp 7) (.tmp 30) rfl w7.heap.size (NA (tabS s D1).1) rfl rfl 59 (NA Zp) (heap_alloc_new _ _) (by rw [szP, NA_size, tabS_len]) (by rw [NA_size, NA_size, Zp_len, tabS_len]) (NA_one _) ?_; intro w8 p8; have HP8 := hid p8.here; have HB8 : Hid (Below U.heap.size U w8) := hid (p8.below (HB7.out.alloc HB7.out.size _) HB7.out.size); have c8L : w8.cell? ⟨w.heap.size + 1, 0, none⟩ = some (.slice a0 0 c0) := (by rw [HB8.out.cell (p := ⟨w.heap.size + 1, 0, none⟩) (slt U1.out), cell_of_row _ _ _ _ _ _ U1.out]; rfl); have c8D : w8.cell? ⟨w.heap.size, 17, none⟩ = some (.int .i64 D1) := (by rw [HB8.out.cell (p := ⟨w.heap.size, 17, none⟩) (slt U0.out), HD1.out]; exact row_cell U0.out 17 (by omega)); have H18 : Hid (w8.heap[w.heap.size + 1]? = some (.cells #[.slice a0 0 c0] 39 (0, 0))) := (by rw [HB8.out.block _ (slt U1.out)]; exact U1); have HO8 : Hid (IOwn w8 w.heap.size (.slice a0 0 c0) []) := hid (iown_below UO.out HB8.out); have HW8 : Hid (Below w.heap.size w w8) := hid (UB.out.trans (HB8.out.mono UB.out.size)); clear p8))
        refine ⟨_, results_2t Try.results9 _ _, _, by rw [HE.out]; rfl, by rw [HE.out]; exact World.ownsRow_nil _ _ _ _, HW8.out⟩
  · have L0e : Hid ((if S1 = 0 then [] else [S1]) = [S1]) := if_neg h16
    by_cases h17 : D1 = 0
    · have HE := hid ((TN.out h17).trans (by rw [L0e.out]))
      subst h17
      gi_wp2_with (first | (gi_at_builtin; (refine li_appS (fun _ => trivial) rfl (.tmp 16) (.tmp 19) rfl (.tmp 6) _ rfl rfl w.heap.size (w.heap.size + 1) (.slice a0 0 c0) [] S1 rfl (by simp [Act.eval]) (fun _ => rfl) (fun _ => rfl) (HU.out ▸ UO.out) (HU.out ▸ U1.out) (by simp) (HU.out ▸ UB.out.size) (by omega) ?_; intro a1 c1 X hb1 ho1 hk1 hl1 ht1; have V1 := hid hb1; have VO := hid ho1; have V0 := hid (ht1 _ _ _ _ (HU.out ▸ U0.out) (by decide) (by omega)); have VB : Hid (Below w.heap.size w X) := hid (UB.out.trans (by rw [HU.out]; exact hl1)); have vL : X.cell? ⟨w.heap.size + 1, 0, none⟩ = some (.slice a1 1 c1) := (by rw [cell_of_row _ _ _ _ _ _ V1.out]; rfl); have vD : X.cell? ⟨w.heap.size, 17, none⟩ = some (.int .i64 0) := (by have hq := row_cell V0.out 17 (by omega); rw [← HD1.out] at hq; exact hq); clear hb1 ho1 hk1 hl1 ht1 UO)))
      refine ⟨_, results_2t Try.results9 _ _, _, by rw [HE.out]; rfl, by rw [HE.out]; exact VO.out, VB.out⟩
    · have hT := tabS_len s D1
      by_cases he : (tabS s D1).2 = 0
      · have HE := hid ((TO.out h17 he).trans (by rw [L0e.out]))
        gi_wp2_with (first | (gi_at_builtin; (refine li_appS (fun _ => trivial) rfl (.tmp 16) (.tmp 19) rfl (.tmp 6) _ rfl rfl w.heap.size (w.heap.size + 1) (.slice a0 0 c0) [] S1 rfl (by simp [Act.eval]) (fun _ => rfl) (fun _ => rfl) (HU.out ▸ UO.out) (HU.out ▸ U1.out) (by simp) (HU.out ▸ UB.out.size) (by omega) ?_; intro a1 c1 X hb1 ho1 hk1 hl1 ht1; have V1 := hid hb1; have VO := hid ho1; have V0 := hid (ht1 _ _ _ _ (HU.out ▸ U0.out) (by decide) (by omega)); have VB : Hid (Below w.heap.size w X) := hid (UB.out.trans (by rw [HU.out]; exact hl1)); have vL : X.cell? ⟨w.heap.size + 1, 0, none⟩ = some (.slice a1 1 c1) := (by rw [cell_of_row _ _ _ _ _ _ V1.out]; rfl); have vD : X.cell? ⟨w.heap.size, 17, none⟩ = some (.int .i64 D1) := (by have hq := row_cell V0.out 17 (by omega); rw [← HD1.out] at hq; exact hq); clear hb1 ho1 hk1 hl1 ht1 UO)) | (refine ⟨trivial, wdep, (callsIn_wide.2 (table_any pm s D1 _ (hr.below VB.out))).mono ?_⟩; rintro e w7 ⟨rfl, hb7⟩; have HB7 : Hid (Below X.heap.size X w7) := hid (hb7); clear hb7) | (refine li_store (fun _ => trivial) rfl 59 (.tmp 7) (.tmp 30) rfl w7.heap.size (NA (tabS s D1).1) rfl rfl 59 (NA Zp) (heap_alloc_new _ _) (by rw [szP, NA_size, tabS_len]) (by rw [NA_size, NA_size, Zp_len, tabS_len]) (NA_one _) ?_; intro w8 p8; have HP8 := hid p8.here; have HB8 : Hid (Below X.heap.size X w8) := hid (p8.below (HB7.out.alloc HB7.out.size _) HB7.out.size); have c8L : w8.cell? ⟨w.heap.size + 1, 0, none⟩ = some (.slice a1 1 c1) := (by rw [HB8.out.cell (p := ⟨w.heap.size + 1, 0, none⟩) (slt V1.out), cell_of_row _ _ _ _ _ _ V1.out]; rfl); have c8D : w8.cell? ⟨w.heap.size, 17, none⟩ = some (.int .i64 D1) := (by rw [HB8.out.cell (p := ⟨w.heap.size, 17, none⟩) (slt V0.out), HD1.out]; exact row_cell V0.out 17 (by omega)); have H18 : Hid (w8.heap[w.heap.size + 1]? = some (.cells #[.slice a1 1 c1] 39 (0, 0))) := (by rw [HB8.out.block _ (slt V1.out)]; exact V1); have HO8 : Hid (IOwn w8 w.heap.size (.slice a1 1 c1) [S1]) := hid (iown_below VO.out HB8.out); have HW8 : Hid (Below w.heap.size w w8) := hid (VB.out.trans (HB8.out.mono VB.out.size)); clear p8) | (gi_at_builtin; (refine li_appS (fun _ => trivial) rfl _ _ rfl (.tmp 6) _ rfl rfl w.heap.size (w.heap.size + 1) (.slice a1 1 c1) [S1] D1 rfl rfl (fun _ => rfl) (fun _ => rfl) HO8.out H18.out (by simp) HW8.out.size (by omega) ?_); intro a2 c2 Y hb2 ho2 hk2 hl2 ht2; have Y1 := hid hb2; have YO := hid ho2; have YP := hid (ht2 _ _ _ _ HP8.out (by decide) (by have := slt V1.out; have := HB7.out.size; omega)); have YB : Hid (Below w.heap.size w Y) := hid (HW8.out.trans hl2); clear hb2 ho2 hk2 hl2 ht2 HO8) | (refine ⟨trivial, wdep, (callsIn_wide.2 (there_any _ _ _ _)).mono ?_⟩; rintro e w9 ⟨rfl, rfl⟩))
        obtain ⟨V, hV⟩ : ∃ y, y = Y.alloc (.cells #[.slice (some ⟨w7.heap.size, 0, none⟩) 32 32] 39) := ⟨_, rfl⟩
        have hVY : Below Y.heap.size Y V := by rw [hV]; exact (Below.refl _ _).alloc (Nat.le_refl _) _
        have VX : V.heap[Y.heap.size]? = some (.cells #[.slice (some ⟨w7.heap.size, 0, none⟩) 32 32] 39 (0, 0)) := by rw [hV]; exact heap_alloc_new _ _
        have VT : TbI w w7.heap.size (tabS s D1).1 ([S1] ++ [D1]) V := ⟨YB.out.trans (hVY.mono YB.out.size), by rw [hVY.block _ (slt YP.out)]; exact YP.out, _, by rw [hVY.block _ (slt Y1.out)]; exact Y1.out, iown_below YO.out hVY⟩
        have VBs := VT.low.size
        have hlen := there_le32 s D1
        rw [← hV]
        clear hV
        refine range_noneA (gf := 24) (lb := #[.pointer (some ⟨Y.heap.size, 0, none⟩)]) rfl (enters_of Try.func24 (by kernel_rfl) rfl) (there_iter Y.heap.size w7.heap.size 0 32 (tabS s D1).1 (by rw [tabS_len]; decide))
          (fun o o' => ?start) (fun x gs W h => by rw [h]; rfl) (fun h k => k.trans h) (fun W' l' o o' hl' ho hc => World.putObj_heap_other (fun e => by rw [← e] at hl'; have := slt VT.tab; omega))
          (fun k W' => TbI w w7.heap.size (tabS s D1).1 ([S1] ++ [D1] ++ ((thereL (tabS s D1).1).take k).map (fun y : Nat × Int => y.2)) W')
          (fun c W' => False) ?hI ?hIx (by simpa using VT)
          (fun a x (_ : Nat) => { tmps := ((a.tmps.setIfInBounds 42 (.int .i64 (x.1 : Int))).setIfInBounds 43 (.int .i64 x.2)).setIfInBounds 10 (.int .i64 x.2), defers := [] })
          (fun k x _ W' => TbI w w7.heap.size (tabS s D1).1 ([S1] ++ [D1] ++ ((thereL (tabS s D1).1).take k).map (fun y : Nat × Int => y.2)) W') (fun k x b => ?hE) ?assign ?body ?done ?stop
        case start =>
          have hb2 : Below V.heap.size V ((V.alloc o).alloc o') := ((Below.refl _ _).alloc (Nat.le_refl _) _).alloc (by simp) _
          refine ⟨?_, fun j y hj => ?_⟩
          · rw [hb2.cell (p := ⟨Y.heap.size, 0, none⟩) (slt VX), cell_of_row _ _ _ _ _ _ VX, tabS_len]; rfl
          · rw [hb2.cell (p := ⟨w7.heap.size, 0 + j, none⟩) (slt VT.tab), Nat.zero_add, row_cell VT.tab j (List.getElem?_eq_some_iff.1 hj).1]
            simp [hj]
        case hI =>
          intro k A B row h hg hq
          exact h.own hg hq VBs
        case hE =>
          intro _ A B row h hg hq
          exact TbI.own h hg hq VBs
        case hIx =>
          intro c _ A B row h hg hq
          exact h
        case assign =>
          rintro l' k x gs W' m hx rfl hi
          have HI := hid hi
          unfold encT
          rw [fold2]
          simp only [List.setIfInBounds_toArray, List.set_cons_zero, List.set_cons_succ]
          gi_wp2
          exact ⟨KeepsFrom.refl _ _, trivial, 0, trivial, HI.out⟩
        case body =>
          rintro l' k x b W' m hl' hx ⟨r', hr'⟩ ⟨i1, i2, v, i3, i4⟩
          obtain ⟨xa, xn⟩ := x
          have c3 : W'.cell? ⟨w.heap.size + 1, 0, none⟩ = some v := by rw [cell_of_row _ _ _ _ _ _ i3]; rfl
          obtain ⟨av, cv, rfl, _, _⟩ := row_shape9 i4
          have hk := (List.getElem?_eq_some_iff.1 hx).1
          obtain ⟨LK, hLK⟩ : ∃ y, y = [S1] ++ [D1] ++ ((thereL (tabS s D1).1).take k).map (fun y : Nat × Int => y.2) := ⟨_, rfl⟩
          have htk : [S1] ++ [D1] ++ ((thereL (tabS s D1).1).take (k + 1)).map (fun y : Nat × Int => y.2) = LK ++ [xn] := by rw [List.take_add_one, hx, hLK]; simp
          have hLl : LK.length ≤ 100 := by rw [hLK]; simp; omega
          rw [← hLK] at i4 c3 i3
          have HTK := hid htk
          have H1 := hid i1
          have H2 := hid i2
          have H3 := hid i3
          have H4 := hid i4
          clear i1 i2 i3 i4 htk hLK
          simp only [List.setIfInBounds_toArray, List.set_cons_zero, List.set_cons_succ]
          gi_wp2_with (first
            | (gi_at_builtin; (refine li_appS (fun _ => trivial) rfl _ _ rfl (.tmp 6) _ rfl rfl w.heap.size (w.heap.size + 1) (.slice av LK.length cv) LK xn rfl rfl (fun _ => rfl) (fun _ => rfl) H4.out H3.out (by omega) H1.out.size (by omega) ?_); intro a3 c3 Z hb3 ho3 hk3 hl3 ht3))
          have hne : w7.heap.size ≠ w.heap.size + 1 := fun e => by have h3 := H3.out; rw [← e, H2.out] at h3; exact absurd (Obj.cells.inj (Option.some.inj h3)).2.1 (by decide)
          have hP3 := ht3 _ _ _ _ H2.out (by decide) hne
          exact ⟨hk3.from _, none, rfl, hP3.trans H2.out.symm, H1.out.trans hl3, hP3, _, hb3, by rw [HTK.out]; exact ho3⟩
        case stop =>
          rintro D c W' hD h hK
          exact h.elim
        case done =>
          rintro D W' hD ⟨i1, i2, v, i3, i4⟩ hK
          rw [List.take_length] at i4
          obtain ⟨LK, hLK⟩ : ∃ y, y = [S1] ++ [D1] ++ (thereL (tabS s D1).1).map (fun y : Nat × Int => y.2) := ⟨_, rfl⟩
          rw [← hLK] at i4
          rw [← hLK] at HE
          obtain ⟨av, cv, rfl, _, _⟩ := row_shape9 i4
          have c3 : W'.cell? ⟨w.heap.size + 1, 0, none⟩ = some (.slice av LK.length cv) := by rw [cell_of_row _ _ _ _ _ _ i3]; rfl
          clear hLK
          have H1 := hid i1
          have H4 := hid i4
          clear i1 i2 i3 i4
          gi_wp2
          refine ⟨by simp, .inl ⟨_, _, rfl, run_takeDeferred hK, ?_⟩⟩
          exact ⟨_, results_2t Try.results9 _ _, _, by rw [HE.out]; rfl, by rw [HE.out]; exact ownsRow_putObj H4.out _ hK rfl, H1.out.trans (belowK_b (w := w) (Nat.le_refl _) W' D _ _ (by omega) hK rfl rfl)⟩
      · have HE := hid (TB.out h17 he)
        gi_wp2_with (first | (gi_at_builtin; (refine li_appS (fun _ => trivial) rfl (.tmp 16) (.tmp 19) rfl (.tmp 6) _ rfl rfl w.heap.size (w.heap.size + 1) (.slice a0 0 c0) [] S1 rfl (by simp [Act.eval]) (fun _ => rfl) (fun _ => rfl) (HU.out ▸ UO.out) (HU.out ▸ U1.out) (by simp) (HU.out ▸ UB.out.size) (by omega) ?_; intro a1 c1 X hb1 ho1 hk1 hl1 ht1; have V1 := hid hb1; have VO := hid ho1; have V0 := hid (ht1 _ _ _ _ (HU.out ▸ U0.out) (by decide) (by omega)); have VB : Hid (Below w.heap.size w X) := hid (UB.out.trans (by rw [HU.out]; exact hl1)); have vL : X.cell? ⟨w.heap.size + 1, 0, none⟩ = some (.slice a1 1 c1) := (by rw [cell_of_row _ _ _ _ _ _ V1.out]; rfl); have vD : X.cell? ⟨w.heap.size, 17, none⟩ = some (.int .i64 D1) := (by have hq := row_cell V0.out 17 (by omega); rw [← HD1.out] at hq; exact hq); clear hb1 ho1 hk1 hl1 ht1 UO)) | (refine ⟨trivial, wdep, (callsIn_wide.2 (table_any pm s D1 _ (hr.below VB.out))).mono ?_⟩; rintro e w7 ⟨rfl, hb7⟩; have HB7 : Hid (Below X.heap.size X w7) := hid (hb7); clear hb7) | (refine li_store (fun _ => trivial) rfl 59 (.tmp 7) (.tmp 30) rfl w7.heap.size (NA (tabS s D1).1) rfl rfl 59 (NA Zp) (heap_alloc_new _ _) (by rw [szP, NA_size, tabS_len]) (by rw [NA_size, NA_size, Zp_len, tabS_len]) (NA_one _) ?_; intro w8 p8; have HP8 := hid p8.here; have HB8 : Hid (Below X.heap.size X w8) := hid (p8.below (HB7.out.alloc HB7.out.size _) HB7.out.size); have c8L : w8.cell? ⟨w.heap.size + 1, 0, none⟩ = some (.slice a1 1 c1) := (by rw [HB8.out.cell (p := ⟨w.heap.size + 1, 0, none⟩) (slt V1.out), cell_of_row _ _ _ _ _ _ V1.out]; rfl); have c8D : w8.cell? ⟨w.heap.size, 17, none⟩ = some (.int .i64 D1) := (by rw [HB8.out.cell (p := ⟨w.heap.size, 17, none⟩) (slt V0.out), HD1.out]; exact row_cell V0.out 17 (by omega)); have H18 : Hid (w8.heap[w.heap.size + 1]? = some (.cells #[.slice a1 1 c1] 39 (0, 0))) := (by rw [HB8.out.block _ (slt V1.out)]; exact V1); have HO8 : Hid (IOwn w8 w.heap.size (.slice a1 1 c1) [S1]) := hid (iown_below VO.out HB8.out); have HW8 : Hid (Below w.heap.size w w8) := hid (VB.out.trans (HB8.out.mono VB.out.size)); clear p8))
        refine ⟨_, results_2t Try.results9 _ _, _, by rw [HE.out]; rfl, by rw [HE.out]; exact World.ownsRow_nil _ _ _ _, HW8.out⟩

end Go.Proofs.Ytjlhmojofjkkdab
