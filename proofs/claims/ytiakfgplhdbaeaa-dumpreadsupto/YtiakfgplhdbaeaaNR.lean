/-
  A row of nodes in a block: made, read, written over.
-/
import Derived.Test.YtiakfgplhdbaeaaLF
namespace Go.Proofs.Ytiakfgplhdbaeaa
open Go.RowKit

/-- Cells of a block written over, from a place on. -/
theorem setCells_row {g : Nat} {t : TypeId} : ∀ (vs : List Value) (o : Nat) (w : World) (A : Array Value), w.heap[g]? = some (.cells A t (0, 0)) →
    ∃ A', (w.setCells g o vs).heap[g]? = some (.cells A' t (0, 0)) ∧ A'.size = A.size ∧ (∀ i, A'[i]? = if o ≤ i ∧ i < o + vs.length ∧ i < A.size then vs[i - o]? else A[i]?) ∧ Chg w (w.setCells g o vs) (· = g) ∧ (w.setCells g o vs).heap.size = w.heap.size
  | [], o, w, A, h => ⟨A, h, rfl, fun i => by rw [if_neg (by simp; omega)], Chg.refl _ _, rfl⟩
  | v :: vs, o, w, A, h => by
    have h1 : (w.setCell ⟨g, o, none⟩ v).heap[g]? = some (.cells (A.setIfInBounds o v) t (0, 0)) := heap_setCell_same w g o A t _ h
    obtain ⟨A', k1, k2, k3, k4, k5⟩ := setCells_row vs (o + 1) _ _ h1
    refine ⟨A', k1, by simpa using k2, fun i => ?_, (Chg.setCell (w := w) (g := g) (j := o) (v := v)).trans k4 (fun _ _ e => e) (fun _ _ e => e), k5.trans (by simp [World.setCell])⟩
    rw [k3 i]
    simp only [Array.size_setIfInBounds, List.length_cons, Array.getElem?_setIfInBounds]
    by_cases e : o = i
    · subst e
      rw [if_neg (by omega), if_pos rfl]
      by_cases hs : o < A.size
      · rw [if_pos hs, if_pos ⟨Nat.le_refl _, by omega, hs⟩, Nat.sub_self]; rfl
      · rw [if_neg hs, if_neg (by omega), Array.getElem?_eq_none (by omega)]
    · rw [if_neg e]
      by_cases c : o + 1 ≤ i ∧ i < o + 1 + vs.length ∧ i < A.size
      · rw [if_pos c, if_pos ⟨by omega, by omega, c.2.2⟩, show i - o = (i - (o + 1)) + 1 by omega, List.getElem?_cons_succ]
      · rw [if_neg c, if_neg (by omega)]

/-- A row of rows of five cells in a block. -/
def NR (w : World) (g : Nat) (R : List (List Value)) : Prop :=
  ∃ A, w.heap[g]? = some (.cells A 47 (0, 0)) ∧ A.size = R.length * 5 ∧ ∀ (k : Nat) r, R[k]? = some r → r.length = 5 ∧ ∀ (i : Nat) v, r[i]? = some v → A[k * 5 + i]? = some v
section
variable {w w' : World} {g : Nat} {R : List (List Value)} {ks : Nat → Prop}
theorem NR.lt (h : NR w g R) : g < w.heap.size := by
  obtain ⟨A, h, _⟩ := h
  exact slt h
theorem NR.isRow (h : NR w g R) : ∃ A, w.heap[g]? = some (.cells A 47 (0, 0)) := let ⟨A, h, _⟩ := h; ⟨A, h⟩
theorem NR.keep (h : NR w g R) (hc : Chg w w' ks) (hn : ¬ ks g) : NR w' g R := by
  obtain ⟨A, h1, h2⟩ := h
  exact ⟨A, hc.keep h1 hn, h2⟩
theorem NR.range (h : NR w g R) {k : Nat} {r : List Value} (hk : R[k]? = some r) : w.rangeAt g (k * 5) r := by
  obtain ⟨A, h1, _, h2⟩ := h
  intro i v hv
  rw [cell_of_row _ _ _ _ _ _ h1]
  exact (h2 k r hk).2 i v hv
theorem NR.five (h : NR w g R) {k : Nat} {r : List Value} (hk : R[k]? = some r) : r.length = 5 := by
  obtain ⟨A, _, _, h2⟩ := h
  exact (h2 k r hk).1
theorem NR.set (h : NR w g R) {k : Nat} (hk : k < R.length) {c : List Value} (hc : c.length = 5) :
    NR (w.setCells g (k * 5) c) g (R.set k c) ∧ Chg w (w.setCells g (k * 5) c) (· = g) ∧ (w.setCells g (k * 5) c).heap.size = w.heap.size := by
  obtain ⟨A, h1, hs, h2⟩ := h
  obtain ⟨A', k1, k2, k3, k4, k5⟩ := setCells_row c (k * 5) w A h1
  refine ⟨⟨A', k1, by rw [k2, List.length_set]; exact hs, fun j s hj => ?_⟩, k4, k5⟩
  rw [List.getElem?_set] at hj
  by_cases e : k = j
  · subst e
    rw [if_pos rfl, if_pos hk] at hj
    have := Option.some.inj hj
    subst this
    refine ⟨hc, fun i x hx => ?_⟩
    have hi : i < 5 := by have := (List.getElem?_eq_some_iff.1 hx).1; omega
    rw [k3, if_pos ⟨by omega, by omega, by omega⟩, show k * 5 + i - k * 5 = i by omega]
    exact hx
  · rw [if_neg e] at hj
    have h5 := (h2 j s hj).1
    refine ⟨h5, fun i x hx => ?_⟩
    have hi : i < 5 := by have := (List.getElem?_eq_some_iff.1 hx).1; omega
    rw [k3, if_neg (by omega)]
    exact (h2 j s hj).2 i x hx
theorem NR.cell (h : NR w g R) {k j : Nat} {r : List Value} (hk : R[k]? = some r) (hj : j < 5) (v : Value) :
    NR (w.setCell ⟨g, k * 5 + j, none⟩ v) g (R.set k (r.set j v)) ∧ Chg w (w.setCell ⟨g, k * 5 + j, none⟩ v) (· = g) ∧ (w.setCell ⟨g, k * 5 + j, none⟩ v).heap.size = w.heap.size := by
  obtain ⟨A, h1, hs, h2⟩ := h
  have hkl : k < R.length := (List.getElem?_eq_some_iff.1 hk).1
  refine ⟨⟨A.setIfInBounds (k * 5 + j) v, heap_setCell_same w g _ A _ _ h1, by rw [Array.size_setIfInBounds, List.length_set]; exact hs, fun m s hm => ?_⟩, Chg.setCell, by simp [World.setCell]⟩
  rw [List.getElem?_set] at hm
  by_cases e : k = m
  · subst e
    rw [if_pos rfl, if_pos hkl] at hm
    have := Option.some.inj hm
    subst this
    have h5 := (h2 k r hk).1
    refine ⟨by rw [List.length_set]; exact h5, fun i x hx => ?_⟩
    rw [List.getElem?_set] at hx
    rw [Array.getElem?_setIfInBounds]
    by_cases e2 : j = i
    · subst e2
      rw [if_pos rfl, if_pos (by omega)] at hx
      rw [if_pos rfl, if_pos (by omega)]
      exact hx
    · rw [if_neg e2] at hx
      rw [if_neg (by omega)]
      exact (h2 k r hk).2 i x hx
  · rw [if_neg e] at hm
    have h5 := (h2 m s hm).1
    refine ⟨h5, fun i x hx => ?_⟩
    have hi : i < 5 := by have := (List.getElem?_eq_some_iff.1 hx).1; omega
    rw [Array.getElem?_setIfInBounds, if_neg (by omega)]
    exact (h2 m s hm).2 i x hx
theorem NR.there (h : NR w g R) {k : Nat} (hk : k < R.length) : w.there g (k * 5) 5 := fun j hj => by
  obtain ⟨A, h1, hs, h2⟩ := h
  refine ⟨?_, frozen_of_row w g _ A 47 h1⟩
  rw [cell_of_row _ _ _ _ _ _ h1, Array.getElem?_eq_getElem (by omega)]
  rfl
theorem NR.loadV (h : NR w g R) {k : Nat} {r : List Value} (hk : R[k]? = some r) : (loadVar 47 ⟨g, k * 5, none⟩).run Try.prog w = .ok (.agg r.toArray) w :=
  run_loadVar_mid (P := Try.prog) w g (k * 5) 47 r _ (h.range hk) Try.underlying47 rfl (by rw [szNd, h.five hk])
end
def zN : List Value := [.string ⟨#[]⟩, .int .i64 0, .int .i64 0, .string ⟨#[]⟩, .slice none 0 0]
theorem infoNd : ∃ i, Try.prog.info? 47 = some i ∧ i.zero = some (.agg zN.toArray) ∧ i.size = 5 ∧ i.bytes = 72 := by
  have h : (Try.prog.info? 47).map (fun i => (i.zero, i.size, i.bytes)) = some (some (.agg zN.toArray), 5, 72) := by kernel_rfl
  cases hq : Try.prog.info? 47 with
  | none => rw [hq] at h; cases h
  | some i =>
    rw [hq] at h
    have h := Option.some.inj h
    simp only [Prod.mk.injEq] at h
    exact ⟨i, rfl, h.1, h.2.1, h.2.2⟩
theorem made_nodes (n : Nat) (h1 : n ≤ 100000) (w : World) : ∃ A, (Instr.makeSlice 22 (.int .i64 (n : Int)) (.int .i64 (n : Int))).run Try.prog w = .ok (.slice (some ⟨w.heap.size, 0, none⟩) n n) (w.alloc (.cells A 47)) ∧ NR (w.alloc (.cells A 47)) w.heap.size (List.replicate n zN) := by
  obtain ⟨i, hi, hz, hs, hb⟩ := infoNd
  refine ⟨madeCells (Value.cells (.agg zN.toArray)) (n * 5), ?_, ⟨_, heap_alloc_new _ _, by rw [size_madeCells, List.length_replicate], fun k r hk => ?_⟩⟩
  · rw [run_make w 22 47 i _ Try.underlying22 hi hz .i64 .i64 n n (by omega) (Int.le_refl _) (by rw [hb]; omega) (by omega), hs, Int.toNat_natCast]
  · rw [List.getElem?_replicate] at hk
    split at hk
    · rename_i hkn
      have := Option.some.inj hk
      subst this
      refine ⟨rfl, fun i v hv => ?_⟩
      have hi5 : i < 5 := (List.getElem?_eq_some_iff.1 hv).1
      have hsz : (madeCells (Value.cells (.agg zN.toArray)) (n * 5)).size = n * 5 := size_madeCells _ _
      rw [Array.getElem?_eq_getElem (by rw [hsz]; omega)]
      simp only [madeCells, Array.getElem_map, Array.getElem_range]
      have e : (k * 5 + i) % (Value.cells (.agg zN.toArray)).size = i := by
        show (k * 5 + i) % 5 = i
        omega
      rw [e]
      match i, hi5, hv with
      | 0, _, hv => exact hv
      | 1, _, hv => exact hv
      | 2, _, hv => exact hv
      | 3, _, hv => exact hv
      | 4, _, hv => exact hv
    · cases hk
section
variable {ops : Array Oper} {rest : List Oper} {o : Oper} {a : Act} {w : World} {Q : Exit → Act → World → Prop}
theorem run_storeOne (w : World) (g off : Nat) (t tb : TypeId) (v : Value) (A : Array Value) (hv : v.oneCell' = true) (hsz : (Try.prog.info? t).map (·.size) = some 1) (hg : w.heap[g]? = some (.cells A tb (0, 0))) (ho : off < A.size) :
    (storeVar t ⟨g, off, none⟩ v).run Try.prog w = .ok () (w.setCell ⟨g, off, none⟩ v) := by
  have hcell : Value.cells v = #[v] := by cases v <;> first | rfl | simp [Value.oneCell'] at hv
  have hc := run_storeCells_cells (P := Try.prog) g off [v] 0 w (fun j hj => by
    have hj : j = 0 := by simpa using hj
    subst hj
    simp only [Nat.add_zero]
    rw [cell_of_row _ _ _ _ _ _ hg, Array.getElem?_eq_getElem ho]
    rfl) (fun j hj => frozen_of_row _ _ _ _ _ hg) (fun u hu => by
    have hu : u = v := by simpa using hu
    rw [hu]
    exact hv)
  simp only [Nat.add_zero] at hc
  cases hq : Try.prog.info? t with
  | none => simp [hq] at hsz
  | some i =>
    have hs : i.size = 1 := by simpa [hq] using hsz
    simp [storeVar, sizeOf, typeInfo, hq, hcell, hs, hc]
    rfl
theorem store_one (hgd : o.guard = none) (t : TypeId) (x y : Operand) (ho : o.op = .store t x y) (g off : Nat) (hx : a.eval x = .pointer (some ⟨g, off, none⟩)) (v : Value) (hy : a.eval y = v) (hv : v.oneCell' = true) (hsz : (Try.prog.info? t).map (·.size) = some 1) (tb : TypeId) (A : Array Value) (hg : w.heap[g]? = some (.cells A tb (0, 0))) (hoff : off < A.size)
    (h : wpList Try.prog ops Q rest (a.put o.dst undef) (w.setCell ⟨g, off, none⟩ v)) : wpList Try.prog ops Q (o :: rest) a w :=
  wpList_plain hgd fun _ hK => by
    unfold Oper.wp execOp
    simp only [ho, hx, hy, Instr.storeAt, Instr.sureAddr, Sem.run_bind, Sem.run_pure, Result.andThen_ok, run_storeOne w g off t tb v A hv hsz hg hoff]
    exact hK _ _ h
theorem store_NR (hgd : o.guard = none) (x y : Operand) (ho : o.op = .store 47 x y) (g k : Nat) (hx : a.eval x = .pointer (some ⟨g, k * 5, none⟩)) (c : List Value) (hy : a.eval y = .agg c.toArray) (hc : c.length = 5) (h1 : c.toArray.all (·.oneCell') = true) (R : List (List Value)) (hw : NR w g R) (hk : k < R.length)
    (h : ∀ w', NR w' g (R.set k c) → Chg w w' (· = g) → w'.heap.size = w.heap.size → wpList Try.prog ops Q rest (a.put o.dst undef) w') : wpList Try.prog ops Q (o :: rest) a w := by
  refine wpList_store_mid hgd 47 x y ho g (k * 5) c.toArray hx hy (by simpa [hc] using hw.there hk) (by rw [szNd]; simp [hc]) h1 ?_
  obtain ⟨k1, k2, k3⟩ := hw.set hk hc
  simpa using h _ k1 k2 k3
end
section
variable {ops : Array Oper} {Q : Exit → Act → World → Prop} {S : World → Prop} {fuel : Nat} {listed : Array Bool} {a : Act} {w : World}
theorem stStoreN (i : Nat) {o : Oper} (hop : ops[i]? = some o) (hd : o.dst = none) (hw : Region.wanted o (yielded ops a.tmps) = true) (x y : Operand) (ho : o.op = .store 47 x y) (g k : Nat) (hx : a.eval x = .pointer (some ⟨g, k * 5, none⟩)) (c : List Value) (hy : a.eval y = .agg c.toArray) (hc : c.length = 5) (h1 : c.toArray.all (·.oneCell') = true) (R : List (List Value)) (hR : NR w g R) (hk : k < R.length)
    (h : ∀ w', NR w' g (R.set k c) → Chg w w' (· = g) → w'.heap.size = w.heap.size → S w' ∧ wpAnyH Try.prog .any ops Q S fuel (listed.setIfInBounds i true) a w') : St ops Q S fuel listed a w i := by
  obtain ⟨k1, k2, k3⟩ := hR.set hk hc
  have h' := h _ k1 k2 k3
  refine wpOp_step hop (fun K hK => ?_)
  rw [if_pos hw]
  refine wp_store_mid 47 x y ho g (k * 5) c.toArray hx hy (by simpa [hc] using hR.there hk) (by rw [szNd]; simp [hc]) h1 (hK _ _ ⟨h'.1, ?_⟩)
  unfold Act.put
  rw [hd]
  simpa using h'.2
theorem stStoreC (i : Nat) {o : Oper} (hop : ops[i]? = some o) (hd : o.dst = none) (hw : Region.wanted o (yielded ops a.tmps) = true) (g k j : Nat) (v : Value) (R : List (List Value)) (r : List Value) (hR : NR w g R) (hk : R[k]? = some r) (hj : j < 5)
    (hrun : (execOp a.eval o).run Try.prog w = .ok .skip (w.setCell ⟨g, k * 5 + j, none⟩ v))
    (h : ∀ w', NR w' g (R.set k (r.set j v)) → Chg w w' (· = g) → w'.heap.size = w.heap.size → S w' ∧ wpAnyH Try.prog .any ops Q S fuel (listed.setIfInBounds i true) a w') : St ops Q S fuel listed a w i := by
  obtain ⟨k1, k2, k3⟩ := hR.cell hk hj v
  have h' := h _ k1 k2 k3
  refine wpOp_step hop (fun K hK => ?_)
  rw [if_pos hw]
  unfold Oper.wp
  rw [hrun]
  refine hK _ _ ?_
  unfold Act.put
  rw [hd]
  exact h'
end
end Go.Proofs.Ytiakfgplhdbaeaa
