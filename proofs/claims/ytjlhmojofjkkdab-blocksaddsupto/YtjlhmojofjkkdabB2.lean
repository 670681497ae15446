/-
  Rows of pointers, one by one: what the program's iterators over rows hand on.
-/
import Derived.Test.YtjlhmojofjkkdabRD
namespace Go.Proofs.Ytjlhmojofjkkdab
open Go.RowKit Go.Shelf

attribute [local go_sem] Oper.semAt_some

/-- What rounds leave as it was: blocks ahead of n, and all but lists of blocks and errors. -/
def Fast (t : TypeId) : Prop := t ≠ 36 ∧ t ≠ 47 ∧ t ≠ 26
structure KpT (n : Nat) (W W' : World) : Prop where
  low : Below n W W'
  same : ∀ (k : Nat) cs t f, W.heap[k]? = some (.cells cs t f) → Fast t → W'.heap[k]? = some (.cells cs t f)
theorem KpT.refl (n : Nat) (W : World) : KpT n W W := ⟨Below.refl _ _, fun _ _ _ _ h _ => h⟩
theorem KpT.trans {n : Nat} {A B C : World} (h : KpT n A B) (k : KpT n B C) : KpT n A C := ⟨h.low.trans k.low, fun i cs t f hi ht => k.same i cs t f (h.same i cs t f hi ht) ht⟩
theorem KpT.putObj {n : Nat} {W : World} {l : Nat} {o o' : Obj} (hn : n ≤ l) (h : W.heap[l]? = some o) (hc : o.isCells = false) : KpT n W (W.putObj l o') := by
  refine ⟨(Below.refl n W).grown (grownBy_putObj' W l o') (by have := (Array.getElem?_eq_some_iff.1 h).1; omega) (fun k e => by cases e; omega), fun k cs t f hk _ => ?_⟩
  rw [World.putObj_heap_other (fun e => by subst e; rw [h] at hk; cases hk; cases hc)]
  exact hk
theorem KpT.below {n : Nat} {W W' : World} (hb : Below W.heap.size W W') (hn : n ≤ W.heap.size) : KpT n W W' := ⟨hb.mono hn, fun k cs t f hk _ => by rw [hb.block k (slt hk)]; exact hk⟩
theorem fast_f : Fast 91 ∧ Fast 88 ∧ Fast 59 ∧ Fast 24 ∧ Fast 54 ∧ Fast 39 ∧ Fast 85 ∧ Fast 80 := by
  unfold Fast; decide

structure Row where
  first : Int
  ps : List Int
  err : Int
def EncR (x : Row) (gs : Array Value) (W : World) : Prop :=
  (∃ b o c cs t, gs = #[.agg #[.int .i64 x.first, .slice (some ⟨b, o, none⟩) x.ps.length c], .int .i64 x.err] ∧ W.heap[b]? = some (.cells cs t (0, 0)) ∧ Fast t ∧ IntsIn W b o x.ps ∧ x.ps.length ≤ 1000) ∨
  (x.err ≠ 0 ∧ gs = #[.agg #[.int .i64 x.first, .slice none 0 0], .int .i64 x.err])

set_option maxRecDepth 100000 in
set_option maxHeartbeats 1000000 in
/-- A table is read, and handed on as a row. -/
theorem read_in (n l bR bY pm : Nat) (s : Src) (fi nn : Int) (W : World) (hr : Rd W pm s) (hR : W.cell? ⟨bR, 0, none⟩ = some (rdV pm)) (hY : W.heap[bY]? = some (.cells #[.func (.yield l) #[] #[]] 91 (0, 0)))
    {R : Ending → World → Prop} (hy : ∀ (gs : Array Value) (W' : World) (m : Nat), Below W.heap.size W W' → EncR ⟨fi, (tabS s nn).1, (tabS s nn).2⟩ gs W' → YieldAt WF m Try.prog l gs W' fun e W'' => (∃ b, e = .returned (.bool b)) ∧ R e W'') :
    CallsIn WF n Try.prog 28 #[.int .i64 fi, .int .i64 nn, .pointer (some ⟨bR, 0, none⟩), .pointer (some ⟨bY, 0, none⟩)] W R := by
  have hzp := zero_ptr
  have hT := table_any pm s nn W hr
  have hln := tabS_len s nn
  generalize tabS s nn = T at *
  refine callsIn_of_wp Try.func28 rfl trivial ?_ rfl
  simp only [Try.ntmps28, List.size_toArray, List.length_cons, List.length_nil, Nat.reduceAdd, Nat.reduceSub, Array.replicate_succ, Array.replicate_zero, List.push_toArray, List.append_toArray, List.nil_append, List.cons_append]
  gi_wp2_with (first
    | (refine ⟨trivial, wdep, (callsIn_wide.2 hT).mono ?_⟩; rintro e w2 ⟨rfl, hb2⟩; have HB2 := hid hb2; clear hb2)
    | (refine li_store (fun _ => trivial) rfl 59 (.tmp 7) (.tmp 13) rfl w2.heap.size (NA T.1) rfl rfl 59 (NA Zp) (heap_alloc_new _ _) (by rw [szP, NA_size, hln]) (by rw [NA_size, NA_size, Zp_len, hln]) (NA_one _) ?_; intro w3 p3))
  obtain ⟨X, hX⟩ : ∃ y, y = w3.drew := ⟨_, rfl⟩
  have hw2 := HB2.out.size
  have XY : X.heap[bY]? = some (.cells #[.func (.yield l) #[] #[]] 91 (0, 0)) := by
    have h1 := slt hY
    rw [hX]
    show w3.heap[bY]? = _
    rw [p3.other _ (by omega), Below.heap_alloc _ _ _ (by omega), HB2.out.block _ h1]
    exact hY
  have XP : X.heap[w2.heap.size]? = some (.cells (NA T.1) 59 (0, 0)) := by rw [hX]; exact p3.here
  have XB : Below W.heap.size W X := by rw [hX]; exact below_drew (p3.below (HB2.out.alloc (by omega) _) (by omega))
  refine openI (by kernel_rfl) ?_
  rw [← hX]
  clear hX p3
  refine takeI 1 16 (.int .i64 fi) rfl (by kernel_rfl) (by kernel_rfl) (by kernel_rfl) rfl (by rfl) noP (fun _ => rfl) (fun _ => by rfl) ?_
  simp only [List.setIfInBounds_toArray, List.set_cons_zero, List.set_cons_succ]
  refine takeI 2 17 (.slice (some ⟨w2.heap.size, 0, none⟩) 32 32) rfl (by kernel_rfl) (by kernel_rfl) (by kernel_rfl) rfl (by rfl) noP (fun _ => by go_simp) (fun _ => by rfl) ?_
  simp only [List.setIfInBounds_toArray, List.set_cons_zero, List.set_cons_succ]
  refine takeI 3 18 (.agg #[.int .i64 fi, .slice (some ⟨w2.heap.size, 0, none⟩) 32 32]) rfl (by kernel_rfl) (by kernel_rfl) (by kernel_rfl) rfl (by rfl) noP (fun _ => by go_simp) (fun _ => by rfl) ?_
  simp only [List.setIfInBounds_toArray, List.set_cons_zero, List.set_cons_succ]
  refine takeI 4 19 (.int .i64 T.2) rfl (by kernel_rfl) (by kernel_rfl) (by kernel_rfl) rfl (by rfl) noP (fun _ => rfl) (fun _ => by rfl) ?_
  simp only [List.setIfInBounds_toArray, List.set_cons_zero, List.set_cons_succ]
  have XC : X.cell? ⟨bY, 0, none⟩ = some (.func (.yield l) #[] #[]) := by rw [cell_of_row _ _ _ _ _ _ XY]; rfl
  refine oneI 0 15 (.func (.yield l) #[] #[]) (by kernel_rfl) rfl rfl (by intro c h; cases h) (by rfl) (by go_simp) ?_
  simp only [List.setIfInBounds_toArray, List.set_cons_zero, List.set_cons_succ]
  refine roundI 5 20 l #[.agg #[.int .i64 fi, .slice (some ⟨w2.heap.size, 0, none⟩) 32 32], .int .i64 T.2] (by kernel_rfl) rfl rfl (by intro c h; cases h) (by rfl) (by go_simp) (fun m => hy _ X m XB (.inl ⟨w2.heap.size, 0, 32, _, _, by rw [hln], XP, fast_f.2.2.1, fun j x hj => by rw [Nat.zero_add, row_cell XP j (by have := (List.getElem?_eq_some_iff.1 hj).1; exact this)]; simp [hj], by rw [hln]; decide⟩)) ?_
  rintro e w5 ⟨⟨b, rfl⟩, h5⟩
  refine ⟨_, rfl, ?_⟩
  simp only [List.setIfInBounds_toArray, List.set_cons_zero, List.set_cons_succ]
  refine takeI 6 6 (.bool b) rfl (by kernel_rfl) (by kernel_rfl) (by kernel_rfl) rfl (by rfl) noP (fun _ => rfl) (fun _ => by rfl) ?_
  simp only [List.setIfInBounds_toArray, List.set_cons_zero, List.set_cons_succ]
  refine wpAnyIn_done (by kernel_rfl) ⟨rfl, ?_⟩ _
  have H5 := hid h5
  clear h5
  gi_wp2
  exact H5.out

end Go.Proofs.Ytjlhmojofjkkdab
