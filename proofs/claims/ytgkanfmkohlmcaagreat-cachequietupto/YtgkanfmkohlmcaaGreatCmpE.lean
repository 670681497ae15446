/-
  The order in which edges are told: by Pre, then by Post; edges sorted so.
-/
import Derived.Shelf.Slices.In.SortNone
import Derived.Test.YtgkanfmkohlmcaaGreatShelf
import Derived.Test.YtgkanfmkohlmcaaGreatLists
namespace Go.Proofs.YtgkanfmkohlmcaaGreat
open Go.RowKit Go.Shelf Go.Sort Go.Lib

theorem compare_any (x y : Int) (w : World) : Calls Tryz.prog 81 #[.int .i64 x, .int .i64 y] w fun e w' => e = .returned (.int .i64 (Lib.compareInt x y)) ∧ w = w' := by
  have h := AnyG.cmp_Compare_int layCmp x y w
  change Calls Tryz.prog 81 _ _ _ at h
  exact h.mono fun e w' hh => ⟨hh.1, hh.2.symm⟩

def orI (a b : Int) : Int := if a = 0 then b else a

set_option maxRecDepth 100000 in
set_option maxHeartbeats 1000000 in
theorem or_any (a b : Int) (g : Nat) (w : World) (h : w.heap[g]? = some (.cells #[.int .i64 a, .int .i64 b] 3 (0, 0))) : Calls Tryz.prog 80 #[.slice (some ⟨g, 0, none⟩) 2 2] w fun e w' => e = .returned (.int .i64 (orI a b)) ∧ w = w' := by
  have k0 : w.cell? ⟨g, 0, none⟩ = some (.int .i64 a) := by rw [cell_of_row _ _ _ _ _ _ h]; rfl
  have k1 : w.cell? ⟨g, 1, none⟩ = some (.int .i64 b) := by rw [cell_of_row _ _ _ _ _ _ h]; rfl
  clear h
  by_cases ha : a = 0
  · have HE : Hid (orI a b = b) := by show _ = _; simp [orI, ha]
    subst ha
    by_cases hb : b = 0
    · subst hb
      go_enter Tryz.func80, Tryz.ntmps80
      go_wp2_with fail
      refine wp_loop_rounds 3 ?_
      rw [rounds_succ]
      go_wp2_with fail
      rw [rounds_succ]
      go_wp2_with fail
      rw [rounds_succ]
      go_wp2_with fail
      go_ret
      exact ⟨ret_int HE.out.symm, rfl⟩
    · go_enter Tryz.func80, Tryz.ntmps80
      go_wp2_with fail
      refine wp_loop_rounds 3 ?_
      rw [rounds_succ]
      go_wp2_with fail
      rw [rounds_succ]
      go_wp2_with fail
      go_ret
      exact ⟨ret_int HE.out.symm, rfl⟩
  · have HE : Hid (orI a b = a) := by show _ = _; simp [orI, ha]
    go_enter Tryz.func80, Tryz.ntmps80
    go_wp2_with fail
    refine wp_loop_rounds 3 ?_
    rw [rounds_succ]
    go_wp2_with fail
    go_ret
    exact ⟨ret_int HE.out.symm, rfl⟩

/-- Pre, then Post. -/
def cmpE (x y : Int × Int) : Int := orI (Lib.compareInt x.1 y.1) (Lib.compareInt x.2 y.2)

/-- What is known stays known when something new is made. -/
theorem keepS {W w : World} {x y : Int × Int} {o : Obj} (h : (w.cell? ⟨W.heap.size, 0, none⟩ = some (.int .i64 x.1) ∧ w.cell? ⟨W.heap.size, 1, none⟩ = some (.int .i64 x.2) ∧ w.cell? ⟨W.heap.size + 1, 0, none⟩ = some (.int .i64 y.1) ∧ w.cell? ⟨W.heap.size + 1, 1, none⟩ = some (.int .i64 y.2)) ∧ ∃ q os', w = grow (W.drewN q) os') :
    ((w.alloc o).cell? ⟨W.heap.size, 0, none⟩ = some (.int .i64 x.1) ∧ (w.alloc o).cell? ⟨W.heap.size, 1, none⟩ = some (.int .i64 x.2) ∧ (w.alloc o).cell? ⟨W.heap.size + 1, 0, none⟩ = some (.int .i64 y.1) ∧ (w.alloc o).cell? ⟨W.heap.size + 1, 1, none⟩ = some (.int .i64 y.2)) ∧ ∃ q os', w.alloc o = grow (W.drewN q) os' := by
  obtain ⟨⟨l1, l2, l3, l4⟩, q, os', rfl⟩ := h
  refine ⟨⟨?_, ?_, ?_, ?_⟩, q, os' ++ #[o], by rw [alloc_eq_grow, grow_grow]⟩
  · rw [World.cell?_alloc_some _ _ _ (by rw [l1]; rfl)]; exact l1
  · rw [World.cell?_alloc_some _ _ _ (by rw [l2]; rfl)]; exact l2
  · rw [World.cell?_alloc_some _ _ _ (by rw [l3]; rfl)]; exact l3
  · rw [World.cell?_alloc_some _ _ _ (by rw [l4]; rfl)]; exact l4

theorem startS (W : World) (x y : Int × Int) : ∀ w, w = ((W.alloc (.cells #[.int .i64 x.1, .int .i64 x.2] 90)).alloc (.cells #[.int .i64 y.1, .int .i64 y.2] 90)).drew →
    (w.cell? ⟨W.heap.size, 0, none⟩ = some (.int .i64 x.1) ∧ w.cell? ⟨W.heap.size, 1, none⟩ = some (.int .i64 x.2) ∧ w.cell? ⟨W.heap.size + 1, 0, none⟩ = some (.int .i64 y.1) ∧ w.cell? ⟨W.heap.size + 1, 1, none⟩ = some (.int .i64 y.2)) ∧ ∃ q os', w = grow (W.drewN q) os' := by
  rintro w rfl
  have h1 : ((W.alloc (.cells #[.int .i64 x.1, .int .i64 x.2] 90)).alloc (.cells #[.int .i64 y.1, .int .i64 y.2] 90)).drew.heap[W.heap.size]? = some (.cells #[.int .i64 x.1, .int .i64 x.2] 90 (0, 0)) := by
    show ((W.alloc _).alloc _).heap[_]? = _
    rw [heap_alloc_if, if_neg (by simp), heap_alloc_if, if_pos rfl]
  have h2 : ((W.alloc (.cells #[.int .i64 x.1, .int .i64 x.2] 90)).alloc (.cells #[.int .i64 y.1, .int .i64 y.2] 90)).drew.heap[W.heap.size + 1]? = some (.cells #[.int .i64 y.1, .int .i64 y.2] 90 (0, 0)) := by
    show ((W.alloc _).alloc _).heap[_]? = _
    rw [heap_alloc_if, if_pos (by simp)]
  refine ⟨⟨?_, ?_, ?_, ?_⟩, 1, #[.cells #[.int .i64 x.1, .int .i64 x.2] 90 (0, 0), .cells #[.int .i64 y.1, .int .i64 y.2] 90 (0, 0)], ?_⟩
  · rw [cell_of_row _ _ _ _ _ _ h1]; rfl
  · rw [cell_of_row _ _ _ _ _ _ h1]; rfl
  · rw [cell_of_row _ _ _ _ _ _ h2]; rfl
  · rw [cell_of_row _ _ _ _ _ _ h2]; rfl
  · rw [alloc_eq_grow, alloc_eq_grow, grow_grow]; rfl

set_option maxRecDepth 100000 in
set_option maxHeartbeats 2000000 in
theorem byPre_any (x y : Int × Int) (W : World) : Calls Tryz.prog 72 #[.agg #[.int .i64 x.1, .int .i64 x.2], .agg #[.int .i64 y.1, .int .i64 y.2]] W fun e w' => e = .returned (.int .i64 (cmpE x y)) ∧ ∃ q os', w' = grow (W.drewN q) os' := by
  have HC1 := fun w => compare_any x.1 y.1 w
  have HC2 := fun w => compare_any x.2 y.2 w
  have HE : Hid (cmpE x y = orI (Lib.compareInt x.1 y.1) (Lib.compareInt x.2 y.2)) := rfl
  generalize Lib.compareInt x.1 y.1 = c1 at *
  generalize Lib.compareInt x.2 y.2 = c2 at *
  have HO := fun g w h => or_any c1 c2 g w h
  go_enter Tryz.func72, Tryz.ntmps72
  go_wp2_with fail
  refine wp_region_noPanic ?_
  refine wp_region_held_drew (S := fun w' => (w'.cell? ⟨W.heap.size, 0, none⟩ = some (.int .i64 x.1) ∧ w'.cell? ⟨W.heap.size, 1, none⟩ = some (.int .i64 x.2) ∧ w'.cell? ⟨W.heap.size + 1, 0, none⟩ = some (.int .i64 y.1) ∧ w'.cell? ⟨W.heap.size + 1, 1, none⟩ = some (.int .i64 y.2)) ∧ ∃ q os', w' = grow (W.drewN q) os') (by kernel_rfl) (startS W x y _ rfl) (fun hHeld => ?_)
  generalize ((W.alloc (.cells #[.int .i64 x.1, .int .i64 x.2] 90)).alloc (.cells #[.int .i64 y.1, .int .i64 y.2] 90)).drew = w2 at hHeld ⊢
  refine takeVal 0 5 (.pointer (some ⟨W.heap.size, 0, none⟩)) rfl (by kernel_rfl) (by kernel_rfl) (by kernel_rfl) rfl (by rfl) (fun _ _ _ h => h) hHeld (fun _ hw' => by go_simp) ?_
  simp only [List.setIfInBounds_toArray, List.set_cons_zero, List.set_cons_succ]
  refine takeVal 1 6 (.int .i64 x.1) rfl (by kernel_rfl) (by kernel_rfl) (by kernel_rfl) rfl (by rfl) (fun _ _ _ h => h) hHeld (fun _ hw' => by obtain ⟨⟨l1, l2, l3, l4⟩, _⟩ := hw'; go_simp) ?_
  simp only [List.setIfInBounds_toArray, List.set_cons_zero, List.set_cons_succ]
  refine takeVal 2 7 (.pointer (some ⟨W.heap.size + 1, 0, none⟩)) rfl (by kernel_rfl) (by kernel_rfl) (by kernel_rfl) rfl (by rfl) (fun _ _ _ h => h) hHeld (fun _ hw' => by go_simp) ?_
  simp only [List.setIfInBounds_toArray, List.set_cons_zero, List.set_cons_succ]
  refine takeVal 3 8 (.int .i64 y.1) rfl (by kernel_rfl) (by kernel_rfl) (by kernel_rfl) rfl (by rfl) (fun _ _ _ h => h) hHeld (fun _ hw' => by obtain ⟨⟨l1, l2, l3, l4⟩, _⟩ := hw'; go_simp) ?_
  simp only [List.setIfInBounds_toArray, List.set_cons_zero, List.set_cons_succ]
  refine takeVal 5 10 (.pointer (some ⟨W.heap.size, 1, none⟩)) rfl (by kernel_rfl) (by kernel_rfl) (by kernel_rfl) rfl (by rfl) (fun _ _ _ h => h) hHeld (fun _ hw' => by go_simp) ?_
  simp only [List.setIfInBounds_toArray, List.set_cons_zero, List.set_cons_succ]
  refine takeVal 6 11 (.int .i64 x.2) rfl (by kernel_rfl) (by kernel_rfl) (by kernel_rfl) rfl (by rfl) (fun _ _ _ h => h) hHeld (fun _ hw' => by obtain ⟨⟨l1, l2, l3, l4⟩, _⟩ := hw'; go_simp) ?_
  simp only [List.setIfInBounds_toArray, List.set_cons_zero, List.set_cons_succ]
  refine takeVal 7 12 (.pointer (some ⟨W.heap.size + 1, 1, none⟩)) rfl (by kernel_rfl) (by kernel_rfl) (by kernel_rfl) rfl (by rfl) (fun _ _ _ h => h) hHeld (fun _ hw' => by go_simp) ?_
  simp only [List.setIfInBounds_toArray, List.set_cons_zero, List.set_cons_succ]
  refine takeVal 8 13 (.int .i64 y.2) rfl (by kernel_rfl) (by kernel_rfl) (by kernel_rfl) rfl (by rfl) (fun _ _ _ h => h) hHeld (fun _ hw' => by obtain ⟨⟨l1, l2, l3, l4⟩, _⟩ := hw'; go_simp) ?_
  simp only [List.setIfInBounds_toArray, List.set_cons_zero, List.set_cons_succ]
  refine step1 4 (by kernel_rfl) ?_
  refine stCall 4 9 81 #[.int .i64 x.1, .int .i64 y.1] _ rfl rfl (by rfl) (by go_simp) (HC1 _) ?_
  rintro e w1 ⟨rfl, rfl⟩
  refine ⟨_, rfl, hHeld, ?_⟩
  simp only [List.setIfInBounds_toArray, List.set_cons_zero, List.set_cons_succ]
  refine step1 9 (by kernel_rfl) ?_
  refine stCall 9 14 81 #[.int .i64 x.2, .int .i64 y.2] _ rfl rfl (by rfl) (by go_simp) (HC2 _) ?_
  rintro e w1 ⟨rfl, rfl⟩
  refine ⟨_, rfl, hHeld, ?_⟩
  simp only [List.setIfInBounds_toArray, List.set_cons_zero, List.set_cons_succ]
  refine step1 10 (by kernel_rfl) ?_
  refine stNew 10 15 (.slice (some ⟨w2.heap.size, 0, none⟩) 2 2) (.cells #[.int .i64 c1, .int .i64 c2] 3) rfl rfl (by rfl) (by go_simp) ?_
  have hS3 := keepS (o := .cells #[.int .i64 c1, .int .i64 c2] 3) hHeld
  refine ⟨hS3, ?_⟩
  simp only [List.setIfInBounds_toArray, List.set_cons_zero, List.set_cons_succ]
  refine step1 11 (by kernel_rfl) ?_
  refine stCall 11 16 80 #[.slice (some ⟨w2.heap.size, 0, none⟩) 2 2] _ rfl rfl (by rfl) (by go_simp) (HO w2.heap.size _ (heap_alloc_new _ _)) ?_
  rintro e w3 ⟨rfl, rfl⟩
  refine ⟨_, rfl, hS3, ?_⟩
  simp only [List.setIfInBounds_toArray, List.set_cons_zero, List.set_cons_succ]
  refine step1 12 (by kernel_rfl) ?_
  refine stVal 12 4 (.int .i64 (orI c1 c2)) rfl rfl (by rfl) (by go_simp) hS3 ?_
  simp only [List.setIfInBounds_toArray, List.set_cons_zero, List.set_cons_succ]
  refine wpAnyH_done (by kernel_rfl) ?_ _
  refine NoPanic.normal ?_
  go_wp2_with fail
  go_ret
  exact ⟨ret_int HE.out.symm, hS3.2⟩

end Go.Proofs.YtgkanfmkohlmcaaGreat
