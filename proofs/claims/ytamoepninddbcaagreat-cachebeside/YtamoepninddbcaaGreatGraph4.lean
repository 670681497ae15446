/-
  Before: all that must land ahead of a sector, rising.
-/
import Derived.Shelf.Slices.In.SortNone
import Derived.Test.YtamoepninddbcaaGreatShelf
import Derived.Test.YtamoepninddbcaaGreatLists
import Derived.Test.YtamoepninddbcaaGreatGraph3
namespace Go.Proofs.YtamoepninddbcaaGreat
open Go.RowKit Go.Shelf Go.Sort Go.Lib

theorem compare_any (x y : Int) (w : World) : Calls Tryz.prog 114 #[.int .i64 x, .int .i64 y] w fun e w' => e = .returned (.int .i64 (Lib.compareInt x y)) ∧ w = w' := by
  have h := AnyG.cmp_Compare_int layCmp x y w
  change Calls Tryz.prog 114 _ _ _ at h
  exact h.mono fun e w' hh => ⟨hh.1, hh.2.symm⟩

def orI (a b : Int) : Int := if a = 0 then b else a

set_option maxRecDepth 100000 in
set_option maxHeartbeats 1000000 in
theorem or_any (a b : Int) (g : Nat) (w : World) (h : w.heap[g]? = some (.cells #[.int .i64 a, .int .i64 b] 3 (0, 0))) : Calls Tryz.prog 113 #[.slice (some ⟨g, 0, none⟩) 2 2] w fun e w' => e = .returned (.int .i64 (orI a b)) ∧ w = w' := by
  have k0 : w.cell? ⟨g, 0, none⟩ = some (.int .i64 a) := by rw [cell_of_row _ _ _ _ _ _ h]; rfl
  have k1 : w.cell? ⟨g, 1, none⟩ = some (.int .i64 b) := by rw [cell_of_row _ _ _ _ _ _ h]; rfl
  clear h
  by_cases ha : a = 0
  · have HE : Hid (orI a b = b) := by show _ = _; simp [orI, ha]
    subst ha
    by_cases hb : b = 0
    · subst hb
      go_enter Tryz.func113, Tryz.ntmps113
      go_wp2_with fail
      refine wp_loop_rounds 3 ?_
      rw [rounds_succ]
      go_wp2_with fail
      rw [rounds_succ]
      go_wp2_with fail
      rw [rounds_succ]
      go_wp2_with fail
      go_ret
      exact ⟨ret_int HE.out.symm, rfl⟩
    · go_enter Tryz.func113, Tryz.ntmps113
      go_wp2_with fail
      refine wp_loop_rounds 3 ?_
      rw [rounds_succ]
      go_wp2_with fail
      rw [rounds_succ]
      go_wp2_with fail
      go_ret
      exact ⟨ret_int HE.out.symm, rfl⟩
  · have HE : Hid (orI a b = a) := by show _ = _; simp [orI, ha]
    go_enter Tryz.func113, Tryz.ntmps113
    go_wp2_with fail
    refine wp_loop_rounds 3 ?_
    rw [rounds_succ]
    go_wp2_with fail
    go_ret
    exact ⟨ret_int HE.out.symm, rfl⟩

/-- Pre, then Post. -/
def cmpE (x y : Int × Int) : Int := orI (Lib.compareInt x.1 y.1) (Lib.compareInt x.2 y.2)

/-- What is known stays known when something new is made. -/
theorem keepS {W w : World} {x y : Int × Int} {o : Obj} (h : (w.cell? ⟨W.heap.size, 0, none⟩ = some (.int .i64 x.1) ∧ w.cell? ⟨W.heap.size, 1, none⟩ = some (.int .i64 x.2) ∧ w.cell? ⟨W.heap.size + 1, 0, none⟩ = some (.int .i64 y.1) ∧ w.cell? ⟨W.heap.size + 1, 1, none⟩ = some (.int .i64 y.2)) ∧ ∃ q os', w = grow (W.drewN q) os') :
    ((w.alloc o).cell? ⟨W.heap.size, 0, none⟩ = some (.int .i64 x.1) ∧ (w.alloc o).cell? ⟨W.heap.size, 1, none⟩ = some (.int .i64 x.2) ∧ (w.alloc o).cell? ⟨W.heap.size + 1, 0, none⟩ = some (.int .i64 y.1) ∧ (w.alloc o).cell? ⟨W.heap.size + 1, 1, none⟩ = some (.int .i64 y.2)) ∧ ∃ q os', w.alloc o = grow (W.drewN q) os' := by
  obtain ⟨⟨l1, l2, l3, l4⟩, q, os', rfl⟩ := h
  refine ⟨⟨?_, ?_, ?_, ?_⟩, q, os' ++ #[o], by rw [alloc_eq_grow, grow_grow]⟩
  · rw [World.cell?_alloc_some _ _ _ (by rw [l1]; rfl)]; exact l1
  · rw [World.cell?_alloc_some _ _ _ (by rw [l2]; rfl)]; exact l2
  · rw [World.cell?_alloc_some _ _ _ (by rw [l3]; rfl)]; exact l3
  · rw [World.cell?_alloc_some _ _ _ (by rw [l4]; rfl)]; exact l4

theorem startS (W : World) (x y : Int × Int) : ∀ w, w = ((W.alloc (.cells #[.int .i64 x.1, .int .i64 x.2] 73)).alloc (.cells #[.int .i64 y.1, .int .i64 y.2] 73)).drew →
    (w.cell? ⟨W.heap.size, 0, none⟩ = some (.int .i64 x.1) ∧ w.cell? ⟨W.heap.size, 1, none⟩ = some (.int .i64 x.2) ∧ w.cell? ⟨W.heap.size + 1, 0, none⟩ = some (.int .i64 y.1) ∧ w.cell? ⟨W.heap.size + 1, 1, none⟩ = some (.int .i64 y.2)) ∧ ∃ q os', w = grow (W.drewN q) os' := by
  rintro w rfl
  have h1 : ((W.alloc (.cells #[.int .i64 x.1, .int .i64 x.2] 73)).alloc (.cells #[.int .i64 y.1, .int .i64 y.2] 73)).drew.heap[W.heap.size]? = some (.cells #[.int .i64 x.1, .int .i64 x.2] 73 (0, 0)) := by
    show ((W.alloc _).alloc _).heap[_]? = _
    rw [heap_alloc_if, if_neg (by simp), heap_alloc_if, if_pos rfl]
  have h2 : ((W.alloc (.cells #[.int .i64 x.1, .int .i64 x.2] 73)).alloc (.cells #[.int .i64 y.1, .int .i64 y.2] 73)).drew.heap[W.heap.size + 1]? = some (.cells #[.int .i64 y.1, .int .i64 y.2] 73 (0, 0)) := by
    show ((W.alloc _).alloc _).heap[_]? = _
    rw [heap_alloc_if, if_pos (by simp)]
  refine ⟨⟨?_, ?_, ?_, ?_⟩, 1, #[.cells #[.int .i64 x.1, .int .i64 x.2] 73 (0, 0), .cells #[.int .i64 y.1, .int .i64 y.2] 73 (0, 0)], ?_⟩
  · rw [cell_of_row _ _ _ _ _ _ h1]; rfl
  · rw [cell_of_row _ _ _ _ _ _ h1]; rfl
  · rw [cell_of_row _ _ _ _ _ _ h2]; rfl
  · rw [cell_of_row _ _ _ _ _ _ h2]; rfl
  · rw [alloc_eq_grow, alloc_eq_grow, grow_grow]; rfl

set_option maxRecDepth 100000 in
set_option maxHeartbeats 2000000 in
theorem byPre_any (x y : Int × Int) (W : World) : Calls Tryz.prog 100 #[.agg #[.int .i64 x.1, .int .i64 x.2], .agg #[.int .i64 y.1, .int .i64 y.2]] W fun e w' => e = .returned (.int .i64 (cmpE x y)) ∧ ∃ q os', w' = grow (W.drewN q) os' := by
  have HC1 := fun w => compare_any x.1 y.1 w
  have HC2 := fun w => compare_any x.2 y.2 w
  have HE : Hid (cmpE x y = orI (Lib.compareInt x.1 y.1) (Lib.compareInt x.2 y.2)) := rfl
  generalize Lib.compareInt x.1 y.1 = c1 at *
  generalize Lib.compareInt x.2 y.2 = c2 at *
  have HO := fun g w h => or_any c1 c2 g w h
  go_enter Tryz.func100, Tryz.ntmps100
  go_wp2_with fail
  refine wp_region_noPanic ?_
  refine wp_region_held_drew (S := fun w' => (w'.cell? ⟨W.heap.size, 0, none⟩ = some (.int .i64 x.1) ∧ w'.cell? ⟨W.heap.size, 1, none⟩ = some (.int .i64 x.2) ∧ w'.cell? ⟨W.heap.size + 1, 0, none⟩ = some (.int .i64 y.1) ∧ w'.cell? ⟨W.heap.size + 1, 1, none⟩ = some (.int .i64 y.2)) ∧ ∃ q os', w' = grow (W.drewN q) os') (by kernel_rfl) (startS W x y _ rfl) (fun hHeld => ?_)
  generalize ((W.alloc (.cells #[.int .i64 x.1, .int .i64 x.2] 73)).alloc (.cells #[.int .i64 y.1, .int .i64 y.2] 73)).drew = w2 at hHeld ⊢
  refine takeVal 0 5 (.pointer (some ⟨W.heap.size, 0, none⟩)) rfl (by kernel_rfl) (by kernel_rfl) (by kernel_rfl) rfl (by rfl) (fun _ _ _ h => h) hHeld (fun _ hw' => by go_simp) ?_
  simp only [List.setIfInBounds_toArray, List.set_cons_zero, List.set_cons_succ]
  refine takeVal 1 6 (.int .i64 x.1) rfl (by kernel_rfl) (by kernel_rfl) (by kernel_rfl) rfl (by rfl) (fun _ _ _ h => h) hHeld (fun _ hw' => by obtain ⟨⟨l1, l2, l3, l4⟩, _⟩ := hw'; go_simp) ?_
  simp only [List.setIfInBounds_toArray, List.set_cons_zero, List.set_cons_succ]
  refine takeVal 2 7 (.pointer (some ⟨W.heap.size + 1, 0, none⟩)) rfl (by kernel_rfl) (by kernel_rfl) (by kernel_rfl) rfl (by rfl) (fun _ _ _ h => h) hHeld (fun _ hw' => by go_simp) ?_
  simp only [List.setIfInBounds_toArray, List.set_cons_zero, List.set_cons_succ]
  refine takeVal 3 8 (.int .i64 y.1) rfl (by kernel_rfl) (by kernel_rfl) (by kernel_rfl) rfl (by rfl) (fun _ _ _ h => h) hHeld (fun _ hw' => by obtain ⟨⟨l1, l2, l3, l4⟩, _⟩ := hw'; go_simp) ?_
  simp only [List.setIfInBounds_toArray, List.set_cons_zero, List.set_cons_succ]
  refine takeVal 5 10 (.pointer (some ⟨W.heap.size, 1, none⟩)) rfl (by kernel_rfl) (by kernel_rfl) (by kernel_rfl) rfl (by rfl) (fun _ _ _ h => h) hHeld (fun _ hw' => by go_simp) ?_
  simp only [List.setIfInBounds_toArray, List.set_cons_zero, List.set_cons_succ]
  refine takeVal 6 11 (.int .i64 x.2) rfl (by kernel_rfl) (by kernel_rfl) (by kernel_rfl) rfl (by rfl) (fun _ _ _ h => h) hHeld (fun _ hw' => by obtain ⟨⟨l1, l2, l3, l4⟩, _⟩ := hw'; go_simp) ?_
  simp only [List.setIfInBounds_toArray, List.set_cons_zero, List.set_cons_succ]
  refine takeVal 7 12 (.pointer (some ⟨W.heap.size + 1, 1, none⟩)) rfl (by kernel_rfl) (by kernel_rfl) (by kernel_rfl) rfl (by rfl) (fun _ _ _ h => h) hHeld (fun _ hw' => by go_simp) ?_
  simp only [List.setIfInBounds_toArray, List.set_cons_zero, List.set_cons_succ]
  refine takeVal 8 13 (.int .i64 y.2) rfl (by kernel_rfl) (by kernel_rfl) (by kernel_rfl) rfl (by rfl) (fun _ _ _ h => h) hHeld (fun _ hw' => by obtain ⟨⟨l1, l2, l3, l4⟩, _⟩ := hw'; go_simp) ?_
  simp only [List.setIfInBounds_toArray, List.set_cons_zero, List.set_cons_succ]
  refine step1 4 (by kernel_rfl) ?_
  refine stCall 4 9 114 #[.int .i64 x.1, .int .i64 y.1] _ rfl rfl (by rfl) (by go_simp) (HC1 _) ?_
  rintro e w1 ⟨rfl, rfl⟩
  refine ⟨_, rfl, hHeld, ?_⟩
  simp only [List.setIfInBounds_toArray, List.set_cons_zero, List.set_cons_succ]
  refine step1 9 (by kernel_rfl) ?_
  refine stCall 9 14 114 #[.int .i64 x.2, .int .i64 y.2] _ rfl rfl (by rfl) (by go_simp) (HC2 _) ?_
  rintro e w1 ⟨rfl, rfl⟩
  refine ⟨_, rfl, hHeld, ?_⟩
  simp only [List.setIfInBounds_toArray, List.set_cons_zero, List.set_cons_succ]
  refine step1 10 (by kernel_rfl) ?_
  refine stNew 10 15 (.slice (some ⟨w2.heap.size, 0, none⟩) 2 2) (.cells #[.int .i64 c1, .int .i64 c2] 3) rfl rfl (by rfl) (by go_simp) ?_
  have hS3 := keepS (o := .cells #[.int .i64 c1, .int .i64 c2] 3) hHeld
  refine ⟨hS3, ?_⟩
  simp only [List.setIfInBounds_toArray, List.set_cons_zero, List.set_cons_succ]
  refine step1 11 (by kernel_rfl) ?_
  refine stCall 11 16 113 #[.slice (some ⟨w2.heap.size, 0, none⟩) 2 2] _ rfl rfl (by rfl) (by go_simp) (HO w2.heap.size _ (heap_alloc_new _ _)) ?_
  rintro e w3 ⟨rfl, rfl⟩
  refine ⟨_, rfl, hS3, ?_⟩
  simp only [List.setIfInBounds_toArray, List.set_cons_zero, List.set_cons_succ]
  refine step1 12 (by kernel_rfl) ?_
  refine stVal 12 4 (.int .i64 (orI c1 c2)) rfl rfl (by rfl) (by go_simp) hS3 ?_
  simp only [List.setIfInBounds_toArray, List.set_cons_zero, List.set_cons_succ]
  refine wpAnyH_done (by kernel_rfl) ?_ _
  refine NoPanic.normal ?_
  go_wp2_with fail
  go_ret
  exact ⟨ret_int HE.out.symm, hS3.2⟩

end Go.Proofs.YtamoepninddbcaaGreat

namespace Go.Proofs.YtamoepninddbcaaGreat
open Go.RowKit Go.Shelf Go.Sort Go.Lib

section
variable {α : Type} [Inhabited α] {enc : α → Value} {w : World} {g q : Nat} {os : Array Obj}
theorem sorted_heap {cur : Array Value} {e : TypeId} {fr : Nat × Nat} (d : Array α) (hb : w.heap[g]? = some (.cells cur e fr)) :
    (grow (putRow enc (Sort.ahead w q) g 0 d) os).heap[g]? = some (.cells (putCells enc 0 d cur) e fr) := by
  have hg := slt hb
  rw [heap_grow_old _ _ (by simpa [putRow, mapBlock, Sort.ahead] using hg)]
  simp [putRow, mapBlock, Sort.ahead, Array.getElem?_modify, hb, onCells]
theorem sorted_chg (d : Array α) : Chg w (grow (putRow enc (Sort.ahead w q) g 0 d) os) (· = g) := by
  refine ⟨rfl, rfl, rfl, by simp [grow, putRow, mapBlock, Sort.ahead], fun k hk hne => ?_⟩
  rw [heap_grow_old _ _ (by simpa [putRow, mapBlock, Sort.ahead] using hk)]
  have : g ≠ k := fun e => hne e.symm
  simp [putRow, mapBlock, Sort.ahead, Array.getElem?_modify, this]
theorem sorted_take (cur : Array Value) (ts : List α) (h : ts.length ≤ cur.size) : (putCells enc 0 ts.toArray cur).toList.take ts.length = ts.map enc := by
  apply List.ext_getElem?
  intro j
  by_cases hj : j < ts.length
  · rw [List.getElem?_take_of_lt hj, Array.getElem?_toList]
    simp [putCells, hj, show j < cur.size by omega]
  · rw [List.getElem?_take_eq_none (by omega), List.getElem?_eq_none (by simp; omega)]
theorem sorted_row {base cap n k : Nat} {e : TypeId} {cur : Array Value} (ts : List α) (hl : ts.length = n * k) (hbase : base ≤ g) (hb : w.heap[g]? = some (.cells cur e (0, 0))) (h1 : n ≤ cap) (h2 : cap ≤ maxLen) (h3 : cur.size = cap * k) :
    (grow (putRow enc (Sort.ahead w q) g 0 ts.toArray) os).ownsRow base e k (.slice (some ⟨g, 0, none⟩) n cap) n (ts.map enc) := by
  refine ⟨by simp [hl], .inr ⟨g, cap, _, rfl, hbase, sorted_heap _ hb, h1, h2, by simp [putCells, h3], ?_⟩⟩
  rw [← hl]
  exact sorted_take cur ts (by rw [hl, h3]; exact Nat.mul_le_mul_right k h1)
theorem row_holds {cur : Array Value} {e : TypeId} {ss : List α} (hb : w.heap[g]? = some (.cells cur e (0, 0))) (ht : cur.toList.take ss.length = ss.map enc) : Holds enc w g 0 ss.toArray := by
  intro j hj
  have hj' : j < ss.length := by simpa using hj
  refine ⟨?_, frozen_of_row w g _ cur e hb⟩
  have h1 : (cur.toList.take ss.length)[j]? = (ss.map enc)[j]? := by rw [ht]
  rw [List.getElem?_take_of_lt hj'] at h1
  rw [cell_of_row _ _ _ _ _ _ hb, Nat.zero_add, ← Array.getElem?_toList, h1]
  simp [hj']
end

def sortI (l : List Int) : List Int := l.mergeSort fun x y => decide (x ≤ y)
theorem sortI_len (l : List Int) : (sortI l).length = l.length := by simp [sortI]

theorem sort_ints (w : World) (base : Nat) (v : Value) (l : List Int) (h : Ints w base v l) (hl : l.length ≤ 17592186044000) : Calls Tryz.prog 93 #[v] w fun e w' =>
    e = .returned (.tuple #[]) ∧ Ints w' base v (sortI l) ∧ Chg w w' (fun k => v.ownBlock = some k) := by
  rcases h.2 with ⟨rfl, h0⟩ | ⟨g, cap, cur, rfl, hge, hb, h1, h2, h3, h4⟩
  · have hn := Any.slices_Sort_int_none laySort none 0 w
    change Calls Tryz.prog 93 _ _ _ at hn
    refine hn.mono ?_
    rintro e w' ⟨rfl, rfl⟩
    have : l = [] := List.eq_nil_of_length_eq_zero h0
    subst this
    exact ⟨rfl, by rw [show sortI [] = [] by simp [sortI]]; exact h, Chg.refl _ _⟩
  · have hH : Holds (Value.int .i64) w g 0 l.toArray := row_holds hb (by rw [← h4, Nat.mul_one])
    have hc := Any.slices_Sort_int laySort g 0 cap l w hH (slt hb) (by omega)
    change Calls Tryz.prog 93 _ _ _ at hc
    refine hc.mono ?_
    rintro e w' ⟨rfl, q, os, rfl⟩
    refine ⟨rfl, ?_, (sorted_chg _).mono fun j _ e => by rw [e]; rfl⟩
    unfold Ints
    rw [sortI_len]
    exact sorted_row (sortI l) (by rw [sortI_len, Nat.mul_one]) hge hb h1 h2 h3

theorem cmpE_lt (x y : Int × Int) : ltOf cmpE x y = decide (x.1 < y.1 ∨ (x.1 = y.1 ∧ x.2 < y.2)) := by
  unfold ltOf cmpE orI Lib.compareInt
  by_cases h1 : x.1 < y.1
  · simp [h1]
  · by_cases h2 : x.1 > y.1
    · have h3 : ¬ x.1 = y.1 := by omega
      simp [h1, h2, h3]
    · have h3 : x.1 = y.1 := by omega
      by_cases h4 : x.2 < y.2
      · simp [h3, h4]
      · by_cases h5 : x.2 > y.2
        · simp [h3, h4, h5]
        · simp [h3, h4, h5]
theorem swoE : SWO (ltOf cmpE) where
  irrefl x := by rw [cmpE_lt]; simp
  trans x y z h1 h2 := by
    rw [cmpE_lt] at *
    simp only [decide_eq_true_eq] at *
    omega
  ntrans x y z h1 h2 := by
    rw [cmpE_lt] at *
    simp only [decide_eq_false_iff_not] at *
    omega
theorem flat_eq (l : List (Int × Int)) : flatK encE 2 l.toArray = (cellsE l).toArray := by
  refine ext_get! (by simp [cellsE_len]) fun t ht => ?_
  have ht' : t < l.length * 2 := by simpa using ht
  rw [get_flatK _ _ _ t (by simpa using ht')]
  have hd : t / 2 < l.length := by omega
  have hg := cellsE_get l (t / 2)
  rw [List.getElem?_eq_getElem hd] at hg
  have e1 : (l.toArray)[t / 2]! = l[t / 2] := by simp [hd]
  rw [e1]
  rcases Nat.mod_two_eq_zero_or_one t with hm | hm
  · rw [hm]
    have e2 : (cellsE l)[t]? = some (.int .i64 (l[t / 2]).1) := by
      have := hg.1
      rw [show 2 * (t / 2) = t by omega] at this
      exact this
    rw [show (cellsE l).toArray[t]! = .int .i64 (l[t / 2]).1 by simp [Array.getElem!_eq_getD, Array.getD_eq_getD_getElem?, e2]]
    rfl
  · rw [hm]
    have e2 : (cellsE l)[t]? = some (.int .i64 (l[t / 2]).2) := by
      have := hg.2
      rw [show 2 * (t / 2) + 1 = t by omega] at this
      exact this
    rw [show (cellsE l).toArray[t]! = .int .i64 (l[t / 2]).2 by simp [Array.getElem!_eq_getD, Array.getD_eq_getD_getElem?, e2]]
    rfl

def sortE (l : List (Int × Int)) : List (Int × Int) := l.mergeSort fun x y => !(ltOf cmpE) y x
theorem sortE_len (l : List (Int × Int)) : (sortE l).length = l.length := by simp [sortE]

theorem sort_edges (w : World) (base : Nat) (v : Value) (l : List (Int × Int)) (h : Edgs w base v l) (hl : l.length ≤ 1000000000000) : Calls Tryz.prog 99 #[v, .func (.func 100) #[] #[]] w fun e w' =>
    e = .returned (.tuple #[]) ∧ Edgs w' base v (sortE l) ∧ Chg w w' (fun k => v.ownBlock = some k) := by
  rcases h.2 with ⟨rfl, h0⟩ | ⟨g, cap, cur, rfl, hge, hb, h1, h2, h3, h4⟩
  · have hn := AnyF.slices_SortFunc_none laySortF none 0 (.func (.func 100) #[] #[]) w
    change Calls Tryz.prog 99 _ _ _ at hn
    refine hn.mono ?_
    rintro e w' ⟨rfl, rfl⟩
    have : l = [] := List.eq_nil_of_length_eq_zero h0
    subst this
    exact ⟨rfl, by rw [show sortE [] = [] by simp [sortE]]; exact h, Chg.refl _ _⟩
  · have hH : HoldsK encE 2 w g 0 l.toArray := by
      unfold HoldsK
      rw [flat_eq]
      exact row_holds (enc := id) hb (by rw [cellsE_len, h4]; simp)
    have eg : ∀ args w, (callFunc 100 args).run Tryz.prog w = .ok (.enter 100 args) w := enters_of Tryz.func100 (by kernel_rfl) rfl
    have hc := AnyQ.slices_SortFunc_total laySortF 2 Tryz.isAgg73 Tryz.sizeOf73 encE (fun _ => rfl) (fun x v hv => by simp [encE] at hv; rcases hv with rfl | rfl <;> rfl) cmpE swoE 100 #[] g 0 cap l.toArray w eg
      (fun _ _ _ _ x y => byPre_any x y _) hH (slt hb) (by simp; omega) (fun x y k1 k2 => by
        rw [cmpE_lt, decide_eq_false_iff_not] at k1 k2
        exact Prod.ext (by omega) (by omega))
    change Calls Tryz.prog 99 _ _ _ at hc
    rw [show l.toArray.size = l.length by simp] at hc
    refine hc.mono ?_
    rintro e w' ⟨rfl, q, os, rfl⟩
    have e2 : (l.toArray.toList.mergeSort fun x y => !(ltOf cmpE) y x) = sortE l := rfl
    rw [e2]
    unfold sortWorldK putRowK
    rw [flat_eq]
    refine ⟨rfl, ?_, (sorted_chg _).mono fun j _ e => by rw [e]; rfl⟩
    unfold Edgs
    rw [sortE_len]
    have := sorted_row (w := w) (g := g) (q := q) (os := os) (enc := id) (k := 2) (cellsE (sortE l)) (by rw [cellsE_len, sortE_len]) hge hb h1 h2 h3
    rw [List.map_id] at this
    exact this

/-- Rising, each once. -/
theorem sortI_up (l : List Int) (h : l.Pairwise (· ≠ ·)) : (sortI l).Pairwise (· < ·) := by
  have h1 : (sortI l).Pairwise (fun x y => decide (x ≤ y) = true) := List.pairwise_mergeSort (fun a b c h1 h2 => by simp at *; omega) (fun a b => by simp; omega) l
  have h2 : (sortI l).Pairwise (· ≠ ·) := ((List.mergeSort_perm l _).pairwise_iff (fun {_ _} hne => Ne.symm hne)).2 h
  exact (h1.and h2).imp fun {a b} hh => by
    obtain ⟨k1, k2⟩ := hh
    simp at k1
    omega
theorem sortI_mem (l : List Int) (x : Int) : x ∈ sortI l ↔ x ∈ l := (List.mergeSort_perm l _).mem_iff
/-- By Pre, then by Post. -/
def ltE (x y : Int × Int) : Prop := x.1 < y.1 ∨ (x.1 = y.1 ∧ x.2 < y.2)
theorem sortE_up (l : List (Int × Int)) (h : l.Pairwise (· ≠ ·)) : (sortE l).Pairwise ltE := by
  have h1 : (sortE l).Pairwise (fun x y => (!(ltOf cmpE) y x) = true) := List.pairwise_mergeSort (fun a b c h1 h2 => by
      simp only [cmpE_lt, Bool.not_eq_true', decide_eq_false_iff_not] at *
      omega) (fun a b => by
      simp only [cmpE_lt, Bool.or_eq_true, Bool.not_eq_true', decide_eq_false_iff_not]
      omega) l
  have h2 : (sortE l).Pairwise (· ≠ ·) := ((List.mergeSort_perm l _).pairwise_iff (fun {_ _} hne => Ne.symm hne)).2 h
  exact (h1.and h2).imp fun {a b} hh => by
    obtain ⟨k1, k2⟩ := hh
    simp only [cmpE_lt, Bool.not_eq_true', decide_eq_false_iff_not] at k1
    have k3 : ¬ (a.1 = b.1 ∧ a.2 = b.2) := fun e => k2 (Prod.ext e.1 e.2)
    unfold ltE
    omega
theorem sortE_mem (l : List (Int × Int)) (x : Int × Int) : x ∈ sortE l ↔ x ∈ l := (List.mergeSort_perm l _).mem_iff

end Go.Proofs.YtamoepninddbcaaGreat

namespace Go.Proofs.YtamoepninddbcaaGreat
open Go.RowKit

variable {w : World} {E : Int → Int → Prop} {p : Nat} {own : Nat → Prop}

/-- All but n that reach n, rising, each once. -/
def BList (E : Int → Int → Prop) (n : Int) (l : List Int) : Prop := l.Pairwise (· < ·) ∧ ∀ x, x ∈ l ↔ x ≠ n ∧ Reach E x n
/-- All edges, by rising Pre, then Post, each once. -/
def EList (E : Int → Int → Prop) (l : List (Int × Int)) : Prop := l.Pairwise ltE ∧ ∀ x, x ∈ l ↔ E x.1 x.2

set_option maxRecDepth 100000 in
set_option maxHeartbeats 2000000 in
theorem before_any (n : Int) (h : IsG w p own E) (hI : I64 n) : Calls Tryz.prog 102 #[.pointer (some ⟨p, 0, none⟩), .int .i64 n] w fun e w' =>
    ∃ v l, e = .returned v ∧ Ints w' w.heap.size v l ∧ BList E n l ∧ Chg w w' No := by
  have hsec := h.sec
  obtain ⟨bp, bq, f, g, h, _⟩ := h
  have k1 := h.c1
  have HC := from_any n h.pr (fun a b e => (h.sec b a e).symm) hI
  clear h
  generalize hS : Reach (rev E) n = S at HC
  go_enter Tryz.func102, Tryz.ntmps102
  go_wp2_with (first
    | (go_at_call 108; go_must (refine HC.mono ?_; rintro e w1 ⟨bs, rfl, hbs, hS1, hc1⟩))
    | (at_range; go_must (refine wp_rangeS rfl _ rfl (some bs) S rfl (fun d e => by cases e; exact hS1) (fun e => by cases e) ?_; intro w2 cnt0 hr0 hc0 hz0))
    | go_in)
  go_frame
  have hlt1 := hS1.lt
  have hsz1 := hc1.size
  have HZ := hid hz0
  clear hz0
  generalize hrr : w1.heap.size = r at *
  go_loopw [5] (fun v wr => ∃ (left : Int → Prop) (cnt : Nat) (l : List Int) (wq : World), wq = wr ∧ RangeS wq (some bs) r S left cnt ∧ Ints wq (r + 1) v l ∧ Chg w wq No ∧ l.Pairwise (· ≠ ·) ∧ ∀ x, x ∈ l ↔ S x ∧ ¬ left x ∧ x ≠ n) (fun _ wr => leftN wr (some bs) r)
  case atStart =>
    refine ⟨S, cnt0, [], _, rfl, hr0, World.ownsRow_nil _ _ _ _, hc1.trans hc0 (fun _ _ e => e) (fun _ _ e => e), List.Pairwise.nil, fun x => ?_⟩
    simp
    exact fun a b => absurd a b
  case round =>
    obtain ⟨left, cnt, l, wA, rfl, hr, hrow, hW, hnd, hmem⟩ := hrel
    have hlen : l.length ≤ 4097 := by
      obtain ⟨L, hL, hm⟩ := few_sec.one n
      refine Nat.le_trans (nodup_len l L hnd fun x hx => hm x ?_) hL
      have := ((hmem x).1 hx).1
      rw [← hS] at this
      rcases this with e | e
      · exact .inl e.symm
      · exact .inr (e.of_rev.sec hsec).1
    go_wp2_with (first
      | (at_next; go_must (refine wp_nextS rfl _ rfl (some bs) r S left cnt rfl hr ?_ ?_))
      | fail)
    · intro hl
      have HS := sort_ints _ _ _ _ hrow (by omega)
      have HR := hid (And.intro hr hrow)
      clear hr hrow
      go_wp2_with (first
        | (go_at_call 93; go_must (refine HS.mono ?_; rintro e w3 ⟨rfl, hrow3, hc3⟩))
        | go_in)
      go_ret
      refine ⟨_, sortI l, rfl, row_base hrow3 (by omega), ⟨sortI_up l hnd, fun x => ?_⟩, hW.trans hc3 (fun _ _ e => e) (fun j hj e => ?_)⟩
      · rw [sortI_mem, hmem, ← hS, Reach.rev_iff]
        exact ⟨fun e => ⟨e.2.2, e.1⟩, fun e => ⟨e.2, hl x, e.1⟩⟩
      · have := (row_ge HR.out.2 e).1
        omega
    · intro x w3 cnt3 hl hx hIx hr3 hlt hc3 hz3 hen
      have hA := hr.lt
      have hsz3 : r + 1 ≤ w3.heap.size := by omega
      have hnr : ∀ j, Value.ownBlock _ = some j → ¬ j = r := fun j hj e => by
        have := (row_ge hrow hj).1
        omega
      have hrow3 := row_keep hrow hc3 hnr
      have hrow4 := row_keep hrow3 (Chg.alloc w3 (.cells #[.int .i64 x] 3) No) (fun _ _ e => e)
      have hcell := cell0 (heap_alloc_new w3 (.cells #[.int .i64 x] 3))
      have hW3 : Chg w w3 No := hW.trans hc3 (fun _ _ e => e) (fun j hj e => by omega)
      have HR := hid (And.intro hr3 (And.intro hlt (And.intro hr hrow)))
      clear hz3 hr3 hlt hr hrow
      by_cases hxn : x = n
      · subst hxn
        go_wp2_with fail
        obtain ⟨hr3, hlt, hr, hrow⟩ := HR.out
        go_roundw
        case rel =>
          refine ⟨_, cnt3, l, _, rfl, hr3, hrow3, hW3, hnd, fun y => ?_⟩
          rw [hmem]
          constructor
          · exact fun e => ⟨e.1, fun k => e.2.1 k.1, e.2.2⟩
          · exact fun e => ⟨e.1, fun k => e.2.1 ⟨k, e.2.2⟩, e.2.2⟩
        case measure => rw [hr3.leftN, hr.leftN]; exact hlt
      · go_wp2_with (first
          | (at_builtin; go_must (refine wp_appI rfl _ _ rfl (r + 1) w3.heap.size 1 _ l x rfl rfl hrow4 hcell (by omega) (by simp; omega) ?_; intro v5 w5 h51 h52 h53))
          | go_in)
        obtain ⟨hr3, hlt, hr, hrow⟩ := HR.out
        have hc5 : Chg w3 w5 (fun k => r + 1 ≤ k) := (Chg.alloc w3 (.cells #[.int .i64 x] 3) No).trans h52 (fun _ _ e => e.elim) (fun j _ e => (row_ge hrow4 e).1)
        have hr5 := hr3.keep hc5 (fun d e => by cases e; omega) (by omega)
        go_roundw
        case rel =>
          refine ⟨_, cnt3, l ++ [x], _, rfl, hr5, h51, hW3.trans hc5 (fun _ _ e => e) (fun j hj e => by omega), ?_, fun y => ?_⟩
          · rw [List.pairwise_append]
            refine ⟨hnd, by simp, fun a ha b hb => ?_⟩
            simp at hb
            subst hb
            intro e
            subst e
            exact ((hmem a).1 ha).2.1 hl
          · rw [List.mem_append, hmem]
            simp
            constructor
            · rintro (e | rfl)
              · exact ⟨e.1, fun k => absurd k e.2.1, e.2.2⟩
              · exact ⟨hx, fun _ => rfl, hxn⟩
            · rintro ⟨e1, e2, e3⟩
              by_cases k : left y
              · exact .inr (e2 k)
              · exact .inl ⟨e1, k, e3⟩
        case measure => rw [hr5.leftN, hr.leftN]; exact hlt

end Go.Proofs.YtamoepninddbcaaGreat
