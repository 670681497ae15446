/-
  What an inode that is handed in looks like: 18 numbers.
-/
import Derived.Test.YtjlhmojofjkkdabOpens
namespace Go.Proofs.Ytjlhmojofjkkdab
open Go.ChangeShapes Go.WideShapes Go.ChangeAt Go.RowKit Go.Joins

set_option maxRecDepth 100000
theorem cells3 : Try.prog.cellsOf 3 = 1 := by kernel_rfl
theorem cells_intsI (cs : List Value) (f : Nat → Int) (h : ∀ i, i < cs.length → cs[i]? = some (.int .i64 (f i))) : cs = ((List.range cs.length).map f).map (Value.int .i64) := by
  apply List.ext_getElem (by simp)
  intro i h1 h2
  have := h i h1
  rw [List.getElem?_eq_getElem h1] at this
  simpa using this
theorem ints_of_trodI {H : Type} {enc : TypeId × Value → H} {W : World} {b0 : Nat} {spare : Nat → Bool} {held : Bool} {fuel : Nat} {cs : List Value} {x : DataW H × List MemPlace} {t : TypeId} {n : Nat} (ht : Try.prog.underlying t = some (.array n 3)) (hcells : Try.prog.cellsOf t = n)
    (h : DataW.trod enc Try.prog W b0 spare held fuel t cs = some x) : ∃ z : List Int, z.length = n ∧ (∀ y ∈ z, I64 y) ∧ cs = z.map (Value.int .i64) := by
  obtain ⟨xs, m, _, _, hl, hxl, hx⟩ := DataW.trod_array ht h
  rw [hcells] at hl
  have key : ∀ i, i < n → ∃ y : Int, cs[i]? = some (.int .i64 y) ∧ I64 y := by
    intro i hi
    have h1 := hx i hi
    rw [cells3, Nat.mul_one, List.getElem?_eq_getElem (by omega)] at h1
    obtain ⟨y, hy, _, hw⟩ := DataW.trod_int Try.underlying3 h1
    refine ⟨y, ?_, bounds_i64 hw⟩
    have h2 : ((cs.drop i).take 1)[0]? = some (.int .i64 y) := by rw [hy]; rfl
    simpa using h2
  have e := cells_intsI cs (fun i => match cs[i]? with | some (.int _ y) => y | _ => 0) (fun i hi => by
    obtain ⟨y, hy, _⟩ := key i (by omega)
    rw [hy])
  refine ⟨_, by simp [hl], ?_, e⟩
  intro y hy
  rw [List.mem_map] at hy
  obtain ⟨i, hi, rfl⟩ := hy
  rw [List.mem_range] at hi
  obtain ⟨y, hy, hb⟩ := key i (by omega)
  rw [hy]
  exact hb
section
variable {H : Type} {enc : TypeId × Value → H} {W : World} {b1 : Nat} {spare : Nat → Bool} {held : Bool}
theorem int_leafI {cs : List Value} {o n : Nat} {y : DataW H × List MemPlace} (h : DataW.trod enc Try.prog W b1 spare held n 3 ((cs.drop o).take 1) = some y) : ∃ v : Int, cs[o]? = some (.int .i64 v) := by
  obtain ⟨v, hv, _, _⟩ := DataW.trod_int Try.underlying3 h
  refine ⟨v, ?_⟩
  have h2 : ((cs.drop o).take 1)[0]? = some (.int .i64 v) := by rw [hv]; rfl
  simpa using h2
theorem sub_getI {cs : List Value} {o m i : Nat} {v : Value} (h : ((cs.drop o).take m)[i]? = some v) : cs[o + i]? = some v := by
  rw [List.getElem?_take] at h
  split at h
  · rw [List.getElem?_drop] at h; exact h
  · cases h
theorem some_ofI {α : Type} {xs : List α} {i k : Nat} (h : xs.length = k) (hi : i < k) : ∃ y, xs[i]? = some y := ⟨_, List.getElem?_eq_getElem (by omega)⟩

def nthI (l : List Value) (i : Nat) : Int := match l[i]? with | some (.int _ y) => y | _ => 0
theorem inode_cells {cs : List Value} {fuel : Nat} {x : DataW H × List MemPlace} (h : DataW.trod enc Try.prog W b1 spare held fuel 24 cs = some x) :
    cs.length = 18 ∧ ∀ i, i < 18 → ∃ v : Int, cs[i]? = some (.int .i64 v) := by
  obtain ⟨ys, n, _, _, hl, hyl, hg⟩ := DataW.trod_struct Try.underlying24 h
  have hl18 : cs.length = 18 := hl.trans (by kernel_rfl)
  refine ⟨hl18, ?_⟩
  have arr : ∀ j, j < 12 → ∃ v : Int, cs[4 + j]? = some (.int .i64 v) := by
    intro j hj
    obtain ⟨u, hu⟩ := some_ofI hyl (i := 4) (by decide)
    have h1 := hg 4 _ rfl
    rw [hu] at h1
    obtain ⟨z, hz, _, he⟩ := ints_of_trodI (n := 12) (by kernel_rfl) (by kernel_rfl) h1
    refine ⟨z.getD j 0, ?_⟩
    have h2 : ((cs.drop 4).take 12)[j]? = some (.int .i64 (z.getD j 0)) := by
      have e : (cs.drop 4).take 12 = z.map (Value.int .i64) := he
      rw [e, List.getElem?_map, List.getElem?_eq_getElem (by omega)]
      simp [List.getD, List.getElem?_eq_getElem (show j < z.length by omega)]
    exact sub_getI h2
  intro j hj
  by_cases d : 4 ≤ j ∧ j < 16
  · obtain ⟨v, hv⟩ := arr (j - 4) (by omega)
    exact ⟨v, by rw [show 4 + (j - 4) = j by omega] at hv; exact hv⟩
  · have hj' : j = 0 ∨ j = 1 ∨ j = 2 ∨ j = 3 ∨ j = 16 ∨ j = 17 := by omega
    rcases hj' with rfl | rfl | rfl | rfl | rfl | rfl
    · obtain ⟨u, hu⟩ := some_ofI hyl (i := 0) (by decide)
      have h1 := hg 0 _ rfl; rw [hu] at h1; exact int_leafI h1
    · obtain ⟨u, hu⟩ := some_ofI hyl (i := 1) (by decide)
      have h1 := hg 1 _ rfl; rw [hu] at h1; exact int_leafI h1
    · obtain ⟨u, hu⟩ := some_ofI hyl (i := 2) (by decide)
      have h1 := hg 2 _ rfl; rw [hu] at h1; exact int_leafI h1
    · obtain ⟨u, hu⟩ := some_ofI hyl (i := 3) (by decide)
      have h1 := hg 3 _ rfl; rw [hu] at h1; exact int_leafI h1
    · obtain ⟨u, hu⟩ := some_ofI hyl (i := 5) (by decide)
      have h1 := hg 5 _ rfl; rw [hu] at h1; exact int_leafI h1
    · obtain ⟨u, hu⟩ := some_ofI hyl (i := 6) (by decide)
      have h1 := hg 6 _ rfl; rw [hu] at h1; exact int_leafI h1

theorem open_inode {r : Reach} {b0 : Nat} {v : Value} {d : DataW H} {p : List MemPlace}
    (hv : Value.okWide Try.prog W r b0 24 v) (h : DataW.Trod enc Try.prog W b1 spare held 24 v d p) : ∃ z : List Int, z.length = 18 ∧ v = .agg (NA z) := by
  obtain ⟨cs, rfl, _⟩ := okWide_struct Try.underlying24 hv
  obtain ⟨fuel, hf⟩ := h
  obtain ⟨hl, hi⟩ := inode_cells hf
  have hcs : Value.cells (.agg cs) = cs := rfl
  rw [hcs] at hl hi
  have e := cells_intsI cs.toList (nthI cs.toList) (fun i h => by
    obtain ⟨v, hv⟩ := hi i (by omega)
    have e0 : nthI cs.toList i = v := by unfold nthI; rw [hv]
    rw [e0]
    exact hv)
  refine ⟨(List.range cs.toList.length).map (nthI cs.toList), by rw [List.length_map, List.length_range]; exact hl, ?_⟩
  have e2 : cs = NA ((List.range cs.toList.length).map (nthI cs.toList)) := by
    apply Array.toList_inj.1
    exact e
  exact congrArg Value.agg e2
end

end Go.Proofs.Ytjlhmojofjkkdab
