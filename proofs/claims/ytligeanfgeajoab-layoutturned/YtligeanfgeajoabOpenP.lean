/-
  What pointers that are handed in look like: 32 numbers.
-/
import Derived.Test.YtligeanfgeajoabOpens
import Derived.Test.YtligeanfgeajoabLP1
namespace Go.Proofs.Ytligeanfgeajoab
open Go.ChangeShapes Go.WideShapes Go.ChangeAt Go.RowKit Go.Joins

theorem cells_ints (cs : List Value) (f : Nat → Int) (h : ∀ i, i < cs.length → cs[i]? = some (.int .i64 (f i))) : cs = ((List.range cs.length).map f).map (Value.int .i64) := by
  apply List.ext_getElem (by simp)
  intro i h1 h2
  have := h i h1
  rw [List.getElem?_eq_getElem h1] at this
  simpa using this
theorem ints_of_trod {H : Type} {enc : TypeId × Value → H} {W : World} {b0 : Nat} {spare : Nat → Bool} {held : Bool} {fuel : Nat} {cs : List Value} {x : DataW H × List MemPlace} {t : TypeId} {n : Nat} (ht : Try.prog.underlying t = some (.array n 3)) (hcells : Try.prog.cellsOf t = n)
    (h : DataW.trod enc Try.prog W b0 spare held fuel t cs = some x) : ∃ z : List Int, z.length = n ∧ (∀ y ∈ z, I64 y) ∧ cs = z.map (Value.int .i64) := by
  obtain ⟨xs, m, _, _, hl, hxl, hx⟩ := DataW.trod_array ht h
  rw [hcells] at hl
  have key : ∀ i, i < n → ∃ y : Int, cs[i]? = some (.int .i64 y) ∧ I64 y := by
    intro i hi
    have h1 := hx i hi
    rw [cells3, Nat.mul_one, List.getElem?_eq_getElem (by omega)] at h1
    obtain ⟨y, hy, _, hw⟩ := DataW.trod_int Try.underlying3 h1
    refine ⟨y, ?_, bounds_i64 hw⟩
    have h2 : ((cs.drop i).take 1)[0]? = some (.int .i64 y) := by rw [hy]; rfl
    simpa using h2
  have e := cells_ints cs (fun i => match cs[i]? with | some (.int _ y) => y | _ => 0) (fun i hi => by
    obtain ⟨y, hy, _⟩ := key i (by omega)
    rw [hy])
  refine ⟨_, by simp [hl], ?_, e⟩
  intro y hy
  rw [List.mem_map] at hy
  obtain ⟨i, hi, rfl⟩ := hy
  rw [List.mem_range] at hi
  obtain ⟨y, hy, hb⟩ := key i (by omega)
  rw [hy]
  exact hb
theorem open_ptrs {H : Type} {enc : TypeId × Value → H} {W : World} {r : Reach} {b0 b1 : Nat} {spare : Nat → Bool} {held : Bool} {v : Value} {d : DataW H} {p : List MemPlace}
    (hv : Value.okWide Try.prog W r b0 28 v) (h : DataW.Trod enc Try.prog W b1 spare held 28 v d p) : ∃ z : List Int, z.length = 32 ∧ v = .agg (NA z) := by
  obtain ⟨cs, rfl, _⟩ := okWide_arr Try.underlying28 hv
  obtain ⟨fuel, hf⟩ := h
  obtain ⟨z, hz, _, he⟩ := ints_of_trod (n := 32) (by kernel_rfl) (by kernel_rfl) hf
  refine ⟨z, hz, ?_⟩
  have : cs = NA z := by
    unfold NA
    rw [← he]
    simp [Value.cells]
  rw [this]

end Go.Proofs.Ytligeanfgeajoab
