/-
  What a list of numbers that is handed in looks like.
-/
import Derived.Test.YtboammbcoleicaaGreatJC
import Derived.Test.YtboammbcoleicaaGreatOpenE
namespace Go.Proofs.YtboammbcoleicaaGreat
open Go.ChangeShapes Go.WideShapes Go.ChangeAt Go.RowKit Go.Joins

set_option maxRecDepth 100000 in
theorem open_li {H : Type} {enc : TypeId × Value → H} {W : World} {r : Reach} {b0 : Nat} {v : Value} {d : DataW H} {p : List MemPlace}
    (hv : Value.okWide Tryz.prog W r b0 27 v) (h : DataW.Trod enc Tryz.prog W 0 (fun _ => true) true 27 v d p) :
    ∃ (ad : Option Addr) (cap : Nat) (zs : List Int), v = .slice ad zs.length cap ∧ (LatO W ad zs ∧ ∀ x ∈ zs, I64 x) ∧ zs.length ≤ 9223372036854775807 := by
  obtain ⟨a0, len0, cap0, rfl⟩ := okWide_slice Tryz.underlying27 hv
  obtain ⟨fuel, hf⟩ := h
  rcases open_ints Tryz.underlying27 Tryz.underlying3 (by kernel_rfl) hf with ⟨hcs, _⟩ | ⟨x, l, c, zs, hcs, _, hl, hm, hz, hy, hcell, hwz⟩
  · simp [Value.cells] at hcs
    obtain ⟨rfl, rfl, rfl⟩ := hcs
    exact ⟨none, 0, [], rfl, ⟨.inl rfl, by simp⟩, by decide⟩
  · simp [Value.cells] at hcs
    obtain ⟨rfl, rfl, rfl⟩ := hcs
    have hz' : zs.length = cap0 := by simpa using hz
    have e : (zs.take len0).length = len0 := by rw [List.length_take]; omega
    refine ⟨some x, cap0, zs.take len0, by rw [e], ⟨?_, fun y hy => bounds_i64 (hwz y (List.mem_of_mem_take hy))⟩, by unfold maxLen at hm; omega⟩
    by_cases h0 : len0 = 0
    · subst h0
      exact .inl (by simp)
    · obtain ⟨b, off, spot⟩ := x
      have hc := hcell 0 (by omega)
      have hspot : spot = none := by simpa [Addr.add] using World.cell?_spot hc
      subst hspot
      have hlt : b < W.heap.size := by
        rw [addr_add] at hc
        exact World.block_lt_of_cell? _ _ hc
      refine .inr ⟨b, off, rfl, hlt, fun j hj => ?_⟩
      rw [List.length_take] at hj
      have h1 := hcell j (by omega)
      rw [addr_add] at h1
      rw [h1]
      simp [show j < len0 by omega]
end Go.Proofs.YtboammbcoleicaaGreat
