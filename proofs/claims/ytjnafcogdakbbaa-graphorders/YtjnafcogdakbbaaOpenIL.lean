/-
  What a list of ints that is handed in looks like.
-/
import Derived.Test.YtjnafcogdakbbaaOpenS
import Derived.Test.YtjnafcogdakbbaaIntsIn
import Derived.SizedLaws
namespace Go.Proofs.Ytjnafcogdakbbaa
open Go.ChangeShapes Go.WideShapes Go.ChangeAt Go.RowKit Go.Joins

theorem ints_of {W : World} {x : Addr} {l c : Nat} {zs : List Int} (hl : l ≤ c) (hz : zs.length = c)
    (hcell : ∀ i, i < zs.length → W.cell? (x.add i) = some (.int .i64 (zs.getD i 0))) : IntsAt W (some x) (zs.take l) := by
  by_cases h0 : l = 0
  · subst h0
    exact .inl (by simp)
  · obtain ⟨b, off, spot⟩ := x
    have hc := hcell 0 (by omega)
    have hspot : spot = none := by simpa [Addr.add] using World.cell?_spot hc
    subst hspot
    have hlt : b < W.heap.size := by
      rw [addr_add] at hc
      exact block_lt_of_cell hc
    refine .inr ⟨b, off, rfl, hlt, fun j hj => ?_⟩
    rw [List.length_take] at hj
    have h1 := hcell j (by omega)
    rw [addr_add] at h1
    rw [h1]
    simp [show j < l by omega]

set_option maxRecDepth 100000
theorem open_ilist {H : Type} {enc : TypeId × Value → H} {W : World} {r : Go.Reach} {b0 : Nat} {v : Value} {d : DataW H} {p : List MemPlace}
    (hv : Value.okWide Try.prog W r b0 34 v) (h : DataW.Trod enc Try.prog W 0 (fun _ => true) true 34 v d p) (hw : ∀ n ∈ d.weights Try.prog 34, n ≤ reachBytes) :
    ∃ (zs : List Int) (ad : Option Addr) (cap : Nat), v = .slice ad zs.length cap ∧ zs.length ≤ 140737488355328 ∧ IntsAt W ad zs ∧ ∀ x ∈ zs, I64 x := by
  obtain ⟨a0, len0, cap0, rfl⟩ := okWide_slice Try.underlying34 hv
  obtain ⟨fuel, hf⟩ := h
  rcases open_ints Try.underlying34 Try.underlying3 (by kernel_rfl) hf with ⟨hcs, _⟩ | ⟨x, l, c, zs, hcs, _, hl, hm, hz, hy, hcell, hwz⟩
  · simp [Value.cells] at hcs
    obtain ⟨rfl, rfl, rfl⟩ := hcs
    exact ⟨[], none, 0, rfl, by decide, .inl rfl, by simp⟩
  · simp [Value.cells] at hcs
    obtain ⟨rfl, rfl, rfl⟩ := hcs
    have hz' : zs.length = cap0 := by simpa using hz
    have e : (zs.take len0).length = len0 := by rw [List.length_take]; omega
    have hwt : zs.length * 8 ≤ reachBytes := by
      have hb : Try.prog.bytesOf 3 = 8 := by kernel_rfl
      have h2 : d = .slice (lits .i64 (zs.take len0)) (lits .i64 (zs.drop len0)) := congrArg Prod.fst hy
      have h3 : ((lits (H := H) .i64 (zs.take len0)).length + (lits (H := H) .i64 (zs.drop len0)).length) * Try.prog.bytesOf 3 ∈ d.weights Try.prog 34 := by
        rw [h2]
        simp [DataW.weights, Try.underlying34]
      have h4 := hw _ h3
      rw [hb] at h4
      simp [lits] at h4
      omega
    refine ⟨zs.take len0, some x, cap0, by rw [e], ?_, ints_of hl hz' hcell, ?_⟩
    · rw [e]
      unfold reachBytes at hwt
      omega
    · intro y hy
      exact wfI (hwz y (List.mem_of_mem_take hy))

end Go.Proofs.Ytjnafcogdakbbaa
