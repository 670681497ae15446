/-
  What a list of bytes that is handed in looks like, with its bound.
-/
import Derived.Test.YtibneoajkbblaabOpenB
import Derived.SizedLaws
namespace Go.Proofs.Ytibneoajkbblaab
open Go.ChangeShapes Go.WideShapes Go.ChangeAt Go.RowKit Go.Joins

theorem open_bytes_sized {H : Type} {enc : TypeId × Value → H} {W : World} {r : Reach} {b0 : Nat} {v : Value} {d : DataW H} {p : List MemPlace}
    (hv : Value.okWide Try.prog W r b0 28 v) (h : DataW.Trod enc Try.prog W 0 (fun _ => true) true 28 v d p) (hw : ∀ n ∈ d.weights Try.prog 28, n ≤ reachBytes) :
    ∃ (zs : List Int) (ad : Option Addr) (cap : Nat), v = .slice ad zs.length cap ∧ zs.length ≤ cap ∧ cap ≤ 140737488351232 ∧ BytesAt W ad zs := by
  obtain ⟨a0, len0, cap0, rfl⟩ := okWide_slice Try.underlying28 hv
  obtain ⟨fuel, hf⟩ := h
  rcases open_ints Try.underlying28 Try.underlying5 (by kernel_rfl) hf with ⟨hcs, _⟩ | ⟨x, l, c, zs, hcs, _, hl, hm, hz, hy, hcell, hwz⟩
  · simp [Value.cells] at hcs
    obtain ⟨rfl, rfl, rfl⟩ := hcs
    exact ⟨[], none, 0, rfl, by simp, by decide, .inl rfl⟩
  · simp [Value.cells] at hcs
    obtain ⟨rfl, rfl, rfl⟩ := hcs
    have hz' : zs.length = cap0 := by simpa using hz
    have e : (zs.take len0).length = len0 := by rw [List.length_take]; omega
    have hwt : zs.length ≤ reachBytes := by
      have hb : Try.prog.bytesOf 5 = 1 := by kernel_rfl
      have h2 : d = .slice (lits .u8 (zs.take len0)) (lits .u8 (zs.drop len0)) := congrArg Prod.fst hy
      have h3 : ((lits (H := H) .u8 (zs.take len0)).length + (lits (H := H) .u8 (zs.drop len0)).length) * Try.prog.bytesOf 5 ∈ d.weights Try.prog 28 := by
        rw [h2]
        simp [DataW.weights, Try.underlying28]
      have h4 := hw _ h3
      rw [hb] at h4
      simp [lits] at h4
      omega
    refine ⟨zs.take len0, some x, cap0, by rw [e], by omega, ?_, bytes_of_ints hl hz' hcell⟩
    unfold reachBytes at hwt
    omega

end Go.Proofs.Ytibneoajkbblaab
