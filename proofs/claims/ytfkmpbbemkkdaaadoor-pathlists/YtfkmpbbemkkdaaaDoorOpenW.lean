/-
  What is handed in: a list of texts, with its bound.
-/
import Derived.Test.YtfkmpbbemkkdaaaDoorOpens
namespace Go.Proofs.YtfkmpbbemkkdaaaDoor
open Go.ChangeShapes Go.WideShapes Go.ChangeAt Go.RowKit Go.Joins Go.ChangeMaps

theorem open_strs_sized {H : Type} {enc : TypeId × Value → H} {W : World} {r : Reach} {b0 : Nat} {v : Value} {d : DataW H} {p : List MemPlace}
    (hv : Value.okWide Tryd.prog W r b0 22 v) (h : DataW.Trod enc Tryd.prog W 0 (fun _ => true) true 22 v d p) (hw : ∀ n ∈ d.weights Tryd.prog 22, n ≤ reachBytes) :
    ∃ (ls : List ByteArray) (a : Option Addr) (c : Nat), v = .slice a ls.length c ∧ ls.length ≤ c ∧ (ls.length + 2) * 16 ≤ 140737488355328 ∧ TAt W a ls := by
  obtain ⟨ls, a, c, rfl, h1, h2, h3⟩ := open_strs hv h
  refine ⟨ls, a, c, rfl, h1, ?_, h3⟩
  obtain ⟨fuel, hf⟩ := h
  rcases open_strings Tryd.underlying22 Tryd.underlying9 cells9 hf with ⟨hcs, _⟩ | ⟨x, l, c', ss, hcs, _, hl, hm, hz, hy, _, _⟩
  · simp [Value.cells] at hcs
    have := hcs.2.1
    rw [this]
    decide
  · simp [Value.cells] at hcs
    obtain ⟨_, e, _⟩ := hcs
    have hz' : ss.length = c' := by simpa using hz
    have hb : Tryd.prog.bytesOf 9 = 16 := by kernel_rfl
    have h2 : d = .slice (strs (ss.take l)) (strs (ss.drop l)) := congrArg Prod.fst hy
    have h3 : ((strs (H := H) (ss.take l)).length + (strs (H := H) (ss.drop l)).length) * Tryd.prog.bytesOf 9 ∈ d.weights Tryd.prog 22 := by
      rw [h2]
      simp [DataW.weights, Tryd.underlying22]
    have h4 := hw _ h3
    rw [hb] at h4
    simp [strs] at h4
    unfold reachBytes at h4
    omega

end Go.Proofs.YtfkmpbbemkkdaaaDoor
