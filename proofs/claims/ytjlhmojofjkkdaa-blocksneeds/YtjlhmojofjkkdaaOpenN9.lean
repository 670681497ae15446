/-
  What a list of ints that is handed in looks like, by its bytes.
-/
import Derived.Test.YtjlhmojofjkkdaaOpenF
import Derived.SizedLaws
namespace Go.Proofs.Ytjlhmojofjkkdaa
open Go.ChangeShapes Go.WideShapes Go.ChangeAt Go.RowKit Go.Joins

set_option maxRecDepth 100000 in
theorem open_liz {H : Type} {enc : TypeId × Value → H} {W : World} {r : Reach} {b0 : Nat} {v : Value} {d : DataW H} {p : List MemPlace}
    (hv : Value.okWide Try.prog W r b0 33 v) (h : DataW.Trod enc Try.prog W 0 (fun _ => true) true 33 v d p) (hw : ∀ n ∈ d.weights Try.prog 33, n ≤ reachBytes) :
    ∃ (ad : Option Addr) (cap : Nat) (zs : List Int), v = .slice ad zs.length cap ∧ LI W ad zs ∧ zs.length ≤ 17592186043904 := by
  obtain ⟨ad, cap, zs, rfl, h1, _⟩ := open_li hv h
  refine ⟨ad, cap, zs, rfl, h1, ?_⟩
  obtain ⟨fuel, hf⟩ := h
  rcases DataW.trod_slice Try.underlying33 hf with ⟨hcs, _⟩ | ⟨a, l, c, elems, rest, m, _, hcs, hx, hb, hl, hm, hlen, hel, _, _⟩
  · simp [Value.cells] at hcs
    have := hcs.2.1
    simp [this]
  · simp [Value.cells] at hcs
    have e1 : d = .slice (elems.map (·.1)) (rest.map (·.1)) := congrArg Prod.fst hx
    have hb8 : Try.prog.bytesOf 3 = 8 := by kernel_rfl
    have h3 : ((elems.map (·.1)).length + (rest.map (·.1)).length) * Try.prog.bytesOf 3 ∈ d.weights Try.prog 33 := by
      rw [e1]
      simp [DataW.weights, Try.underlying33]
    have h4 := hw _ h3
    rw [hb8] at h4
    simp at h4
    unfold reachBytes at h4
    have := hcs.2.1
    omega

end Go.Proofs.Ytjlhmojofjkkdaa
