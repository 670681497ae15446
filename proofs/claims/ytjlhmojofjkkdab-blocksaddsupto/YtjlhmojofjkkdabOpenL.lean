/-
  What a list of ints that is handed in looks like.
-/
import Derived.Test.YtjlhmojofjkkdabOpenI
import Derived.Test.YtjlhmojofjkkdabC7
namespace Go.Proofs.Ytjlhmojofjkkdab
open Go.ChangeShapes Go.WideShapes Go.ChangeAt Go.RowKit Go.Joins

theorem li_of {W : World} {x : Addr} {l c : Nat} {zs : List Int} (hl : l ≤ c) (hz : zs.length = c)
    (hcell : ∀ i, i < zs.length → W.cell? (x.add i) = some (.int .i64 (zs.getD i 0))) : LI W (some x) (zs.take l) := by
  intro j k hj
  have hjl : j < (zs.take l).length := (List.getElem?_eq_some_iff.1 hj).1
  rw [List.length_take] at hjl
  have hc := hcell j (by omega)
  have hc0 := hcell 0 (by omega)
  obtain ⟨b, off, spot⟩ := x
  have hspot : spot = none := by simpa [Addr.add] using World.cell?_spot hc0
  subst hspot
  rw [addr_add] at hc
  refine ⟨b, off, rfl, ?_⟩
  rw [hc]
  rw [List.getElem?_take, if_pos (by omega)] at hj
  simp [List.getD_eq_getElem?_getD, hj]
set_option maxRecDepth 100000 in
theorem open_li {H : Type} {enc : TypeId × Value → H} {W : World} {r : Reach} {b0 : Nat} {v : Value} {d : DataW H} {p : List MemPlace}
    (hv : Value.okWide Try.prog W r b0 39 v) (h : DataW.Trod enc Try.prog W 0 (fun _ => true) true 39 v d p) :
    ∃ (ad : Option Addr) (cap : Nat) (zs : List Int), v = .slice ad zs.length cap ∧ LI W ad zs ∧ zs.length ≤ 9223372036854775807 := by
  obtain ⟨a0, len0, cap0, rfl⟩ := okWide_slice Try.underlying39 hv
  obtain ⟨fuel, hf⟩ := h
  rcases open_ints Try.underlying39 Try.underlying3 (by kernel_rfl) hf with ⟨hcs, _⟩ | ⟨x, l, c, zs, hcs, _, hl, hm, hz, hy, hcell, hwz⟩
  · simp [Value.cells] at hcs
    obtain ⟨rfl, rfl, rfl⟩ := hcs
    exact ⟨none, 0, [], rfl, fun j k hj => by simp at hj, by decide⟩
  · simp [Value.cells] at hcs
    obtain ⟨rfl, rfl, rfl⟩ := hcs
    have hz' : zs.length = cap0 := by simpa using hz
    have e : (zs.take len0).length = len0 := by rw [List.length_take]; omega
    refine ⟨some x, cap0, zs.take len0, by rw [e], li_of hl hz' hcell, ?_⟩
    rw [e]
    unfold maxLen at hm
    omega

end Go.Proofs.Ytjlhmojofjkkdab
