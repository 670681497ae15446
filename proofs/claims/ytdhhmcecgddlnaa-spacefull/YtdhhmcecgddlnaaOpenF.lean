/-
  What is handed in looks like: a list of numbers, by its bytes.
-/
import Derived.Test.YtdhhmcecgddlnaaOpens
namespace Go.Proofs.Ytdhhmcecgddlnaa
open Go.ChangeShapes Go.WideShapes Go.ChangeAt Go.RowKit Go.Joins

set_option maxRecDepth 100000
theorem ints_of_trod44 {H : Type} {enc : TypeId × Value → H} {W : World} {fuel : Nat} {cs : List Value} {x : DataW H × List MemPlace} (h : DataW.trod enc Try.prog W 0 (fun _ => true) true fuel 24 cs = some x) (hw : ∀ n ∈ x.1.weights Try.prog 24, n ≤ reachBytes) :
    ∃ (ad : Option Addr) (cap : Nat) (zs : List Int), cs = [.slice ad zs.length cap] ∧ zs.length ≤ 17592186044416 ∧ IntsAt W ad zs ∧ ∀ x ∈ zs, I64 x := by
  rcases open_ints Try.underlying24 Try.underlying3 (by kernel_rfl) h with ⟨hcs, _⟩ | ⟨a, l, c, zs, hcs, _, hl, hm, hz, hy, hcell, hwz⟩
  · exact ⟨none, 0, [], hcs, by decide, .inl rfl, by simp⟩
  · have hz' : zs.length = c := by simpa using hz
    have e : (zs.take l).length = l := by rw [List.length_take]; omega
    have hwt : zs.length * 8 ≤ reachBytes := by
      have hb : Try.prog.bytesOf 3 = 8 := by kernel_rfl
      have h2 : x.1 = .slice (lits .i64 (zs.take l)) (lits .i64 (zs.drop l)) := congrArg Prod.fst hy
      have h3 : ((lits (H := H) .i64 (zs.take l)).length + (lits (H := H) .i64 (zs.drop l)).length) * Try.prog.bytesOf 3 ∈ x.1.weights Try.prog 24 := by
        rw [h2]
        simp [DataW.weights, Try.underlying24]
      have h4 := hw _ h3
      rw [hb] at h4
      simp [lits] at h4
      omega
    refine ⟨some a, c, zs.take l, by rw [e]; exact hcs, ?_, ints_of hl hz' hcell, ?_⟩
    · rw [e]
      unfold reachBytes at hwt
      omega
    · intro y hy
      exact wfI (hwz y (List.mem_of_mem_take hy))
theorem open_ilist44 {H : Type} {enc : TypeId × Value → H} {W : World} {r : Go.Reach} {b0 : Nat} {v : Value} {d : DataW H} {p : List MemPlace}
    (hv : Value.okWide Try.prog W r b0 24 v) (h : DataW.Trod enc Try.prog W 0 (fun _ => true) true 24 v d p) (hw : ∀ n ∈ d.weights Try.prog 24, n ≤ reachBytes) :
    ∃ (zs : List Int) (ad : Option Addr) (cap : Nat), v = .slice ad zs.length cap ∧ zs.length ≤ 17592186044416 ∧ IntsAt W ad zs ∧ ∀ x ∈ zs, I64 x := by
  obtain ⟨a0, len0, cap0, rfl⟩ := okWide_slice Try.underlying24 hv
  obtain ⟨fuel, hf⟩ := h
  obtain ⟨ad, cap, zs, hcs, h1, h2, h3⟩ := ints_of_trod44 hf hw
  simp [Value.cells] at hcs
  obtain ⟨rfl, rfl, rfl⟩ := hcs
  exact ⟨zs, _, _, rfl, h1, h2, h3⟩

end Go.Proofs.Ytdhhmcecgddlnaa
