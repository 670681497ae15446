/-
  FsckNames: the numbers that the document names.
-/
import Derived.Test.YtboammbcoleicaaGreatGC
namespace Go.Proofs.YtboammbcoleicaaGreat
open Go.RowKit Go.Shelf

theorem names_walk (w : World) : Calls Tryz.prog 3 #[] w fun e w' => e = .returned (.bool true) ∧ Below w.heap.size w w' := by
  have hK := known_any w
  go_enter Tryz.func3, Tryz.ntmps3
  go_wp2_with (first
    | (go_at_call 9; go_must (refine hK.mono ?_; rintro e w1 ⟨rfl, hc1⟩))
    | fail)
  go_ret
  exact ⟨rfl, hc1.below⟩
end Go.Proofs.YtboammbcoleicaaGreat
