/-
  The walk of PlainNames.
-/
import Derived.Test.YtbkddnibcpjkgaaDoorQV
namespace Go.Proofs.YtbkddnibcpjkgaaDoor
open Go.RowKit

theorem names_walk (w : World) (hu : UB w) (hm : ML w) : Calls Tryd.prog 3 #[] w fun e w' => e = .returned (.bool true) ∧ Below w.heap.size w w' := by
  have hk := known_any w hu hm
  go_enter Tryd.func3, Tryd.ntmps3
  go_wp2_with (go_at_call 5; refine hk.mono ?_; rintro e w2 ⟨rfl, hb2⟩)
  go_ret
  exact ⟨rfl, hb2.below⟩

end Go.Proofs.YtbkddnibcpjkgaaDoor
