/-
  The walk of PathNames.
-/
import Derived.Test.YtcckjkmkegpekaaDoorPK
namespace Go.Proofs.YtcckjkmkegpekaaDoor
open Go.RowKit

theorem names_walk (w : World) (hm : ML w) : Calls Tryd.prog 3 #[] w fun e w' => e = .returned (.bool true) ∧ Below w.heap.size w w' := by
  have hk := known_any w hm
  go_enter Tryd.func3, Tryd.ntmps3
  go_wp2_with (go_at_call 9; refine hk.mono ?_; rintro e w2 ⟨rfl, hb2⟩)
  go_ret
  exact ⟨rfl, hb2⟩

end Go.Proofs.YtcckjkmkegpekaaDoor
