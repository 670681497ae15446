/-
  What is handed in looks like: the frame's closed facts.
-/
import Derived.Test.YtcgchdcbbiahnaaWPick
import Derived.Test.YtcgchdcbbiahnaaMem
import Derived.ProofKit
import Derived.OpenShut
import Derived.ChangeOld
import Derived.Lib.SmallJoins
namespace Go.Proofs.Ytcgchdcbbiahnaa
open Go.ChangeShapes Go.WideShapes Go.ChangeAt Go.RowKit Go.Joins

theorem own : ownKnob Try.prog.godebug = none := by kernel_rfl
theorem laidOut : laidOutB Try.prog = true := by kernel_rfl

end Go.Proofs.Ytcgchdcbbiahnaa
