/-
  What is handed in looks like: the frame's closed facts.
-/
import Derived.Test.YtcgchdcbbiahnabWPick
import Derived.Test.YtcgchdcbbiahnabMem
import Derived.ProofKit
import Derived.OpenShut
import Derived.ChangeOld
import Derived.Lib.SmallJoins
namespace Go.Proofs.Ytcgchdcbbiahnab
open Go.ChangeShapes Go.WideShapes Go.ChangeAt Go.RowKit Go.Joins

theorem own : ownKnob Try.prog.godebug = none := by kernel_rfl
theorem laidOut : laidOutB Try.prog = true := by kernel_rfl

end Go.Proofs.Ytcgchdcbbiahnab
