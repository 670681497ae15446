/-
  The document's table and Find.
-/
import Derived.Test.YtjlhmojofjkkdabD2
-- may lack
namespace Go.Proofs.Ytjlhmojofjkkdab
open Go.RowKit Go.Shelf

/-- A table of the document: of the sector 0 none. -/
def rtabS (s : Src) (n : Int) : List Int × Int := if n = 0 then (Zp, 0) else tabS s n
theorem rtabS_len (s : Src) (n : Int) : (rtabS s n).1.length = 32 := by
  unfold rtabS
  split
  · exact Zp_len
  · exact tabS_len _ _

end Go.Proofs.Ytjlhmojofjkkdab
