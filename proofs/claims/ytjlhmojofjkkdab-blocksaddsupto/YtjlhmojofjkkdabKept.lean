/-
  What stands in memory behind a write and behind a call.
-/
import Derived.Test.YtjlhmojofjkkdabLaws
-- may lack
namespace Go.Proofs.Ytjlhmojofjkkdab
open Go.RowKit

/-- A block that was there stands, behind a new one that is written. -/
theorem kept_wrote {w w' : World} {o : Obj} {g : Nat} {c : List Int} {x : Option Obj} (h : Wrote (w.alloc o) w.heap.size c w') (hx : Hid (w.heap[g]? = x)) (hg : g + 1 ≤ w.heap.size) : Hid (w'.heap[g]? = x) := by
  show _ = _
  rw [h.other _ (by omega), Below.heap_alloc _ _ _ (by omega)]
  exact hx.out
/-- A block that was there stands behind a call. -/
theorem kept_below {w w' : World} {B g : Nat} {x : Option Obj} (h : Below B w w') (hx : Hid (w.heap[g]? = x)) (hg : g + 1 ≤ B) : Hid (w'.heap[g]? = x) := by
  show _ = _
  rw [h.block _ (by omega)]
  exact hx.out

theorem kept_write {w w' : World} {g k : Nat} {c : List Int} {x : Option Obj} (h : Wrote w g c w') (hx : Hid (w.heap[k]? = x)) (hk : k ≠ g) : Hid (w'.heap[k]? = x) := by
  show _ = _
  rw [h.other _ hk]
  exact hx.out

end Go.Proofs.Ytjlhmojofjkkdab
