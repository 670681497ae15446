/-
  sector.Zero returns whether all bytes are zero, for every sector.
-/
import Derived.Test.YtibneoajkbblaaaLaws
namespace Go.Proofs.Ytibneoajkbblaaa
open Go.RowKit

set_option maxHeartbeats 400000 in
theorem zero_any (s : List Int) (hs : s.length = 128) (w : World) :
    Calls Try.prog 26 #[.agg (SA s)] w fun e w' => e = .returned (.bool (decide (s = Zs))) ∧ Below w.heap.size w w' := by
  have hz := zero_sec
  have hq := eq_sec s Zs hs Zs_len
  have hgd := guard_sec
  go_enter Try.func26, Try.ntmps26
  go_wp2_with (refine load_sec rfl _ rfl w.heap.size rfl s hs (heap_alloc_new _ _) ?_)
  go_ret
  exact ⟨rfl, (Below.refl _ _).alloc (Nat.le_refl _) _⟩

end Go.Proofs.Ytibneoajkbblaaa
