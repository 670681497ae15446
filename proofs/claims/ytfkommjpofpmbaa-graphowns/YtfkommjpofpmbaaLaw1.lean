/-
  Small facts that several statements want.
-/
import Derived.Test.YtfkommjpofpmbaaLawK
import Derived.Test.YtfkommjpofpmbaaLawM
import Derived.Test.YtfkommjpofpmbaaLawE
namespace Go.Proofs.Ytfkommjpofpmbaa
open Go.RowKit

theorem pickN_sec (n : Int) : Sec (pickN n 4096) := pickN_bd n (by omega)
theorem removed_ok {E E' : Int → Int → Prop} {n c : Int} (h : Removed E n c E') (hn : Sec n) : c = 0 ∧ E' = delE E n := by
  rcases h with ⟨k, _⟩ | ⟨_, h1, h2⟩
  · exact absurd hn k
  · exact ⟨h1, h2⟩
theorem elist_len {E : Int → Int → Prop} {l : List (Int × Int)} (h : EList E l) (hs : InSec E) : l.length ≤ 16777216 :=
  edges_len l (h.1.imp fun {a b} k e => by subst e; unfold ltE at k; omega) fun x hx => hs _ _ ((h.2 x).1 hx)


theorem Chg.tr {w w1 w2 : World} (h : Chg w w1 No) (k : Chg w1 w2 No) : Chg w w2 No := h.trans k (fun _ _ e => e) (fun _ _ e => e)
/-- What a graph of one's own does to itself is not seen by others. -/
theorem Chg.to_own {w w1 w2 : World} {own : Nat → Prop} (h : Chg w w1 No) (k : Chg w1 w2 own) (ho : ∀ j, own j → w.heap.size ≤ j) : Chg w w2 No := h.trans k (fun _ _ e => e) (fun j hj e => by have := ho j e; omega)

end Go.Proofs.Ytfkommjpofpmbaa
