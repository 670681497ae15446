/-
  A list of ints that was handed in, in memory.
-/
import Derived.Test.YtjnafcogdakbbaaLaw1
namespace Go.Proofs.Ytjnafcogdakbbaa
open Go.RowKit

/-- Ints that lie in memory. -/
def IntsAt (w : World) (a : Option Addr) (xs : List Int) : Prop :=
  xs = [] ∨ ∃ b o, a = some ⟨b, o, none⟩ ∧ b < w.heap.size ∧ ∀ j, j < xs.length → w.cell? ⟨b, o + j, none⟩ = some (.int .i64 (xs.getD j 0))
theorem IntsAt.call {w w' : World} {a : Option Addr} {xs : List Int} (h : IntsAt w a xs) (hc : Chg w w' No) : IntsAt w' a xs := by
  rcases h with h | ⟨b, o, rfl, hb, h⟩
  · exact .inl h
  · exact .inr ⟨b, o, rfl, Nat.lt_of_lt_of_le hb hc.size, fun j hj => cell_keep (h j hj) hc hb (fun e => e)⟩

end Go.Proofs.Ytjnafcogdakbbaa
