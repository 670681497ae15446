import Derived.Test.YtjlhmojofjkkdabWGet
import Derived.Test.YtjlhmojofjkkdabPlain3
-- may lack
namespace Go.Proofs.Ytjlhmojofjkkdab
open Go.RowKit

def supB (a b : Int) : Bool := decide (8 ≤ a ∧ a ≤ 4096 ∧ 1 ≤ b ∧ b ≤ 512 ∧ b + 2 ≤ a)
theorem supB_true {a b : Int} (h : 8 ≤ a ∧ a ≤ 4096 ∧ 1 ≤ b ∧ b ≤ 512 ∧ b + 2 ≤ a) : supB a b = true := decide_eq_true h
theorem supB_false {a b : Int} (h : ¬ (8 ≤ a ∧ a ≤ 4096 ∧ 1 ≤ b ∧ b ≤ 512 ∧ b + 2 ≤ a)) : supB a b = false := decide_eq_false h

end Go.Proofs.Ytjlhmojofjkkdab
