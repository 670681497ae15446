import Derived.Test.YtmgkfifjcodhnaaWGet
import Derived.Test.YtmgkfifjcodhnaaPlain3
namespace Go.Proofs.Ytmgkfifjcodhnaa
open Go.RowKit

def supB (a b : Int) : Bool := decide (8 ≤ a ∧ a ≤ 4096 ∧ 1 ≤ b ∧ b ≤ 512 ∧ b + 2 ≤ a)
theorem supB_true {a b : Int} (h : 8 ≤ a ∧ a ≤ 4096 ∧ 1 ≤ b ∧ b ≤ 512 ∧ b + 2 ≤ a) : supB a b = true := decide_eq_true h
theorem supB_false {a b : Int} (h : ¬ (8 ≤ a ∧ a ≤ 4096 ∧ 1 ≤ b ∧ b ≤ 512 ∧ b + 2 ≤ a)) : supB a b = false := decide_eq_false h

set_option maxHeartbeats 400000 in
theorem superMayBe_any (a b : Int) (w : World) :
    Calls Try.prog 21 #[.agg #[.int .i64 a, .int .i64 b]] w fun e w' => e = .returned (.bool (supB a b)) ∧ Below w.heap.size w w' := by
  have hb : Below w.heap.size w (w.alloc (.cells #[.int .i64 a, .int .i64 b] 36)) := (Below.refl _ _).alloc (Nat.le_refl _) _
  by_cases h1 : a < 8
  · go_enter Try.func21, Try.ntmps21
    go_wp2
    go_ret
    exact ⟨ret_bool (supB_false (by omega)).symm, hb⟩
  · by_cases h2 : 4096 < a
    · go_enter Try.func21, Try.ntmps21
      go_wp2
      go_ret
      exact ⟨ret_bool (supB_false (by omega)).symm, hb⟩
    · by_cases h3 : 1 ≤ b
      · by_cases h4 : b ≤ 512
        · by_cases h5 : b + 2 ≤ a
          · go_enter Try.func21, Try.ntmps21
            go_wp2
            go_ret
            exact ⟨ret_bool (supB_true (by omega)).symm, hb⟩
          · go_enter Try.func21, Try.ntmps21
            go_wp2
            go_ret
            exact ⟨ret_bool (supB_false (by omega)).symm, hb⟩
        · go_enter Try.func21, Try.ntmps21
          go_wp2
          go_ret
          exact ⟨ret_bool (supB_false (by omega)).symm, hb⟩
      · go_enter Try.func21, Try.ntmps21
        go_wp2
        go_ret
        exact ⟨ret_bool (supB_false (by omega)).symm, hb⟩

end Go.Proofs.Ytmgkfifjcodhnaa
