/-
  The small helpers of package sector (within, fits) and of the statements (pick, spot, value) return what the plain functions of the text Plain say, for every input.
-/
import Derived.Test.YtjlhmojofjkkdabRows
import Derived.WalkKit
import Derived.WalkSpells
import Derived.WalkLawsBesides
import Derived.Deep.QuietTactic
import Derived.BigQuiet
-- may lack
namespace Go.Proofs.Ytjlhmojofjkkdab
open Go.RowKit

theorem hid {p : Prop} (h : p) : Hid p := h
def inB (p w : Int) : Bool := decide (1 ≤ w ∧ w ≤ 8 ∧ 0 ≤ p ∧ p ≤ 128 - w)
theorem inB_true {p w : Int} (h : 1 ≤ w ∧ w ≤ 8 ∧ 0 ≤ p ∧ p ≤ 128 - w) : inB p w = true := decide_eq_true h
theorem inB_false {p w : Int} (h : ¬ (1 ≤ w ∧ w ≤ 8 ∧ 0 ≤ p ∧ p ≤ 128 - w)) : inB p w = false := decide_eq_false h
theorem ret_bool {a b : Bool} (h : a = b) : Ending.returned (.bool a) = .returned (.bool b) := by rw [h]

set_option maxHeartbeats 400000 in
theorem within_any (p n : Int) (w : World) :
    Calls Try.prog 31 #[.int .i64 p, .int .i64 n] w fun e w' => e = .returned (.bool (inB p n)) ∧ w' = w := by
  by_cases h1 : n < 1
  · go_enter Try.func31, Try.ntmps31
    go_wp2
    go_ret
    exact ⟨ret_bool (inB_false (by omega)).symm, rfl⟩
  · by_cases h2 : 8 < n
    · go_enter Try.func31, Try.ntmps31
      go_wp2
      go_ret
      exact ⟨ret_bool (inB_false (by omega)).symm, rfl⟩
    · by_cases h3 : 0 ≤ p
      · by_cases h4 : p ≤ 128 - n
        · go_enter Try.func31, Try.ntmps31
          go_wp2
          go_ret
          exact ⟨ret_bool (inB_true (by omega)).symm, rfl⟩
        · go_enter Try.func31, Try.ntmps31
          go_wp2
          go_ret
          exact ⟨ret_bool (inB_false (by omega)).symm, rfl⟩
      · go_enter Try.func31, Try.ntmps31
        go_wp2
        go_ret
        exact ⟨ret_bool (inB_false (by omega)).symm, rfl⟩

def pw (n : Int) : Int := (256 : Int) ^ n.toNat
def top : Int := 4611686018427387904
def fitB (v n : Int) : Bool := decide (0 ≤ v ∧ v ≤ top ∧ v < pw n)
theorem fitB_true {v n : Int} (h : 0 ≤ v ∧ v ≤ top ∧ v < pw n) : fitB v n = true := decide_eq_true h
theorem fitB_false {v n : Int} (h : ¬ (0 ≤ v ∧ v ≤ top ∧ v < pw n)) : fitB v n = false := decide_eq_false h

theorem pw1 : pw 1 = 256 := rfl
theorem pw2 : pw 2 = 65536 := rfl
theorem pw3 : pw 3 = 16777216 := rfl
theorem pw4 : pw 4 = 4294967296 := rfl
theorem pw5 : pw 5 = 1099511627776 := rfl
theorem pw6 : pw 6 = 281474976710656 := rfl
theorem pw7 : pw 7 = 72057594037927936 := rfl
theorem pw8 : pw 8 = 18446744073709551616 := rfl
theorem top_eq : top = 4611686018427387904 := rfl

theorem fit_eq {v n m : Int} (h0 : 0 ≤ v) (h1 : v ≤ 4611686018427387904) (hm : pw n = m) : decide (v < m) = fitB v n := by
  unfold fitB
  rw [hm, top_eq]
  by_cases h : v < m
  · rw [decide_eq_true h, decide_eq_true ⟨h0, h1, h⟩]
  · rw [decide_eq_false h, decide_eq_false fun k => h k.2.2]

end Go.Proofs.Ytjlhmojofjkkdab
