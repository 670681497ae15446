/-
  The document's own answer (breakwaterref01) for fits, power and Get comes to the same plain functions.
-/
import Derived.Test.YtibneoajkbblaaaPlain2
import Derived.Test.YtibneoajkbblaaaKept
import Derived.Deep.CutRange
import Derived.Deep.DeepCutAuto
namespace Go.Proofs.Ytibneoajkbblaaa
open Go.RowKit

def rfit (p n : Int) : Bool := decide (0 ≤ p ∧ p ≤ 128 ∧ n ≤ 128 ∧ p + n ≤ 128)
theorem rfit_true {p n : Int} (h : 0 ≤ p ∧ p ≤ 128 ∧ n ≤ 128 ∧ p + n ≤ 128) : rfit p n = true := decide_eq_true h
theorem rfit_false {p n : Int} (h : ¬ (0 ≤ p ∧ p ≤ 128 ∧ n ≤ 128 ∧ p + n ≤ 128)) : rfit p n = false := decide_eq_false h

set_option maxHeartbeats 400000 in
theorem rfits_any (p n : Int) (w : World) (h0 : 0 ≤ n) :
    Calls Try.prog 35 #[.int .i64 p, .int .i64 n] w fun e w' => e = .returned (.bool (rfit p n)) ∧ w' = w := by
  by_cases h1 : 0 ≤ p
  · by_cases h2 : p ≤ 128
    · by_cases h3 : n ≤ 128
      · by_cases h4 : p + n ≤ 128
        · go_enter Try.func35, Try.ntmps35
          go_wp2
          go_ret
          exact ⟨ret_bool (rfit_true ⟨h1, h2, h3, h4⟩).symm, rfl⟩
        · go_enter Try.func35, Try.ntmps35
          go_wp2
          go_ret
          exact ⟨ret_bool (rfit_false (by omega)).symm, rfl⟩
      · go_enter Try.func35, Try.ntmps35
        go_wp2
        go_ret
        exact ⟨ret_bool (rfit_false (by omega)).symm, rfl⟩
    · go_enter Try.func35, Try.ntmps35
      go_wp2
      go_ret
      exact ⟨ret_bool (rfit_false (by omega)).symm, rfl⟩
  · go_enter Try.func35, Try.ntmps35
    go_wp2
    go_ret
    exact ⟨ret_bool (rfit_false (by omega)).symm, rfl⟩

theorem rfit_in (p n : Int) (h1 : 1 ≤ n) (h8 : n ≤ 8) : rfit p n = inB p n := by
  cases h : inB p n
  · have := of_decide_eq_false h
    exact rfit_false (by omega)
  · have := of_decide_eq_true h
    exact rfit_true (by omega)

theorem ret_int' {k : IntKind} {a b : Int} (h : a = b) : Ending.returned (.int k a) = .returned (.int k b) := by rw [h]

set_option maxHeartbeats 400000 in
theorem power_any (n : Int) (w : World) (h1 : 1 ≤ n) (h7 : n ≤ 7) :
    Calls Try.prog 36 #[.int .i64 n] w fun e w' => e = .returned (.int .i64 (pw n)) ∧ w' = w := by
  have c : n = 1 ∨ n = 2 ∨ n = 3 ∨ n = 4 ∨ n = 5 ∨ n = 6 ∨ n = 7 := by omega
  go_enter Try.func36, Try.ntmps36
  go_wp2
  go_loop [3, 4] (fun p i => ∃ k : Nat, (k : Int) ≤ n ∧ i = .int .i64 k ∧ p = .int .i64 (pw k)) (fun _ i => n.toNat - (intOf i).toNat)
  case atStart => exact ⟨0, by omega, rfl, rfl⟩
  case round =>
    obtain ⟨k, hk, rfl, rfl⟩ := hrel
    have hp0 : 0 ≤ pw k := Int.pow_nonneg (by decide)
    have hstep : pw ((k + 1 : Nat) : Int) = 256 * pw k := by
      unfold pw
      rw [Int.toNat_natCast, Int.toNat_natCast, Int.pow_succ, Int.mul_comm]
    by_cases hlt : (k : Int) < n
    · have hp1 : pw k ≤ 281474976710656 := by
        have h : pw (k : Int) ≤ 256 ^ 6 := by
          unfold pw
          rw [Int.toNat_natCast]
          have := Int.ofNat_le.2 (Nat.pow_le_pow_right (n := 256) (by decide) (show k ≤ 6 by omega))
          rw [Int.natCast_pow, Int.natCast_pow] at this
          exact this
        exact h
      have HS := hid hstep
      clear hstep c
      generalize pw (k : Int) = q at *
      go_wp2
      exact ⟨⟨k + 1, by omega, by go_num, by rw [HS.out]⟩, by simp [intOf]; omega⟩
    · have e : (k : Int) = n := by omega
      have E : Hid (pw (k : Int) = pw n) := by show _ = _; rw [e]
      clear hstep e c
      go_wp2
      go_ret
      exact ⟨ret_int' E.out, rfl⟩

end Go.Proofs.Ytibneoajkbblaaa
