/-
  The document's lay and says (layer 6): a number by bytes, put and read.
-/
import Derived.Test.YtligeanfgeajoabLR
namespace Go.Proofs.Ytligeanfgeajoab
open Go.RowKit
-- may lack

def wiB (n a b : Int) : Bool := decide (a ≤ n ∧ n ≤ b)
theorem wiB_true {n a b : Int} (h : a ≤ n ∧ n ≤ b) : wiB n a b = true := decide_eq_true h
theorem wiB_false {n a b : Int} (h : ¬ (a ≤ n ∧ n ≤ b)) : wiB n a b = false := decide_eq_false h
theorem div_step (v : Int) (k : Nat) : v / 256 ^ k / 256 = v / 256 ^ (k + 1) := by
  rw [Int.ediv_ediv_of_nonneg (Int.le_of_lt (Int.pow_pos (by decide))), Int.pow_succ]

theorem numAt_split (s : List Int) (p k : Nat) : ∀ m : Nat, numAt s p (k + m) = numAt s p k + numAt s (p + k) m * 256 ^ k
  | 0 => by simp [numAt]
  | m + 1 => by
    rw [← Nat.add_assoc]
    simp only [numAt]
    rw [numAt_split s p k m, Int.add_mul, Int.pow_add, ← Nat.add_assoc, Int.mul_assoc, Int.mul_comm (256 ^ m) (256 ^ k), Int.add_assoc]
theorem numAt_head (s : List Int) (p m : Nat) : numAt s p (m + 1) = numAt s (p + 1) m * 256 + s.getD p 0 := by
  have h := numAt_split s p 1 m
  rw [Nat.add_comm 1 m] at h
  rw [h]
  simp only [numAt, Int.pow_zero, Int.pow_one, Nat.add_zero, Int.mul_one, Int.zero_add]
  omega

/-- What says comes to. -/
def sayV (s : List Int) (p n : Int) : Int := if n = 8 ∧ s.getD (p.toNat + 7) 0 ≠ 0 then -1 else numAt s p.toNat n.toNat

theorem numAt_le56 {s : List Int} (hs : IsSec s) {P L : Nat} (hL : L ≤ 8) (h : ¬ (L = 8 ∧ s.getD (P + 7) 0 ≠ 0)) : numAt s P L < 72057594037927936 := by
  by_cases h8 : L = 8
  · subst h8
    have h0 : s.getD (P + 7) 0 = 0 := by
      by_cases e : s.getD (P + 7) 0 = 0
      · exact e
      · exact absurd ⟨rfl, e⟩ h
    have := (numAt_bd hs P 7).2
    rw [show (8 : Nat) = 7 + 1 from rfl, numAt, h0]
    omega
  · have hb := (numAt_bd hs P L).2
    have : (256 : Int) ^ L ≤ 256 ^ 7 := by
      have := Nat.pow_le_pow_right (n := 256) (by decide) (show L ≤ 7 by omega)
      have e := Int.ofNat_le.2 this
      simpa [Int.natCast_pow] using e
    have e7 : (256 : Int) ^ 7 = 72057594037927936 := by decide
    omega

end Go.Proofs.Ytligeanfgeajoab
