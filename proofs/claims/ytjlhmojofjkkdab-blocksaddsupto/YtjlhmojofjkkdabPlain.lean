/-
  Plain facts on sectors as lists of bytes: what Get, Set, Zero, Splice, Wipe, Cut and Join come to, without any Go.
-/
import Derived.Test.YtjlhmojofjkkdabWalks1
-- may lack
namespace Go.Proofs.Ytjlhmojofjkkdab
open Go.RowKit

/-- The cells of a sector whose bytes are s. -/
def SA (s : List Int) : Array Value := (s.map (Value.int .u8)).toArray
def IsSec (s : List Int) : Prop := s.length = 128 ∧ ∀ x ∈ s, 0 ≤ x ∧ x ≤ 255
theorem SA_size (s : List Int) : (SA s).size = s.length := by simp [SA]
theorem SA_get (s : List Int) (j : Nat) (h : j < s.length) : (SA s)[j]? = some (.int .u8 (s.getD j 0)) := by
  simp [SA, h]
theorem IsSec.at {s : List Int} (h : IsSec s) (j : Nat) : 0 ≤ s.getD j 0 ∧ s.getD j 0 ≤ 255 := by
  by_cases hj : j < s.length
  · simp only [List.getD_eq_getElem?_getD, List.getElem?_eq_getElem hj, Option.getD_some]
    exact h.2 _ (List.getElem_mem hj)
  · simp [List.getD_eq_getElem?_getD, List.getElem?_eq_none (Nat.le_of_not_lt hj)]

theorem SA_cell (w : World) (t : TypeId) (s : List Int) (j : Nat) (h : j < s.length) : (w.alloc (.cells (SA s) t)).cell? ⟨w.heap.size, j, none⟩ = some (.int .u8 (s.getD j 0)) := by
  rw [cell_of_row _ _ _ (SA s) t (0, 0) (heap_alloc_new _ _)]
  exact SA_get s j h

def numAt (s : List Int) (p : Nat) : Nat → Int
  | 0 => 0
  | k + 1 => numAt s p k + s.getD (p + k) 0 * 256 ^ k

theorem nat_or_mul (a b k : Nat) (h : a < 2 ^ k) : a ||| b * 2 ^ k = a + b * 2 ^ k := by
  rw [Nat.mul_comm, Nat.or_comm, ← Nat.two_pow_add_eq_or_of_lt h, Nat.add_comm]

theorem pow_le8 {k : Nat} (h : k ≤ 7) : (256 : Nat) ^ k ≤ 72057594037927936 := Nat.le_trans (Nat.pow_le_pow_right (by decide) h) (by decide)

theorem or_step (v b : Int) (k : Nat) (hk : k ≤ 7) (hv0 : 0 ≤ v) (hv1 : v < 256 ^ k) (hb0 : 0 ≤ b) (hb1 : b ≤ 255) :
    bits .or .u64 v (IntKind.u64.wrap (IntKind.u64.wrap b * 2 ^ (8 * k))) = v + b * 256 ^ k := by
  obtain ⟨V, rfl⟩ := Int.eq_ofNat_of_zero_le hv0
  obtain ⟨B, rfl⟩ := Int.eq_ofNat_of_zero_le hb0
  have hp := pow_le8 hk
  have e2 : (2 : Nat) ^ (8 * k) = 256 ^ k := by rw [Nat.pow_mul]
  have hv : V < 256 ^ k := by
    have : ((V : Int)) < ((256 ^ k : Nat) : Int) := by rw [Int.natCast_pow]; exact hv1
    omega
  have hB : B ≤ 255 := by omega
  have hm : B * 256 ^ k ≤ 255 * 256 ^ k := Nat.mul_le_mul_right _ hB
  have e3 : ((B : Int)) * 2 ^ (8 * k) = ((B * 2 ^ (8 * k) : Nat) : Int) := by simp
  rw [IntWalk.u64_in (B : Int) (by omega), e3, e2, IntWalk.u64_in _ (by omega)]
  rw [u64_or_nat _ _ (by omega) (by omega), ← e2, nat_or_mul _ _ _ (by rw [e2]; exact hv), e2]
  simp

theorem numAt_bd {s : List Int} (hs : IsSec s) (p : Nat) : ∀ k : Nat, 0 ≤ numAt s p k ∧ numAt s p k < 256 ^ k
  | 0 => by simp [numAt]
  | k + 1 => by
    have ih := numAt_bd hs p k
    have hb := hs.at (p + k)
    have hp : (0 : Int) < 256 ^ k := Int.pow_pos (by decide)
    have e : (256 : Int) ^ (k + 1) = 256 ^ k * 256 := Int.pow_succ ..
    have hm : s.getD (p + k) 0 * 256 ^ k ≤ 255 * 256 ^ k := Int.mul_le_mul_of_nonneg_right hb.2 (by omega)
    have hz : 0 ≤ s.getD (p + k) 0 * 256 ^ k := Int.mul_nonneg hb.1 (by omega)
    simp only [numAt]
    omega

end Go.Proofs.Ytjlhmojofjkkdab
