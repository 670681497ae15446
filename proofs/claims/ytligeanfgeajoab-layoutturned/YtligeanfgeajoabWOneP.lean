/-
  Plain facts: a sector of pointers is laid as it stands; no first sector is read as an inode or a slot; of zeros.
-/
import Derived.Test.YtligeanfgeajoabLP2
import Derived.Test.YtligeanfgeajoabLI4
namespace Go.Proofs.Ytligeanfgeajoab
open Go.RowKit

theorem byte_of {s : List Int} (hs : IsSec s) (p m j : Nat) : numAt s p (j + (m + 1)) / 256 ^ j % 256 = s.getD (p + j) 0 := by
  have hb := numAt_bd hs p j
  have hx := hs.at (p + j)
  have hc : (256 : Int) ^ j ≠ 0 := by have : (0 : Int) < 256 ^ j := Int.pow_pos (by decide); omega
  rw [numAt_split, numAt_head, Int.add_mul_ediv_right _ _ hc, Int.ediv_eq_zero_of_lt hb.1 hb.2]
  omega
theorem ptrsTo_get (s : List Int) (n : Nat) (h : n < 32) : (ptrsTo s 32).getD n 0 = numAt s (4 * n) 4 := by
  simp [ptrsTo, h]
theorem layQ_step (x : List Int) (n : Nat) : layS (numsPtr x (n + 1)) = putN (layS (numsPtr x n)) (4 * n) (x.getD n 0) 4 := by
  rw [numsPtr_succ, layS_snoc]
  have e : (4 * (n : Int)).toNat = 4 * n := by omega
  show putN _ ((4 * (n : Int)).toNat) (x.getD n 0) 4 = _
  rw [e]
theorem lay_back {s : List Int} (hs : IsSec s) : ∀ n, n ≤ 32 → ∀ k, (layS (numsPtr (ptrsTo s 32) n)).getD k 0 = if k < 4 * n then s.getD k 0 else 0
  | 0, _, k => by
    have e : layS (numsPtr (ptrsTo s 32) 0) = Zs := rfl
    rw [e, if_neg (by omega)]
    simp only [Zs, List.getD_eq_getElem?_getD, List.getElem?_replicate]
    split <;> rfl
  | n + 1, hn, k => by
    have ih := lay_back hs n (by omega) k
    rw [layQ_step, putN_get _ _ _ _ (by rw [(layS_sec _).1]; omega), ptrsTo_get s n (by omega), ih]
    by_cases c : 4 * n ≤ k ∧ k < 4 * n + 4
    · rw [if_pos c, if_pos (by omega)]
      obtain ⟨j, rfl⟩ : ∃ j, k = 4 * n + j := ⟨k - 4 * n, by omega⟩
      have hj : j = 0 ∨ j = 1 ∨ j = 2 ∨ j = 3 := by omega
      rw [show 4 * n + j - 4 * n = j by omega]
      rcases hj with rfl | rfl | rfl | rfl
      · exact byte_of hs (4 * n) 3 0
      · exact byte_of hs (4 * n) 2 1
      · exact byte_of hs (4 * n) 1 2
      · exact byte_of hs (4 * n) 0 3
    · rw [if_neg c]
      by_cases d : k < 4 * n
      · rw [if_pos d, if_pos (by omega)]
      · rw [if_neg d, if_neg (by omega)]
theorem ptrs_lay {s : List Int} (hs : IsSec s) : ptrS (ptrsTo s 32) = s ∧ ptrE (ptrsTo s 32) = 0 := by
  have hB : ptrB (ptrsTo s 32) = true := ptrB_true fun i hi => by
    unfold okP
    rw [ptrsTo_get s i hi]
    have := numAt_bd hs (4 * i) 4
    have e : (256 : Int) ^ 4 = 4294967296 := by decide
    omega
  refine ⟨?_, by unfold ptrE; rw [if_pos hB]⟩
  unfold ptrS
  rw [if_pos hB]
  apply ext_getD (by rw [(layS_sec _).1, hs.1])
  intro k hk
  rw [(layS_sec _).1] at hk
  rw [lay_back hs 32 (by decide) k, if_pos (by omega)]

theorem sup_head {a b : Int} (h : supB a b = true) : ∀ i, i < 4 → (supS a b).getD i 0 = (putN Zs 0 1464554050 4).getD i 0 := by
  intro i hi
  have e : supS a b = putN (putN (putN Zs 0 1464554050 4) 4 a 4) 8 b 4 := by unfold supS; rw [if_pos h]; rfl
  have l0 : (putN Zs 0 1464554050 4).length = 128 := by rw [putN_len, Zs_len]
  rw [e, putN_get _ _ _ _ (by rw [putN_len, l0]; decide), if_neg (by omega), putN_get _ _ _ _ (by rw [l0]; decide), if_neg (by omega)]
theorem sup_no {a b : Int} (h : supB a b = true) : numAt (supS a b) 0 4 = 1464554050 ∧ numAt (supS a b) 0 1 = 66 := by
  have h0 := sup_head h 0 (by decide)
  have h1 := sup_head h 1 (by decide)
  have h2 := sup_head h 2 (by decide)
  have h3 := sup_head h 3 (by decide)
  rw [show (putN Zs 0 1464554050 4).getD 0 0 = 66 by decide] at h0
  rw [show (putN Zs 0 1464554050 4).getD 1 0 = 82 by decide] at h1
  rw [show (putN Zs 0 1464554050 4).getD 2 0 = 75 by decide] at h2
  rw [show (putN Zs 0 1464554050 4).getD 3 0 = 87 by decide] at h3
  constructor
  · simp only [numAt, Nat.zero_add, h0, h1, h2, h3]; decide
  · simp only [numAt, Nat.zero_add, h0]; decide
/-- A first sector is no inode's. -/
theorem sup_inode {a b : Int} (h : supB a b = true) : inoB (zTo (supS a b) 18) = false := by
  have hs := supS_sec a b
  have e : (zTo (supS a b) 18).getD 0 0 = 66 := by
    have e1 : (zTo (supS a b) 18).getD 0 0 = gv (supS a b) 0 := by simp [zTo]
    rw [e1]
    have e2 : gv (supS a b) 0 = numAt (supS a b) 0 1 := getV_small (P := 0) (L := 1) hs (by decide) (by decide) (by decide)
    rw [e2, (sup_no h).2]
  unfold inoB
  rw [e, if_neg (by decide), allB_false (m := 0) (by decide) (by rw [e]; decide)]
  rfl
/-- A first sector is no slot's. -/
theorem sup_slot {a b : Int} (h : supB a b = true) (M : ByteArray) : slotB (getV (supS a b) 0 4) M = false := by
  have hs := supS_sec a b
  have e2 : getV (supS a b) 0 4 = numAt (supS a b) 0 4 := getV_small (P := 0) (L := 4) hs (by decide) (by decide) (by decide)
  rw [e2, (sup_no h).1]
  unfold slotB
  rw [if_neg (by decide)]
  rfl

end Go.Proofs.Ytligeanfgeajoab
