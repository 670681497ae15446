/-
 Plain facts on sectors as lists of bytes: what Get, Set, Zero, Splice, Wipe, Cut and Join come to, without any Go.
-/
import Derived.Test.YtpmignilhoihnabGreatRows
import Derived.WalkKit
import Derived.WalkSpells
import Derived.WalkLawsBesides
import Derived.Deep.QuietTactic
import Derived.BigQuiet
namespace Go.Proofs.YtpmignilhoihnabGreat
open Go.RowKit

theorem hid {p : Prop} (h : p) : Hid p := h
def inB (p w : Int) : Bool := decide (1 ≤ w ∧ w ≤ 8 ∧ 0 ≤ p ∧ p ≤ 128 - w)
theorem inB_true {p w : Int} (h : 1 ≤ w ∧ w ≤ 8 ∧ 0 ≤ p ∧ p ≤ 128 - w) : inB p w = true := decide_eq_true h
theorem inB_false {p w : Int} (h : ¬ (1 ≤ w ∧ w ≤ 8 ∧ 0 ≤ p ∧ p ≤ 128 - w)) : inB p w = false := decide_eq_false h
theorem ret_bool {a b : Bool} (h : a = b) : Ending.returned (.bool a) = .returned (.bool b) := by rw [h]

set_option maxHeartbeats 400000 in
theorem within_any (p n : Int) (w : World) :
  Calls Tryz.prog 104 #[.int .i64 p, .int .i64 n] w fun e w' => e = .returned (.bool (inB p n)) ∧ w' = w := by
 by_cases h1 : n < 1
 ·go_enter Tryz.func104, Tryz.ntmps104
  go_wp2
  go_ret
  exact ⟨ret_bool (inB_false (by omega)).symm, rfl⟩
 ·by_cases h2 : 8 < n
  ·go_enter Tryz.func104, Tryz.ntmps104
   go_wp2
   go_ret
   exact ⟨ret_bool (inB_false (by omega)).symm, rfl⟩
  ·by_cases h3 : 0 ≤ p
   ·by_cases h4 : p ≤ 128 - n
    ·go_enter Tryz.func104, Tryz.ntmps104
     go_wp2
     go_ret
     exact ⟨ret_bool (inB_true (by omega)).symm, rfl⟩
    ·go_enter Tryz.func104, Tryz.ntmps104
     go_wp2
     go_ret
     exact ⟨ret_bool (inB_false (by omega)).symm, rfl⟩
   ·go_enter Tryz.func104, Tryz.ntmps104
    go_wp2
    go_ret
    exact ⟨ret_bool (inB_false (by omega)).symm, rfl⟩

def pw (n : Int) : Int := (256 : Int) ^ n.toNat
def top : Int := 4611686018427387904
def fitB (v n : Int) : Bool := decide (0 ≤ v ∧ v ≤ top ∧ v < pw n)
theorem fitB_true {v n : Int} (h : 0 ≤ v ∧ v ≤ top ∧ v < pw n) : fitB v n = true := decide_eq_true h
theorem fitB_false {v n : Int} (h : ¬ (0 ≤ v ∧ v ≤ top ∧ v < pw n)) : fitB v n = false := decide_eq_false h

theorem pw1 : pw 1 = 256 := rfl
theorem pw2 : pw 2 = 65536 := rfl
theorem pw3 : pw 3 = 16777216 := rfl
theorem pw4 : pw 4 = 4294967296 := rfl
theorem pw5 : pw 5 = 1099511627776 := rfl
theorem pw6 : pw 6 = 281474976710656 := rfl
theorem pw7 : pw 7 = 72057594037927936 := rfl
theorem pw8 : pw 8 = 18446744073709551616 := rfl
theorem top_eq : top = 4611686018427387904 := rfl

set_option maxHeartbeats 400000 in
theorem fits_lo (v n : Int) (w : World) (h : v < 0) :
  Calls Tryz.prog 106 #[.int .i64 v, .int .i64 n] w fun e w' => e = .returned (.bool (fitB v n)) ∧ w' = w := by
 go_enter Tryz.func106, Tryz.ntmps106
 go_wp2
 go_ret
 exact ⟨ret_bool (fitB_false (by omega)).symm, rfl⟩

set_option maxHeartbeats 400000 in
theorem fits_hi (v n : Int) (w : World) (h : 4611686018427387904 < v) :
  Calls Tryz.prog 106 #[.int .i64 v, .int .i64 n] w fun e w' => e = .returned (.bool (fitB v n)) ∧ w' = w := by
 go_enter Tryz.func106, Tryz.ntmps106
 go_wp2
 go_ret
 exact ⟨ret_bool (fitB_false (by rw [top_eq]; omega)).symm, rfl⟩

set_option maxHeartbeats 400000 in
theorem fits_mid8 (v : Int) (w : World) (h0 : 0 ≤ v) (h1 : v ≤ 4611686018427387904) :
  Calls Tryz.prog 106 #[.int .i64 v, .int .i64 8] w fun e w' => e = .returned (.bool (fitB v 8)) ∧ w' = w := by
 go_enter Tryz.func106, Tryz.ntmps106
 go_wp2
 go_ret
 exact ⟨ret_bool (fitB_true (by rw [top_eq, pw8]; omega)).symm, rfl⟩

theorem fit_eq {v n m : Int} (h0 : 0 ≤ v) (h1 : v ≤ 4611686018427387904) (hm : pw n = m) : decide (v < m) = fitB v n := by
 unfold fitB;rw [hm, top_eq]
 by_cases h : v < m
 ·rw [decide_eq_true h, decide_eq_true ⟨h0, h1, h⟩]
 ·rw [decide_eq_false h, decide_eq_false fun k => h k.2.2]

set_option maxHeartbeats 400000 in
theorem fits_mid1 (v : Int) (w : World) (h0 : 0 ≤ v) (h1 : v ≤ 4611686018427387904) :
  Calls Tryz.prog 106 #[.int .i64 v, .int .i64 1] w fun e w' => e = .returned (.bool (fitB v 1)) ∧ w' = w := by
 go_enter Tryz.func106, Tryz.ntmps106
 go_wp2
 go_ret
 exact ⟨ret_bool (fit_eq h0 h1 pw1), rfl⟩

set_option maxHeartbeats 400000 in
theorem fits_mid2 (v : Int) (w : World) (h0 : 0 ≤ v) (h1 : v ≤ 4611686018427387904) :
  Calls Tryz.prog 106 #[.int .i64 v, .int .i64 2] w fun e w' => e = .returned (.bool (fitB v 2)) ∧ w' = w := by
 go_enter Tryz.func106, Tryz.ntmps106
 go_wp2
 go_ret
 exact ⟨ret_bool (fit_eq h0 h1 pw2), rfl⟩

set_option maxHeartbeats 400000 in
theorem fits_mid3 (v : Int) (w : World) (h0 : 0 ≤ v) (h1 : v ≤ 4611686018427387904) :
  Calls Tryz.prog 106 #[.int .i64 v, .int .i64 3] w fun e w' => e = .returned (.bool (fitB v 3)) ∧ w' = w := by
 go_enter Tryz.func106, Tryz.ntmps106
 go_wp2
 go_ret
 exact ⟨ret_bool (fit_eq h0 h1 pw3), rfl⟩

set_option maxHeartbeats 400000 in
theorem fits_mid4 (v : Int) (w : World) (h0 : 0 ≤ v) (h1 : v ≤ 4611686018427387904) :
  Calls Tryz.prog 106 #[.int .i64 v, .int .i64 4] w fun e w' => e = .returned (.bool (fitB v 4)) ∧ w' = w := by
 go_enter Tryz.func106, Tryz.ntmps106
 go_wp2
 go_ret
 exact ⟨ret_bool (fit_eq h0 h1 pw4), rfl⟩

set_option maxHeartbeats 400000 in
theorem fits_mid5 (v : Int) (w : World) (h0 : 0 ≤ v) (h1 : v ≤ 4611686018427387904) :
  Calls Tryz.prog 106 #[.int .i64 v, .int .i64 5] w fun e w' => e = .returned (.bool (fitB v 5)) ∧ w' = w := by
 go_enter Tryz.func106, Tryz.ntmps106
 go_wp2
 go_ret
 exact ⟨ret_bool (fit_eq h0 h1 pw5), rfl⟩

set_option maxHeartbeats 400000 in
theorem fits_mid6 (v : Int) (w : World) (h0 : 0 ≤ v) (h1 : v ≤ 4611686018427387904) :
  Calls Tryz.prog 106 #[.int .i64 v, .int .i64 6] w fun e w' => e = .returned (.bool (fitB v 6)) ∧ w' = w := by
 go_enter Tryz.func106, Tryz.ntmps106
 go_wp2
 go_ret
 exact ⟨ret_bool (fit_eq h0 h1 pw6), rfl⟩

set_option maxHeartbeats 400000 in
theorem fits_mid7 (v : Int) (w : World) (h0 : 0 ≤ v) (h1 : v ≤ 4611686018427387904) :
  Calls Tryz.prog 106 #[.int .i64 v, .int .i64 7] w fun e w' => e = .returned (.bool (fitB v 7)) ∧ w' = w := by
 go_enter Tryz.func106, Tryz.ntmps106
 go_wp2
 go_ret
 exact ⟨ret_bool (fit_eq h0 h1 pw7), rfl⟩

theorem fits_any (v n : Int) (w : World) (h1 : 1 ≤ n) (h8 : n ≤ 8) :
  Calls Tryz.prog 106 #[.int .i64 v, .int .i64 n] w fun e w' => e = .returned (.bool (fitB v n)) ∧ w' = w := by
 by_cases a : v < 0
 ·exact fits_lo v n w a
 ·by_cases b : 4611686018427387904 < v
  ·exact fits_hi v n w b
  ·have a' : 0 ≤ v := by omega
   have b' : v ≤ 4611686018427387904 := by omega
   have c : n = 1 ∨ n = 2 ∨ n = 3 ∨ n = 4 ∨ n = 5 ∨ n = 6 ∨ n = 7 ∨ n = 8 := by omega
   rcases c with rfl | rfl | rfl | rfl | rfl | rfl | rfl | rfl
   ·exact fits_mid1 v w a' b'
   ·exact fits_mid2 v w a' b'
   ·exact fits_mid3 v w a' b'
   ·exact fits_mid4 v w a' b'
   ·exact fits_mid5 v w a' b'
   ·exact fits_mid6 v w a' b'
   ·exact fits_mid7 v w a' b'
   ·exact fits_mid8 v w a' b'

end Go.Proofs.YtpmignilhoihnabGreat

namespace Go.Proofs.YtpmignilhoihnabGreat
open Go.RowKit

def SA (s : List Int) : Array Value := (s.map (Value.int .u8)).toArray
def IsSec (s : List Int) : Prop := s.length = 128 ∧ ∀ x ∈ s, 0 ≤ x ∧ x ≤ 255
theorem SA_size (s : List Int) : (SA s).size = s.length := by simp [SA]
theorem SA_get (s : List Int) (j : Nat) (h : j < s.length) : (SA s)[j]? = some (.int .u8 (s.getD j 0)) := by
 simp [SA, h]
theorem IsSec.at {s : List Int} (h : IsSec s) (j : Nat) : 0 ≤ s.getD j 0 ∧ s.getD j 0 ≤ 255 := by
 by_cases hj : j < s.length
 ·simp only [List.getD_eq_getElem?_getD, List.getElem?_eq_getElem hj, Option.getD_some]
  exact h.2 _ (List.getElem_mem hj)
 ·simp [List.getD_eq_getElem?_getD, List.getElem?_eq_none (Nat.le_of_not_lt hj)]

theorem SA_cell (w : World) (t : TypeId) (s : List Int) (j : Nat) (h : j < s.length) : (w.alloc (.cells (SA s) t)).cell? ⟨w.heap.size, j, none⟩ = some (.int .u8 (s.getD j 0)) := by
 rw [cell_of_row _ _ _ (SA s) t (0, 0) (heap_alloc_new _ _)]
 exact SA_get s j h

def numAt (s : List Int) (p : Nat) : Nat → Int
 | 0 => 0
 | k + 1 => numAt s p k + s.getD (p + k) 0 * 256 ^ k

theorem nat_or_mul (a b k : Nat) (h : a < 2 ^ k) : a ||| b * 2 ^ k = a + b * 2 ^ k := by
 rw [Nat.mul_comm, Nat.or_comm, ← Nat.two_pow_add_eq_or_of_lt h, Nat.add_comm]

theorem pow_le8 {k : Nat} (h : k ≤ 7) : (256 : Nat) ^ k ≤ 72057594037927936 := Nat.le_trans (Nat.pow_le_pow_right (by decide) h) (by decide)

theorem or_step (v b : Int) (k : Nat) (hk : k ≤ 7) (hv0 : 0 ≤ v) (hv1 : v < 256 ^ k) (hb0 : 0 ≤ b) (hb1 : b ≤ 255) :
  bits .or .u64 v (IntKind.u64.wrap (IntKind.u64.wrap b * 2 ^ (8 * k))) = v + b * 256 ^ k := by
 obtain ⟨V, rfl⟩ := Int.eq_ofNat_of_zero_le hv0;obtain ⟨B, rfl⟩ := Int.eq_ofNat_of_zero_le hb0;have hp := pow_le8 hk
 have e2 : (2 : Nat) ^ (8 * k) = 256 ^ k := by rw [Nat.pow_mul]
 have hv : V < 256 ^ k := by
  have : ((V : Int)) < ((256 ^ k : Nat) : Int) := by rw [Int.natCast_pow]; exact hv1
  omega
 have hB : B ≤ 255 := by omega
 have hm : B * 256 ^ k ≤ 255 * 256 ^ k := Nat.mul_le_mul_right _ hB
 have e3 : ((B : Int)) * 2 ^ (8 * k) = ((B * 2 ^ (8 * k) : Nat) : Int) := by simp
 rw [IntWalk.u64_in (B : Int) (by omega), e3, e2, IntWalk.u64_in _ (by omega)];rw [u64_or_nat _ _ (by omega) (by omega), ← e2, nat_or_mul _ _ _ (by rw [e2]; exact hv), e2]
 simp

theorem numAt_bd {s : List Int} (hs : IsSec s) (p : Nat) : ∀ k : Nat, 0 ≤ numAt s p k ∧ numAt s p k < 256 ^ k
 | 0 => by simp [numAt]
 | k + 1 => by
  have ih := numAt_bd hs p k;have hb := hs.at (p + k);have hp : (0 : Int) < 256 ^ k := Int.pow_pos (by decide);have e : (256 : Int) ^ (k + 1) = 256 ^ k * 256 := Int.pow_succ ..;have hm : s.getD (p + k) 0 * 256 ^ k ≤ 255 * 256 ^ k := Int.mul_le_mul_of_nonneg_right hb.2 (by omega);have hz : 0 ≤ s.getD (p + k) 0 * 256 ^ k := Int.mul_nonneg hb.1 (by omega)
  simp only [numAt]
  omega

end Go.Proofs.YtpmignilhoihnabGreat
