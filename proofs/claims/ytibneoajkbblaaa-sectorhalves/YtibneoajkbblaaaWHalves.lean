/-
  SectorHalves returns true, for every sector, place and cut: the walk.
-/
import Derived.Test.YtibneoajkbblaaaWBack
namespace Go.Proofs.Ytibneoajkbblaaa
open Go.RowKit

theorem numAt_add (s : List Int) (p k : Nat) : ∀ m : Nat, numAt s p (k + m) = numAt s p k + numAt s (p + k) m * 256 ^ k
  | 0 => by simp [numAt]
  | m + 1 => by
    have ih := numAt_add s p k m
    rw [← Nat.add_assoc]
    simp only [numAt]
    rw [ih, Int.add_mul, Int.mul_assoc, Nat.add_assoc, Int.pow_add, Int.mul_comm (256 ^ k), Int.add_assoc]

theorem pow_mono {a b : Nat} (h : a ≤ b) : (256 : Int) ^ a ≤ 256 ^ b := by
  have := Int.ofNat_le.2 (Nat.pow_le_pow_right (n := 256) (by decide) h)
  rw [Int.natCast_pow, Int.natCast_pow] at this
  exact this

theorem get_small {s : List Int} (hs : IsSec s) {p n : Int} (h : inB p n = true) (h7 : n ≤ 7) : getN s p n = numAt s p.toNat n.toNat ∧ getE s p n = 0 := by
  have hb := numAt_bd hs p.toNat n.toNat
  have hp := pow_mono (show n.toNat ≤ 7 by omega)
  have ht : numAt s p.toNat n.toNat ≤ top := by rw [top_eq]; omega
  exact ⟨by rw [getN, if_pos ⟨h, ht⟩], by rw [getE, if_pos h, if_pos ht]⟩

theorem get_full {s : List Int} {p n : Int} (h : inB p n = true) (ht : numAt s p.toNat n.toNat ≤ 4611686018427387904) : getN s p n = numAt s p.toNat n.toNat ∧ getE s p n = 0 :=
  ⟨by rw [getN, if_pos ⟨h, ht⟩], by rw [getE, if_pos h, if_pos (show _ ≤ top from ht)]⟩
theorem get_great {s : List Int} {p n : Int} (h : inB p n = true) (ht : 4611686018427387904 < numAt s p.toNat n.toNat) : getN s p n = 0 ∧ getE s p n = 11 :=
  ⟨by rw [getN, if_neg fun k => by have := k.2; rw [top_eq] at this; omega], by rw [getE, if_pos h, if_neg fun k => by rw [top_eq] at k; omega]⟩

set_option maxRecDepth 100000 in
set_option maxHeartbeats 1000000 in
theorem halves_one (s : List Int) (a b x P : Int) (w : World) (hs : IsSec s) (hP : 0 ≤ P ∧ P ≤ 127)
    (HSP : Hid (∀ w, Calls Try.prog 20 #[.int .i64 a, .int .i64 b] w fun e w' => e = .returned (.tuple #[.int .i64 P, .int .i64 1]) ∧ w' = w)) :
    Calls Try.prog 7 #[.agg (SA s), .agg #[.int .i64 a, .int .i64 b], .int .i64 x] w fun e w' => e = .returned (.bool true) ∧ Below w.heap.size w w' := by
  have hin : inB P 1 = true := inB_true (by omega)
  have hg := get_small hs hin (by decide)
  have HG := hid fun w => get_any s P 1 w hs
  have hn : numAt s P.toNat (1 : Int).toNat = s.getD P.toNat 0 := by simp [numAt, show (1 : Int).toNat = 1 from rfl]
  rw [hg.1, hg.2, hn] at HG
  have hbd := hs.at P.toNat
  have HO : Hid (((w.alloc (.cells (SA s) 26)).alloc (.cells #[.int .i64 a, .int .i64 b] 42)).heap[w.heap.size]? = some (.cells (SA s) 26 (0, 0))) := heap_alloc2_old w _ _
  generalize hy : s.getD P.toNat 0 = y at *
  have HY := hid hy
  clear hg hn hy
  go_enter Try.func7, Try.ntmps7
  go_wp2_with (first | (go_at_call 20; refine (HSP.out _).mono ?_; rintro e w' ⟨rfl, rfl⟩) | refine load_sec rfl _ rfl w.heap.size rfl s hs.1 HO.out ?_)
  refine (HG.out _).mono ?_
  rintro e w1 ⟨rfl, hb1⟩
  have HS1 := kept_below hb1 HO (by simp)
  have hc := sec_cell HS1.out P.toNat (by rw [hs.1]; omega)
  rw [HY.out] at hc
  have b1 : Below w.heap.size w w1 := (((Below.refl _ _).alloc (Nat.le_refl _) _).alloc (by simp) _).trans (hb1.mono (by simp; omega))
  have z1 := b1.size
  clear hb1 HO HG HSP
  go_wp2_with (go_at_call 9; refine (known_any _).mono ?_; rintro e w6 ⟨rfl, hb6⟩)
  go_ret
  exact ⟨rfl, b1.trans (hb6.mono z1)⟩

set_option maxRecDepth 100000 in
set_option maxHeartbeats 1000000 in
theorem halves_1 (s : List Int) (a b x P W n e low high : Int) (w : World) (hs : IsSec s) (hP : 0 ≤ P ∧ P ≤ 128 - W) (hW : 1 < W ∧ W ≤ 8)
    (HSP : Hid (∀ w, Calls Try.prog 20 #[.int .i64 a, .int .i64 b] w fun e w' => e = .returned (.tuple #[.int .i64 P, .int .i64 W]) ∧ w' = w))
    (HPK : Hid (∀ w, Calls Try.prog 24 #[.int .i64 x, .int .i64 (W - 1)] w fun e w' => e = .returned (.int .i64 0) ∧ w' = w))
    (HG : Hid (∀ w, Calls Try.prog 23 #[.agg (SA s), .int .i64 P, .int .i64 W] w fun e' w' => e' = .returned (.tuple #[.int .i64 n, .int .i64 e]) ∧ Below w.heap.size w w'))
    (HL : Hid (∀ w, Calls Try.prog 23 #[.agg (SA s), .int .i64 P, .int .i64 1] w fun e' w' => e' = .returned (.tuple #[.int .i64 low, .int .i64 0]) ∧ Below w.heap.size w w'))
    (HH : Hid (∀ w, Calls Try.prog 23 #[.agg (SA s), .int .i64 (P + 1), .int .i64 (W - 1)] w fun e' w' => e' = .returned (.tuple #[.int .i64 high, .int .i64 0]) ∧ Below w.heap.size w w'))
    (hl : 0 ≤ low ∧ low < 256) (hh : 0 ≤ high ∧ high < 72057594037927936) (hc : (low + high * 256 ≤ 4611686018427387904 ∧ n = low + high * 256 ∧ e = 0) ∨ (4611686018427387904 < low + high * 256 ∧ n = 0 ∧ e = 11 ∧ W = 8)) :
    Calls Try.prog 7 #[.agg (SA s), .agg #[.int .i64 a, .int .i64 b], .int .i64 x] w fun e w' => e = .returned (.bool true) ∧ Below w.heap.size w w' := by
  have HO : Hid (((w.alloc (.cells (SA s) 26)).alloc (.cells #[.int .i64 a, .int .i64 b] 42)).heap[w.heap.size]? = some (.cells (SA s) 26 (0, 0))) := heap_alloc2_old w _ _
  have hW1 : (W == 1) = false := by simp; omega
  have HC := hid hc
  clear hc
  go_enter Try.func7, Try.ntmps7
  go_wp2_with (first | (go_at_call 20; refine (HSP.out _).mono ?_; rintro e w' ⟨rfl, rfl⟩) | refine load_sec rfl _ rfl w.heap.size rfl s hs.1 HO.out ?_)
  refine (HG.out _).mono ?_
  rintro e' w1 ⟨rfl, hb1⟩
  have HS1 := kept_below hb1 HO (by simp)
  have b1 : Below w.heap.size w w1 := (((Below.refl _ _).alloc (Nat.le_refl _) _).alloc (by simp) _).trans (hb1.mono (by simp; omega))
  have z1 : w.heap.size + 1 ≤ w1.heap.size := by have := hb1.size; simp at this; omega
  clear hb1 HO HG HSP
  go_wp2_with (first | (go_at_call 24; refine (HPK.out _).mono ?_; rintro e w' ⟨rfl, rfl⟩) | refine load_sec rfl _ rfl w.heap.size rfl s hs.1 HS1.out ?_)
  refine (HL.out _).mono ?_
  rintro e' w2 ⟨rfl, hb2⟩
  have HS2 := kept_below hb2 HS1 z1
  have b2 : Below w.heap.size w w2 := b1.trans (hb2.mono (by omega))
  have z2 : w.heap.size + 1 ≤ w2.heap.size := by have := hb2.size; omega
  clear hb2 HS1 HPK HL b1 z1
  go_wp2_with (refine load_sec rfl _ rfl w.heap.size rfl s hs.1 HS2.out ?_)
  refine (HH.out _).mono ?_
  rintro e' w3 ⟨rfl, hb3⟩
  have b3 : Below w.heap.size w w3 := b2.trans (hb3.mono (by omega))
  have z3 := b3.size
  clear hb3 HS2 HH b2 z2
  rcases HC.out with ⟨ht, rfl, rfl⟩ | ⟨ht, rfl, rfl, rfl⟩
  · by_cases h1 : high = 18014398509481984
    · have h2 : low = 0 := by omega
      subst h1 h2
      clear HC ht
      go_wp2_with (go_at_call 9; refine (known_any _).mono ?_; rintro e w6 ⟨rfl, hb6⟩)
      go_ret
      exact ⟨rfl, b3.trans (hb6.mono z3)⟩
    · have h2 : ¬ 18014398509481984 < high := by omega
      have h3 : (high == 18014398509481984) = false := by simp; exact h1
      clear h1 HC
      go_wp2_with (go_at_call 9; refine (known_any _).mono ?_; rintro e w6 ⟨rfl, hb6⟩)
      go_ret
      exact ⟨rfl, b3.trans (hb6.mono z3)⟩
  · by_cases h1 : 18014398509481984 < high
    · clear HC
      go_wp2_with (go_at_call 9; refine (known_any _).mono ?_; rintro e w6 ⟨rfl, hb6⟩)
      go_ret
      exact ⟨rfl, b3.trans (hb6.mono z3)⟩
    · have h3 : high = 18014398509481984 := by omega
      have h2 : 0 < low := by omega
      subst h3
      clear HC ht h1
      go_wp2_with (go_at_call 9; refine (known_any _).mono ?_; rintro e w6 ⟨rfl, hb6⟩)
      go_ret
      exact ⟨rfl, b3.trans (hb6.mono z3)⟩

set_option maxRecDepth 100000 in
set_option maxHeartbeats 1000000 in
theorem halves_2 (s : List Int) (a b x P W n e low high : Int) (w : World) (hs : IsSec s) (hP : 0 ≤ P ∧ P ≤ 128 - W) (hW : 2 < W ∧ W ≤ 8)
    (HSP : Hid (∀ w, Calls Try.prog 20 #[.int .i64 a, .int .i64 b] w fun e w' => e = .returned (.tuple #[.int .i64 P, .int .i64 W]) ∧ w' = w))
    (HPK : Hid (∀ w, Calls Try.prog 24 #[.int .i64 x, .int .i64 (W - 1)] w fun e w' => e = .returned (.int .i64 1) ∧ w' = w))
    (HG : Hid (∀ w, Calls Try.prog 23 #[.agg (SA s), .int .i64 P, .int .i64 W] w fun e' w' => e' = .returned (.tuple #[.int .i64 n, .int .i64 e]) ∧ Below w.heap.size w w'))
    (HL : Hid (∀ w, Calls Try.prog 23 #[.agg (SA s), .int .i64 P, .int .i64 2] w fun e' w' => e' = .returned (.tuple #[.int .i64 low, .int .i64 0]) ∧ Below w.heap.size w w'))
    (HH : Hid (∀ w, Calls Try.prog 23 #[.agg (SA s), .int .i64 (P + 2), .int .i64 (W - 2)] w fun e' w' => e' = .returned (.tuple #[.int .i64 high, .int .i64 0]) ∧ Below w.heap.size w w'))
    (hl : 0 ≤ low ∧ low < 65536) (hh : 0 ≤ high ∧ high < 281474976710656) (hc : (low + high * 65536 ≤ 4611686018427387904 ∧ n = low + high * 65536 ∧ e = 0) ∨ (4611686018427387904 < low + high * 65536 ∧ n = 0 ∧ e = 11 ∧ W = 8)) :
    Calls Try.prog 7 #[.agg (SA s), .agg #[.int .i64 a, .int .i64 b], .int .i64 x] w fun e w' => e = .returned (.bool true) ∧ Below w.heap.size w w' := by
  have HO : Hid (((w.alloc (.cells (SA s) 26)).alloc (.cells #[.int .i64 a, .int .i64 b] 42)).heap[w.heap.size]? = some (.cells (SA s) 26 (0, 0))) := heap_alloc2_old w _ _
  have hW1 : (W == 1) = false := by simp; omega
  have HC := hid hc
  clear hc
  go_enter Try.func7, Try.ntmps7
  go_wp2_with (first | (go_at_call 20; refine (HSP.out _).mono ?_; rintro e w' ⟨rfl, rfl⟩) | refine load_sec rfl _ rfl w.heap.size rfl s hs.1 HO.out ?_)
  refine (HG.out _).mono ?_
  rintro e' w1 ⟨rfl, hb1⟩
  have HS1 := kept_below hb1 HO (by simp)
  have b1 : Below w.heap.size w w1 := (((Below.refl _ _).alloc (Nat.le_refl _) _).alloc (by simp) _).trans (hb1.mono (by simp; omega))
  have z1 : w.heap.size + 1 ≤ w1.heap.size := by have := hb1.size; simp at this; omega
  clear hb1 HO HG HSP
  go_wp2_with (first | (go_at_call 24; refine (HPK.out _).mono ?_; rintro e w' ⟨rfl, rfl⟩) | refine load_sec rfl _ rfl w.heap.size rfl s hs.1 HS1.out ?_)
  refine (HL.out _).mono ?_
  rintro e' w2 ⟨rfl, hb2⟩
  have HS2 := kept_below hb2 HS1 z1
  have b2 : Below w.heap.size w w2 := b1.trans (hb2.mono (by omega))
  have z2 : w.heap.size + 1 ≤ w2.heap.size := by have := hb2.size; omega
  clear hb2 HS1 HPK HL b1 z1
  go_wp2_with (refine load_sec rfl _ rfl w.heap.size rfl s hs.1 HS2.out ?_)
  refine (HH.out _).mono ?_
  rintro e' w3 ⟨rfl, hb3⟩
  have b3 : Below w.heap.size w w3 := b2.trans (hb3.mono (by omega))
  have z3 := b3.size
  clear hb3 HS2 HH b2 z2
  rcases HC.out with ⟨ht, rfl, rfl⟩ | ⟨ht, rfl, rfl, rfl⟩
  · by_cases h1 : high = 70368744177664
    · have h2 : low = 0 := by omega
      subst h1 h2
      clear HC ht
      go_wp2_with (go_at_call 9; refine (known_any _).mono ?_; rintro e w6 ⟨rfl, hb6⟩)
      go_ret
      exact ⟨rfl, b3.trans (hb6.mono z3)⟩
    · have h2 : ¬ 70368744177664 < high := by omega
      have h3 : (high == 70368744177664) = false := by simp; exact h1
      clear h1 HC
      go_wp2_with (go_at_call 9; refine (known_any _).mono ?_; rintro e w6 ⟨rfl, hb6⟩)
      go_ret
      exact ⟨rfl, b3.trans (hb6.mono z3)⟩
  · by_cases h1 : 70368744177664 < high
    · clear HC
      go_wp2_with (go_at_call 9; refine (known_any _).mono ?_; rintro e w6 ⟨rfl, hb6⟩)
      go_ret
      exact ⟨rfl, b3.trans (hb6.mono z3)⟩
    · have h3 : high = 70368744177664 := by omega
      have h2 : 0 < low := by omega
      subst h3
      clear HC ht h1
      go_wp2_with (go_at_call 9; refine (known_any _).mono ?_; rintro e w6 ⟨rfl, hb6⟩)
      go_ret
      exact ⟨rfl, b3.trans (hb6.mono z3)⟩

set_option maxRecDepth 100000 in
set_option maxHeartbeats 1000000 in
theorem halves_3 (s : List Int) (a b x P W n e low high : Int) (w : World) (hs : IsSec s) (hP : 0 ≤ P ∧ P ≤ 128 - W) (hW : 3 < W ∧ W ≤ 8)
    (HSP : Hid (∀ w, Calls Try.prog 20 #[.int .i64 a, .int .i64 b] w fun e w' => e = .returned (.tuple #[.int .i64 P, .int .i64 W]) ∧ w' = w))
    (HPK : Hid (∀ w, Calls Try.prog 24 #[.int .i64 x, .int .i64 (W - 1)] w fun e w' => e = .returned (.int .i64 2) ∧ w' = w))
    (HG : Hid (∀ w, Calls Try.prog 23 #[.agg (SA s), .int .i64 P, .int .i64 W] w fun e' w' => e' = .returned (.tuple #[.int .i64 n, .int .i64 e]) ∧ Below w.heap.size w w'))
    (HL : Hid (∀ w, Calls Try.prog 23 #[.agg (SA s), .int .i64 P, .int .i64 3] w fun e' w' => e' = .returned (.tuple #[.int .i64 low, .int .i64 0]) ∧ Below w.heap.size w w'))
    (HH : Hid (∀ w, Calls Try.prog 23 #[.agg (SA s), .int .i64 (P + 3), .int .i64 (W - 3)] w fun e' w' => e' = .returned (.tuple #[.int .i64 high, .int .i64 0]) ∧ Below w.heap.size w w'))
    (hl : 0 ≤ low ∧ low < 16777216) (hh : 0 ≤ high ∧ high < 1099511627776) (hc : (low + high * 16777216 ≤ 4611686018427387904 ∧ n = low + high * 16777216 ∧ e = 0) ∨ (4611686018427387904 < low + high * 16777216 ∧ n = 0 ∧ e = 11 ∧ W = 8)) :
    Calls Try.prog 7 #[.agg (SA s), .agg #[.int .i64 a, .int .i64 b], .int .i64 x] w fun e w' => e = .returned (.bool true) ∧ Below w.heap.size w w' := by
  have HO : Hid (((w.alloc (.cells (SA s) 26)).alloc (.cells #[.int .i64 a, .int .i64 b] 42)).heap[w.heap.size]? = some (.cells (SA s) 26 (0, 0))) := heap_alloc2_old w _ _
  have hW1 : (W == 1) = false := by simp; omega
  have HC := hid hc
  clear hc
  go_enter Try.func7, Try.ntmps7
  go_wp2_with (first | (go_at_call 20; refine (HSP.out _).mono ?_; rintro e w' ⟨rfl, rfl⟩) | refine load_sec rfl _ rfl w.heap.size rfl s hs.1 HO.out ?_)
  refine (HG.out _).mono ?_
  rintro e' w1 ⟨rfl, hb1⟩
  have HS1 := kept_below hb1 HO (by simp)
  have b1 : Below w.heap.size w w1 := (((Below.refl _ _).alloc (Nat.le_refl _) _).alloc (by simp) _).trans (hb1.mono (by simp; omega))
  have z1 : w.heap.size + 1 ≤ w1.heap.size := by have := hb1.size; simp at this; omega
  clear hb1 HO HG HSP
  go_wp2_with (first | (go_at_call 24; refine (HPK.out _).mono ?_; rintro e w' ⟨rfl, rfl⟩) | refine load_sec rfl _ rfl w.heap.size rfl s hs.1 HS1.out ?_)
  refine (HL.out _).mono ?_
  rintro e' w2 ⟨rfl, hb2⟩
  have HS2 := kept_below hb2 HS1 z1
  have b2 : Below w.heap.size w w2 := b1.trans (hb2.mono (by omega))
  have z2 : w.heap.size + 1 ≤ w2.heap.size := by have := hb2.size; omega
  clear hb2 HS1 HPK HL b1 z1
  go_wp2_with (refine load_sec rfl _ rfl w.heap.size rfl s hs.1 HS2.out ?_)
  refine (HH.out _).mono ?_
  rintro e' w3 ⟨rfl, hb3⟩
  have b3 : Below w.heap.size w w3 := b2.trans (hb3.mono (by omega))
  have z3 := b3.size
  clear hb3 HS2 HH b2 z2
  rcases HC.out with ⟨ht, rfl, rfl⟩ | ⟨ht, rfl, rfl, rfl⟩
  · by_cases h1 : high = 274877906944
    · have h2 : low = 0 := by omega
      subst h1 h2
      clear HC ht
      go_wp2_with (go_at_call 9; refine (known_any _).mono ?_; rintro e w6 ⟨rfl, hb6⟩)
      go_ret
      exact ⟨rfl, b3.trans (hb6.mono z3)⟩
    · have h2 : ¬ 274877906944 < high := by omega
      have h3 : (high == 274877906944) = false := by simp; exact h1
      clear h1 HC
      go_wp2_with (go_at_call 9; refine (known_any _).mono ?_; rintro e w6 ⟨rfl, hb6⟩)
      go_ret
      exact ⟨rfl, b3.trans (hb6.mono z3)⟩
  · by_cases h1 : 274877906944 < high
    · clear HC
      go_wp2_with (go_at_call 9; refine (known_any _).mono ?_; rintro e w6 ⟨rfl, hb6⟩)
      go_ret
      exact ⟨rfl, b3.trans (hb6.mono z3)⟩
    · have h3 : high = 274877906944 := by omega
      have h2 : 0 < low := by omega
      subst h3
      clear HC ht h1
      go_wp2_with (go_at_call 9; refine (known_any _).mono ?_; rintro e w6 ⟨rfl, hb6⟩)
      go_ret
      exact ⟨rfl, b3.trans (hb6.mono z3)⟩

set_option maxRecDepth 100000 in
set_option maxHeartbeats 1000000 in
theorem halves_4 (s : List Int) (a b x P W n e low high : Int) (w : World) (hs : IsSec s) (hP : 0 ≤ P ∧ P ≤ 128 - W) (hW : 4 < W ∧ W ≤ 8)
    (HSP : Hid (∀ w, Calls Try.prog 20 #[.int .i64 a, .int .i64 b] w fun e w' => e = .returned (.tuple #[.int .i64 P, .int .i64 W]) ∧ w' = w))
    (HPK : Hid (∀ w, Calls Try.prog 24 #[.int .i64 x, .int .i64 (W - 1)] w fun e w' => e = .returned (.int .i64 3) ∧ w' = w))
    (HG : Hid (∀ w, Calls Try.prog 23 #[.agg (SA s), .int .i64 P, .int .i64 W] w fun e' w' => e' = .returned (.tuple #[.int .i64 n, .int .i64 e]) ∧ Below w.heap.size w w'))
    (HL : Hid (∀ w, Calls Try.prog 23 #[.agg (SA s), .int .i64 P, .int .i64 4] w fun e' w' => e' = .returned (.tuple #[.int .i64 low, .int .i64 0]) ∧ Below w.heap.size w w'))
    (HH : Hid (∀ w, Calls Try.prog 23 #[.agg (SA s), .int .i64 (P + 4), .int .i64 (W - 4)] w fun e' w' => e' = .returned (.tuple #[.int .i64 high, .int .i64 0]) ∧ Below w.heap.size w w'))
    (hl : 0 ≤ low ∧ low < 4294967296) (hh : 0 ≤ high ∧ high < 4294967296) (hc : (low + high * 4294967296 ≤ 4611686018427387904 ∧ n = low + high * 4294967296 ∧ e = 0) ∨ (4611686018427387904 < low + high * 4294967296 ∧ n = 0 ∧ e = 11 ∧ W = 8)) :
    Calls Try.prog 7 #[.agg (SA s), .agg #[.int .i64 a, .int .i64 b], .int .i64 x] w fun e w' => e = .returned (.bool true) ∧ Below w.heap.size w w' := by
  have HO : Hid (((w.alloc (.cells (SA s) 26)).alloc (.cells #[.int .i64 a, .int .i64 b] 42)).heap[w.heap.size]? = some (.cells (SA s) 26 (0, 0))) := heap_alloc2_old w _ _
  have hW1 : (W == 1) = false := by simp; omega
  have HC := hid hc
  clear hc
  go_enter Try.func7, Try.ntmps7
  go_wp2_with (first | (go_at_call 20; refine (HSP.out _).mono ?_; rintro e w' ⟨rfl, rfl⟩) | refine load_sec rfl _ rfl w.heap.size rfl s hs.1 HO.out ?_)
  refine (HG.out _).mono ?_
  rintro e' w1 ⟨rfl, hb1⟩
  have HS1 := kept_below hb1 HO (by simp)
  have b1 : Below w.heap.size w w1 := (((Below.refl _ _).alloc (Nat.le_refl _) _).alloc (by simp) _).trans (hb1.mono (by simp; omega))
  have z1 : w.heap.size + 1 ≤ w1.heap.size := by have := hb1.size; simp at this; omega
  clear hb1 HO HG HSP
  go_wp2_with (first | (go_at_call 24; refine (HPK.out _).mono ?_; rintro e w' ⟨rfl, rfl⟩) | refine load_sec rfl _ rfl w.heap.size rfl s hs.1 HS1.out ?_)
  refine (HL.out _).mono ?_
  rintro e' w2 ⟨rfl, hb2⟩
  have HS2 := kept_below hb2 HS1 z1
  have b2 : Below w.heap.size w w2 := b1.trans (hb2.mono (by omega))
  have z2 : w.heap.size + 1 ≤ w2.heap.size := by have := hb2.size; omega
  clear hb2 HS1 HPK HL b1 z1
  go_wp2_with (refine load_sec rfl _ rfl w.heap.size rfl s hs.1 HS2.out ?_)
  refine (HH.out _).mono ?_
  rintro e' w3 ⟨rfl, hb3⟩
  have b3 : Below w.heap.size w w3 := b2.trans (hb3.mono (by omega))
  have z3 := b3.size
  clear hb3 HS2 HH b2 z2
  rcases HC.out with ⟨ht, rfl, rfl⟩ | ⟨ht, rfl, rfl, rfl⟩
  · by_cases h1 : high = 1073741824
    · have h2 : low = 0 := by omega
      subst h1 h2
      clear HC ht
      go_wp2_with (go_at_call 9; refine (known_any _).mono ?_; rintro e w6 ⟨rfl, hb6⟩)
      go_ret
      exact ⟨rfl, b3.trans (hb6.mono z3)⟩
    · have h2 : ¬ 1073741824 < high := by omega
      have h3 : (high == 1073741824) = false := by simp; exact h1
      clear h1 HC
      go_wp2_with (go_at_call 9; refine (known_any _).mono ?_; rintro e w6 ⟨rfl, hb6⟩)
      go_ret
      exact ⟨rfl, b3.trans (hb6.mono z3)⟩
  · by_cases h1 : 1073741824 < high
    · clear HC
      go_wp2_with (go_at_call 9; refine (known_any _).mono ?_; rintro e w6 ⟨rfl, hb6⟩)
      go_ret
      exact ⟨rfl, b3.trans (hb6.mono z3)⟩
    · have h3 : high = 1073741824 := by omega
      have h2 : 0 < low := by omega
      subst h3
      clear HC ht h1
      go_wp2_with (go_at_call 9; refine (known_any _).mono ?_; rintro e w6 ⟨rfl, hb6⟩)
      go_ret
      exact ⟨rfl, b3.trans (hb6.mono z3)⟩

set_option maxRecDepth 100000 in
set_option maxHeartbeats 1000000 in
theorem halves_5 (s : List Int) (a b x P W n e low high : Int) (w : World) (hs : IsSec s) (hP : 0 ≤ P ∧ P ≤ 128 - W) (hW : 5 < W ∧ W ≤ 8)
    (HSP : Hid (∀ w, Calls Try.prog 20 #[.int .i64 a, .int .i64 b] w fun e w' => e = .returned (.tuple #[.int .i64 P, .int .i64 W]) ∧ w' = w))
    (HPK : Hid (∀ w, Calls Try.prog 24 #[.int .i64 x, .int .i64 (W - 1)] w fun e w' => e = .returned (.int .i64 4) ∧ w' = w))
    (HG : Hid (∀ w, Calls Try.prog 23 #[.agg (SA s), .int .i64 P, .int .i64 W] w fun e' w' => e' = .returned (.tuple #[.int .i64 n, .int .i64 e]) ∧ Below w.heap.size w w'))
    (HL : Hid (∀ w, Calls Try.prog 23 #[.agg (SA s), .int .i64 P, .int .i64 5] w fun e' w' => e' = .returned (.tuple #[.int .i64 low, .int .i64 0]) ∧ Below w.heap.size w w'))
    (HH : Hid (∀ w, Calls Try.prog 23 #[.agg (SA s), .int .i64 (P + 5), .int .i64 (W - 5)] w fun e' w' => e' = .returned (.tuple #[.int .i64 high, .int .i64 0]) ∧ Below w.heap.size w w'))
    (hl : 0 ≤ low ∧ low < 1099511627776) (hh : 0 ≤ high ∧ high < 16777216) (hc : (low + high * 1099511627776 ≤ 4611686018427387904 ∧ n = low + high * 1099511627776 ∧ e = 0) ∨ (4611686018427387904 < low + high * 1099511627776 ∧ n = 0 ∧ e = 11 ∧ W = 8)) :
    Calls Try.prog 7 #[.agg (SA s), .agg #[.int .i64 a, .int .i64 b], .int .i64 x] w fun e w' => e = .returned (.bool true) ∧ Below w.heap.size w w' := by
  have HO : Hid (((w.alloc (.cells (SA s) 26)).alloc (.cells #[.int .i64 a, .int .i64 b] 42)).heap[w.heap.size]? = some (.cells (SA s) 26 (0, 0))) := heap_alloc2_old w _ _
  have hW1 : (W == 1) = false := by simp; omega
  have HC := hid hc
  clear hc
  go_enter Try.func7, Try.ntmps7
  go_wp2_with (first | (go_at_call 20; refine (HSP.out _).mono ?_; rintro e w' ⟨rfl, rfl⟩) | refine load_sec rfl _ rfl w.heap.size rfl s hs.1 HO.out ?_)
  refine (HG.out _).mono ?_
  rintro e' w1 ⟨rfl, hb1⟩
  have HS1 := kept_below hb1 HO (by simp)
  have b1 : Below w.heap.size w w1 := (((Below.refl _ _).alloc (Nat.le_refl _) _).alloc (by simp) _).trans (hb1.mono (by simp; omega))
  have z1 : w.heap.size + 1 ≤ w1.heap.size := by have := hb1.size; simp at this; omega
  clear hb1 HO HG HSP
  go_wp2_with (first | (go_at_call 24; refine (HPK.out _).mono ?_; rintro e w' ⟨rfl, rfl⟩) | refine load_sec rfl _ rfl w.heap.size rfl s hs.1 HS1.out ?_)
  refine (HL.out _).mono ?_
  rintro e' w2 ⟨rfl, hb2⟩
  have HS2 := kept_below hb2 HS1 z1
  have b2 : Below w.heap.size w w2 := b1.trans (hb2.mono (by omega))
  have z2 : w.heap.size + 1 ≤ w2.heap.size := by have := hb2.size; omega
  clear hb2 HS1 HPK HL b1 z1
  go_wp2_with (refine load_sec rfl _ rfl w.heap.size rfl s hs.1 HS2.out ?_)
  refine (HH.out _).mono ?_
  rintro e' w3 ⟨rfl, hb3⟩
  have b3 : Below w.heap.size w w3 := b2.trans (hb3.mono (by omega))
  have z3 := b3.size
  clear hb3 HS2 HH b2 z2
  rcases HC.out with ⟨ht, rfl, rfl⟩ | ⟨ht, rfl, rfl, rfl⟩
  · by_cases h1 : high = 4194304
    · have h2 : low = 0 := by omega
      subst h1 h2
      clear HC ht
      go_wp2_with (go_at_call 9; refine (known_any _).mono ?_; rintro e w6 ⟨rfl, hb6⟩)
      go_ret
      exact ⟨rfl, b3.trans (hb6.mono z3)⟩
    · have h2 : ¬ 4194304 < high := by omega
      have h3 : (high == 4194304) = false := by simp; exact h1
      clear h1 HC
      go_wp2_with (go_at_call 9; refine (known_any _).mono ?_; rintro e w6 ⟨rfl, hb6⟩)
      go_ret
      exact ⟨rfl, b3.trans (hb6.mono z3)⟩
  · by_cases h1 : 4194304 < high
    · clear HC
      go_wp2_with (go_at_call 9; refine (known_any _).mono ?_; rintro e w6 ⟨rfl, hb6⟩)
      go_ret
      exact ⟨rfl, b3.trans (hb6.mono z3)⟩
    · have h3 : high = 4194304 := by omega
      have h2 : 0 < low := by omega
      subst h3
      clear HC ht h1
      go_wp2_with (go_at_call 9; refine (known_any _).mono ?_; rintro e w6 ⟨rfl, hb6⟩)
      go_ret
      exact ⟨rfl, b3.trans (hb6.mono z3)⟩

set_option maxRecDepth 100000 in
set_option maxHeartbeats 1000000 in
theorem halves_6 (s : List Int) (a b x P W n e low high : Int) (w : World) (hs : IsSec s) (hP : 0 ≤ P ∧ P ≤ 128 - W) (hW : 6 < W ∧ W ≤ 8)
    (HSP : Hid (∀ w, Calls Try.prog 20 #[.int .i64 a, .int .i64 b] w fun e w' => e = .returned (.tuple #[.int .i64 P, .int .i64 W]) ∧ w' = w))
    (HPK : Hid (∀ w, Calls Try.prog 24 #[.int .i64 x, .int .i64 (W - 1)] w fun e w' => e = .returned (.int .i64 5) ∧ w' = w))
    (HG : Hid (∀ w, Calls Try.prog 23 #[.agg (SA s), .int .i64 P, .int .i64 W] w fun e' w' => e' = .returned (.tuple #[.int .i64 n, .int .i64 e]) ∧ Below w.heap.size w w'))
    (HL : Hid (∀ w, Calls Try.prog 23 #[.agg (SA s), .int .i64 P, .int .i64 6] w fun e' w' => e' = .returned (.tuple #[.int .i64 low, .int .i64 0]) ∧ Below w.heap.size w w'))
    (HH : Hid (∀ w, Calls Try.prog 23 #[.agg (SA s), .int .i64 (P + 6), .int .i64 (W - 6)] w fun e' w' => e' = .returned (.tuple #[.int .i64 high, .int .i64 0]) ∧ Below w.heap.size w w'))
    (hl : 0 ≤ low ∧ low < 281474976710656) (hh : 0 ≤ high ∧ high < 65536) (hc : (low + high * 281474976710656 ≤ 4611686018427387904 ∧ n = low + high * 281474976710656 ∧ e = 0) ∨ (4611686018427387904 < low + high * 281474976710656 ∧ n = 0 ∧ e = 11 ∧ W = 8)) :
    Calls Try.prog 7 #[.agg (SA s), .agg #[.int .i64 a, .int .i64 b], .int .i64 x] w fun e w' => e = .returned (.bool true) ∧ Below w.heap.size w w' := by
  have HO : Hid (((w.alloc (.cells (SA s) 26)).alloc (.cells #[.int .i64 a, .int .i64 b] 42)).heap[w.heap.size]? = some (.cells (SA s) 26 (0, 0))) := heap_alloc2_old w _ _
  have hW1 : (W == 1) = false := by simp; omega
  have HC := hid hc
  clear hc
  go_enter Try.func7, Try.ntmps7
  go_wp2_with (first | (go_at_call 20; refine (HSP.out _).mono ?_; rintro e w' ⟨rfl, rfl⟩) | refine load_sec rfl _ rfl w.heap.size rfl s hs.1 HO.out ?_)
  refine (HG.out _).mono ?_
  rintro e' w1 ⟨rfl, hb1⟩
  have HS1 := kept_below hb1 HO (by simp)
  have b1 : Below w.heap.size w w1 := (((Below.refl _ _).alloc (Nat.le_refl _) _).alloc (by simp) _).trans (hb1.mono (by simp; omega))
  have z1 : w.heap.size + 1 ≤ w1.heap.size := by have := hb1.size; simp at this; omega
  clear hb1 HO HG HSP
  go_wp2_with (first | (go_at_call 24; refine (HPK.out _).mono ?_; rintro e w' ⟨rfl, rfl⟩) | refine load_sec rfl _ rfl w.heap.size rfl s hs.1 HS1.out ?_)
  refine (HL.out _).mono ?_
  rintro e' w2 ⟨rfl, hb2⟩
  have HS2 := kept_below hb2 HS1 z1
  have b2 : Below w.heap.size w w2 := b1.trans (hb2.mono (by omega))
  have z2 : w.heap.size + 1 ≤ w2.heap.size := by have := hb2.size; omega
  clear hb2 HS1 HPK HL b1 z1
  go_wp2_with (refine load_sec rfl _ rfl w.heap.size rfl s hs.1 HS2.out ?_)
  refine (HH.out _).mono ?_
  rintro e' w3 ⟨rfl, hb3⟩
  have b3 : Below w.heap.size w w3 := b2.trans (hb3.mono (by omega))
  have z3 := b3.size
  clear hb3 HS2 HH b2 z2
  rcases HC.out with ⟨ht, rfl, rfl⟩ | ⟨ht, rfl, rfl, rfl⟩
  · by_cases h1 : high = 16384
    · have h2 : low = 0 := by omega
      subst h1 h2
      clear HC ht
      go_wp2_with (go_at_call 9; refine (known_any _).mono ?_; rintro e w6 ⟨rfl, hb6⟩)
      go_ret
      exact ⟨rfl, b3.trans (hb6.mono z3)⟩
    · have h2 : ¬ 16384 < high := by omega
      have h3 : (high == 16384) = false := by simp; exact h1
      clear h1 HC
      go_wp2_with (go_at_call 9; refine (known_any _).mono ?_; rintro e w6 ⟨rfl, hb6⟩)
      go_ret
      exact ⟨rfl, b3.trans (hb6.mono z3)⟩
  · by_cases h1 : 16384 < high
    · clear HC
      go_wp2_with (go_at_call 9; refine (known_any _).mono ?_; rintro e w6 ⟨rfl, hb6⟩)
      go_ret
      exact ⟨rfl, b3.trans (hb6.mono z3)⟩
    · have h3 : high = 16384 := by omega
      have h2 : 0 < low := by omega
      subst h3
      clear HC ht h1
      go_wp2_with (go_at_call 9; refine (known_any _).mono ?_; rintro e w6 ⟨rfl, hb6⟩)
      go_ret
      exact ⟨rfl, b3.trans (hb6.mono z3)⟩

set_option maxRecDepth 100000 in
set_option maxHeartbeats 1000000 in
theorem halves_7 (s : List Int) (a b x P W n e low high : Int) (w : World) (hs : IsSec s) (hP : 0 ≤ P ∧ P ≤ 128 - W) (hW : 7 < W ∧ W ≤ 8)
    (HSP : Hid (∀ w, Calls Try.prog 20 #[.int .i64 a, .int .i64 b] w fun e w' => e = .returned (.tuple #[.int .i64 P, .int .i64 W]) ∧ w' = w))
    (HPK : Hid (∀ w, Calls Try.prog 24 #[.int .i64 x, .int .i64 (W - 1)] w fun e w' => e = .returned (.int .i64 6) ∧ w' = w))
    (HG : Hid (∀ w, Calls Try.prog 23 #[.agg (SA s), .int .i64 P, .int .i64 W] w fun e' w' => e' = .returned (.tuple #[.int .i64 n, .int .i64 e]) ∧ Below w.heap.size w w'))
    (HL : Hid (∀ w, Calls Try.prog 23 #[.agg (SA s), .int .i64 P, .int .i64 7] w fun e' w' => e' = .returned (.tuple #[.int .i64 low, .int .i64 0]) ∧ Below w.heap.size w w'))
    (HH : Hid (∀ w, Calls Try.prog 23 #[.agg (SA s), .int .i64 (P + 7), .int .i64 (W - 7)] w fun e' w' => e' = .returned (.tuple #[.int .i64 high, .int .i64 0]) ∧ Below w.heap.size w w'))
    (hl : 0 ≤ low ∧ low < 72057594037927936) (hh : 0 ≤ high ∧ high < 256) (hc : (low + high * 72057594037927936 ≤ 4611686018427387904 ∧ n = low + high * 72057594037927936 ∧ e = 0) ∨ (4611686018427387904 < low + high * 72057594037927936 ∧ n = 0 ∧ e = 11 ∧ W = 8)) :
    Calls Try.prog 7 #[.agg (SA s), .agg #[.int .i64 a, .int .i64 b], .int .i64 x] w fun e w' => e = .returned (.bool true) ∧ Below w.heap.size w w' := by
  have HO : Hid (((w.alloc (.cells (SA s) 26)).alloc (.cells #[.int .i64 a, .int .i64 b] 42)).heap[w.heap.size]? = some (.cells (SA s) 26 (0, 0))) := heap_alloc2_old w _ _
  have hW1 : (W == 1) = false := by simp; omega
  have HC := hid hc
  clear hc
  go_enter Try.func7, Try.ntmps7
  go_wp2_with (first | (go_at_call 20; refine (HSP.out _).mono ?_; rintro e w' ⟨rfl, rfl⟩) | refine load_sec rfl _ rfl w.heap.size rfl s hs.1 HO.out ?_)
  refine (HG.out _).mono ?_
  rintro e' w1 ⟨rfl, hb1⟩
  have HS1 := kept_below hb1 HO (by simp)
  have b1 : Below w.heap.size w w1 := (((Below.refl _ _).alloc (Nat.le_refl _) _).alloc (by simp) _).trans (hb1.mono (by simp; omega))
  have z1 : w.heap.size + 1 ≤ w1.heap.size := by have := hb1.size; simp at this; omega
  clear hb1 HO HG HSP
  go_wp2_with (first | (go_at_call 24; refine (HPK.out _).mono ?_; rintro e w' ⟨rfl, rfl⟩) | refine load_sec rfl _ rfl w.heap.size rfl s hs.1 HS1.out ?_)
  refine (HL.out _).mono ?_
  rintro e' w2 ⟨rfl, hb2⟩
  have HS2 := kept_below hb2 HS1 z1
  have b2 : Below w.heap.size w w2 := b1.trans (hb2.mono (by omega))
  have z2 : w.heap.size + 1 ≤ w2.heap.size := by have := hb2.size; omega
  clear hb2 HS1 HPK HL b1 z1
  go_wp2_with (refine load_sec rfl _ rfl w.heap.size rfl s hs.1 HS2.out ?_)
  refine (HH.out _).mono ?_
  rintro e' w3 ⟨rfl, hb3⟩
  have b3 : Below w.heap.size w w3 := b2.trans (hb3.mono (by omega))
  have z3 := b3.size
  clear hb3 HS2 HH b2 z2
  rcases HC.out with ⟨ht, rfl, rfl⟩ | ⟨ht, rfl, rfl, rfl⟩
  · by_cases h1 : high = 64
    · have h2 : low = 0 := by omega
      subst h1 h2
      clear HC ht
      go_wp2_with (go_at_call 9; refine (known_any _).mono ?_; rintro e w6 ⟨rfl, hb6⟩)
      go_ret
      exact ⟨rfl, b3.trans (hb6.mono z3)⟩
    · have h2 : ¬ 64 < high := by omega
      have h3 : (high == 64) = false := by simp; exact h1
      clear h1 HC
      go_wp2_with (go_at_call 9; refine (known_any _).mono ?_; rintro e w6 ⟨rfl, hb6⟩)
      go_ret
      exact ⟨rfl, b3.trans (hb6.mono z3)⟩
  · by_cases h1 : 64 < high
    · clear HC
      go_wp2_with (go_at_call 9; refine (known_any _).mono ?_; rintro e w6 ⟨rfl, hb6⟩)
      go_ret
      exact ⟨rfl, b3.trans (hb6.mono z3)⟩
    · have h3 : high = 64 := by omega
      have h2 : 0 < low := by omega
      subst h3
      clear HC ht h1
      go_wp2_with (go_at_call 9; refine (known_any _).mono ?_; rintro e w6 ⟨rfl, hb6⟩)
      go_ret
      exact ⟨rfl, b3.trans (hb6.mono z3)⟩

/-- The parts of a number, where it may be and where it may not. -/
theorem halves_fact {s : List Int} (hs : IsSec s) {P W : Int} (k : Int) (hP : 0 ≤ P ∧ P ≤ 128 - W) (hW : k < W ∧ W ≤ 8) (hk : 1 ≤ k) :
    ∃ n e low high : Int, (∀ w, Calls Try.prog 23 #[.agg (SA s), .int .i64 P, .int .i64 W] w fun e' w' => e' = .returned (.tuple #[.int .i64 n, .int .i64 e]) ∧ Below w.heap.size w w') ∧
      (∀ w, Calls Try.prog 23 #[.agg (SA s), .int .i64 P, .int .i64 k] w fun e' w' => e' = .returned (.tuple #[.int .i64 low, .int .i64 0]) ∧ Below w.heap.size w w') ∧
      (∀ w, Calls Try.prog 23 #[.agg (SA s), .int .i64 (P + k), .int .i64 (W - k)] w fun e' w' => e' = .returned (.tuple #[.int .i64 high, .int .i64 0]) ∧ Below w.heap.size w w') ∧
      (0 ≤ low ∧ low < 256 ^ k.toNat) ∧ (0 ≤ high ∧ high < 256 ^ (W - k).toNat) ∧
      ((low + high * 256 ^ k.toNat ≤ 4611686018427387904 ∧ n = low + high * 256 ^ k.toNat ∧ e = 0) ∨ (4611686018427387904 < low + high * 256 ^ k.toNat ∧ n = 0 ∧ e = 11 ∧ W = 8)) := by
  have h1 : inB P W = true := inB_true (by omega)
  have h2 : inB P k = true := inB_true (by omega)
  have h3 : inB (P + k) (W - k) = true := inB_true (by omega)
  have g2 := get_small hs h2 (by omega)
  have g3 := get_small hs h3 (by omega)
  have c1 := fun w => get_any s P W w hs
  have c2 := fun w => get_any s P k w hs
  have c3 := fun w => get_any s (P + k) (W - k) w hs
  rw [g2.1, g2.2] at c2
  rw [g3.1, g3.2] at c3
  have e := numAt_add s P.toNat k.toNat (W - k).toNat
  rw [show k.toNat + (W - k).toNat = W.toNat by omega, show P.toNat + k.toNat = (P + k).toNat by omega] at e
  refine ⟨_, _, _, _, c1, c2, c3, numAt_bd hs _ _, numAt_bd hs _ _, ?_⟩
  rw [← e]
  by_cases ht : numAt s P.toNat W.toNat ≤ 4611686018427387904
  · have g1 := get_full h1 ht
    exact .inl ⟨ht, g1.1, g1.2⟩
  · have g1 := get_great h1 (show 4611686018427387904 < numAt s P.toNat W.toNat by omega)
    refine .inr ⟨by omega, g1.1, g1.2, ?_⟩
    by_cases h8 : W = 8
    · exact h8
    · have hb := (numAt_bd hs P.toNat W.toNat).2
      have hp := pow_mono (show W.toNat ≤ 7 by omega)
      omega

theorem halves_walk (s : List Int) (a b x : Int) (w : World) (hs : IsSec s) (ha : I64 a) (hb : I64 b) (hx : I64 x) :
    Calls Try.prog 7 #[.agg (SA s), .agg #[.int .i64 a, .int .i64 b], .int .i64 x] w fun e w' => e = .returned (.bool true) ∧ Below w.heap.size w w' := by
  have HSP := hid fun w => spot_any a b w ha hb
  have hP := spP_bd a b
  have hW := spW_bd b
  generalize spP a b = P at *
  generalize spW b = W at *
  by_cases h1 : W = 1
  · subst h1
    exact halves_one s a b x P w hs (by omega) HSP
  · have HPK := hid fun w => pick_any x (W - 1) w hx (by omega) (by omega)
    have hpk := pickN_bd x (show 1 ≤ W - 1 by omega)
    generalize pickN x (W - 1) = j at *
    have c : j = 0 ∨ j = 1 ∨ j = 2 ∨ j = 3 ∨ j = 4 ∨ j = 5 ∨ j = 6 := by omega
    rcases c with rfl | rfl | rfl | rfl | rfl | rfl | rfl
    · obtain ⟨n, e, low, high, HG, HL, HH, hl, hh, hc⟩ := halves_fact hs 1 hP (by omega) (by decide)
      have hp := pow_mono (show (W - 1).toNat ≤ 7 by omega)
      exact halves_1 s a b x P W n e low high w hs hP (by omega) HSP HPK HG HL HH hl ⟨hh.1, Int.lt_of_lt_of_le hh.2 hp⟩ hc
    · obtain ⟨n, e, low, high, HG, HL, HH, hl, hh, hc⟩ := halves_fact hs 2 hP (by omega) (by decide)
      have hp := pow_mono (show (W - 2).toNat ≤ 6 by omega)
      exact halves_2 s a b x P W n e low high w hs hP (by omega) HSP HPK HG HL HH hl ⟨hh.1, Int.lt_of_lt_of_le hh.2 hp⟩ hc
    · obtain ⟨n, e, low, high, HG, HL, HH, hl, hh, hc⟩ := halves_fact hs 3 hP (by omega) (by decide)
      have hp := pow_mono (show (W - 3).toNat ≤ 5 by omega)
      exact halves_3 s a b x P W n e low high w hs hP (by omega) HSP HPK HG HL HH hl ⟨hh.1, Int.lt_of_lt_of_le hh.2 hp⟩ hc
    · obtain ⟨n, e, low, high, HG, HL, HH, hl, hh, hc⟩ := halves_fact hs 4 hP (by omega) (by decide)
      have hp := pow_mono (show (W - 4).toNat ≤ 4 by omega)
      exact halves_4 s a b x P W n e low high w hs hP (by omega) HSP HPK HG HL HH hl ⟨hh.1, Int.lt_of_lt_of_le hh.2 hp⟩ hc
    · obtain ⟨n, e, low, high, HG, HL, HH, hl, hh, hc⟩ := halves_fact hs 5 hP (by omega) (by decide)
      have hp := pow_mono (show (W - 5).toNat ≤ 3 by omega)
      exact halves_5 s a b x P W n e low high w hs hP (by omega) HSP HPK HG HL HH hl ⟨hh.1, Int.lt_of_lt_of_le hh.2 hp⟩ hc
    · obtain ⟨n, e, low, high, HG, HL, HH, hl, hh, hc⟩ := halves_fact hs 6 hP (by omega) (by decide)
      have hp := pow_mono (show (W - 6).toNat ≤ 2 by omega)
      exact halves_6 s a b x P W n e low high w hs hP (by omega) HSP HPK HG HL HH hl ⟨hh.1, Int.lt_of_lt_of_le hh.2 hp⟩ hc
    · obtain ⟨n, e, low, high, HG, HL, HH, hl, hh, hc⟩ := halves_fact hs 7 hP (by omega) (by decide)
      have hp := pow_mono (show (W - 7).toNat ≤ 1 by omega)
      exact halves_7 s a b x P W n e low high w hs hP (by omega) HSP HPK HG HL HH hl ⟨hh.1, Int.lt_of_lt_of_le hh.2 hp⟩ hc

end Go.Proofs.Ytibneoajkbblaaa
