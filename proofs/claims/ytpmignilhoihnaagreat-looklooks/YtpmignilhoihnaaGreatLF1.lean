/-
 The document's lay and says (layer 6): a number by bytes, put and read.
-/
import Derived.Test.YtpmignilhoihnaaGreatLR
namespace Go.Proofs.YtpmignilhoihnaaGreat
open Go.RowKit
-- may lack

def wiB (n a b : Int) : Bool := decide (a ≤ n ∧ n ≤ b)
theorem wiB_true {n a b : Int} (h : a ≤ n ∧ n ≤ b) : wiB n a b = true := decide_eq_true h
theorem wiB_false {n a b : Int} (h : ¬ (a ≤ n ∧ n ≤ b)) : wiB n a b = false := decide_eq_false h
set_option maxHeartbeats 400000 in
theorem rwithin_any (n a b : Int) (w : World) : Calls Tryz.prog 69 #[.int .i64 n, .int .i64 a, .int .i64 b] w fun e w' => e = .returned (.bool (wiB n a b)) ∧ w' = w := by
 by_cases h1 : a ≤ n
 ·by_cases h2 : n ≤ b
  ·go_enter Tryz.func69, Tryz.ntmps69
   go_wp2
   go_ret
   exact ⟨ret_bool (wiB_true ⟨h1, h2⟩).symm, rfl⟩
  ·go_enter Tryz.func69, Tryz.ntmps69
   go_wp2
   go_ret
   exact ⟨ret_bool (wiB_false (by omega)).symm, rfl⟩
 ·go_enter Tryz.func69, Tryz.ntmps69
  go_wp2
  go_ret
  exact ⟨ret_bool (wiB_false (by omega)).symm, rfl⟩

theorem div_step (v : Int) (k : Nat) : v / 256 ^ k / 256 = v / 256 ^ (k + 1) := by
 rw [Int.ediv_ediv_of_nonneg (Int.le_of_lt (Int.pow_pos (by decide))), Int.pow_succ]

set_option maxRecDepth 100000 in
set_option maxHeartbeats 1000000 in
theorem rlay_any (s : List Int) (P L : Nat) (v : Int) (w : World) (hs : s.length = 128) (h : P + L ≤ 128) (hv : 0 ≤ v) (hv2 : v ≤ 9223372036854775807) :
  Calls Tryz.prog 63 #[.agg (SA s), .int .i64 (P : Int), .int .i64 (L : Int), .int .i64 v] w fun e w' => e = .returned (.agg (SA (putN s P v L))) ∧ Below w.heap.size w w' := by
 have hz := zero_sec;have hn : ((w.alloc (.cells (SA s) 33)).alloc (.cells (SA Zs) 33)).heap[w.heap.size + 1]? = some (.cells (SA Zs) 33 (0, 0)) := heap_alloc2_new w _ _;have ho : ((w.alloc (.cells (SA s) 33)).alloc (.cells (SA Zs) 33)).heap[w.heap.size]? = some (.cells (SA s) 33 (0, 0)) := heap_alloc2_old w _ _;have hb : Below w.heap.size w ((w.alloc (.cells (SA s) 33)).alloc (.cells (SA Zs) 33)) := ((Below.refl _ _).alloc (Nat.le_refl _) _).alloc (by simp) _
 go_enter Tryz.func63, Tryz.ntmps63
 go_wp2
 go_loopw [9, 10] (fun x i wr => ∃ k : Nat, k ≤ L ∧ i = .int .i64 k ∧ x = .int .i64 (v / 256 ^ k) ∧ wr.heap[w.heap.size]? = some (.cells (SA (putN s P v k)) 33 (0, 0)) ∧ wr.heap[w.heap.size + 1]? = some (.cells (SA Zs) 33 (0, 0)) ∧ Below w.heap.size w wr) (fun _ i _ => L - (intOf i).toNat)
 case atStart => exact ⟨0, by omega, rfl, by simp, ho, hn, hb⟩
 case round =>
  obtain ⟨k, hk, rfl, rfl, h1, h2, h3⟩ := hrel;have hx0 : 0 ≤ v / 256 ^ k := Int.ediv_nonneg hv (Int.le_of_lt (Int.pow_pos (by decide)));have hx1 : v / 256 ^ k ≤ v := Int.ediv_le_self _ hv
  by_cases hlt : k < L
  ·have hc := sec_cell h1 (P + k) (by rw [putN_len]; omega)
   have hf := sec_free h1 (P + k)
   have hq : (P : Int) + (k : Int) < 128 := by omega
   have H1 : Hid (wr.heap[w.heap.size]? = some (.cells (SA (putN s P v k)) 33 (0, 0))) := h1;have e9 := div_step v k;have hm0 : 0 ≤ v / 256 ^ k % 256 := Int.emod_nonneg _ (by decide);have hm1 : v / 256 ^ k % 256 < 256 := Int.emod_lt_of_pos _ (by decide);clear h1
   generalize hX : v / 256 ^ k = X at *
   go_wp2
   have hw := sec_setCell H1.out (P + k) (X % 256)
   have e1 : (putN s P v k).set (P + k) (X % 256) = putN s P v (k + 1) := by rw [← hX]; rfl
   rw [e1] at hw
   exact ⟨⟨k + 1, by omega, by go_num, by rw [e9], hw.here, by rw [hw.other _ (by omega)]; exact h2, hw.below h3 (by omega)⟩, by simp [intOf]; omega⟩
  ·have hlen : (putN s P v k).length = 128 := by rw [putN_len, hs]
   have e : k = L := by omega
   have H1 := hid h1;have H2 := hid h2;clear h1 h2
   generalize v / 256 ^ k = X at *
   go_wp2_with (first | refine load_sec rfl _ rfl w.heap.size rfl (putN s P v k) hlen H1.out ?_ | (refine store_sec rfl _ _ rfl (w.heap.size + 1) rfl (putN s P v k) rfl hlen Zs Zs_len H2.out ?_; intro w2 hw2))
   subst e
   exact bodyPost_ret (v := .agg (SA (putN s P v k))) (results_sec1 Tryz.results63 _ _ (w.heap.size + 1) _ hlen rfl hw2.here) rfl ⟨rfl, hw2.below h3 (by omega)⟩

theorem numAt_split (s : List Int) (p k : Nat) : ∀ m : Nat, numAt s p (k + m) = numAt s p k + numAt s (p + k) m * 256 ^ k
 | 0 => by simp [numAt]
 | m + 1 => by
  rw [← Nat.add_assoc]
  simp only [numAt]
  rw [numAt_split s p k m, Int.add_mul, Int.pow_add, ← Nat.add_assoc, Int.mul_assoc, Int.mul_comm (256 ^ m) (256 ^ k), Int.add_assoc]
theorem numAt_head (s : List Int) (p m : Nat) : numAt s p (m + 1) = numAt s (p + 1) m * 256 + s.getD p 0 := by
 have h := numAt_split s p 1 m;rw [Nat.add_comm 1 m] at h;rw [h]
 simp only [numAt, Int.pow_zero, Int.pow_one, Nat.add_zero, Int.mul_one, Int.zero_add]
 omega

def sayV (s : List Int) (p n : Int) : Int := if n = 8 ∧ s.getD (p.toNat + 7) 0 ≠ 0 then -1 else numAt s p.toNat n.toNat

theorem numAt_le56 {s : List Int} (hs : IsSec s) {P L : Nat} (hL : L ≤ 8) (h : ¬ (L = 8 ∧ s.getD (P + 7) 0 ≠ 0)) : numAt s P L < 72057594037927936 := by
 by_cases h8 : L = 8
 ·subst h8
  have h0 : s.getD (P + 7) 0 = 0 := by
   by_cases e : s.getD (P + 7) 0 = 0
   ·exact e
   ·exact absurd ⟨rfl, e⟩ h
  have := (numAt_bd hs P 7).2;rw [show (8 : Nat) = 7 + 1 from rfl, numAt, h0]
  omega
 ·have hb := (numAt_bd hs P L).2
  have : (256 : Int) ^ L ≤ 256 ^ 7 := by
   have := Nat.pow_le_pow_right (n := 256) (by decide) (show L ≤ 7 by omega);have e := Int.ofNat_le.2 this
   simpa [Int.natCast_pow] using e
  have e7 : (256 : Int) ^ 7 = 72057594037927936 := by decide
  omega

set_option maxRecDepth 100000 in
set_option maxHeartbeats 1000000 in
theorem says_go (s : List Int) (P L : Nat) (w : World) (hs : IsSec s) (h : P + L ≤ 128) (hL : L ≤ 8) (hgo : ¬ (L = 8 ∧ s.getD (P + 7) 0 ≠ 0)) :
  Calls Tryz.prog 37 #[.agg (SA s), .int .i64 (P : Int), .int .i64 (L : Int)] w fun e w' => e = .returned (.int .i64 (numAt s P L)) ∧ Below w.heap.size w w' := by
 have hn : (w.alloc (.cells (SA s) 33)).heap[w.heap.size]? = some (.cells (SA s) 33 (0, 0)) := heap_alloc_new _ _;have hb : Below w.heap.size w (w.alloc (.cells (SA s) 33)) := (Below.refl _ _).alloc (Nat.le_refl _) _;have htop := numAt_le56 hs hL hgo;have HN := hid hn;have HG := hid hgo;have hlen := hs.1;clear hn hgo
 go_enter Tryz.func37, Tryz.ntmps37
 go_wp2
 go_loop [7, 8] (fun n i => ∃ k m : Nat, k + m = L ∧ i = .int .i64 ((k : Int) - 1) ∧ n = .int .i64 (numAt s (P + k) m)) (fun _ i => (intOf i + 1).toNat)
 case atStart => exact ⟨L, 0, by omega, by go_num, by simp [numAt]⟩
 case round =>
  obtain ⟨k, m, hkm, rfl, rfl⟩ := hrel;have hbd := (numAt_bd hs (P + k) m).1
  by_cases h0 : k = 0
  ·subst h0
   have e : m = L := by omega
   subst e
   generalize hX : numAt s (P + 0) m = X at *
   go_wp2
   go_ret
   exact ⟨by rw [← hX]; rfl, hb⟩
  ·obtain ⟨k, rfl⟩ : ∃ j, k = j + 1 := ⟨k - 1, by omega⟩
   have e1 : (((k + 1 : Nat) : Int) - 1) = (k : Int) := by omega
   have hc := sec_cell HN.out (P + k) (by omega);have hbt := hs.at (P + k);have hsp := numAt_split s P k (m + 1);have hhd := numAt_head s (P + k) m
   have hle : numAt s (P + k) (m + 1) ≤ numAt s P (k + (m + 1)) := by
    have h1 := (numAt_bd hs P k).1;have h2 := (numAt_bd hs (P + k) (m + 1)).1;have h3 : (1 : Int) ≤ 256 ^ k := Int.pow_pos (by decide);have h4 : numAt s (P + k) (m + 1) * 1 ≤ numAt s (P + k) (m + 1) * 256 ^ k := Int.mul_le_mul_of_nonneg_left h3 h2
    omega
   have hL' : k + (m + 1) = L := by omega
   rw [hL'] at hle
   have hq : (P : Int) + (k : Int) < 128 := by omega
   have HH := hid hhd
   have hX0 : P + (k + 1) = P + k + 1 := by omega
   rw [hX0] at *
   have hX1 : numAt s (P + k + 1) m * 256 + s.getD (P + k) 0 ≤ 72057594037927936 := by omega
   clear hhd hsp hle;rw [e1]
   generalize hX : numAt s (P + k + 1) m = X at *
   generalize hY : s.getD (P + k) 0 = Y at *
   by_cases h7 : k = 7
   ·have hY0 : Y = 0 := by
     by_cases e : Y = 0
     ·exact e
     ·exact absurd ⟨by omega, by subst h7; rw [hY]; exact e⟩ HG.out
    subst h7 hY0
    go_wp2
    exact ⟨⟨7, m + 1, hL', by go_num, by rw [HH.out]; simp⟩, by simp [intOf]⟩
   ·have h7' : ((k : Int) == 7) = false := by simp; omega
    go_wp2
    exact ⟨⟨k, m + 1, hL', rfl, by rw [HH.out]⟩, by simp [intOf]⟩

set_option maxRecDepth 100000 in
set_option maxHeartbeats 1000000 in
theorem says_not (s : List Int) (P : Nat) (w : World) (hs : IsSec s) (h : P + 8 ≤ 128) (hno : s.getD (P + 7) 0 ≠ 0) :
  Calls Tryz.prog 37 #[.agg (SA s), .int .i64 (P : Int), .int .i64 8] w fun e w' => e = .returned (.int .i64 (-1)) ∧ Below w.heap.size w w' := by
 have hn : (w.alloc (.cells (SA s) 33)).heap[w.heap.size]? = some (.cells (SA s) 33 (0, 0)) := heap_alloc_new _ _;have hb : Below w.heap.size w (w.alloc (.cells (SA s) 33)) := (Below.refl _ _).alloc (Nat.le_refl _) _;have hlen := hs.1;have hc := sec_cell hn (P + 7) (by omega);have hbt := hs.at (P + 7)
 have hq : (P : Int) + 7 < 128 := by omega
 generalize hY : s.getD (P + 7) 0 = Y at *
 have hy : (Y != 0) = true := by simp [hno]
 clear hn
 go_enter Tryz.func37, Tryz.ntmps37
 go_wp2
 go_loop [7, 8] (fun n i => i = .int .i64 7 ∧ n = .int .i64 0) (fun _ i => 0)
 case atStart => exact ⟨rfl, rfl⟩
 case round =>
  obtain ⟨rfl, rfl⟩ := hrel
  go_wp2
  go_ret
  exact ⟨rfl, hb⟩

theorem says_any (s : List Int) (p n : Int) (w : World) (hs : IsSec s) (h1 : 1 ≤ n) (h2 : n ≤ 8) (h3 : 0 ≤ p) (h4 : p ≤ 128 - n) :
  Calls Tryz.prog 37 #[.agg (SA s), .int .i64 p, .int .i64 n] w fun e w' => e = .returned (.int .i64 (sayV s p n)) ∧ Below w.heap.size w w' := by
 obtain ⟨P, rfl⟩ := Int.eq_ofNat_of_zero_le h3;obtain ⟨L, rfl⟩ := Int.eq_ofNat_of_zero_le (show 0 ≤ n by omega);unfold sayV
 simp only [Int.toNat_natCast]
 by_cases hc : (L : Int) = 8 ∧ s.getD (P + 7) 0 ≠ 0
 ·have e : L = 8 := by omega
  subst e;rw [if_pos hc]
  exact says_not s P w hs (by omega) hc.2
 ·rw [if_neg hc]
  exact says_go s P L w hs (by omega) (by omega) (fun k => hc ⟨by omega, k.2⟩)

end Go.Proofs.YtpmignilhoihnaaGreat
