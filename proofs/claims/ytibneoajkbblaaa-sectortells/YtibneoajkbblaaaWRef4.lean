/-
  The document's own Set and Splice come to the same as the plain functions, for every sector, place, number and list of bytes.
-/
import Derived.Test.YtibneoajkbblaaaWRef3
import Derived.Test.YtibneoajkbblaaaPlain3
namespace Go.Proofs.Ytibneoajkbblaaa
open Go.RowKit

set_option maxRecDepth 100000 in
set_option maxHeartbeats 400000 in
theorem rset_w1 (s : List Int) (p n v : Int) (w : World) (h : n < 1) :
    Calls Try.prog 28 #[.agg (SA s), .int .i64 p, .int .i64 n, .int .i64 v] w fun e w' => e = .returned (.tuple #[.agg (SA Zs), .int .i64 10]) ∧ Below w.heap.size w w' := by
  have hz := zero_sec
  have HB0 := hid (three_start w s)
  go_enter Try.func28, Try.ntmps28
  go_wp2_with (first | (refine store_sec rfl _ _ rfl (w.heap.size + 1) rfl Zs rfl Zs_len Zs Zs_len (HB0.out.get (by simp)) ?_; intro w2 hw2))
  exact bodyPost_ret (v := .tuple #[.agg (SA Zs), .int .i64 10]) (results_sec Try.results28 _ _ (w.heap.size + 1) Zs Zs_len _ rfl rfl hw2.here) rfl ⟨rfl, hw2.below HB0.out.old (by omega)⟩

set_option maxRecDepth 100000 in
set_option maxHeartbeats 400000 in
theorem rset_w8 (s : List Int) (p n v : Int) (w : World) (h : 8 < n) :
    Calls Try.prog 28 #[.agg (SA s), .int .i64 p, .int .i64 n, .int .i64 v] w fun e w' => e = .returned (.tuple #[.agg (SA Zs), .int .i64 10]) ∧ Below w.heap.size w w' := by
  have hz := zero_sec
  have HB0 := hid (three_start w s)
  have h1 : ¬ n < 1 := by omega
  go_enter Try.func28, Try.ntmps28
  go_wp2_with (first | (refine store_sec rfl _ _ rfl (w.heap.size + 1) rfl Zs rfl Zs_len Zs Zs_len (HB0.out.get (by simp)) ?_; intro w2 hw2))
  exact bodyPost_ret (v := .tuple #[.agg (SA Zs), .int .i64 10]) (results_sec Try.results28 _ _ (w.heap.size + 1) Zs Zs_len _ rfl rfl hw2.here) rfl ⟨rfl, hw2.below HB0.out.old (by omega)⟩

set_option maxRecDepth 100000 in
set_option maxHeartbeats 400000 in
theorem rset_place (s : List Int) (p n v : Int) (w : World) (h1 : 1 ≤ n) (h8 : n ≤ 8) (h : rfit p n = false) :
    Calls Try.prog 28 #[.agg (SA s), .int .i64 p, .int .i64 n, .int .i64 v] w fun e w' => e = .returned (.tuple #[.agg (SA Zs), .int .i64 10]) ∧ Below w.heap.size w w' := by
  have hz := zero_sec
  have HB0 := hid (three_start w s)
  have h0 : 0 ≤ n := by omega
  go_enter Try.func28, Try.ntmps28
  go_wp2_with (first | (refine store_sec rfl _ _ rfl (w.heap.size + 1) rfl Zs rfl Zs_len Zs Zs_len (HB0.out.get (by simp)) ?_; intro w2 hw2) | (go_at_call 35; refine (rfits_any _ _ _ h0).mono ?_; rintro e w' ⟨rfl, rfl⟩))
  exact bodyPost_ret (v := .tuple #[.agg (SA Zs), .int .i64 10]) (results_sec Try.results28 _ _ (w.heap.size + 1) Zs Zs_len _ rfl rfl hw2.here) rfl ⟨rfl, hw2.below HB0.out.old (by omega)⟩

set_option maxRecDepth 100000 in
set_option maxHeartbeats 400000 in
theorem rset_neg (s : List Int) (p n v : Int) (w : World) (h1 : 1 ≤ n) (h8 : n ≤ 8) (h : rfit p n = true) (hv : v < 0) :
    Calls Try.prog 28 #[.agg (SA s), .int .i64 p, .int .i64 n, .int .i64 v] w fun e w' => e = .returned (.tuple #[.agg (SA Zs), .int .i64 11]) ∧ Below w.heap.size w w' := by
  have hz := zero_sec
  have HB0 := hid (three_start w s)
  have h0 : 0 ≤ n := by omega
  go_enter Try.func28, Try.ntmps28
  go_wp2_with (first | (refine store_sec rfl _ _ rfl (w.heap.size + 1) rfl Zs rfl Zs_len Zs Zs_len (HB0.out.get (by simp)) ?_; intro w2 hw2) | (go_at_call 35; refine (rfits_any _ _ _ h0).mono ?_; rintro e w' ⟨rfl, rfl⟩))
  exact bodyPost_ret (v := .tuple #[.agg (SA Zs), .int .i64 11]) (results_sec Try.results28 _ _ (w.heap.size + 1) Zs Zs_len _ rfl rfl hw2.here) rfl ⟨rfl, hw2.below HB0.out.old (by omega)⟩

set_option maxRecDepth 100000 in
set_option maxHeartbeats 400000 in
theorem rset_top (s : List Int) (p n v : Int) (w : World) (h1 : 1 ≤ n) (h8 : n ≤ 8) (h : rfit p n = true) (hv : 4611686018427387904 < v) :
    Calls Try.prog 28 #[.agg (SA s), .int .i64 p, .int .i64 n, .int .i64 v] w fun e w' => e = .returned (.tuple #[.agg (SA Zs), .int .i64 11]) ∧ Below w.heap.size w w' := by
  have hz := zero_sec
  have HB0 := hid (three_start w s)
  have h0 : 0 ≤ n := by omega
  go_enter Try.func28, Try.ntmps28
  go_wp2_with (first | (refine store_sec rfl _ _ rfl (w.heap.size + 1) rfl Zs rfl Zs_len Zs Zs_len (HB0.out.get (by simp)) ?_; intro w2 hw2) | (go_at_call 35; refine (rfits_any _ _ _ h0).mono ?_; rintro e w' ⟨rfl, rfl⟩))
  exact bodyPost_ret (v := .tuple #[.agg (SA Zs), .int .i64 11]) (results_sec Try.results28 _ _ (w.heap.size + 1) Zs Zs_len _ rfl rfl hw2.here) rfl ⟨rfl, hw2.below HB0.out.old (by omega)⟩

set_option maxRecDepth 100000 in
set_option maxHeartbeats 400000 in
theorem rset_room (s : List Int) (p n v : Int) (w : World) (h1 : 1 ≤ n) (h7 : n ≤ 7) (h : rfit p n = true) (hv0 : 0 ≤ v) (hv1 : v ≤ 4611686018427387904) (hv : pw n ≤ v) :
    Calls Try.prog 28 #[.agg (SA s), .int .i64 p, .int .i64 n, .int .i64 v] w fun e w' => e = .returned (.tuple #[.agg (SA Zs), .int .i64 11]) ∧ Below w.heap.size w w' := by
  have hz := zero_sec
  have HB0 := hid (three_start w s)
  have h0 : 0 ≤ n := by omega
  have h8 : n < 8 := by omega
  go_enter Try.func28, Try.ntmps28
  go_wp2_with (first | (refine store_sec rfl _ _ rfl (w.heap.size + 1) rfl Zs rfl Zs_len Zs Zs_len (HB0.out.get (by simp)) ?_; intro w2 hw2) | (go_at_call 35; refine (rfits_any _ _ _ h0).mono ?_; rintro e w' ⟨rfl, rfl⟩) | (go_at_call 36; refine (power_any _ _ h1 h7).mono ?_; rintro e w' ⟨rfl, rfl⟩))
  exact bodyPost_ret (v := .tuple #[.agg (SA Zs), .int .i64 11]) (results_sec Try.results28 _ _ (w.heap.size + 1) Zs Zs_len _ rfl rfl hw2.here) rfl ⟨rfl, hw2.below HB0.out.old (by omega)⟩

set_option maxRecDepth 100000 in
set_option maxHeartbeats 1000000 in
theorem rset_in7 (s : List Int) (P m : Nat) (v : Int) (w : World) (hs : s.length = 128) (hP : P + m ≤ 128) (hfit : rfit (P : Int) (m : Int) = true) (hv0 : 0 ≤ v) (hv1 : v ≤ 4611686018427387904) (h1 : (1 : Int) ≤ (m : Int)) (h7 : (m : Int) ≤ 7) (hv : v < pw (m : Int)) :
    Calls Try.prog 28 #[.agg (SA s), .int .i64 (P : Int), .int .i64 (m : Int), .int .i64 v] w fun e w' => e = .returned (.tuple #[.agg (SA (putN s P v m)), .int .i64 0]) ∧ Below w.heap.size w w' := by
  have hz := zero_sec
  have HB0 := hid (three_start w s)
  have h0 : (0 : Int) ≤ (m : Int) := by omega
  have h8 : (m : Int) < 8 := by omega
  have h9 : ¬ pw (m : Int) ≤ v := by omega
  go_enter Try.func28, Try.ntmps28
  go_wp2_with (first | (refine store_sec rfl _ _ rfl (w.heap.size + 2) rfl s rfl hs Zs Zs_len (by exact heap3 w _ _ _) ?_; intro w2 hw2) | refine load_sec rfl _ rfl w.heap.size rfl s hs (HB0.out.get (by simp)) ?_ | (go_at_call 35; refine (rfits_any _ _ _ h0).mono ?_; rintro e w' ⟨rfl, rfl⟩) | (go_at_call 36; refine (power_any _ _ h1 h7).mono ?_; rintro e w' ⟨rfl, rfl⟩))
  have HB2 : Hid (HB w [(w.heap.size + 2, .cells (SA s) 26 (0, 0)), (w.heap.size + 1, .cells (SA Zs) 26 (0, 0)), (w.heap.size, .cells (SA s) 26 (0, 0))] w2) := three_copy HB0.out hw2
  clear hw2 HB0
  go_loopw [11, 12] (fun x i wr => ∃ k : Nat, k ≤ m ∧ i = .int .i64 k ∧ x = .int .i64 (v / 256 ^ k) ∧ Hid (HB w [(w.heap.size + 2, .cells (SA (putN s P v k)) 26 (0, 0)), (w.heap.size + 1, .cells (SA Zs) 26 (0, 0)), (w.heap.size, .cells (SA s) 26 (0, 0))] wr)) (fun _ i _ => m - (intOf i).toNat)
  case atStart => exact ⟨0, by omega, rfl, by simp, HB2⟩
  case round =>
    obtain ⟨k, hk, rfl, rfl, HR⟩ := hrel
    have hx0 : 0 ≤ v / 256 ^ k := Int.ediv_nonneg hv0 (Int.pow_nonneg (by decide))
    have hx1 : v / 256 ^ k ≤ 4611686018427387904 := by
      have := Int.ediv_le_self (b := 256 ^ k) hv0
      omega
    have HX : Hid (v / 256 ^ k / 256 = v / 256 ^ (k + 1)) := by
      show _ = _
      rw [Int.pow_succ, Int.ediv_ediv_of_nonneg (Int.pow_nonneg (by decide))]
    have HS : Hid ((putN s P v k).set (P + k) (v / 256 ^ k % 256) = putN s P v (k + 1)) := rfl
    generalize v / 256 ^ k = x at *
    by_cases hlt : k < m
    · have hg := HR.out.get (g := w.heap.size + 2) (o := .cells (SA (putN s P v k)) 26 (0, 0)) (by simp)
      have hc := sec_cell hg (P + k) (by rw [putN_len]; omega)
      have hf := sec_free hg (P + k)
      have HG := hid hg
      have hi : (P : Int) + (k : Int) < 128 := by omega
      have hkm : (k : Int) < (m : Int) := by omega
      clear hg
      go_wp2
      have hw := sec_setCell HG.out (P + k) (x % 256)
      rw [HS.out] at hw
      exact ⟨⟨k + 1, by omega, by go_num, by rw [HX.out], HR.out.write hw (by omega) (by simp)⟩, by simp [intOf]; omega⟩
    · have e : k = m := by omega
      subst e
      have hlen : (putN s P v k).length = 128 := by rw [putN_len, hs]
      go_wp2_with (first | refine load_sec rfl _ rfl (w.heap.size + 2) rfl (putN s P v k) hlen (HR.out.get (by simp)) ?_ | (refine store_sec rfl _ _ rfl (w.heap.size + 1) rfl (putN s P v k) rfl hlen Zs Zs_len (HR.out.get (by simp)) ?_; intro w3 hw3))
      exact bodyPost_ret (v := .tuple #[.agg (SA (putN s P v k)), .int .i64 0]) (results_sec Try.results28 _ _ (w.heap.size + 1) _ hlen _ rfl rfl hw3.here) rfl ⟨rfl, hw3.below HR.out.old (by omega)⟩

set_option maxRecDepth 100000 in
set_option maxHeartbeats 1000000 in
theorem rset_in8 (s : List Int) (P : Nat) (v : Int) (w : World) (hs : s.length = 128) (hP : P + 8 ≤ 128) (hfit : rfit (P : Int) 8 = true) (hv0 : 0 ≤ v) (hv1 : v ≤ 4611686018427387904) :
    Calls Try.prog 28 #[.agg (SA s), .int .i64 (P : Int), .int .i64 8, .int .i64 v] w fun e w' => e = .returned (.tuple #[.agg (SA (putN s P v 8)), .int .i64 0]) ∧ Below w.heap.size w w' := by
  have hz := zero_sec
  have HB0 := hid (three_start w s)
  have h0 : (0 : Int) ≤ 8 := by decide
  go_enter Try.func28, Try.ntmps28
  go_wp2_with (first | (refine store_sec rfl _ _ rfl (w.heap.size + 2) rfl s rfl hs Zs Zs_len (by exact heap3 w _ _ _) ?_; intro w2 hw2) | refine load_sec rfl _ rfl w.heap.size rfl s hs (HB0.out.get (by simp)) ?_ | (go_at_call 35; refine (rfits_any _ _ _ h0).mono ?_; rintro e w' ⟨rfl, rfl⟩))
  have HB2 : Hid (HB w [(w.heap.size + 2, .cells (SA s) 26 (0, 0)), (w.heap.size + 1, .cells (SA Zs) 26 (0, 0)), (w.heap.size, .cells (SA s) 26 (0, 0))] w2) := three_copy HB0.out hw2
  clear hw2 HB0
  go_loopw [11, 12] (fun x i wr => ∃ k : Nat, k ≤ 8 ∧ i = .int .i64 k ∧ x = .int .i64 (v / 256 ^ k) ∧ Hid (HB w [(w.heap.size + 2, .cells (SA (putN s P v k)) 26 (0, 0)), (w.heap.size + 1, .cells (SA Zs) 26 (0, 0)), (w.heap.size, .cells (SA s) 26 (0, 0))] wr)) (fun _ i _ => 8 - (intOf i).toNat)
  case atStart => exact ⟨0, by omega, rfl, by simp, HB2⟩
  case round =>
    obtain ⟨k, hk, rfl, rfl, HR⟩ := hrel
    have hx0 : 0 ≤ v / 256 ^ k := Int.ediv_nonneg hv0 (Int.pow_nonneg (by decide))
    have hx1 : v / 256 ^ k ≤ 4611686018427387904 := by
      have := Int.ediv_le_self (b := 256 ^ k) hv0
      omega
    have HX : Hid (v / 256 ^ k / 256 = v / 256 ^ (k + 1)) := by
      show _ = _
      rw [Int.pow_succ, Int.ediv_ediv_of_nonneg (Int.pow_nonneg (by decide))]
    have HS : Hid ((putN s P v k).set (P + k) (v / 256 ^ k % 256) = putN s P v (k + 1)) := rfl
    generalize v / 256 ^ k = x at *
    by_cases hlt : k < 8
    · have hg := HR.out.get (g := w.heap.size + 2) (o := .cells (SA (putN s P v k)) 26 (0, 0)) (by simp)
      have hc := sec_cell hg (P + k) (by rw [putN_len]; omega)
      have hf := sec_free hg (P + k)
      have HG := hid hg
      have hi : (P : Int) + (k : Int) < 128 := by omega
      have hkm : (k : Int) < 8 := by omega
      clear hg
      go_wp2
      have hw := sec_setCell HG.out (P + k) (x % 256)
      rw [HS.out] at hw
      exact ⟨⟨k + 1, by omega, by go_num, by rw [HX.out], HR.out.write hw (by omega) (by simp)⟩, by simp [intOf]; omega⟩
    · have e : k = 8 := by omega
      subst e
      have hlen : (putN s P v 8).length = 128 := by rw [putN_len, hs]
      go_wp2_with (first | refine load_sec rfl _ rfl (w.heap.size + 2) rfl (putN s P v 8) hlen (HR.out.get (by simp)) ?_ | (refine store_sec rfl _ _ rfl (w.heap.size + 1) rfl (putN s P v 8) rfl hlen Zs Zs_len (HR.out.get (by simp)) ?_; intro w3 hw3))
      exact bodyPost_ret (v := .tuple #[.agg (SA (putN s P v 8)), .int .i64 0]) (results_sec Try.results28 _ _ (w.heap.size + 1) _ hlen _ rfl rfl hw3.here) rfl ⟨rfl, hw3.below HR.out.old (by omega)⟩

theorem rset_any (s : List Int) (p n v : Int) (w : World) (hs : s.length = 128) :
    Calls Try.prog 28 #[.agg (SA s), .int .i64 p, .int .i64 n, .int .i64 v] w fun e w' => e = .returned (.tuple #[.agg (SA (setS s p n v)), .int .i64 (setE p n v)]) ∧ Below w.heap.size w w' := by
  cases h : inB p n
  · rw [show setS s p n v = Zs by simp [setS, h], show setE p n v = 10 by simp [setE, h]]
    by_cases c1 : n < 1
    · exact rset_w1 s p n v w c1
    · by_cases c2 : 8 < n
      · exact rset_w8 s p n v w c2
      · exact rset_place s p n v w (by omega) (by omega) (by rw [rfit_in p n (by omega) (by omega), h])
  · have h' := of_decide_eq_true h
    have hr : rfit p n = true := by rw [rfit_in p n h'.1 h'.2.1, h]
    cases hf : fitB v n
    · rw [show setS s p n v = Zs by simp [setS, hf], show setE p n v = 11 by simp [setE, h, hf]]
      have hf' := of_decide_eq_false hf
      rw [top_eq] at hf'
      by_cases c1 : v < 0
      · exact rset_neg s p n v w h'.1 h'.2.1 hr c1
      · by_cases c2 : 4611686018427387904 < v
        · exact rset_top s p n v w h'.1 h'.2.1 hr c2
        · have c3 : pw n ≤ v := by omega
          have c4 : n ≠ 8 := by
            rintro rfl
            rw [pw8] at c3
            omega
          exact rset_room s p n v w h'.1 (by omega) hr (by omega) (by omega) c3
    · rw [setS_in s h hf, setE_in h hf]
      have hf' := of_decide_eq_true hf
      rw [top_eq] at hf'
      obtain ⟨P, rfl⟩ := Int.eq_ofNat_of_zero_le h'.2.2.1
      obtain ⟨m, rfl⟩ := Int.eq_ofNat_of_zero_le (show 0 ≤ n by omega)
      rw [Int.toNat_natCast, Int.toNat_natCast]
      by_cases c8 : (m : Int) = 8
      · obtain rfl : m = 8 := by omega
        exact rset_in8 s P v w hs (by omega) hr hf'.1 hf'.2.1
      · exact rset_in7 s P m v w hs (by omega) hr hf'.1 hf'.2.1 h'.1 (by omega) hf'.2.2

end Go.Proofs.Ytibneoajkbblaaa
