/-
  LayoutParts comes out true for every super.
-/
import Derived.Test.YtligeanfgeajoabLK
namespace Go.Proofs.Ytligeanfgeajoab
open Go.RowKit

def dataP (b a n : Int) : Bool := decide (b < n) && decide (n < a)
set_option maxHeartbeats 400000 in
theorem isDataP_any (a b n : Int) (w : World) : Calls Try.prog 15 #[.agg #[.int .i64 a, .int .i64 b], .int .i64 n] w fun e w' => e = .returned (.bool (dataP b a n)) ∧ Below w.heap.size w w' := by
  have hb : Below w.heap.size w (w.alloc (.cells #[.int .i64 a, .int .i64 b] 23)) := (Below.refl _ _).alloc (Nat.le_refl _) _
  by_cases h1 : b < n
  · by_cases h2 : n < a
    · go_enter Try.func15, Try.ntmps15
      go_wp2
      go_ret
      exact ⟨ret_bool (by simp [dataP, h1, h2]), hb⟩
    · go_enter Try.func15, Try.ntmps15
      go_wp2
      go_ret
      exact ⟨ret_bool (by simp [dataP]; omega), hb⟩
  · go_enter Try.func15, Try.ntmps15
    go_wp2
    go_ret
    exact ⟨ret_bool (by simp [dataP]; omega), hb⟩

/-- How many data sectors lie ahead of n. -/
def cntD (b a n : Int) : Int := if n ≤ b + 1 then 0 else if n ≤ a then n - (b + 1) else a - (b + 1)

set_option maxRecDepth 100000 in
set_option maxHeartbeats 2000000 in
theorem parts_walk (a b : Int) (w : World) : Calls Try.prog 4 #[.agg #[.int .i64 a, .int .i64 b]] w fun e w' => e = .returned (.bool true) ∧ Below w.heap.size w w' := by
  have hz := zero_sec
  have hsup := fun w' => superSector_any a b w'
  have HLS := hid (supS_sec a b).1
  have hs0 : (w.alloc (.cells #[.int .i64 a, .int .i64 b] 23)).heap[w.heap.size]? = some (.cells #[.int .i64 a, .int .i64 b] 23 (0, 0)) := heap_alloc_new _ _
  have hb0 : Below w.heap.size w (w.alloc (.cells #[.int .i64 a, .int .i64 b] 23)) := (Below.refl _ _).alloc (Nat.le_refl _) _
  have z0 : (w.alloc (.cells #[.int .i64 a, .int .i64 b] 23)).heap.size = w.heap.size + 1 := by simp
  have HS0 := hid hs0
  clear hs0
  cases hB : supB a b
  · rw [show supE a b = 60 by simp [supE, hB]] at hsup
    go_enter Try.func4, Try.ntmps4
    go_wp2_with (first | (go_at_call 5; refine (known_any _).mono ?_; rintro e w1 ⟨rfl, hb1⟩; have HS1 : Hid (w1.heap[w.heap.size]? = some (.cells #[.int .i64 a, .int .i64 b] 23 (0, 0))) := by { show _ = _; rw [hb1.block _ (by omega)]; exact HS0.out }) | refine load_R rfl 23 (.tmp 1) rfl w.heap.size rfl 23 _ _ HS1.out Try.underlying23 rfl (by rw [szS]; rfl) ?_ | (go_at_call 7; refine (hsup _).mono ?_; rintro e w2 ⟨rfl, hb2⟩) | (refine store_sec rfl (.tmp 4) _ rfl w2.heap.size rfl _ rfl HLS.out Zs Zs_len (heap_alloc_new _ _) ?_; intro w3 hw3))
    go_ret
    exact ⟨rfl, hw3.below ((btr (btr hb0 hb1 (by omega)) hb2 (by have := hb1.size; omega)).alloc (by have := hb1.size; have := hb2.size; omega) _) (by have := hb1.size; have := hb2.size; omega)⟩
  · rw [show supE a b = 0 by simp [supE, hB]] at hsup
    have hr := of_decide_eq_true hB
    go_enter Try.func4, Try.ntmps4
    go_upto_region 9 with (first | (go_at_call 5; refine (known_any _).mono ?_; rintro e w1 ⟨rfl, hb1⟩; have HS1 : Hid (w1.heap[w.heap.size]? = some (.cells #[.int .i64 a, .int .i64 b] 23 (0, 0))) := by { show _ = _; rw [hb1.block _ (by omega)]; exact HS0.out }) | refine load_R rfl 23 (.tmp 1) rfl w.heap.size rfl 23 _ _ HS1.out Try.underlying23 rfl (by rw [szS]; rfl) ?_ | (go_at_call 7; refine (hsup _).mono ?_; rintro e w2 ⟨rfl, hb2⟩) | (refine store_sec rfl (.tmp 4) _ rfl w2.heap.size rfl _ rfl HLS.out Zs Zs_len (heap_alloc_new _ _) ?_; intro w3 hw3))
    have hs3 : w3.heap[w.heap.size]? = some (.cells #[.int .i64 a, .int .i64 b] 23 (0, 0)) := wr_keep hw3 hb2 HS1.out
    have hb3 : Below w.heap.size w w3 := hw3.below ((btr (btr hb0 hb1 (by omega)) hb2 (by have := hb1.size; omega)).alloc (by have := hb1.size; have := hb2.size; omega) _) (by have := hb1.size; have := hb2.size; omega)
    have h0 : cntD b a (-2) = 0 := by unfold cntD; rw [if_pos (by omega)]
    clear hw3 hb2 hb1 HS1 HS0 hb0 z0 hsup HLS
    go_loopw [6, 7] (fun d i wr => ∃ n : Int, -2 ≤ n ∧ n ≤ a + 2 ∧ i = .int .i64 n ∧ d = .int .i64 (cntD b a n) ∧ wr.heap[w.heap.size]? = some (.cells #[.int .i64 a, .int .i64 b] 23 (0, 0)) ∧ Below w.heap.size w wr) (fun _ i _ => (5000 - intOf i).toNat)
    case atStart => exact ⟨-2, by omega, by omega, rfl, by rw [h0], hs3, hb3⟩
    case round =>
      obtain ⟨n, hn1, hn2, rfl, rfl, hs, hb⟩ := hrel
      have hc0 : wr.cell? ⟨w.heap.size, 0, none⟩ = some (.int .i64 a) := cell_of_row wr w.heap.size 0 _ _ _ hs
      have hc1 : wr.cell? ⟨w.heap.size, 1, none⟩ = some (.int .i64 b) := cell_of_row wr w.heap.size 1 _ _ _ hs
      have HS := hid hs
      by_cases hlt : n < a + 2
      · have h5 : n < 5000 := by omega
        have hd := fun w' => isDataP_any a b n w'
        have hstep : cntD b a (n + 1) = if dataP b a n = true then cntD b a n + 1 else cntD b a n := by
          unfold dataP
          simp only [Bool.and_eq_true, decide_eq_true_eq]
          unfold cntD
          split <;> split <;> split <;> (try split) <;> (try split) <;> omega
        have hcb : 0 ≤ cntD b a n ∧ cntD b a n ≤ 5000 := by unfold cntD; split <;> (try split) <;> omega
        clear hs
        cases hD : dataP b a n
        · rw [hD] at hd hstep
          rw [if_neg (by decide)] at hstep
          generalize cntD b a n = C at *
          go_wp2_with (first | refine load_R rfl 23 (.tmp 1) rfl w.heap.size rfl 23 _ _ HS.out Try.underlying23 rfl (by rw [szS]; rfl) ?_ | (go_at_call 15; refine (hd _).mono ?_; rintro e w5 ⟨rfl, hb5⟩))
          exact ⟨⟨n + 1, by omega, by omega, by go_num, by rw [hstep], by rw [hb5.block _ (slt HS.out)]; exact HS.out, btr hb hb5 hb.size⟩, by simp [intOf]; omega⟩
        · rw [hD] at hd hstep
          rw [if_pos rfl] at hstep
          have hq : b < n ∧ n < a := by simpa [dataP] using hD
          have hnb : ¬ n ≤ b := by omega
          have hna : ¬ a ≤ n := by omega
          have hn0 : ¬ n < 2 := by omega
          generalize cntD b a n = C at *
          go_wp2_with (first | refine load_R rfl 23 (.tmp 1) rfl w.heap.size rfl 23 _ _ HS.out Try.underlying23 rfl (by rw [szS]; rfl) ?_ | (go_at_call 15; refine (hd _).mono ?_; rintro e w5 ⟨rfl, hb5⟩; have hs5 : w5.heap[w.heap.size]? = some (.cells #[.int .i64 a, .int .i64 b] 23 (0, 0)) := by { rw [hb5.block _ (slt HS.out)]; exact HS.out }; have hd0 : w5.cell? ⟨w.heap.size, 0, none⟩ = some (.int .i64 a) := cell_of_row w5 w.heap.size 0 _ _ _ hs5; have hd1 : w5.cell? ⟨w.heap.size, 1, none⟩ = some (.int .i64 b) := cell_of_row w5 w.heap.size 1 _ _ _ hs5))
          exact ⟨⟨n + 1, by omega, by omega, by go_num, by rw [hstep], hs5, btr hb hb5 hb.size⟩, by simp [intOf]; omega⟩
      · have e : cntD b a n = a - (b + 1) := by unfold cntD; rw [if_neg (by omega), if_neg (by omega)]
        rw [e]
        have e1 : 1 ≤ a - (b + 1) := by omega
        have e2 : (1 + b + (a - (b + 1)) == a) = true := by simp; omega
        go_wp2
        go_ret
        exact ⟨by simp, hb⟩

end Go.Proofs.Ytligeanfgeajoab
