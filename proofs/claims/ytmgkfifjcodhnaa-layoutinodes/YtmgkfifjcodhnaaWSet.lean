/-
  sector.Set returns, for every sector, place, width and number, the sector with the number's bytes there, or the error.
-/
import Derived.Test.YtmgkfifjcodhnaaLaws
namespace Go.Proofs.Ytmgkfifjcodhnaa
open Go.RowKit

def putN (s : List Int) (p : Nat) (v : Int) : Nat → List Int
  | 0 => s
  | k + 1 => (putN s p v k).set (p + k) (v / 256 ^ k % 256)
theorem putN_len (s : List Int) (p : Nat) (v : Int) : ∀ k, (putN s p v k).length = s.length
  | 0 => rfl
  | k + 1 => by simp [putN, putN_len s p v k]

def setS (s : List Int) (p n v : Int) : List Int := if inB p n = true ∧ fitB v n = true then putN s p.toNat v n.toNat else Zs
def setE (p n v : Int) : Int := if inB p n = true then (if fitB v n = true then 0 else 11) else 10
theorem setS_len (s : List Int) (p n v : Int) (h : s.length = 128) : (setS s p n v).length = 128 := by
  unfold setS; split
  · rw [putN_len, h]
  · exact Zs_len

theorem putN_sec {s : List Int} (hs : IsSec s) (p : Nat) (v : Int) : ∀ k, IsSec (putN s p v k)
  | 0 => hs
  | k + 1 => by
    have ih := putN_sec hs p v k
    refine ⟨by rw [putN_len]; exact hs.1, fun x hx => ?_⟩
    simp only [putN] at hx
    rcases List.mem_or_eq_of_mem_set hx with h | h
    · exact ih.2 x h
    · subst h
      exact ⟨Int.emod_nonneg _ (by decide), by have := Int.emod_lt_of_pos (v / 256 ^ k) (show (0 : Int) < 256 by decide); omega⟩
theorem setS_sec {s : List Int} (hs : IsSec s) (p n v : Int) : IsSec (setS s p n v) := by
  unfold setS; split
  · exact putN_sec hs _ _ _
  · exact Zs_sec

set_option maxHeartbeats 400000 in
theorem set_out (s : List Int) (p n v : Int) (w : World) (h : inB p n = false) :
    Calls Try.prog 38 #[.agg (SA s), .int .i64 p, .int .i64 n, .int .i64 v] w fun e w' => e = .returned (.tuple #[.agg (SA Zs), .int .i64 10]) ∧ Below w.heap.size w w' := by
  have hz := zero_sec
  have hn : ((w.alloc (.cells (SA s) 26)).alloc (.cells (SA Zs) 26)).heap[w.heap.size + 1]? = some (.cells (SA Zs) 26 (0, 0)) := heap_alloc2_new w _ _
  have hb : Below w.heap.size w ((w.alloc (.cells (SA s) 26)).alloc (.cells (SA Zs) 26)) := ((Below.refl _ _).alloc (Nat.le_refl _) _).alloc (by simp) _
  go_enter Try.func38, Try.ntmps38
  go_wp2_with (first | (go_at_call 42; refine (within_any _ _ _).mono ?_; rintro e w' ⟨rfl, rfl⟩) | (refine store_sec rfl _ _ rfl (w.heap.size + 1) rfl Zs rfl Zs_len Zs Zs_len hn ?_; intro w2 h2))
  exact bodyPost_ret (v := .tuple #[.agg (SA Zs), .int .i64 10]) (results_sec Try.results38 _ _ (w.heap.size + 1) Zs Zs_len _ rfl rfl h2.here) rfl ⟨rfl, h2.below hb (by omega)⟩

set_option maxHeartbeats 400000 in
theorem set_bad (s : List Int) (p n v : Int) (w : World) (h : inB p n = true) (hn1 : 1 ≤ n) (hn8 : n ≤ 8) (hv : fitB v n = false) :
    Calls Try.prog 38 #[.agg (SA s), .int .i64 p, .int .i64 n, .int .i64 v] w fun e w' => e = .returned (.tuple #[.agg (SA Zs), .int .i64 11]) ∧ Below w.heap.size w w' := by
  have hz := zero_sec
  have hn : ((w.alloc (.cells (SA s) 26)).alloc (.cells (SA Zs) 26)).heap[w.heap.size + 1]? = some (.cells (SA Zs) 26 (0, 0)) := heap_alloc2_new w _ _
  have hb : Below w.heap.size w ((w.alloc (.cells (SA s) 26)).alloc (.cells (SA Zs) 26)) := ((Below.refl _ _).alloc (Nat.le_refl _) _).alloc (by simp) _
  go_enter Try.func38, Try.ntmps38
  go_wp2_with (first | (go_at_call 42; refine (within_any _ _ _).mono ?_; rintro e w' ⟨rfl, rfl⟩) | (go_at_call 43; refine (fits_any _ _ _ hn1 hn8).mono ?_; rintro e w' ⟨rfl, rfl⟩) | (refine store_sec rfl _ _ rfl (w.heap.size + 1) rfl Zs rfl Zs_len Zs Zs_len hn ?_; intro w2 h2))
  exact bodyPost_ret (v := .tuple #[.agg (SA Zs), .int .i64 11]) (results_sec Try.results38 _ _ (w.heap.size + 1) Zs Zs_len _ rfl rfl h2.here) rfl ⟨rfl, h2.below hb (by omega)⟩

set_option maxHeartbeats 400000 in
theorem set_in (s : List Int) (p n v : Int) (w : World) (hs : s.length = 128) (h : inB p n = true) (hp0 : 0 ≤ p) (hp1 : p ≤ 128 - n) (hn1 : 1 ≤ n) (hn8 : n ≤ 8) (hv : fitB v n = true) :
    Calls Try.prog 38 #[.agg (SA s), .int .i64 p, .int .i64 n, .int .i64 v] w fun e w' => e = .returned (.tuple #[.agg (SA (putN s p.toNat v n.toNat)), .int .i64 0]) ∧ Below w.heap.size w w' := by
  have hz := zero_sec
  have hn : ((w.alloc (.cells (SA s) 26)).alloc (.cells (SA Zs) 26)).heap[w.heap.size + 1]? = some (.cells (SA Zs) 26 (0, 0)) := heap_alloc2_new w _ _
  have ho : ((w.alloc (.cells (SA s) 26)).alloc (.cells (SA Zs) 26)).heap[w.heap.size]? = some (.cells (SA s) 26 (0, 0)) := heap_alloc2_old w _ _
  have hb : Below w.heap.size w ((w.alloc (.cells (SA s) 26)).alloc (.cells (SA Zs) 26)) := ((Below.refl _ _).alloc (Nat.le_refl _) _).alloc (by simp) _
  have hv' := of_decide_eq_true hv
  obtain ⟨hv0, hv1, -⟩ := hv'
  rw [top_eq] at hv1
  go_enter Try.func38, Try.ntmps38
  go_wp2_with (first | (go_at_call 42; refine (within_any _ _ _).mono ?_; rintro e w' ⟨rfl, rfl⟩) | (go_at_call 43; refine (fits_any _ _ _ hn1 hn8).mono ?_; rintro e w' ⟨rfl, rfl⟩))
  go_loopw [22] (fun i wr => ∃ k : Nat, (k : Int) ≤ n ∧ i = .int .i64 k ∧ wr.heap[w.heap.size]? = some (.cells (SA (putN s p.toNat v k)) 26 (0, 0)) ∧ wr.heap[w.heap.size + 1]? = some (.cells (SA Zs) 26 (0, 0)) ∧ Below w.heap.size w wr) (fun i _ => n.toNat - (intOf i).toNat)
  case atStart => exact ⟨0, by omega, rfl, ho, hn, hb⟩
  case round =>
    obtain ⟨k, hk, rfl, h1, h2, h3⟩ := hrel
    by_cases hlt : (k : Int) < n
    · have hc := sec_cell h1 (p + k).toNat (by rw [putN_len]; omega)
      have hf := sec_free h1 (p + k).toNat
      have hq : p + (k : Int) < 128 := by omega
      have H1 : Hid (wr.heap[w.heap.size]? = some (.cells (SA (putN s p.toNat v k)) 26 (0, 0))) := h1
      clear h1
      go_wp2
      have hw := sec_setCell H1.out (p + k).toNat (v / 2 ^ (8 * k) % 256)
      have e1 : (putN s p.toNat v k).set (p + k).toNat (v / 2 ^ (8 * k) % 256) = putN s p.toNat v (k + 1) := by
        have e2 : (p + (k : Int)).toNat = p.toNat + k := by omega
        have e3 : (2 : Int) ^ (8 * k) = 256 ^ k := by rw [Int.pow_mul]; rfl
        rw [e2, e3]
        rfl
      rw [e1] at hw
      exact ⟨⟨k + 1, by omega, by go_num, hw.here, by rw [hw.other _ (by omega)]; exact h2, hw.below h3 (by omega)⟩, by simp [intOf]; omega⟩
    · have hlen : (putN s p.toNat v k).length = 128 := by rw [putN_len, hs]
      have e : k = n.toNat := by omega
      have H2 := h2
      go_wp2_with (first | refine load_sec rfl _ rfl w.heap.size rfl (putN s p.toNat v k) hlen h1 ?_ | (refine store_sec rfl _ _ rfl (w.heap.size + 1) rfl (putN s p.toNat v k) rfl hlen Zs Zs_len H2 ?_; intro w2 hw2))
      subst e
      exact bodyPost_ret (v := .tuple #[.agg (SA (putN s p.toNat v n.toNat)), .int .i64 0]) (results_sec Try.results38 _ _ (w.heap.size + 1) _ hlen _ rfl rfl hw2.here) rfl ⟨rfl, hw2.below h3 (by omega)⟩

theorem set_any (s : List Int) (p n v : Int) (w : World) (hs : s.length = 128) :
    Calls Try.prog 38 #[.agg (SA s), .int .i64 p, .int .i64 n, .int .i64 v] w fun e w' => e = .returned (.tuple #[.agg (SA (setS s p n v)), .int .i64 (setE p n v)]) ∧ Below w.heap.size w w' := by
  cases h : inB p n
  · refine (set_out s p n v w h).mono ?_
    rintro e w' ⟨rfl, hb⟩
    exact ⟨by simp [setS, setE, h], hb⟩
  · have h' := of_decide_eq_true h
    cases hv : fitB v n
    · refine (set_bad s p n v w h h'.1 h'.2.1 hv).mono ?_
      rintro e w' ⟨rfl, hb⟩
      exact ⟨by simp [setS, setE, h, hv], hb⟩
    · refine (set_in s p n v w hs h h'.2.2.1 h'.2.2.2 h'.1 h'.2.1 hv).mono ?_
      rintro e w' ⟨rfl, hb⟩
      exact ⟨by simp [setS, setE, h, hv], hb⟩

end Go.Proofs.Ytmgkfifjcodhnaa
