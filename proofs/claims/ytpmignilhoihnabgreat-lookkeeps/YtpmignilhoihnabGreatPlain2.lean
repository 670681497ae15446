/-
 Plain facts on numbers in a sector: what was put is got, byte by byte; put twice is put once.
-/
import Derived.Test.YtpmignilhoihnabGreatLaws
import Derived.Test.YtpmignilhoihnabGreatWGet
namespace Go.Proofs.YtpmignilhoihnabGreat
open Go.RowKit

def putN (s : List Int) (p : Nat) (v : Int) : Nat → List Int
 | 0 => s
 | k + 1 => (putN s p v k).set (p + k) (v / 256 ^ k % 256)
theorem putN_len (s : List Int) (p : Nat) (v : Int) : ∀ k, (putN s p v k).length = s.length
 | 0 => rfl
 | k + 1 => by simp [putN, putN_len s p v k]

def setS (s : List Int) (p n v : Int) : List Int := if inB p n = true ∧ fitB v n = true then putN s p.toNat v n.toNat else Zs
def setE (p n v : Int) : Int := if inB p n = true then (if fitB v n = true then 0 else 11) else 10
theorem putN_sec {s : List Int} (hs : IsSec s) (p : Nat) (v : Int) : ∀ k, IsSec (putN s p v k)
 | 0 => hs
 | k + 1 => by
  have ih := putN_sec hs p v k;refine ⟨by rw [putN_len]; exact hs.1, fun x hx => ?_⟩
  simp only [putN] at hx
  rcases List.mem_or_eq_of_mem_set hx with h | h
  ·exact ih.2 x h
  ·subst h
   exact ⟨Int.emod_nonneg _ (by decide), by have := Int.emod_lt_of_pos (v / 256 ^ k) (show (0 : Int) < 256 by decide); omega⟩
set_option maxHeartbeats 400000 in
theorem set_out (s : List Int) (p n v : Int) (w : World) (h : inB p n = false) :
  Calls Tryz.prog 99 #[.agg (SA s), .int .i64 p, .int .i64 n, .int .i64 v] w fun e w' => e = .returned (.tuple #[.agg (SA Zs), .int .i64 10]) ∧ Below w.heap.size w w' := by
 have hz := zero_sec;have hn : ((w.alloc (.cells (SA s) 36)).alloc (.cells (SA Zs) 36)).heap[w.heap.size + 1]? = some (.cells (SA Zs) 36 (0, 0)) := heap_alloc2_new w _ _;have hb : Below w.heap.size w ((w.alloc (.cells (SA s) 36)).alloc (.cells (SA Zs) 36)) := ((Below.refl _ _).alloc (Nat.le_refl _) _).alloc (by simp) _
 go_enter Tryz.func99, Tryz.ntmps99
 go_wp2_with (first | (go_at_call 104; refine (within_any _ _ _).mono ?_; rintro e w' ⟨rfl, rfl⟩) | (refine store_sec rfl _ _ rfl (w.heap.size + 1) rfl Zs rfl Zs_len Zs Zs_len hn ?_; intro w2 h2))
 exact bodyPost_ret (v := .tuple #[.agg (SA Zs), .int .i64 10]) (results_sec Tryz.results99 _ _ (w.heap.size + 1) Zs Zs_len _ rfl rfl h2.here) rfl ⟨rfl, h2.below hb (by omega)⟩

set_option maxHeartbeats 400000 in
theorem set_bad (s : List Int) (p n v : Int) (w : World) (h : inB p n = true) (hn1 : 1 ≤ n) (hn8 : n ≤ 8) (hv : fitB v n = false) :
  Calls Tryz.prog 99 #[.agg (SA s), .int .i64 p, .int .i64 n, .int .i64 v] w fun e w' => e = .returned (.tuple #[.agg (SA Zs), .int .i64 11]) ∧ Below w.heap.size w w' := by
 have hz := zero_sec;have hn : ((w.alloc (.cells (SA s) 36)).alloc (.cells (SA Zs) 36)).heap[w.heap.size + 1]? = some (.cells (SA Zs) 36 (0, 0)) := heap_alloc2_new w _ _;have hb : Below w.heap.size w ((w.alloc (.cells (SA s) 36)).alloc (.cells (SA Zs) 36)) := ((Below.refl _ _).alloc (Nat.le_refl _) _).alloc (by simp) _
 go_enter Tryz.func99, Tryz.ntmps99
 go_wp2_with (first | (go_at_call 104; refine (within_any _ _ _).mono ?_; rintro e w' ⟨rfl, rfl⟩) | (go_at_call 106; refine (fits_any _ _ _ hn1 hn8).mono ?_; rintro e w' ⟨rfl, rfl⟩) | (refine store_sec rfl _ _ rfl (w.heap.size + 1) rfl Zs rfl Zs_len Zs Zs_len hn ?_; intro w2 h2))
 exact bodyPost_ret (v := .tuple #[.agg (SA Zs), .int .i64 11]) (results_sec Tryz.results99 _ _ (w.heap.size + 1) Zs Zs_len _ rfl rfl h2.here) rfl ⟨rfl, h2.below hb (by omega)⟩

set_option maxHeartbeats 400000 in
theorem set_in (s : List Int) (p n v : Int) (w : World) (hs : s.length = 128) (h : inB p n = true) (hp0 : 0 ≤ p) (hp1 : p ≤ 128 - n) (hn1 : 1 ≤ n) (hn8 : n ≤ 8) (hv : fitB v n = true) :
  Calls Tryz.prog 99 #[.agg (SA s), .int .i64 p, .int .i64 n, .int .i64 v] w fun e w' => e = .returned (.tuple #[.agg (SA (putN s p.toNat v n.toNat)), .int .i64 0]) ∧ Below w.heap.size w w' := by
 have hz := zero_sec;have hn : ((w.alloc (.cells (SA s) 36)).alloc (.cells (SA Zs) 36)).heap[w.heap.size + 1]? = some (.cells (SA Zs) 36 (0, 0)) := heap_alloc2_new w _ _;have ho : ((w.alloc (.cells (SA s) 36)).alloc (.cells (SA Zs) 36)).heap[w.heap.size]? = some (.cells (SA s) 36 (0, 0)) := heap_alloc2_old w _ _;have hb : Below w.heap.size w ((w.alloc (.cells (SA s) 36)).alloc (.cells (SA Zs) 36)) := ((Below.refl _ _).alloc (Nat.le_refl _) _).alloc (by simp) _;have hv' := of_decide_eq_true hv;obtain ⟨hv0, hv1, -⟩ := hv';rw [top_eq] at hv1
 go_enter Tryz.func99, Tryz.ntmps99
 go_wp2_with (first | (go_at_call 104; refine (within_any _ _ _).mono ?_; rintro e w' ⟨rfl, rfl⟩) | (go_at_call 106; refine (fits_any _ _ _ hn1 hn8).mono ?_; rintro e w' ⟨rfl, rfl⟩))
 go_loopw [22] (fun i wr => ∃ k : Nat, (k : Int) ≤ n ∧ i = .int .i64 k ∧ wr.heap[w.heap.size]? = some (.cells (SA (putN s p.toNat v k)) 36 (0, 0)) ∧ wr.heap[w.heap.size + 1]? = some (.cells (SA Zs) 36 (0, 0)) ∧ Below w.heap.size w wr) (fun i _ => n.toNat - (intOf i).toNat)
 case atStart => exact ⟨0, by omega, rfl, ho, hn, hb⟩
 case round =>
  obtain ⟨k, hk, rfl, h1, h2, h3⟩ := hrel
  by_cases hlt : (k : Int) < n
  ·have hc := sec_cell h1 (p + k).toNat (by rw [putN_len]; omega)
   have hf := sec_free h1 (p + k).toNat
   have hq : p + (k : Int) < 128 := by omega
   have H1 : Hid (wr.heap[w.heap.size]? = some (.cells (SA (putN s p.toNat v k)) 36 (0, 0))) := h1;clear h1
   go_wp2
   have hw := sec_setCell H1.out (p + k).toNat (v / 2 ^ (8 * k) % 256)
   have e1 : (putN s p.toNat v k).set (p + k).toNat (v / 2 ^ (8 * k) % 256) = putN s p.toNat v (k + 1) := by
    have e2 : (p + (k : Int)).toNat = p.toNat + k := by omega
    have e3 : (2 : Int) ^ (8 * k) = 256 ^ k := by rw [Int.pow_mul]; rfl
    rw [e2, e3]
    rfl
   rw [e1] at hw
   exact ⟨⟨k + 1, by omega, by go_num, hw.here, by rw [hw.other _ (by omega)]; exact h2, hw.below h3 (by omega)⟩, by simp [intOf]; omega⟩
  ·have hlen : (putN s p.toNat v k).length = 128 := by rw [putN_len, hs]
   have e : k = n.toNat := by omega
   have H2 := h2
   go_wp2_with (first | refine load_sec rfl _ rfl w.heap.size rfl (putN s p.toNat v k) hlen h1 ?_ | (refine store_sec rfl _ _ rfl (w.heap.size + 1) rfl (putN s p.toNat v k) rfl hlen Zs Zs_len H2 ?_; intro w2 hw2))
   subst e
   exact bodyPost_ret (v := .tuple #[.agg (SA (putN s p.toNat v n.toNat)), .int .i64 0]) (results_sec Tryz.results99 _ _ (w.heap.size + 1) _ hlen _ rfl rfl hw2.here) rfl ⟨rfl, hw2.below h3 (by omega)⟩

theorem set_any (s : List Int) (p n v : Int) (w : World) (hs : s.length = 128) :
  Calls Tryz.prog 99 #[.agg (SA s), .int .i64 p, .int .i64 n, .int .i64 v] w fun e w' => e = .returned (.tuple #[.agg (SA (setS s p n v)), .int .i64 (setE p n v)]) ∧ Below w.heap.size w w' := by
 cases h : inB p n
 ·refine (set_out s p n v w h).mono ?_
  rintro e w' ⟨rfl, hb⟩
  exact ⟨by simp [setS, setE, h], hb⟩
 ·have h' := of_decide_eq_true h
  cases hv : fitB v n
  ·refine (set_bad s p n v w h h'.1 h'.2.1 hv).mono ?_
   rintro e w' ⟨rfl, hb⟩
   exact ⟨by simp [setS, setE, h, hv], hb⟩
  ·refine (set_in s p n v w hs h h'.2.2.1 h'.2.2.2 h'.1 h'.2.1 hv).mono ?_
   rintro e w' ⟨rfl, hb⟩
   exact ⟨by simp [setS, setE, h, hv], hb⟩

end Go.Proofs.YtpmignilhoihnabGreat

namespace Go.Proofs.YtpmignilhoihnabGreat
open Go.RowKit

theorem getD_set (l : List Int) (i j : Nat) (x : Int) (h : i < l.length) : (l.set i x).getD j 0 = if i = j then x else l.getD j 0 := by
 simp only [List.getD_eq_getElem?_getD, List.getElem?_set]
 by_cases e : i = j
 ·subst e; simp [h]
 ·simp [e]

theorem putN_get (s : List Int) (p : Nat) (v : Int) : ∀ k : Nat, p + k ≤ s.length → ∀ i : Nat,
  (putN s p v k).getD i 0 = if p ≤ i ∧ i < p + k then v / 256 ^ (i - p) % 256 else s.getD i 0
 | 0, _, i => by rw [if_neg (by omega)]; rfl
 | k + 1, h, i => by
  have ih := putN_get s p v k (by omega) i
  simp only [putN]
  rw [getD_set _ _ _ _ (by rw [putN_len]; omega), ih]
  by_cases e : p + k = i
  ·subst e
   rw [if_pos rfl, if_pos (by omega), show p + k - p = k by omega]
  ·rw [if_neg e]
   by_cases c : p ≤ i ∧ i < p + k
   ·rw [if_pos c, if_pos (by omega)]
   ·rw [if_neg c, if_neg (by omega)]

theorem ext_getD {a b : List Int} (h : a.length = b.length) (k : ∀ i, i < a.length → a.getD i 0 = b.getD i 0) : a = b := by
 apply List.ext_getElem h
 intro i h1 h2
 have := k i h1
 simpa [h1, h2] using this

theorem mod_pow_succ (v : Int) (hv : 0 ≤ v) (k : Nat) : v % 256 ^ (k + 1) = v % 256 ^ k + v / 256 ^ k % 256 * 256 ^ k := by
 obtain ⟨V, rfl⟩ := Int.eq_ofNat_of_zero_le hv;have := Nat.mod_pow_succ (b := 256) (x := V) (k := k)
 have e : ((V % 256 ^ (k + 1) : Nat) : Int) = ((V % 256 ^ k + 256 ^ k * (V / 256 ^ k % 256) : Nat) : Int) := by rw [this]
 simp only [Int.natCast_emod, Int.natCast_add, Int.natCast_mul, Int.natCast_pow, Int.natCast_ediv] at e
 rw [Int.mul_comm (((256 : Nat) : Int) ^ k)] at e
 exact e

theorem numAt_of (t : List Int) (p : Nat) (v : Int) (hv : 0 ≤ v) : ∀ k : Nat, (∀ j, j < k → t.getD (p + j) 0 = v / 256 ^ j % 256) → numAt t p k = v % 256 ^ k
 | 0, _ => by simp [numAt, Int.emod_one]
 | k + 1, h => by
  simp only [numAt]
  rw [numAt_of t p v hv k (fun j hj => h j (by omega)), h k (by omega), mod_pow_succ v hv k]

theorem numAt_put (s : List Int) (p : Nat) (v : Int) (k : Nat) (h : p + k ≤ s.length) (hv : 0 ≤ v) (hk : v < 256 ^ k) : numAt (putN s p v k) p k = v := by
 rw [numAt_of _ p v hv k (fun j hj => by rw [putN_get _ _ _ _ h, if_pos (by omega), show p + j - p = j by omega])]
 exact Int.emod_eq_of_lt hv hk

theorem setS_in (s : List Int) {p n v : Int} (h : inB p n = true) (hv : fitB v n = true) : setS s p n v = putN s p.toNat v n.toNat := by
 unfold setS; rw [if_pos ⟨h, hv⟩]
theorem setE_in {p n v : Int} (h : inB p n = true) (hv : fitB v n = true) : setE p n v = 0 := by
 unfold setE; rw [if_pos h, if_pos hv]

end Go.Proofs.YtpmignilhoihnabGreat
