/-
 layout.SuperSector returns the first sector of a super that may be, else the error.
-/
import Derived.Test.YtpmignilhoihnabGreatL1
namespace Go.Proofs.YtpmignilhoihnabGreat
open Go.RowKit

def numsSup (a b : Int) : List Num := [(0, 4, 1464554050), (4, 4, a), (8, 4, b)]
def supS (a b : Int) : List Int := if supB a b = true then layS (numsSup a b) else Zs
def supE (a b : Int) : Int := if supB a b = true then 0 else 60
theorem supS_sec (a b : Int) : IsSec (supS a b) := by
 unfold supS; split
 ·exact layS_sec _
 ·exact Zs_sec
theorem okN_of {p n v : Int} (h1 : 1 ≤ n) (h2 : n ≤ 8) (h3 : 0 ≤ p) (h4 : p ≤ 128 - n) (h5 : 0 ≤ v) (h6 : v ≤ top) (h7 : v < pw n) : okN (p, n, v) := ⟨inB_true ⟨h1, h2, h3, h4⟩, fitB_true ⟨h5, h6, h7⟩⟩
theorem sup_ok {a b : Int} (h : 8 ≤ a ∧ a ≤ 4096 ∧ 1 ≤ b ∧ b ≤ 512 ∧ b + 2 ≤ a) : ∀ n ∈ numsSup a b, okN n := by
 intro n hn
 simp only [numsSup, List.mem_cons, List.not_mem_nil, or_false] at hn
 rcases hn with rfl | rfl | rfl
 ·exact okN_of (by decide) (by decide) (by decide) (by decide) (by decide) (by decide) (by decide)
 ·exact okN_of (by decide) (by decide) (by decide) (by decide) (by omega) (by rw [top_eq]; omega) (by rw [pw4]; omega)
 ·exact okN_of (by decide) (by decide) (by decide) (by decide) (by omega) (by rw [top_eq]; omega) (by rw [pw4]; omega)
theorem nums_new (w : World) (l : List Num) : NumsAt (w.alloc (.cells (cellsN l).toArray 128)) w.heap.size l :=
 ⟨by simp, fun j v hj => by rw [cell_of_row _ _ _ _ 128 (0, 0) (heap_alloc_new _ _)]; simpa using hj⟩
theorem szS : (Tryz.prog.info? 32).map (·.size) = some 2 := by kernel_rfl

theorem lay_sup {a b : Int} (h : ∀ n ∈ numsSup a b, okN n) (W : World) : Calls Tryz.prog 69 #[.slice (some ⟨W.heap.size, 0, none⟩) 3 3] (W.alloc (.cells #[.int .i64 0, .int .i64 4, .int .i64 1464554050, .int .i64 4, .int .i64 4, .int .i64 a, .int .i64 8, .int .i64 4, .int .i64 b] 128)) fun e w' =>
  e = .returned (.tuple #[.agg (SA (layS (numsSup a b))), .int .i64 0]) ∧ Below (W.heap.size + 1) (W.alloc (.cells #[.int .i64 0, .int .i64 4, .int .i64 1464554050, .int .i64 4, .int .i64 4, .int .i64 a, .int .i64 8, .int .i64 4, .int .i64 b] 128)) w' := by
 have k := lay_any (numsSup a b) W.heap.size 3 _ (nums_new W (numsSup a b)) h (by simp [numsSup]);rw [show (W.alloc (.cells (cellsN (numsSup a b)).toArray 128)).heap.size = W.heap.size + 1 by simp] at k
 exact k

set_option maxRecDepth 100000 in
set_option maxHeartbeats 1000000 in
theorem superSector_any (a b : Int) (w : World) :
  Calls Tryz.prog 53 #[.agg #[.int .i64 a, .int .i64 b]] w fun e w' => e = .returned (.tuple #[.agg (SA (supS a b)), .int .i64 (supE a b)]) ∧ Below w.heap.size w w' := by
 have hz := zero_sec;have hbs := build_sec
 have hm := fun w' => superMayBe_any a b w'
 have HZ : Hid (((w.alloc (.cells #[.int .i64 a, .int .i64 b] 32)).alloc (.cells (SA Zs) 36)).heap[w.heap.size + 1]? = some (.cells (SA Zs) 36 (0, 0))) := heap_alloc2_new w _ _;have HS : Hid (((w.alloc (.cells #[.int .i64 a, .int .i64 b] 32)).alloc (.cells (SA Zs) 36)).heap[w.heap.size]? = some (.cells #[.int .i64 a, .int .i64 b] 32 (0, 0))) := heap_alloc2_old w _ _;have hb : Below w.heap.size w ((w.alloc (.cells #[.int .i64 a, .int .i64 b] 32)).alloc (.cells (SA Zs) 36)) := ((Below.refl _ _).alloc (Nat.le_refl _) _).alloc (by simp) _
 have hsz : ((w.alloc (.cells #[.int .i64 a, .int .i64 b] 32)).alloc (.cells (SA Zs) 36)).heap.size = w.heap.size + 2 := by simp
 cases h : supB a b
 ·have HE : Hid (supS a b = Zs ∧ supE a b = 60) := ⟨by simp [supS, h], by simp [supE, h]⟩
  rw [h] at hm
  go_enter Tryz.func53, Tryz.ntmps53
  go_wp2_with (first | (go_at_call 78; refine (hm _).mono ?_; rintro e w2 ⟨rfl, hb2⟩; have HZ2 : Hid (w2.heap[w.heap.size + 1]? = some (.cells (SA Zs) 36 (0, 0))) := by { show _ = _; rw [hb2.block _ (by omega)]; exact HZ.out }) | (refine store_sec rfl _ _ rfl (w.heap.size + 1) rfl Zs rfl Zs_len Zs Zs_len HZ2.out ?_; intro w3 hw3))
  rw [HE.out.1, HE.out.2]
  exact bodyPost_ret (v := .tuple #[.agg (SA Zs), .int .i64 60]) (results_sec Tryz.results53 _ _ (w.heap.size + 1) Zs Zs_len _ rfl rfl hw3.here) rfl ⟨rfl, hw3.below (hb.trans (hb2.mono (by omega))) (by omega)⟩
 ·have HE : Hid (supS a b = layS (numsSup a b) ∧ supE a b = 0) := ⟨by simp [supS, h], by simp [supE, h]⟩
  have HOK := hid (sup_ok (of_decide_eq_true h));rw [h] at hm
  go_enter Tryz.func53, Tryz.ntmps53
  go_wp2_with (first | (go_at_call 78; refine (hm _).mono ?_; rintro e w2 ⟨rfl, hb2⟩; have HZ2 : Hid (w2.heap[w.heap.size + 1]? = some (.cells (SA Zs) 36 (0, 0))) := by { show _ = _; rw [hb2.block _ (by omega)]; exact HZ.out }; have HS2 : w2.heap[w.heap.size]? = some (.cells #[.int .i64 a, .int .i64 b] 32 (0, 0)) := by { rw [hb2.block _ (by omega)]; exact HS.out }; have hc0 := cell_of_row w2 w.heap.size 0 _ _ _ HS2; have hc1 := cell_of_row w2 w.heap.size 1 _ _ _ HS2) | (go_at_call 69; refine (lay_sup HOK.out _).mono ?_; rintro e w3 ⟨rfl, hb3⟩; have HZ3 : Hid (w3.heap[w.heap.size + 1]? = some (.cells (SA Zs) 36 (0, 0))) := by { show _ = _; rw [hb3.block _ (by have := hb2.size; omega), Below.heap_alloc _ _ _ (by have := hb2.size; omega)]; exact HZ2.out }) | (refine store_sec rfl _ _ rfl (w.heap.size + 1) rfl (layS (numsSup a b)) rfl (layS_sec _).1 Zs Zs_len HZ3.out ?_; intro w4 hw4))
  rw [HE.out.1, HE.out.2];have z2 := hb2.size
  exact bodyPost_ret (v := .tuple #[.agg (SA (layS (numsSup a b))), .int .i64 0]) (results_sec Tryz.results53 _ _ (w.heap.size + 1) _ (layS_sec _).1 _ rfl rfl hw4.here) rfl ⟨rfl, hw4.below (((hb.trans (hb2.mono (by omega))).alloc (by omega) _).trans (hb3.mono (by omega))) (by omega)⟩

end Go.Proofs.YtpmignilhoihnabGreat
