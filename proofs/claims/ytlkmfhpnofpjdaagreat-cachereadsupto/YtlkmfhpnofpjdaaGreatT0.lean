/-
  The statements' own helpers size, version, versioned; a teller in memory.
-/
import Derived.Test.YtlkmfhpnofpjdaaGreatCLawK
namespace Go.Proofs.YtlkmfhpnofpjdaaGreat
open Go.RowKit

/-- The content of a version, and the version of a content. -/
def verL (v : Int) : List Int := v % 256 :: (v / 256 % 256) :: (v / 65536 % 256) :: List.replicate 125 0
def verS (s : List Int) : Int := s.getD 0 0 + 256 * s.getD 1 0 + 65536 * s.getD 2 0
theorem verL_len (v : Int) : (verL v).length = 128 := by simp [verL]
theorem verL_sec (v : Int) : D.IsSec (verL v) := by
  refine ⟨verL_len v, fun x hx => ?_⟩
  simp only [verL, List.mem_cons, List.mem_replicate] at hx
  rcases hx with rfl | rfl | rfl | ⟨_, rfl⟩
  · omega
  · omega
  · omega
  · omega
theorem verS_verL {v : Int} (h0 : 0 ≤ v) (h1 : v < 16777216) : verS (verL v) = v := by
  simp only [verS, verL, List.getD_cons_zero, List.getD_cons_succ]
  omega
theorem verL_zero : verL 0 = D.Zs := by
  simp [verL, D.Zs, List.replicate_succ]

theorem verL_sets {v : Int} (h0 : 0 ≤ v) (h1 : v < 16777216) : ((D.Zs.set 0 (v % 256)).set 1 (v / 256 % 256)).set 2 (v / 65536) = verL v := by
  have e : v / 65536 % 256 = v / 65536 := by omega
  unfold verL D.Zs
  rw [e]
  simp [List.replicate_succ]

set_option maxRecDepth 100000 in
set_option maxHeartbeats 1000000 in
theorem version_any (s : List Int) (hs : D.IsSec s) (w : World) : Calls Tryz.prog 28 #[.agg (D.SA s)] w fun e w' => e = .returned (.int .i64 (verS s)) ∧ Chg w w' No := by
  have hb := heap_alloc_new w (.cells (D.SA s) 60)
  have k0 := D.sec_cell hb 0 (by rw [hs.1]; decide)
  have k1 := D.sec_cell hb 1 (by rw [hs.1]; decide)
  have k2 := D.sec_cell hb 2 (by rw [hs.1]; decide)
  have b0 := hs.at 0
  have b1 := hs.at 1
  have b2 := hs.at 2
  have HV : Hid (verS s = s.getD 0 0 + 256 * s.getD 1 0 + 65536 * s.getD 2 0) := rfl
  generalize s.getD 0 0 = x0 at *
  generalize s.getD 1 0 = x1 at *
  generalize s.getD 2 0 = x2 at *
  obtain ⟨b00, b01⟩ := b0
  obtain ⟨b10, b11⟩ := b1
  obtain ⟨b20, b21⟩ := b2
  clear hb hs
  go_enter Tryz.func28, Tryz.ntmps28
  go_wp2
  go_ret
  exact ⟨ret_int (by rw [HV.out]), Chg.alloc _ _ _⟩

set_option maxRecDepth 100000 in
set_option maxHeartbeats 1000000 in
theorem versioned_any (v : Int) (h0 : 0 ≤ v) (h1 : v < 16777216) (w : World) : Calls Tryz.prog 29 #[.int .i64 v] w fun e w' => e = .returned (.agg (D.SA (verL v))) ∧ Chg w w' No := by
  have hzs := D.zero_sec
  have hB1 : ((w.alloc (.cells (D.SA D.Zs) 60)).alloc (.cells (D.SA D.Zs) 60)).heap[w.heap.size + 1]? = some (.cells (D.SA D.Zs) 60 (0, 0)) := by
    rw [heap_alloc_if, if_pos (by simp)]
  have k0 := D.sec_cell hB1 0 (by rw [D.Zs_len]; decide)
  have k1 := D.sec_cell hB1 1 (by rw [D.Zs_len]; decide)
  have k2 := D.sec_cell hB1 2 (by rw [D.Zs_len]; decide)
  have f0 := frozen_of_row _ (w.heap.size + 1) 0 _ _ hB1
  have f1 := frozen_of_row _ (w.heap.size + 1) 1 _ _ hB1
  have f2 := frozen_of_row _ (w.heap.size + 1) 2 _ _ hB1
  clear hB1
  go_enter Tryz.func29, Tryz.ntmps29
  go_wp2_with (first
    | (refine wpList_load_row rfl 60 _ rfl (w.heap.size + 1) rfl 60 (D.SA (verL v)) (0, 0) _ (by rw [heap_alloc_if, if_pos (by simp), D.SA_set, D.SA_set, D.SA_set, verL_sets h0 h1]) Tryz.underlying60 rfl (by rw [D.sz26, D.SA_size, verL_len]) ?_)
    | (refine D.store_sec rfl _ _ rfl w.heap.size rfl (verL v) rfl (verL_len v) D.Zs D.Zs_len (by rw [heap_alloc_if, if_neg (by simp), heap_alloc_if, if_pos rfl]) ?_; intro w3 hw3)
    | fail)
  refine bodyPost_ret (v := .agg (D.SA (verL v))) (D.results_sec1 Tryz.results29 _ _ w.heap.size (verL v) (verL_len v) rfl hw3.here) rfl ⟨rfl, ((Chg.alloc _ _ _).tr (Chg.alloc _ _ _)).trans (wrote_chg hw3) (fun _ _ e => e) (fun j hj e => by omega)⟩

theorem size_any (x : Int) (hx : I64 x) (w : World) : Calls Tryz.prog 34 #[.int .i64 x] w fun e w' => e = .returned (.int .i64 (8 + D.pickN x 25)) ∧ w' = w := by
  have HP := D.pick_any x 25 w hx (by omega) (by omega)
  have hb := D.pickN_bd x (n := 25) (by omega)
  generalize D.pickN x 25 = y at *
  obtain ⟨h0, h1⟩ := hb
  go_enter Tryz.func34, Tryz.ntmps34
  go_wp2_with (first
    | (go_at_call 18; go_must (refine HP.mono ?_; rintro e w1 ⟨rfl, rfl⟩))
    | fail)
  go_ret
  exact ⟨rfl, rfl⟩

end Go.Proofs.YtlkmfhpnofpjdaaGreat
