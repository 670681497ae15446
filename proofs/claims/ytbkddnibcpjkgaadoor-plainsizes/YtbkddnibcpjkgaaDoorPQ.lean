/-
  The document's New.
-/
import Derived.Test.YtbkddnibcpjkgaaDoorPN
namespace Go.Proofs.YtbkddnibcpjkgaaDoor
open Go.RowKit

theorem szTr : (Tryd.prog.info? 29).map (·.size) = some 4 := by kernel_rfl
def zTree : Array Value := #[.int .i64 0, .int .i64 0, .int .i64 0, .slice none 0 0]

set_option maxHeartbeats 2000000 in
set_option maxRecDepth 100000 in
theorem rnew_bad (n m : Int) (w : World) (h : ¬ SizeOk n m) :
    Calls Tryd.prog 7 #[.int .i64 n, .int .i64 m] w fun e w' => (∃ A, e = .returned (.tuple #[.agg A, .int .i64 160])) ∧ Chg w w' No := by
  unfold SizeOk at h
  by_cases a1 : n < 8
  · clear h
    go_enter Tryd.func7, Tryd.ntmps7
    go_wp2_with (first
      | (refine store_R rfl 29 _ _ rfl w.heap.size zTree rfl rfl 29 _ (heap_alloc_new _ _) (by rw [szTr]; rfl) rfl (by simp [zTree, Value.oneCell']) ?_; intro w6 hw6)
      | fail)
    exact bodyPost_ret (v := .tuple #[.agg zTree, .int .i64 160]) (results_R Tryd.results7 _ _ w.heap.size _ 29 _ _ Tryd.underlying29 rfl (by rw [szTr]; rfl) rfl rfl hw6.here) rfl ⟨⟨_, rfl⟩, (Chg.alloc w _ No).trans (kt_new hw6) (fun _ _ e => e) (fun j hj e => by omega)⟩
  by_cases a2 : 4096 < n
  · clear h
    go_enter Tryd.func7, Tryd.ntmps7
    go_wp2_with (first
      | (refine store_R rfl 29 _ _ rfl w.heap.size zTree rfl rfl 29 _ (heap_alloc_new _ _) (by rw [szTr]; rfl) rfl (by simp [zTree, Value.oneCell']) ?_; intro w6 hw6)
      | fail)
    exact bodyPost_ret (v := .tuple #[.agg zTree, .int .i64 160]) (results_R Tryd.results7 _ _ w.heap.size _ 29 _ _ Tryd.underlying29 rfl (by rw [szTr]; rfl) rfl rfl hw6.here) rfl ⟨⟨_, rfl⟩, (Chg.alloc w _ No).trans (kt_new hw6) (fun _ _ e => e) (fun j hj e => by omega)⟩
  by_cases a3 : m < 1
  · clear h
    go_enter Tryd.func7, Tryd.ntmps7
    go_wp2_with (first
      | (refine store_R rfl 29 _ _ rfl w.heap.size zTree rfl rfl 29 _ (heap_alloc_new _ _) (by rw [szTr]; rfl) rfl (by simp [zTree, Value.oneCell']) ?_; intro w6 hw6)
      | fail)
    exact bodyPost_ret (v := .tuple #[.agg zTree, .int .i64 160]) (results_R Tryd.results7 _ _ w.heap.size _ 29 _ _ Tryd.underlying29 rfl (by rw [szTr]; rfl) rfl rfl hw6.here) rfl ⟨⟨_, rfl⟩, (Chg.alloc w _ No).trans (kt_new hw6) (fun _ _ e => e) (fun j hj e => by omega)⟩
  by_cases a4 : 512 < m
  · clear h
    go_enter Tryd.func7, Tryd.ntmps7
    go_wp2_with (first
      | (refine store_R rfl 29 _ _ rfl w.heap.size zTree rfl rfl 29 _ (heap_alloc_new _ _) (by rw [szTr]; rfl) rfl (by simp [zTree, Value.oneCell']) ?_; intro w6 hw6)
      | fail)
    exact bodyPost_ret (v := .tuple #[.agg zTree, .int .i64 160]) (results_R Tryd.results7 _ _ w.heap.size _ 29 _ _ Tryd.underlying29 rfl (by rw [szTr]; rfl) rfl rfl hw6.here) rfl ⟨⟨_, rfl⟩, (Chg.alloc w _ No).trans (kt_new hw6) (fun _ _ e => e) (fun j hj e => by omega)⟩
  have a5 : n < m + 2 := by omega
  have a6 : 1 ≤ m := by omega
  have a7 : m ≤ 512 := by omega
  clear h
  go_enter Tryd.func7, Tryd.ntmps7
  go_wp2_with (first
    | (refine store_R rfl 29 _ _ rfl w.heap.size zTree rfl rfl 29 _ (heap_alloc_new _ _) (by rw [szTr]; rfl) rfl (by simp [zTree, Value.oneCell']) ?_; intro w6 hw6)
    | fail)
  exact bodyPost_ret (v := .tuple #[.agg zTree, .int .i64 160]) (results_R Tryd.results7 _ _ w.heap.size _ 29 _ _ Tryd.underlying29 rfl (by rw [szTr]; rfl) rfl rfl hw6.here) rfl ⟨⟨_, rfl⟩, (Chg.alloc w _ No).trans (kt_new hw6) (fun _ _ e => e) (fun j hj e => by omega)⟩

theorem run_held (w : World) : (Instr.buildSlice 27 1 #[(0, .agg #[.int .i64 1, .int .i64 2, .int .i64 1, .int .i64 0, .int .i64 0, .int .i64 0, .slice none 0 0, .slice none 0 0])]).run Tryd.prog w = .ok (.slice (some ⟨w.heap.size, 0, none⟩) 1 1) (w.alloc (.cells #[.int .i64 1, .int .i64 2, .int .i64 1, .int .i64 0, .int .i64 0, .int .i64 0, .slice none 0 0, .slice none 0 0] 53)) := by kernel_rfl

set_option maxHeartbeats 2000000 in
set_option maxRecDepth 100000 in
theorem rnew_good (n m : Int) (w : World) (h : SizeOk n m) :
    Calls Tryd.prog 7 #[.int .i64 n, .int .i64 m] w fun e w' => (∃ A, e = .returned (.tuple #[.agg A, .int .i64 0])) ∧ Chg w w' No := by
  obtain ⟨h1, h2, h3, h4, h5⟩ := h
  have a1 : ¬ n < 8 := by omega
  have a2 : ¬ 4096 < n := by omega
  have a3 : ¬ m < 1 := by omega
  have a4 : ¬ 512 < m := by omega
  have a5 : ¬ n < m + 2 := by omega
  have hH := run_held
  have hA : ∀ X, ((w.alloc (.cells zTree 29)).alloc X).heap[w.heap.size]? = some (.cells zTree 29 (0, 0)) := fun X => (Chg.alloc (w.alloc (.cells zTree 29)) X No).keep (heap_alloc_new w _) (fun e => e)
  have HA := hid hA
  have HC : Hid (∀ X, Chg w ((w.alloc (.cells zTree 29)).alloc X) No) := hid (fun X => (Chg.alloc w _ No).tr (Chg.alloc _ X No))
  clear hA
  go_enter Tryd.func7, Tryd.ntmps7
  go_wp2_with (first
    | (refine store_R rfl 29 _ _ rfl w.heap.size #[.int .i64 n, .int .i64 m, .int .i64 0, .slice (some ⟨w.heap.size + 1, 0, none⟩) 1 1] rfl rfl 29 zTree (HA.out _) (by rw [szTr]; rfl) rfl (by simp [Value.oneCell']) ?_; intro w6 hw6)
    | fail)
  exact bodyPost_ret (v := .tuple #[.agg #[.int .i64 n, .int .i64 m, .int .i64 0, .slice (some ⟨w.heap.size + 1, 0, none⟩) 1 1], .int .i64 0]) (results_R Tryd.results7 _ _ w.heap.size _ 29 _ _ Tryd.underlying29 rfl (by rw [szTr]; rfl) rfl rfl hw6.here) rfl ⟨⟨_, rfl⟩, (HC.out _).trans (kt_new hw6) (fun _ _ e => e) (fun j hj e => by omega)⟩
end Go.Proofs.YtbkddnibcpjkgaaDoor
