/-
  The statements' own helper full: a sector of one byte all over.
-/
import Derived.Test.YtlkmfhpnofpjdaaGreatCacheB
namespace Go.Proofs.YtlkmfhpnofpjdaaGreat
open Go.RowKit

/-- A sector of one byte all over. -/
def fullS (m : Int) : List Int := List.replicate 128 m
theorem fullS_len (m : Int) : (fullS m).length = 128 := by simp [fullS]
def fillS (m : Int) (k : Nat) : List Int := List.replicate k m ++ List.replicate (128 - k) 0
theorem fillS_len {m : Int} {k : Nat} (h : k ≤ 128) : (fillS m k).length = 128 := by simp [fillS]; omega
theorem fillS_zero (m : Int) : fillS m 0 = D.Zs := by simp [fillS, D.Zs]
theorem fillS_all (m : Int) : fillS m 128 = fullS m := by simp [fillS, fullS]
theorem fillS_set {m : Int} {k : Nat} (h : k < 128) : (fillS m k).set k m = fillS m (k + 1) := by
  unfold fillS
  rw [List.set_append_right _ _ (by simp)]
  obtain ⟨j, hj⟩ : ∃ j, 128 - k = j + 1 := ⟨127 - k, by omega⟩
  have e : List.replicate (k + 1) m = List.replicate k m ++ [m] := List.replicate_succ'
  rw [hj, show 128 - (k + 1) = j by omega, e, List.append_assoc]
  simp [List.replicate_succ]

set_option maxRecDepth 100000 in
set_option maxHeartbeats 1000000 in
theorem full_any (m : Int) (w : World) : Calls Tryz.prog 37 #[.int .u8 m] w fun e w' => e = .returned (.agg (D.SA (fullS m))) ∧ Chg w w' No := by
  have hzs := D.zero_sec
  go_enter Tryz.func37, Tryz.ntmps37
  go_wp2_with fail
  go_loopw [4] (fun i wr => ∃ (k : Nat) (wq : World), wq = wr ∧ k ≤ 128 ∧ i = .int .i64 k ∧ wq.heap[w.heap.size]? = some (.cells (D.SA D.Zs) 60 (0, 0)) ∧ wq.heap[w.heap.size + 1]? = some (.cells (D.SA (fillS m k)) 60 (0, 0)) ∧ Chg w wq No) (fun i _ => 128 - (intOf i).toNat)
  case atStart =>
    refine ⟨0, _, rfl, by omega, rfl, ?_, ?_, (Chg.alloc _ _ _).tr (Chg.alloc _ _ _)⟩
    · rw [heap_alloc_if, if_neg (by simp), heap_alloc_if, if_pos rfl]
    · rw [heap_alloc_if, if_pos (by simp), fillS_zero]
  case round =>
    obtain ⟨k, wA, rfl, hk, rfl, h0, h1, hc⟩ := hrel
    by_cases hlt : k < 128
    · have kc := D.sec_cell h1 k (by rw [fillS_len (by omega)]; omega)
      have fc := frozen_of_row wA (w.heap.size + 1) k _ _ h1
      have hi0 : (0 : Int) ≤ (k : Int) := by omega
      have hi1 : (k : Int) < 128 := by omega
      have H0 := hid (And.intro h0 (And.intro h1 hc))
      clear h0 h1 hc
      go_wp2_with fail
      obtain ⟨h0, h1, hc⟩ := H0.out
      refine ⟨⟨k + 1, _, rfl, by omega, by go_num, (heap_setCell_other wA ⟨w.heap.size + 1, k, none⟩ w.heap.size _ (by simp)).trans h0, ?_, hc.trans Chg.setCell (fun _ _ e => e) (fun j hj e => by omega)⟩, by simp [intOf]; omega⟩
      rw [heap_setCell_same wA (w.heap.size + 1) k _ _ _ h1, D.SA_set, fillS_set hlt]
    · have hkm : k = 128 := by omega
      subst hkm
      rw [fillS_all] at h1
      have H0 := hid (And.intro h0 (And.intro h1 hc))
      clear h0 h1 hc
      go_wp2_with (first
        | (refine wpList_load_row rfl 60 _ rfl (w.heap.size + 1) rfl 60 (D.SA (fullS m)) (0, 0) _ H0.out.2.1 Tryz.underlying60 rfl (by rw [D.sz26, D.SA_size, fullS_len]) ?_)
        | (refine D.store_sec rfl _ _ rfl w.heap.size rfl (fullS m) rfl (fullS_len m) D.Zs D.Zs_len H0.out.1 ?_; intro w3 hw3)
        | fail)
      refine bodyPost_ret (v := .agg (D.SA (fullS m))) (D.results_sec1 Tryz.results37 _ _ w.heap.size (fullS m) (fullS_len m) rfl hw3.here) rfl ⟨rfl, H0.out.2.2.trans (wrote_chg hw3) (fun _ _ e => e) (fun j hj e => by omega)⟩

end Go.Proofs.YtlkmfhpnofpjdaaGreat
