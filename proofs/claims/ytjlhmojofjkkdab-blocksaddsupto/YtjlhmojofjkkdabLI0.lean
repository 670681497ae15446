/-
  An inode as a list of eighteen numbers.
-/
import Derived.Test.YtjlhmojofjkkdabLR
import Derived.Deep.CutRange
import Derived.Deep.DeepCutAuto
import Derived.Shelf.Abstract
namespace Go.Proofs.Ytjlhmojofjkkdab
open Go.RowKit

def NA (z : List Int) : Array Value := (z.map (Value.int .i64)).toArray
theorem NA_size (z : List Int) : (NA z).size = z.length := by simp [NA]
theorem NA_get (z : List Int) (j : Nat) (h : j < z.length) : (NA z)[j]? = some (.int .i64 (z.getD j 0)) := by simp [NA, h]
theorem NA_one (z : List Int) : (NA z).all (·.oneCell') = true := by
  rw [Array.all_eq_true_iff_forall_mem]
  intro v hv
  simp only [NA, List.mem_toArray, List.mem_map] at hv
  obtain ⟨x, _, rfl⟩ := hv
  rfl
theorem NA_set (z : List Int) (j : Nat) (x : Int) : (NA z).setIfInBounds j (.int .i64 x) = NA (z.set j x) := by simp [NA, List.map_set]
theorem row_cell {w : World} {g : Nat} {z : List Int} {t : TypeId} (hg : w.heap[g]? = some (.cells (NA z) t (0, 0))) (j : Nat) (h : j < z.length) : w.cell? ⟨g, j, none⟩ = some (.int .i64 (z.getD j 0)) := by
  rw [cell_of_row _ _ _ (NA z) t (0, 0) hg]
  exact NA_get z j h
theorem row_free {w : World} {g : Nat} {c : Array Value} {t : TypeId} (hg : w.heap[g]? = some (.cells c t (0, 0))) (j : Nat) : w.frozen? ⟨g, j, none⟩ = false := frozen_of_row w g j c t hg
/-- One number written into the row at block g. -/
theorem row_setCell {w : World} {g : Nat} {z : List Int} {t : TypeId} (hg : w.heap[g]? = some (.cells (NA z) t (0, 0))) (j : Nat) (x : Int) : PutR w g (NA (z.set j x)) t (w.setCell ⟨g, j, none⟩ (.int .i64 x)) := by
  refine ⟨?_, ?_, ?_, rfl, rfl, rfl⟩
  · rw [heap_setCell_same w g j (NA z) t _ hg, NA_set]
  · intro k hk
    exact heap_setCell_other w ⟨g, j, none⟩ k _ hk
  · simp [World.setCell]

theorem szI : (Try.prog.info? 24).map (·.size) = some 18 := by kernel_rfl
def Zi : List Int := List.replicate 18 0
theorem Zi_len : Zi.length = 18 := by simp [Zi]
theorem zero_inode (w : World) : (zeroValue 24).run Try.prog w = .ok (.agg (NA Zi)) w := by kernel_rfl
theorem build_inode (w : World) : (Instr.build 24 #[]).run Try.prog w = .ok (.agg (NA Zi)) w := by kernel_rfl

end Go.Proofs.Ytjlhmojofjkkdab
