/-
  A byte is written into a list of the call's own.
-/
import Derived.Test.YtibneoajkbblaaaSteps
import Derived.Test.YtibneoajkbblaaaSliceOne
import Derived.Deep.AppendLies
namespace Go.Proofs.Ytibneoajkbblaaa
open Go.RowKit

/-- What a list of the call's own is that has something in it: a row of its own. -/
theorem Own.row {w : World} {base : Nat} {e : TypeId} {k n : Nat} {v : Value} {l : List Int} (h : Own w base e k v n l) (hn : 0 < n) :
    ∃ g cap, v = .slice (some ⟨g, 0, none⟩) n cap ∧ base ≤ g ∧ g < w.heap.size ∧ (∀ j, j < n * k → w.cell? ⟨g, j, none⟩ = some (.int .u8 (l.getD j 0))) ∧ (∀ j, w.frozen? ⟨g, j, none⟩ = false) := by
  have hl := h.len
  rcases h.2 with ⟨_, h0⟩ | ⟨g, cap, cur, rfl, hg, hc, _, _, hs, ht⟩
  · omega
  · have hlt : g < w.heap.size := by
      rcases Nat.lt_or_ge g w.heap.size with c | c
      · exact c
      · rw [Array.getElem?_eq_none c] at hc; cases hc
    refine ⟨g, cap, rfl, hg, hlt, fun j hj => ?_, fun j => frozen_of_row w g j cur e hc⟩
    rw [cell_of_row w g j cur e (0, 0) hc]
    have h1 : (cur.toList.take (n * k))[j]? = (l.map (Value.int .u8))[j]? := by rw [ht]
    rw [List.getElem?_take, if_pos hj] at h1
    have hj' : j < l.length := by omega
    simp only [Array.getElem?_toList, List.getElem?_map, List.getElem?_eq_getElem hj', Option.map_some] at h1
    rw [h1]
    simp [hj']

/-- One byte is written. -/
theorem Own.set {w : World} {base : Nat} {e : TypeId} {k n g cap : Nat} {l : List Int} (h : Own w base e k (.slice (some ⟨g, 0, none⟩) n cap) n l) (j : Nat) (x : Int) :
    Own (w.setCell ⟨g, j, none⟩ (.int .u8 x)) base e k (.slice (some ⟨g, 0, none⟩) n cap) n (l.set j x) := by
  refine ⟨by rw [List.length_map, List.length_set, h.len], ?_⟩
  rcases h.2 with ⟨h0, _⟩ | ⟨g', cap', cur, he, hg, hc, h1, h2, hs, ht⟩
  · cases h0
  · cases he
    refine .inr ⟨g, cap, cur.setIfInBounds j (.int .u8 x), rfl, hg, heap_setCell_same w g j cur e _ hc, h1, h2, by rw [Array.size_setIfInBounds, hs], ?_⟩
    rw [Array.toList_setIfInBounds, List.take_set, ht, List.map_set]

theorem setCell_below {w0 w : World} {g j : Nat} {v : Value} {B : Nat} (h : Below B w0 w) (hg : B ≤ g) : Below B w0 (w.setCell ⟨g, j, none⟩ v) :=
  h.trans ⟨rfl, rfl, rfl, by simp [World.setCell], fun k hk => heap_setCell_other w ⟨g, j, none⟩ k _ (show k ≠ g by omega)⟩

theorem Own.ge {w : World} {base : Nat} {e : TypeId} {k n : Nat} {v : Value} {l : List Int} (h : Own w base e k v n l) : ∀ j, v.ownBlock = some j → base ≤ j := by
  intro j hj
  rcases h.2 with ⟨rfl, _⟩ | ⟨g, cap, cur, rfl, hg, _⟩
  · simp [Value.ownBlock] at hj
  · have e : g = j := by simpa [Value.ownBlock] using hj
    omega

/-- A list of the call's own that is empty, and was never made. -/
theorem Own.nil (w : World) (base : Nat) (e : TypeId) (k : Nat) : Own w base e k (.slice none 0 0) 0 [] := World.ownsRow_nil _ _ _ _

/-- The bytes that the document's Cut has put down behind k bytes. -/
def cutP (zs : List Int) (k : Nat) : List Int := zs.take k ++ zl (128 * cutM k - k)
theorem cutP_zero (zs : List Int) : cutP zs 0 = [] := by simp [cutP, cutM, zl]
theorem cutP_end (zs : List Int) : cutP zs zs.length = cutF zs := by rw [cutF_eq, cutP, List.take_length]
theorem cutP_step0 (zs : List Int) (k : Nat) (h : k < zs.length) (hm : k % 128 = 0) : (cutP zs k ++ Zs).set k (zs.getD k 0) = cutP zs (k + 1) := by
  have e1 : 128 * cutM k - k = 0 := by unfold cutM; omega
  have e2 : 128 * cutM (k + 1) - (k + 1) = 127 := by unfold cutM; omega
  unfold cutP
  rw [e1, e2]
  simp only [zl, List.replicate_zero, List.append_nil]
  rw [List.set_append_right _ _ (by simp; omega), List.length_take, Nat.min_eq_left (Nat.le_of_lt h), Nat.sub_self, List.take_succ_eq_append_getElem h, List.append_assoc]
  congr 1
  simp [Zs, h, List.replicate_succ]
theorem cutP_step1 (zs : List Int) (k : Nat) (h : k < zs.length) (hm : ¬ k % 128 = 0) : (cutP zs k).set k (zs.getD k 0) = cutP zs (k + 1) ∧ cutM k = cutM (k + 1) := by
  have e1 : cutM k = cutM (k + 1) := by unfold cutM; omega
  have e2 : 128 * cutM k - k = (128 * cutM (k + 1) - (k + 1)) + 1 := by unfold cutM; omega
  refine ⟨?_, e1⟩
  unfold cutP
  rw [e2, List.set_append_right _ _ (by simp; omega), List.length_take, Nat.min_eq_left (Nat.le_of_lt h), Nat.sub_self, List.take_succ_eq_append_getElem h, List.append_assoc]
  congr 1
  simp [zl, h, List.replicate_succ]

end Go.Proofs.Ytibneoajkbblaaa
