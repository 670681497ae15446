/-
 FsckTwice: behind a Run the image is well-formed, and is what was wanted; a second one writes nothing, and tells the same.
-/
import Derived.Test.YtboammbcoleicaaGreatXC
import Derived.Test.YtboammbcoleicaaGreatGA
import Derived.Test.YtboammbcoleicaaGreatFD
import Derived.Test.YtboammbcoleicaaGreatS15
import Derived.Test.YtboammbcoleicaaGreatJC
namespace Go.Proofs.YtboammbcoleicaaGreat
open Go.RowKit Go.Shelf

def exR : List Int := [2, 7, 128, 0, 5, 0, 0, 0, 0, 0, 0, 0, 0, 0, 0, 0, 0, 0]
def exF : List Int := [1, 1, 3, 0, 6, 0, 0, 0, 0, 0, 0, 0, 0, 0, 0, 0, 0, 0]
def exH : List Int := [104, 101, 108, 108, 111] ++ List.replicate 123 0
def exIm : Img := [supS 16 4, inoS exR, inoS exF, Zs, Zs, slotS 2 ⟨#[97]⟩, exH, Zs, Zs, Zs, Zs, Zs, Zs, Zs, Zs, Zs]
theorem ex_sup : supOf exIm = (16, 4, 0) := by kernel_rfl
theorem ex_root : rootB 4 exIm = true := by kernel_rfl
theorem ex_six : secI (lookL 4 exIm).wt 6 = [104, 101, 108] ++ List.replicate 125 0 := by kernel_rfl
theorem ex_one : (secI (lookL 4 exIm).wt 1).getD 1 0 = 1 := by kernel_rfl
theorem ex_len : (lookL 4 exIm).wt.length = 16 := by kernel_rfl
theorem ex_write : writeI 4 exIm (lookL 4 exIm) = [1, 6] := by kernel_rfl

end Go.Proofs.YtboammbcoleicaaGreat

namespace Go.Proofs.YtboammbcoleicaaGreat
open Go.RowKit Go.Shelf

def smallL : List Spt := [(0, 0, [66, 82, 75, 87, 16, 0, 0, 0, 4]), (1, 0, [2, 7, 0, 0, 128]), (1, 16, [5]), (2, 0, [1, 1, 0, 0, 3]), (2, 16, [6]), (5, 0, [2, 0, 0, 0, 1, 97]), (6, 0, [104, 101, 108, 108, 111])]
theorem small_im : picI 16 smallL = exIm := by kernel_rfl
theorem small_n : nP 16 = 16 := by kernel_rfl
theorem small_ok : ∀ x ∈ smallL, OkSpt x := by
 intro x hx
 unfold OkSpt I64
 simp only [smallL, List.mem_cons, List.not_mem_nil, or_false] at hx
 rcases hx with rfl | rfl | rfl | rfl | rfl | rfl | rfl <;> decide
theorem bytes_row {w : World} {b : Nat} {t : TypeId} {l : List Int} (h : w.heap[b]? = some (.cells (SA l) t (0, 0))) : D.BytesAt w (some ⟨b, 0, none⟩) l := by
 refine .inr ⟨b, 0, rfl, slt h, fun j hj => ?_⟩;rw [cell_of_row _ _ _ _ _ _ h, Nat.zero_add]
 show ((l.map (Value.int .u8)).toArray)[j]? = _
 rw [List.getElem?_toArray, List.getElem?_map, List.getD_eq_getElem?_getD, List.getElem?_eq_getElem hj]
 rfl
theorem small_pic (w : World) : SptsAt (((((((((w.alloc (.cells #[.int .u8 66, .int .u8 82, .int .u8 75, .int .u8 87, .int .u8 16, .int .u8 0, .int .u8 0, .int .u8 0, .int .u8 4] 5)).alloc (.cells #[.int .u8 2, .int .u8 7, .int .u8 0, .int .u8 0, .int .u8 128] 5)).alloc (.cells #[.int .u8 5] 5)).alloc (.cells #[.int .u8 1, .int .u8 1, .int .u8 0, .int .u8 0, .int .u8 3] 5)).alloc (.cells #[.int .u8 6] 5)).alloc (.cells #[.int .u8 2, .int .u8 0, .int .u8 0, .int .u8 0, .int .u8 1, .int .u8 97] 5)).alloc (.cells #[.int .u8 104, .int .u8 101, .int .u8 108, .int .u8 108, .int .u8 111] 5)).alloc (.cells #[.int .i64 0, .int .i64 0, .slice (some ⟨w.heap.size, 0, none⟩) 9 9, .int .i64 1, .int .i64 0, .slice (some ⟨w.heap.size + 1, 0, none⟩) 5 5, .int .i64 1, .int .i64 16, .slice (some ⟨w.heap.size + 1 + 1, 0, none⟩) 1 1, .int .i64 2, .int .i64 0, .slice (some ⟨w.heap.size + 1 + 1 + 1, 0, none⟩) 5 5, .int .i64 2, .int .i64 16, .slice (some ⟨w.heap.size + 1 + 1 + 1 + 1, 0, none⟩) 1 1, .int .i64 5, .int .i64 0, .slice (some ⟨w.heap.size + 1 + 1 + 1 + 1 + 1, 0, none⟩) 6 6, .int .i64 6, .int .i64 0, .slice (some ⟨w.heap.size + 1 + 1 + 1 + 1 + 1 + 1, 0, none⟩) 5 5] 61)).alloc (.cells #[.int .i64 16, .slice (some ⟨w.heap.size + 1 + 1 + 1 + 1 + 1 + 1 + 1, 0, none⟩) 7 7] 25)) (some ⟨w.heap.size + 1 + 1 + 1 + 1 + 1 + 1 + 1, 0, none⟩) smallL ∧ Chg w (((((((((w.alloc (.cells #[.int .u8 66, .int .u8 82, .int .u8 75, .int .u8 87, .int .u8 16, .int .u8 0, .int .u8 0, .int .u8 0, .int .u8 4] 5)).alloc (.cells #[.int .u8 2, .int .u8 7, .int .u8 0, .int .u8 0, .int .u8 128] 5)).alloc (.cells #[.int .u8 5] 5)).alloc (.cells #[.int .u8 1, .int .u8 1, .int .u8 0, .int .u8 0, .int .u8 3] 5)).alloc (.cells #[.int .u8 6] 5)).alloc (.cells #[.int .u8 2, .int .u8 0, .int .u8 0, .int .u8 0, .int .u8 1, .int .u8 97] 5)).alloc (.cells #[.int .u8 104, .int .u8 101, .int .u8 108, .int .u8 108, .int .u8 111] 5)).alloc (.cells #[.int .i64 0, .int .i64 0, .slice (some ⟨w.heap.size, 0, none⟩) 9 9, .int .i64 1, .int .i64 0, .slice (some ⟨w.heap.size + 1, 0, none⟩) 5 5, .int .i64 1, .int .i64 16, .slice (some ⟨w.heap.size + 1 + 1, 0, none⟩) 1 1, .int .i64 2, .int .i64 0, .slice (some ⟨w.heap.size + 1 + 1 + 1, 0, none⟩) 5 5, .int .i64 2, .int .i64 16, .slice (some ⟨w.heap.size + 1 + 1 + 1 + 1, 0, none⟩) 1 1, .int .i64 5, .int .i64 0, .slice (some ⟨w.heap.size + 1 + 1 + 1 + 1 + 1, 0, none⟩) 6 6, .int .i64 6, .int .i64 0, .slice (some ⟨w.heap.size + 1 + 1 + 1 + 1 + 1 + 1, 0, none⟩) 5 5] 61)).alloc (.cells #[.int .i64 16, .slice (some ⟨w.heap.size + 1 + 1 + 1 + 1 + 1 + 1 + 1, 0, none⟩) 7 7] 25)) No := by
 obtain ⟨w1, hw1⟩ : ∃ y, y = w.alloc (.cells #[.int .u8 66, .int .u8 82, .int .u8 75, .int .u8 87, .int .u8 16, .int .u8 0, .int .u8 0, .int .u8 0, .int .u8 4] 5) := ⟨_, rfl⟩
 have hc1 : Chg w w1 No := by rw [hw1]; exact Chg.alloc _ _ _
 have hs1 : w1.heap.size = w.heap.size + 1 := by rw [hw1, World.size_alloc]
 have hn1 : w1.heap[w.heap.size]? = some (.cells #[.int .u8 66, .int .u8 82, .int .u8 75, .int .u8 87, .int .u8 16, .int .u8 0, .int .u8 0, .int .u8 0, .int .u8 4] 5 (0, 0)) := by
  have := heap_alloc_new w (.cells #[.int .u8 66, .int .u8 82, .int .u8 75, .int .u8 87, .int .u8 16, .int .u8 0, .int .u8 0, .int .u8 0, .int .u8 4] 5)
  skip
  rw [hw1]
  exact this
 rw [← hw1];obtain ⟨w2, hw2⟩ : ∃ y, y = w1.alloc (.cells #[.int .u8 2, .int .u8 7, .int .u8 0, .int .u8 0, .int .u8 128] 5) := ⟨_, rfl⟩
 have hc2 : Chg w1 w2 No := by rw [hw2]; exact Chg.alloc _ _ _
 have hs2 : w2.heap.size = w.heap.size + 1 + 1 := by rw [hw2, World.size_alloc]; rw [hs1]
 have hn2 : w2.heap[w.heap.size + 1]? = some (.cells #[.int .u8 2, .int .u8 7, .int .u8 0, .int .u8 0, .int .u8 128] 5 (0, 0)) := by
  have := heap_alloc_new w1 (.cells #[.int .u8 2, .int .u8 7, .int .u8 0, .int .u8 0, .int .u8 128] 5);rw [hs1] at this;rw [hw2]
  exact this
 rw [← hw2];obtain ⟨w3, hw3⟩ : ∃ y, y = w2.alloc (.cells #[.int .u8 5] 5) := ⟨_, rfl⟩
 have hc3 : Chg w2 w3 No := by rw [hw3]; exact Chg.alloc _ _ _
 have hs3 : w3.heap.size = w.heap.size + 1 + 1 + 1 := by rw [hw3, World.size_alloc]; rw [hs2]
 have hn3 : w3.heap[w.heap.size + 1 + 1]? = some (.cells #[.int .u8 5] 5 (0, 0)) := by
  have := heap_alloc_new w2 (.cells #[.int .u8 5] 5);rw [hs2] at this;rw [hw3]
  exact this
 rw [← hw3];obtain ⟨w4, hw4⟩ : ∃ y, y = w3.alloc (.cells #[.int .u8 1, .int .u8 1, .int .u8 0, .int .u8 0, .int .u8 3] 5) := ⟨_, rfl⟩
 have hc4 : Chg w3 w4 No := by rw [hw4]; exact Chg.alloc _ _ _
 have hs4 : w4.heap.size = w.heap.size + 1 + 1 + 1 + 1 := by rw [hw4, World.size_alloc]; rw [hs3]
 have hn4 : w4.heap[w.heap.size + 1 + 1 + 1]? = some (.cells #[.int .u8 1, .int .u8 1, .int .u8 0, .int .u8 0, .int .u8 3] 5 (0, 0)) := by
  have := heap_alloc_new w3 (.cells #[.int .u8 1, .int .u8 1, .int .u8 0, .int .u8 0, .int .u8 3] 5);rw [hs3] at this;rw [hw4]
  exact this
 rw [← hw4];obtain ⟨w5, hw5⟩ : ∃ y, y = w4.alloc (.cells #[.int .u8 6] 5) := ⟨_, rfl⟩
 have hc5 : Chg w4 w5 No := by rw [hw5]; exact Chg.alloc _ _ _
 have hs5 : w5.heap.size = w.heap.size + 1 + 1 + 1 + 1 + 1 := by rw [hw5, World.size_alloc]; rw [hs4]
 have hn5 : w5.heap[w.heap.size + 1 + 1 + 1 + 1]? = some (.cells #[.int .u8 6] 5 (0, 0)) := by
  have := heap_alloc_new w4 (.cells #[.int .u8 6] 5);rw [hs4] at this;rw [hw5]
  exact this
 rw [← hw5];obtain ⟨w6, hw6⟩ : ∃ y, y = w5.alloc (.cells #[.int .u8 2, .int .u8 0, .int .u8 0, .int .u8 0, .int .u8 1, .int .u8 97] 5) := ⟨_, rfl⟩
 have hc6 : Chg w5 w6 No := by rw [hw6]; exact Chg.alloc _ _ _
 have hs6 : w6.heap.size = w.heap.size + 1 + 1 + 1 + 1 + 1 + 1 := by rw [hw6, World.size_alloc]; rw [hs5]
 have hn6 : w6.heap[w.heap.size + 1 + 1 + 1 + 1 + 1]? = some (.cells #[.int .u8 2, .int .u8 0, .int .u8 0, .int .u8 0, .int .u8 1, .int .u8 97] 5 (0, 0)) := by
  have := heap_alloc_new w5 (.cells #[.int .u8 2, .int .u8 0, .int .u8 0, .int .u8 0, .int .u8 1, .int .u8 97] 5);rw [hs5] at this;rw [hw6]
  exact this
 rw [← hw6];obtain ⟨w7, hw7⟩ : ∃ y, y = w6.alloc (.cells #[.int .u8 104, .int .u8 101, .int .u8 108, .int .u8 108, .int .u8 111] 5) := ⟨_, rfl⟩
 have hc7 : Chg w6 w7 No := by rw [hw7]; exact Chg.alloc _ _ _
 have hs7 : w7.heap.size = w.heap.size + 1 + 1 + 1 + 1 + 1 + 1 + 1 := by rw [hw7, World.size_alloc]; rw [hs6]
 have hn7 : w7.heap[w.heap.size + 1 + 1 + 1 + 1 + 1 + 1]? = some (.cells #[.int .u8 104, .int .u8 101, .int .u8 108, .int .u8 108, .int .u8 111] 5 (0, 0)) := by
  have := heap_alloc_new w6 (.cells #[.int .u8 104, .int .u8 101, .int .u8 108, .int .u8 108, .int .u8 111] 5);rw [hs6] at this;rw [hw7]
  exact this
 rw [← hw7];obtain ⟨w8, hw8⟩ : ∃ y, y = w7.alloc (.cells #[.int .i64 0, .int .i64 0, .slice (some ⟨w.heap.size, 0, none⟩) 9 9, .int .i64 1, .int .i64 0, .slice (some ⟨w.heap.size + 1, 0, none⟩) 5 5, .int .i64 1, .int .i64 16, .slice (some ⟨w.heap.size + 1 + 1, 0, none⟩) 1 1, .int .i64 2, .int .i64 0, .slice (some ⟨w.heap.size + 1 + 1 + 1, 0, none⟩) 5 5, .int .i64 2, .int .i64 16, .slice (some ⟨w.heap.size + 1 + 1 + 1 + 1, 0, none⟩) 1 1, .int .i64 5, .int .i64 0, .slice (some ⟨w.heap.size + 1 + 1 + 1 + 1 + 1, 0, none⟩) 6 6, .int .i64 6, .int .i64 0, .slice (some ⟨w.heap.size + 1 + 1 + 1 + 1 + 1 + 1, 0, none⟩) 5 5] 61) := ⟨_, rfl⟩
 have hc8 : Chg w7 w8 No := by rw [hw8]; exact Chg.alloc _ _ _
 have hs8 : w8.heap.size = w.heap.size + 1 + 1 + 1 + 1 + 1 + 1 + 1 + 1 := by rw [hw8, World.size_alloc]; rw [hs7]
 have hn8 : w8.heap[w.heap.size + 1 + 1 + 1 + 1 + 1 + 1 + 1]? = some (.cells #[.int .i64 0, .int .i64 0, .slice (some ⟨w.heap.size, 0, none⟩) 9 9, .int .i64 1, .int .i64 0, .slice (some ⟨w.heap.size + 1, 0, none⟩) 5 5, .int .i64 1, .int .i64 16, .slice (some ⟨w.heap.size + 1 + 1, 0, none⟩) 1 1, .int .i64 2, .int .i64 0, .slice (some ⟨w.heap.size + 1 + 1 + 1, 0, none⟩) 5 5, .int .i64 2, .int .i64 16, .slice (some ⟨w.heap.size + 1 + 1 + 1 + 1, 0, none⟩) 1 1, .int .i64 5, .int .i64 0, .slice (some ⟨w.heap.size + 1 + 1 + 1 + 1 + 1, 0, none⟩) 6 6, .int .i64 6, .int .i64 0, .slice (some ⟨w.heap.size + 1 + 1 + 1 + 1 + 1 + 1, 0, none⟩) 5 5] 61 (0, 0)) := by
  have := heap_alloc_new w7 (.cells #[.int .i64 0, .int .i64 0, .slice (some ⟨w.heap.size, 0, none⟩) 9 9, .int .i64 1, .int .i64 0, .slice (some ⟨w.heap.size + 1, 0, none⟩) 5 5, .int .i64 1, .int .i64 16, .slice (some ⟨w.heap.size + 1 + 1, 0, none⟩) 1 1, .int .i64 2, .int .i64 0, .slice (some ⟨w.heap.size + 1 + 1 + 1, 0, none⟩) 5 5, .int .i64 2, .int .i64 16, .slice (some ⟨w.heap.size + 1 + 1 + 1 + 1, 0, none⟩) 1 1, .int .i64 5, .int .i64 0, .slice (some ⟨w.heap.size + 1 + 1 + 1 + 1 + 1, 0, none⟩) 6 6, .int .i64 6, .int .i64 0, .slice (some ⟨w.heap.size + 1 + 1 + 1 + 1 + 1 + 1, 0, none⟩) 5 5] 61);rw [hs7] at this;rw [hw8]
  exact this
 rw [← hw8];obtain ⟨w9, hw9⟩ : ∃ y, y = w8.alloc (.cells #[.int .i64 16, .slice (some ⟨w.heap.size + 1 + 1 + 1 + 1 + 1 + 1 + 1, 0, none⟩) 7 7] 25) := ⟨_, rfl⟩
 have hc9 : Chg w8 w9 No := by rw [hw9]; exact Chg.alloc _ _ _
 have hs9 : w9.heap.size = w.heap.size + 1 + 1 + 1 + 1 + 1 + 1 + 1 + 1 + 1 := by rw [hw9, World.size_alloc]; rw [hs8]
 have hn9 : w9.heap[w.heap.size + 1 + 1 + 1 + 1 + 1 + 1 + 1 + 1]? = some (.cells #[.int .i64 16, .slice (some ⟨w.heap.size + 1 + 1 + 1 + 1 + 1 + 1 + 1, 0, none⟩) 7 7] 25 (0, 0)) := by
  have := heap_alloc_new w8 (.cells #[.int .i64 16, .slice (some ⟨w.heap.size + 1 + 1 + 1 + 1 + 1 + 1 + 1, 0, none⟩) 7 7] 25);rw [hs8] at this;rw [hw9]
  exact this
 rw [← hw9];have k0 := (hc9.keep (hc8.keep (hc7.keep (hc6.keep (hc5.keep (hc4.keep (hc3.keep (hc2.keep hn1 (fun e => e)) (fun e => e)) (fun e => e)) (fun e => e)) (fun e => e)) (fun e => e)) (fun e => e)) (fun e => e));have k1 := (hc9.keep (hc8.keep (hc7.keep (hc6.keep (hc5.keep (hc4.keep (hc3.keep hn2 (fun e => e)) (fun e => e)) (fun e => e)) (fun e => e)) (fun e => e)) (fun e => e)) (fun e => e));have k2 := (hc9.keep (hc8.keep (hc7.keep (hc6.keep (hc5.keep (hc4.keep hn3 (fun e => e)) (fun e => e)) (fun e => e)) (fun e => e)) (fun e => e)) (fun e => e));have k3 := (hc9.keep (hc8.keep (hc7.keep (hc6.keep (hc5.keep hn4 (fun e => e)) (fun e => e)) (fun e => e)) (fun e => e)) (fun e => e));have k4 := (hc9.keep (hc8.keep (hc7.keep (hc6.keep hn5 (fun e => e)) (fun e => e)) (fun e => e)) (fun e => e));have k5 := (hc9.keep (hc8.keep (hc7.keep hn6 (fun e => e)) (fun e => e)) (fun e => e));have k6 := (hc9.keep (hc8.keep hn7 (fun e => e)) (fun e => e));have k7 := (hc9.keep hn8 (fun e => e));refine ⟨.inr ⟨w.heap.size + 1 + 1 + 1 + 1 + 1 + 1 + 1, 0, rfl, slt k7, fun k x hx => ?_⟩, ((((((((hc1.tr hc2).tr hc3).tr hc4).tr hc5).tr hc6).tr hc7).tr hc8).tr hc9)⟩
 match k, hx with
 | 0, hx =>
  obtain rfl := Option.some.inj hx;refine ⟨(some ⟨w.heap.size, 0, none⟩), 9, fun j v hv => ?_, bytes_row (l := [66, 82, 75, 87, 16, 0, 0, 0, 4]) k0⟩;rw [cell_of_row _ _ _ _ _ _ k7]
  match j, hv with
  | 0, hv => exact hv
  | 1, hv => exact hv
  | 2, hv => exact hv
 | 1, hx =>
  obtain rfl := Option.some.inj hx;refine ⟨(some ⟨w.heap.size + 1, 0, none⟩), 5, fun j v hv => ?_, bytes_row (l := [2, 7, 0, 0, 128]) k1⟩;rw [cell_of_row _ _ _ _ _ _ k7]
  match j, hv with
  | 0, hv => exact hv
  | 1, hv => exact hv
  | 2, hv => exact hv
 | 2, hx =>
  obtain rfl := Option.some.inj hx;refine ⟨(some ⟨w.heap.size + 1 + 1, 0, none⟩), 1, fun j v hv => ?_, bytes_row (l := [5]) k2⟩;rw [cell_of_row _ _ _ _ _ _ k7]
  match j, hv with
  | 0, hv => exact hv
  | 1, hv => exact hv
  | 2, hv => exact hv
 | 3, hx =>
  obtain rfl := Option.some.inj hx;refine ⟨(some ⟨w.heap.size + 1 + 1 + 1, 0, none⟩), 5, fun j v hv => ?_, bytes_row (l := [1, 1, 0, 0, 3]) k3⟩;rw [cell_of_row _ _ _ _ _ _ k7]
  match j, hv with
  | 0, hv => exact hv
  | 1, hv => exact hv
  | 2, hv => exact hv
 | 4, hx =>
  obtain rfl := Option.some.inj hx;refine ⟨(some ⟨w.heap.size + 1 + 1 + 1 + 1, 0, none⟩), 1, fun j v hv => ?_, bytes_row (l := [6]) k4⟩;rw [cell_of_row _ _ _ _ _ _ k7]
  match j, hv with
  | 0, hv => exact hv
  | 1, hv => exact hv
  | 2, hv => exact hv
 | 5, hx =>
  obtain rfl := Option.some.inj hx;refine ⟨(some ⟨w.heap.size + 1 + 1 + 1 + 1 + 1, 0, none⟩), 6, fun j v hv => ?_, bytes_row (l := [2, 0, 0, 0, 1, 97]) k5⟩;rw [cell_of_row _ _ _ _ _ _ k7]
  match j, hv with
  | 0, hv => exact hv
  | 1, hv => exact hv
  | 2, hv => exact hv
 | 6, hx =>
  obtain rfl := Option.some.inj hx;refine ⟨(some ⟨w.heap.size + 1 + 1 + 1 + 1 + 1 + 1, 0, none⟩), 5, fun j v hv => ?_, bytes_row (l := [104, 101, 108, 108, 111]) k6⟩;rw [cell_of_row _ _ _ _ _ _ k7]
  match j, hv with
  | 0, hv => exact hv
  | 1, hv => exact hv
  | 2, hv => exact hv

set_option maxHeartbeats 1000000 in
set_option maxRecDepth 100000 in
theorem small_any (w : World) : Calls Tryz.prog 30 #[] w fun e w' => ∃ g, e = .returned (.slice (some ⟨g, 0, none⟩) 16 16) ∧ w.heap.size ≤ g ∧ WtAt w' g exIm ∧ Chg w w' No := by
 obtain ⟨hS, hC⟩ := small_pic w;have hIm := image_any 16 (some ⟨w.heap.size + 1 + 1 + 1 + 1 + 1 + 1 + 1, 0, none⟩) smallL 7 _ (by unfold I64; omega) hS small_ok (by decide);rw [small_im, small_n] at hIm;have HC := hid hC;clear hS hC
 go_enter Tryz.func30, Tryz.ntmps30
 go_wp2_with (first
  | (go_at_call 11; go_must (refine hIm.mono ?_; rintro e w2 ⟨g, rfl, hg, hwt, hc2⟩))
  | fail)
 go_ret
 exact ⟨g, rfl, by have := HC.out.size; omega, hwt, HC.out.tr hc2⟩
end Go.Proofs.YtboammbcoleicaaGreat

namespace Go.Proofs.YtboammbcoleicaaGreat
open Go.RowKit Go.Shelf

theorem wt_sec_set {im : Img} (h : ∀ s ∈ im, IsSec s) : AllSec im := fun n => by
 unfold secI;rw [List.getD_eq_getElem?_getD]
 cases hq : im[n.toNat]? with
 | none => exact Zs_sec
 | some s => exact h s (List.mem_of_getElem? hq)
theorem take_two (l : List Int) (j x : Nat) : l.take (j + x) = l.take j ++ (l.drop j).take x := List.take_add ..
theorem cut_cut {M : Nat} {im : Img} (h : II im M) (j x : Nat) : cutI M (cutI M im j) x = cutI M im (j + x) := by
 obtain ⟨_, r2⟩ := cut_look (by have := h.ml; omega) h.sec h.root j;unfold cutI at *;rw [r2];have hw := cut_write (M := M) (im := im) j;unfold cutI at hw;rw [hw, take_two, wroteI_append]
theorem cut_kW {M : Nat} {im : Img} (h : II im M) (j : Nat) : kW M (cutI M im j) = kW M im - j := by
 obtain ⟨_, r2⟩ := cut_look (by have := h.ml; omega) h.sec h.root j;unfold kW;rw [r2, cut_write, List.length_drop]
theorem cut_ii {M : Nat} {im : Img} (h : II im M) (j : Nat) (hs : AllSec (cutI M im j)) : II (cutI M im j) M := by
 obtain ⟨r1, _⟩ := cut_look (by have := h.ml; omega) h.sec h.root j;have hsup := cut_sup h.root j
 exact ⟨by rw [hsup]; exact h.sup, by rw [hsup]; exact h.hM, by rw [cutI_len]; exact h.ml, r1, hs, by rw [cutI_len]; exact h.n1, by rw [cutI_len]; exact h.n2⟩
theorem cut_zero (M : Nat) (im : Img) : cutI M im 0 = im := rfl
theorem cut_end {M : Nat} {im : Img} (h : II im M) : cutI M im (kW M im) = (lookL M im).wt := cut_all h.root
def CutI (im J : Img) (j : Nat) : Prop := ((∀ M, ¬ II im M) ∧ J = im ∧ j = 0) ∨ ∃ M, II im M ∧ j ≤ kW M im ∧ J = cutI M im j
theorem CutI.len {im J : Img} {j : Nat} (h : CutI im J j) : J.length = im.length ∧ j ≤ im.length * 3 := by
 rcases h with ⟨_, rfl, rfl⟩ | ⟨M, _, hj, rfl⟩
 ·exact ⟨rfl, by omega⟩
 ·exact ⟨cutI_len _ _ _, Nat.le_trans hj (kW_le M im)⟩
theorem ii_zero {im : Img} {M : Nat} (h : II im M) : lookE im = 0 := by
 unfold lookE;rw [if_neg (by simp [h.sup]), ← h.hM, h.root]
 rfl
def RepC (w w' : World) (im : Img) (M j : Nat) (r : Array Value) : Prop := ∃ gw wc s1 s2 s3 a1 a2 a3, r = repV im.length gw wc (kW M im - j) s1 (inodesI M (lookL M im)).length s2 (blocksI im (lookL M im)).length s3 a1 a2 a3 ∧ w.heap.size ≤ gw ∧ WtAt w' gw (lookL M im).wt ∧ LAt w' a1 ((writeI M im (lookL M im)).drop j) ∧ LAt w' a2 (inodesI M (lookL M im)) ∧ LAt w' a3 (blocksI im (lookL M im)) ∧ kW M im - j ≤ s1
theorem run_f {w : World} {p g : Nat} {im J : Img} {j : Nat} (hJ : CutI im J j) (h : DK w p g J j false false 0) (him : im.length ≤ 4096) :
  Calls Tryz.prog 10 #[.pointer (some ⟨p, 0, none⟩)] w fun e w' => ∃ r, e = .returned (.tuple #[.agg r, .int .i64 (lookE im)]) ∧ r.size = 4 ∧ r.all (·.oneCell') = true ∧
   (((∀ M, ¬ II im M) ∧ lookE im ≠ 0 ∧ r = nil4 ∧ DK w' p g im 0 false false 0) ∨ ∃ M, II im M ∧ DK w' p g (lookL M im).wt (kW M im) false false 0 ∧ RepC w w' im M j r) ∧ Chg w w' (fun k => k = p ∨ k = g) := by
 have hl := hJ.len;refine (run_any h (by omega) (by omega)).mono ?_
 rintro e w' (⟨hn, E, ⟨hE, hE2⟩, rfl, hc⟩ | ⟨M, hii, ⟨ha, hk⟩, rfl, hd, hc⟩ | ⟨M, gw, wc, s1, s2, s3, a1, a2, a3, hnc, rfl, hd, hX, hc⟩)
 ·rcases hJ with ⟨h1, rfl, rfl⟩ | ⟨M, hii, hj, rfl⟩
  ·subst hE
   exact ⟨nil4, rfl, rfl, nil4_one, .inl ⟨h1, by omega, rfl, h.call hc⟩, hc.mono fun _ _ e => e.elim⟩
  ·exact absurd (cut_ii hii j (wt_sec_set h.s)) (hn M)
 ·cases ha
 ·rcases hJ with ⟨h1, rfl, rfl⟩ | ⟨M', hii', hj, rfl⟩
  ·exact absurd hX.ii (h1 M)
  ·obtain rfl : M = M' := (cut_ii hii' j (wt_sec_set h.s)).one hX.ii
   obtain ⟨_, r2⟩ := cut_look (by have := hii'.ml; omega) hii'.sec hii'.root j
   have hb : blocksI (cutI M im j) (lookL M im) = blocksI im (lookL M im) := by unfold blocksI; rw [cutI_len]
   have x1 := hX.wt;have x2 := hX.l1;have x3 := hX.l2;have x4 := hX.l3;have x5 := hX.c1;have hnw := hX.new;rw [r2] at x1 x2 x3 x4 x5 hd ⊢;rw [cut_write] at x2 x5;rw [hb] at x4 ⊢;rw [cut_kW hii', cutI_len, ii_zero hii'];rw [cut_kW hii'] at hd;refine ⟨_, rfl, rfl, repV_one _ _ _ _ _ _ _ _ _ _ _ _, .inr ⟨M, hii', ?_, gw, wc, s1, s2, s3, a1, a2, a3, rfl, hnw, x1, x2, x3, x4, by rw [List.length_drop] at x5; exact x5⟩, hc⟩
   have e1 : (j : Int) + ((kW M im - j : Nat) : Int) = ((kW M im : Nat) : Int) := by omega
   rw [e1] at hd
   exact hd
end Go.Proofs.YtboammbcoleicaaGreat

namespace Go.Proofs.YtboammbcoleicaaGreat
open Go.RowKit Go.Shelf

theorem wt_all {w : World} {g : Nat} {im : Img} (h : WtAt w g im) : AllSec im := fun n => h.sec n
theorem ex_ii {w : World} {g : Nat} (h : WtAt w g exIm) : II exIm 4 := by
 have hs := ex_sup;refine ⟨by rw [hs], by rw [hs]; rfl, by decide, ex_root, wt_all h, by decide, by decide⟩
theorem ex_k : kW 4 exIm = 2 := by unfold kW; rw [ex_write]; rfl
theorem wt_byte {w : World} {g : Nat} {T : Img} (h : WtAt w g T) {j i : Nat} (hj : j < T.length) {x : Int} (hx : (secI T (j : Int)).getD i 0 = x) (hi : i < 128) : w.cell? ⟨g, j * 128 + i, none⟩ = some (.int .u8 x) := by
 have h1 := h.range hj;have hs := (h.sec (j : Int)).1;refine h1 i _ ?_;rw [List.getElem?_map];rw [List.getD_eq_getElem?_getD, List.getElem?_eq_getElem (by omega)] at hx;rw [List.getElem?_eq_getElem (by omega)];have hx : (secI T (j : Int))[i] = x := hx;rw [hx]
 rfl
theorem ex_six2 : (secI (lookL 4 exIm).wt ((6 : Nat) : Int)).getD 2 0 = 108 ∧ (secI (lookL 4 exIm).wt ((6 : Nat) : Int)).getD 3 0 = 0 := by
 have h := ex_six;have e : secI (lookL 4 exIm).wt ((6 : Nat) : Int) = secI (lookL 4 exIm).wt 6 := rfl;rw [e, h]
 exact ⟨by decide, by decide⟩

set_option maxHeartbeats 2000000 in
set_option maxRecDepth 100000 in
theorem known_any (w : World) : Calls Tryz.prog 9 #[] w fun e w' => e = .returned (.bool true) ∧ Chg w w' No := by
 have hzr := zero_rep;have hE := small_any w;have HK2 := hid ex_k;have HW2 := hid ex_write;have HL16 := hid ex_len;have HO1 : Hid ((secI (lookL 4 exIm).wt ((1 : Nat) : Int)).getD 1 0 = 1) := hid ex_one;have HO6 := hid ex_six2
 have HFr : Hid (∀ W q, WtAt W q exIm → Calls Tryz.prog 12 #[.slice (some ⟨q, 0, none⟩) 16 16] W fun e w' => ∃ p g, e = .returned (.tuple #[.pointer (some ⟨p, 0, none⟩), .int .i64 0]) ∧ W.heap.size ≤ p ∧ W.heap.size ≤ g ∧ DK w' p g exIm 0 false false 0 ∧ Chg W w' No ∧ II exIm 4) := hid (fun W q h => by
  refine (dk_from (ic := 16) (ImgAt.of_wt h) (by decide) (by decide)).mono ?_
  rintro e w' ⟨p, g, h1, h2, h3, h4, h5⟩
  exact ⟨p, g, h1, h2, h3, h4, h5, ex_ii h⟩)
 have HRn : Hid (∀ W p g, DK W p g exIm 0 false false 0 → II exIm 4 → Calls Tryz.prog 10 #[.pointer (some ⟨p, 0, none⟩)] W fun e w' => ∃ gw wc s1 s2 s3 a1 a2 a3, e = .returned (.tuple #[.agg (repV 16 gw wc 2 s1 (inodesI 4 (lookL 4 exIm)).length s2 (blocksI exIm (lookL 4 exIm)).length s3 a1 a2 a3), .int .i64 0]) ∧
   DK w' p g (lookL 4 exIm).wt 2 false false 0 ∧ LAt w' a1 [1, 6] ∧ Chg W w' (fun k => k = p ∨ k = g)) := hid (fun W p g h hii => by
  refine (run_any h (by omega) (by omega)).mono ?_
  rintro e w3 (⟨hn, _⟩ | ⟨M, _, ⟨ha, _⟩, _⟩ | ⟨M, gw, wc, s1, s2, s3, a1, a2, a3, _, rfl, hd3, hX, hc3⟩)
  ·exact absurd hii (hn 4)
  ·cases ha
  ·obtain rfl : M = 4 := hii.one hX.ii
   have h1 := hX.l1;rw [ex_write] at h1;rw [ex_k] at hd3 ⊢
   exact ⟨gw, wc, s1, s2, s3, a1, a2, a3, rfl, hd3, h1, hc3⟩)
 have HEl : Hid (exIm.length = 16) := hid rfl
 generalize exIm = im at *
 go_enter Tryz.func9, Tryz.ntmps9
 go_upto_region 4 with (first
  | (go_at_call 30; go_must (refine hE.mono ?_; rintro e w1 ⟨q, rfl, hq, hwq, hc1⟩; have hFr := HFr.out w1 q hwq))
  | (go_at_call 12; go_must (refine hFr.mono ?_; rintro e w2 ⟨p, g, rfl, hp2, hg2, hd2, hc2, hii⟩; have hRn := HRn.out w2 p g hd2 hii))
  | fail)
 have HC2 := hid (hc1.tr hc2);have HPG := hid (And.intro hp2 hg2);have HS1 := hid hc1.size;clear hc1 hc2 hq hwq hE hFr hp2 hg2 hd2 hii
 generalize (inodesI 4 (lookL 4 im)).length = ni at *
 generalize (blocksI im (lookL 4 im)).length = nb at *
 go_upto_region 5 with (first
  | (go_at_call 10; go_must (refine hRn.mono ?_; rintro e w3 ⟨gw, wc, s1, s2, s3, a1, a2, a3, rfl, hd3, hl3, hc3⟩))
  | (refine store_R rfl 29 _ _ rfl w3.heap.size (repV 16 gw wc 2 s1 ni s2 nb s3 a1 a2 a3) rfl rfl 29 _ (heap_alloc_new _ _) szRep rfl (repV_one _ _ _ _ _ _ _ _ _ _ _ _) ?_; intro w4 hw4)
  | fail)
 ·have h34 : Chg w3 w4 No := (Chg.alloc w3 _ No).trans (kt_new hw4) (fun _ _ e => e) (fun j hj e => by omega)
  have HD4 := hid (hd3.call h34);have HL1 := hid (hl3.call h34);have hIm := dk_image HD4.out;rw [HL16.out] at hIm
  have hWs := fun (W : World) (hW : Chg w4 W No) => D.writes_any W (HD4.out.call hW).d
  have HWs := hid hWs;have HG4 := hid hw4.here;obtain ⟨g4, hg4⟩ : ∃ y, y = w3.heap.size := ⟨_, rfl⟩;rw [← hg4] at HG4 ⊢;have HC4 : Hid (Chg w w4 No) := hid ((HC2.out.trans hc3 (c := No) (fun _ _ e => e) (fun j hj e => by have := HPG.out; have := HS1.out; omega)).tr h34);clear hw4 hg4 h34 hc3 hd3 hl3 hRn hWs
  go_upto_region 6 with (first
   | (go_at_call 18; go_must (refine hIm.mono ?_; rintro e w5 ⟨q, rfl, hq, hwq, hc5⟩))
   | fail)
  have c0 : w5.cell? ⟨g4, 1, none⟩ = some (.slice a1 2 s1) := (cell_of_row _ _ _ _ _ _ (hc5.keep HG4.out (fun e => e))).trans rfl;have hW5 := HWs.out w5 hc5
  obtain ⟨ga, ha1, hga⟩ : ∃ ga, a1 = some ⟨ga, 0, none⟩ ∧ (w5.cell? ⟨ga, 0, none⟩ = some (.int .i64 1) ∧ w5.cell? ⟨ga, 1, none⟩ = some (.int .i64 6)) := by
   rcases HL1.out.call hc5 with e | ⟨ga, e, _, hc⟩
   ·cases e
   ·exact ⟨ga, e, hc 0 (by decide), hc 1 (by decide)⟩
  subst ha1;obtain ⟨d0, d1⟩ := hga;have b1 : w5.cell? ⟨q, 129, none⟩ = some (.int .u8 1) := wt_byte hwq (j := 1) (i := 1) (by rw [HL16.out]; omega) HO1.out (by omega);have b2 : w5.cell? ⟨q, 770, none⟩ = some (.int .u8 108) := wt_byte hwq (j := 6) (i := 2) (by rw [HL16.out]; omega) HO6.out.1 (by omega);have b3 : w5.cell? ⟨q, 771, none⟩ = some (.int .u8 0) := wt_byte hwq (j := 6) (i := 3) (by rw [HL16.out]; omega) HO6.out.2 (by omega);have HC5 := hid (HC4.out.tr hc5);clear hwq hc5 hIm hq
  go_wp2_with (first
   | (go_at_call 15; go_must (refine hW5.mono ?_; rintro e w6 ⟨rfl, hw6⟩; obtain rfl : w5 = w6 := hw6.symm))
   | fail)
  go_ret
  exact ⟨rfl, HC5.out⟩
end Go.Proofs.YtboammbcoleicaaGreat

namespace Go.Proofs.YtboammbcoleicaaGreat
open Go.RowKit Go.Shelf
-- may lack

theorem lat_pg {w w' : World} {p g : Nat} {im : Img} {nw : Int} {dn ar : Bool} {lf : Int} {a : Option Addr} {l : List Int} (hd : DK w p g im nw dn ar lf) (hc : Chg w w' (fun k => k = p ∨ k = g)) (h : LAt w a l) : LAt w' a l := by
 rcases h with e | ⟨ga, e, ⟨A, hA⟩, hcell⟩
 ·exact .inl e
 ·have hne : ¬ (ga = p ∨ ga = g) := by
   rintro (e1 | e1)
   ·exact obj_ne hA hd.d.me (by intro e; cases e) e1
   ·exact obj_ne hA hd.d.row (by intro e; cases e) e1
  exact .inr ⟨ga, e, ⟨A, hc.keep hA hne⟩, fun k hk => cell_keep (hcell k hk) hc (slt hA) hne⟩
theorem RepC.keep {w0 w w' : World} {p g : Nat} {J im : Img} {nw : Int} {dn ar : Bool} {lf : Int} {M j : Nat} {r : Array Value} (h : RepC w0 w im M j r) (hd : DK w p g J nw dn ar lf) (hc : Chg w w' (fun k => k = p ∨ k = g)) (hp : p < w0.heap.size) (hg : g < w0.heap.size) : RepC w0 w' im M j r := by
 obtain ⟨gw, wc, s1, s2, s3, a1, a2, a3, h1, h2, h3, h4, h5, h6, h7⟩ := h
 exact ⟨gw, wc, s1, s2, s3, a1, a2, a3, h1, h2, h3.keep hc (by omega), lat_pg hd hc h4, lat_pg hd hc h5, lat_pg hd hc h6, h7⟩
theorem RepC.call {w0 w w' : World} {im : Img} {M j : Nat} {r : Array Value} (h : RepC w0 w im M j r) (hc : Chg w w' No) : RepC w0 w' im M j r := by
 obtain ⟨gw, wc, s1, s2, s3, a1, a2, a3, h1, h2, h3, h4, h5, h6, h7⟩ := h
 exact ⟨gw, wc, s1, s2, s3, a1, a2, a3, h1, h2, h3.keep hc (fun e => e), h4.call hc, h5.call hc, h6.call hc, h7⟩
theorem cut_first (im : Img) : CutI im im 0 := by
 by_cases h : ∃ M, II im M
 ·obtain ⟨M, hM⟩ := h
  exact .inr ⟨M, hM, Nat.zero_le _, (cut_zero M im).symm⟩
 ·exact .inl ⟨fun M hM => h ⟨M, hM⟩, rfl, rfl⟩
theorem arr4 {r : Array Value} (h : r.size = 4) : ∃ v0 v1 v2 v3, r = #[v0, v1, v2, v3] := by
 obtain ⟨l⟩ := r
 match l, h with
 | [v0, v1, v2, v3], _ => exact ⟨v0, v1, v2, v3, rfl⟩
theorem dk_writes {w : World} {p g : Nat} {im : Img} {nw : Int} {dn ar : Bool} {lf : Int} (h : DK w p g im nw dn ar lf) : Calls Tryz.prog 15 #[.pointer (some ⟨p, 0, none⟩)] w fun e w' => e = .returned (.int .i64 nw) ∧ w' = w := D.writes_any w h.d
theorem run_g {w : World} {p g : Nat} {im J : Img} {j : Nat} (hJ : CutI im J j) (h : DK w p g J j false false 0) (him : im.length ≤ 4096) :
  Calls Tryz.prog 10 #[.pointer (some ⟨p, 0, none⟩)] w fun e w' => ∃ v0 v1 v2 v3 Jd kd, e = .returned (.tuple #[.agg #[v0, v1, v2, v3], .int .i64 (lookE im)]) ∧ (#[v0, v1, v2, v3] : Array Value).all (·.oneCell') = true ∧ DK w' p g Jd kd false false 0 ∧
   (((∀ M, ¬ II im M) ∧ lookE im ≠ 0 ∧ #[v0, v1, v2, v3] = nil4 ∧ Jd = im ∧ kd = 0) ∨ ∃ M, II im M ∧ Jd = (lookL M im).wt ∧ kd = kW M im ∧ RepC w w' im M j #[v0, v1, v2, v3]) ∧ Jd.length = im.length ∧ Chg w w' (fun k => k = p ∨ k = g) := by
 refine (run_f hJ h him).mono ?_
 rintro e w' ⟨r, rfl, hs, ho, hr, hc⟩
 obtain ⟨v0, v1, v2, v3, rfl⟩ := arr4 hs
 rcases hr with ⟨h1, h2, h3, h4⟩ | ⟨M, h1, h2, h3⟩
 ·exact ⟨v0, v1, v2, v3, im, 0, rfl, ho, h4, .inl ⟨h1, h2, h3, rfl, rfl⟩, rfl, hc⟩
 ·exact ⟨v0, v1, v2, v3, _, _, rfl, ho, h2, .inr ⟨M, h1, rfl, rfl, h3⟩, (lookL_kp h1.root).1, hc⟩
end Go.Proofs.YtboammbcoleicaaGreat

namespace Go.Proofs.YtboammbcoleicaaGreat
open Go.RowKit Go.Shelf

theorem well_fix {im : Img} (hs : AllSec im) : WellI im ↔ (supOf im).2.2 = 0 ∧ rootB (supOf im).2.1.toNat im = true ∧ (lookL (supOf im).2.1.toNat im).wt = im := by
 unfold WellI
 constructor
 ·rintro ⟨h1, h2⟩
  obtain ⟨_, _, _, m1, m2⟩ := supOf_ok h1
  exact ⟨h1, (fix_iff (by omega) (by omega) hs).1 h2⟩
 ·rintro ⟨h1, h2⟩
  obtain ⟨_, _, _, m1, m2⟩ := supOf_ok h1
  exact ⟨h1, (fix_iff (by omega) (by omega) hs).2 h2⟩
end Go.Proofs.YtboammbcoleicaaGreat

namespace Go.Proofs.YtboammbcoleicaaGreat
open Go.RowKit Go.Shelf

theorem want_fix {M : Nat} {im : Img} (hMl : M < im.length) (hs : AllSec im) (hr : rootB M im = true) : supOf (lookL M im).wt = supOf im ∧ rootB M (lookL M im).wt = true ∧ lookL M (lookL M im).wt = lookL M im := by
 have h1 := cut_sup (M := M) (im := im) hr (writeI M im (lookL M im)).length;have h2 := cut_look hMl hs hr (writeI M im (lookL M im)).length;rw [cut_all hr] at h1 h2
 exact ⟨h1, h2.1, h2.2⟩
end Go.Proofs.YtboammbcoleicaaGreat

namespace Go.Proofs.YtboammbcoleicaaGreat
open Go.RowKit Go.Shelf

theorem Chg.aside2 {w w1 w2 : World} {ks : Nat → Prop} (h : Chg w w1 No) (k : Chg w1 w2 ks) (hg : ∀ j, ks j → w.heap.size ≤ j) : Chg w w2 No := h.trans k (fun _ _ e => e) (fun j hj e => by have := hg j e; omega)
theorem wellB_c (ia : Option Addr) (ic n : Nat) (im : Img) (hn : n = im.length) (w : World) (h : ImgAt w ia im) (b : Bool) (hb : wellB im = b) : Calls Tryz.prog 29 #[.slice ia n ic] w fun e w' => e = .returned (.bool b) ∧ Chg w w' No := by
 rw [hn, ← hb]
 exact well_any ia ic im w h
theorem lookE_bad {im : Img} (h : lookE im ≠ 0) : lookE im = 120 ∨ lookE im = 121 := by
 unfold lookE at *
 split
 ·exact .inl rfl
 ·rename_i q
  rw [if_neg q] at h
  split
  ·rename_i r
   rw [if_pos r] at h
   exact absurd rfl h
  ·exact .inr rfl

theorem ii_want {im : Img} {M : Nat} (h : II im M) (hs : AllSec (lookL M im).wt) : WellI (lookL M im).wt := by
 have hml := h.ml;obtain ⟨e1, e2, e3⟩ := want_fix (by omega) h.sec h.root;refine (well_fix hs).2 ?_;rw [e1, ← h.hM, e3]
 exact ⟨h.sup, e2, rfl⟩
theorem cut_last {im : Img} {M : Nat} (h : II im M) : CutI im (lookL M im).wt (kW M im) := .inr ⟨M, h, Nat.le_refl _, (cut_end h).symm⟩

set_option maxHeartbeats 4000000 in
set_option maxRecDepth 100000 in
theorem twice_walk (s : Int) (a : Option Addr) (l : List Spt) (c : Nat) (w : World) (hs : I64 s) (hl : SptsAt w a l) (hok : ∀ x ∈ l, OkSpt x) (hll : l.length ≤ 9223372036854775807) :
  Calls Tryz.prog 8 #[.agg #[.int .i64 s, .slice a l.length c]] w fun e w' => e = .returned (.bool true) ∧ Below w.heap.size w w' := by
 have hzr := zero_rep
 have HIm : Hid (∀ W, Chg w W No → Calls Tryz.prog 11 #[.agg #[.int .i64 s, .slice a l.length c]] W fun e w' => ∃ g im, e = .returned (.slice (some ⟨g, 0, none⟩) im.length im.length) ∧ 1 ≤ im.length ∧ im.length ≤ 200 ∧ WtAt w' g im ∧ Chg W w' No) := hid (fun W hW => by
  refine (image_any s a l c W hs (hl.keep hW (fun _ _ e => e)) hok hll).mono ?_
  rintro e w' ⟨g, rfl, _, h3, h4⟩
  have hn := nP_bd s;rw [← picI_len s l] at hn ⊢
  exact ⟨g, picI s l, rfl, hn.1, hn.2, h3, h4⟩)
 have hA := Chg.alloc w (.cells #[.int .i64 s, .slice a l.length c] 25) No;have hA2 := heap_alloc_new w (.cells #[.int .i64 s, .slice a l.length c] 25);have hIm := HIm.out _ hA
 generalize l.length = m at *
 have HA := hid hA;have HA2 := hid hA2;have HK := hid known_any;clear hs hl hok hll hA hA2
 go_enter Tryz.func8, Tryz.ntmps8
 go_upto_region 2 with (first
  | (refine load_R rfl 25 _ rfl w.heap.size rfl 25 _ _ HA2.out Tryz.underlying25 rfl (by kernel_rfl) ?_)
  | (go_at_call 11; go_must (refine hIm.mono ?_; rintro e w3 ⟨q, im, rfl, hn1, hn2, hwq, hc3⟩))
  | fail)
 have HC3 := hid (HA.out.tr hc3);have HWq := hid hwq;have HFr : Hid (∀ W, Chg w3 W No → Calls Tryz.prog 12 #[.slice (some ⟨q, 0, none⟩) im.length im.length] W fun e w' => ∃ p g, e = .returned (.tuple #[.pointer (some ⟨p, 0, none⟩), .int .i64 0]) ∧ W.heap.size ≤ p ∧ W.heap.size ≤ g ∧ DK w' p g im 0 false false 0 ∧ Chg W w' No) := hid (fun W hW => dk_from (ic := im.length) (ImgAt.of_wt (HWq.out.keep hW (fun e => e))) hn1 (by omega));obtain ⟨n, hn⟩ : ∃ y, y = im.length := ⟨_, rfl⟩;rw [← hn] at HFr hn1 hn2 ⊢;have HN := hid hn;have hF3 := HFr.out w3 (Chg.refl _ _);have HAS : Hid (AllSec im) := hid hwq.sec;clear hn hwq hc3 hIm HIm
 go_upto_region 3 with (first
  | (go_at_call 12; go_must (refine hF3.mono ?_; rintro e w4 ⟨p, g, rfl, hp4, hg4, hd4, hc4⟩))
  | fail)
 have HC34 := hid hc4;have HD4 := hid hd4;have HPG : Hid (w3.heap.size ≤ p ∧ w3.heap.size ≤ g ∧ w.heap.size ≤ p ∧ w.heap.size ≤ g) := hid (by have := HC3.out.size; omega);have hK4 := HK.out w4;clear hF3 hd4 hc4 hp4 hg4
 go_upto_region 5 with (first
  | (go_at_call 9; go_must (refine hK4.mono ?_; rintro e w6 ⟨rfl, hc6⟩))
  | fail)
 have HC36 : Hid (Chg w3 w6 No) := hid (HC34.out.tr hc6);have HDd : Hid (DK w6 p g im ((0 : Nat) : Int) false false 0) := hid (HD4.out.call hc6);have hR := run_g (cut_first im) HDd.out (by rw [← HN.out]; omega);have HLt := hid HDd.out.lt;clear hc6 hK4;obtain ⟨gE, hgE⟩ : ∃ y, y = lookE im := ⟨_, rfl⟩;have HGE := hid hgE;rw [← hgE] at hR;clear hgE
 go_upto_region 6 with (first
  | (go_at_call 10; go_must (refine hR.mono ?_; rintro e w7 ⟨v0, v1, v2, v3, Jd, kd, rfl, hone, hd7, hf7, hl7, hc7⟩))
  | (refine store_R rfl 29 _ _ rfl w7.heap.size #[v0, v1, v2, v3] rfl rfl 29 _ (heap_alloc_new _ _) szRep rfl hone ?_; intro w8 hw8)
  | fail)
 have h78 : Chg w7 w8 No := (Chg.alloc w7 _ No).trans (kt_new hw8) (fun _ _ e => e) (fun j hj e => by omega);have HC38 : Hid (Chg w3 w8 No) := hid ((HC36.out.aside2 hc7 (fun j e => by have := HPG.out; omega)).tr h78);have HC8 : Hid (Chg w w8 No) := hid (HC3.out.tr HC38.out);have HDd8 := hid (hd7.call h78);have HWq8 := hid (HWq.out.keep HC38.out (fun e => e));have HG8 := hid hw8.here;obtain ⟨b8, hb8⟩ : ∃ y, y = w7.heap.size := ⟨_, rfl⟩;rw [← hb8] at HG8 ⊢
 have HImg : Hid (∀ (W : World) (pp gg : Nat) (J : Img) (nw : Int) (dn ar : Bool) (lf : Int), J.length = n → DK W pp gg J nw dn ar lf → Calls Tryz.prog 18 #[.pointer (some ⟨pp, 0, none⟩)] W fun e w' => ∃ q, e = .returned (.slice (some ⟨q, 0, none⟩) n n) ∧ WtAt w' q J ∧ Chg W w' No) := hid (fun W pp gg J nw dn ar lf hJ h => by
  have := dk_image h;rw [hJ] at this;refine this.mono ?_
  rintro e w' ⟨q, h1, _, h3, h4⟩
  exact ⟨q, h1, h3, h4⟩)
 have HSm : Hid (∀ (W : World) (J : Img) (x y xc yc : Nat), J.length = n → WtAt W x J → WtAt W y J → Calls Tryz.prog 17 #[.slice (some ⟨x, 0, none⟩) n xc, .slice (some ⟨y, 0, none⟩) n yc] W fun e w' => e = .returned (.bool true) ∧ Chg W w' No) := hid (fun W J x y xc yc hJ h1 h2 => by
  have := secs_same J (some ⟨x, 0, none⟩) (some ⟨y, 0, none⟩) xc yc W (by rw [hJ]; omega) (ImgAt.of_wt h1) (ImgAt.of_wt h2);rw [hJ] at this
  exact this)
 have HQ6 : Hid (p < b8 ∧ g < b8) := hid (by
  have := HLt.out;have h1 := hc7.size;rw [hb8]
  omega)
 rcases hf7 with ⟨hno, hg0, hnil, rfl, rfl⟩ | ⟨M, hii, hJd, hkd, hrep⟩
 ·have hWs := dk_writes HDd8.out
  have hR2 := run_g (cut_first Jd) HDd8.out (by rw [← HN.out]; omega);rw [← HGE.out] at hR2;have hg2 := lookE_bad (by rw [← HGE.out]; exact hg0);rw [← HGE.out] at hg2;clear hR hd7 hl7 hc7 hw8 hb8 h78 hone
  go_upto_region 8 with (first
   | (go_at_call 15; go_must (refine hWs.mono ?_; rintro e w9 ⟨rfl, hw9⟩; obtain rfl : w8 = w9 := hw9.symm))
   | (go_at_call 10; go_must (refine hR2.mono ?_; rintro e w10 ⟨x0, x1, x2, x3, Jx, kx, rfl, hone2, hd10, hf10, hl10, hc10⟩))
   | (refine store_R rfl 29 _ _ rfl w10.heap.size #[x0, x1, x2, x3] rfl rfl 29 _ (heap_alloc_new _ _) szRep rfl hone2 ?_; intro w11 hw11)
   | fail)
  have h1011 : Chg w10 w11 No := (Chg.alloc w10 _ No).trans (kt_new hw11) (fun _ _ e => e) (fun j hj e => by omega);have HC11 : Hid (Chg w w11 No) := hid ((HC8.out.aside2 hc10 (fun j e => by have := HPG.out; omega)).tr h1011);have HC311 : Hid (Chg w3 w11 No) := hid ((HC38.out.aside2 hc10 (fun j e => by have := HPG.out; omega)).tr h1011)
  rcases hf10 with ⟨_, _, _, rfl, rfl⟩ | ⟨M, hii, _⟩
  ·have HD11 := hid (hd10.call h1011)
   have hW2 := dk_writes HD11.out;have hI11 := HImg.out w11 p g Jx 0 false false 0 HN.out.symm HD11.out;have HWq11 := hid (HWq.out.keep HC311.out (fun e => e));clear hR2 hWs hd10 hl10 hc10 hw11 h1011 hone2 hg0 hnil hno
   rcases hg2 with rfl | rfl
   ·go_wp2_with (first
     | (go_at_call 15; go_must (refine hW2.mono ?_; rintro e w12 ⟨rfl, hw12⟩; obtain rfl : w11 = w12 := hw12.symm))
     | (go_at_call 18; go_must (refine hI11.mono ?_; rintro e w13 ⟨q2, rfl, hq2, hc13⟩; have hS13 := HSm.out w13 Jx q2 q n n HN.out.symm hq2 (HWq11.out.keep hc13 (fun e => e))))
     | (go_at_call 17; go_must (refine hS13.mono ?_; rintro e w14 ⟨rfl, hc14⟩))
     | fail)
    go_ret
    exact ⟨rfl, ((HC11.out.tr hc13).tr hc14).below⟩
   ·go_wp2_with (first
     | (go_at_call 15; go_must (refine hW2.mono ?_; rintro e w12 ⟨rfl, hw12⟩; obtain rfl : w11 = w12 := hw12.symm))
     | (go_at_call 18; go_must (refine hI11.mono ?_; rintro e w13 ⟨q2, rfl, hq2, hc13⟩; have hS13 := HSm.out w13 Jx q2 q n n HN.out.symm hq2 (HWq11.out.keep hc13 (fun e => e))))
     | (go_at_call 17; go_must (refine hS13.mono ?_; rintro e w14 ⟨rfl, hc14⟩))
     | fail)
    go_ret
    exact ⟨rfl, ((HC11.out.tr hc13).tr hc14).below⟩
  ·exact absurd hii (hno M)
 ·obtain rfl : gE = 0 := by rw [HGE.out]; exact ii_zero hii
  have hWs := dk_writes HDd8.out;have HDk : Hid (DK w8 p g (lookL M im).wt ((kW M im : Nat) : Int) false false 0) := hid (by rw [← hJd, ← hkd]; exact HDd8.out);have hR2 := run_g (cut_last hii) HDk.out (by rw [← HN.out]; omega);rw [← HGE.out] at hR2;have hrep8 := hrep.call h78;rw [hkd] at hWs;have hkb := kW_le M im;rw [← HN.out] at hkb;have HKb : Hid (kW M im ≤ 600) := hid (by omega);obtain ⟨kw, hkw⟩ : ∃ y, y = kW M im := ⟨_, rfl⟩;have HII := hid hii;rw [← hkw] at hWs HKb;have HKw := hid hkw;clear hR hd7 hl7 hw8 hb8 h78 hone hkb hkw
  go_upto_region 8 with (first
   | (go_at_call 15; go_must (refine hWs.mono ?_; rintro e w9 ⟨rfl, hw9⟩; obtain rfl : w8 = w9 := hw9.symm))
   | (go_at_call 10; go_must (refine hR2.mono ?_; rintro e w10 ⟨x0, x1, x2, x3, Jx, kx, rfl, hone2, hd10, hf10, hl10, hc10⟩))
   | (refine store_R rfl 29 _ _ rfl w10.heap.size #[x0, x1, x2, x3] rfl rfl 29 _ (heap_alloc_new _ _) szRep rfl hone2 ?_; intro w11 hw11)
   | fail)
  have h1011 : Chg w10 w11 No := (Chg.alloc w10 _ No).trans (kt_new hw11) (fun _ _ e => e) (fun j hj e => by omega);have HC11 : Hid (Chg w w11 No) := hid ((HC8.out.aside2 hc10 (fun j e => by have := HPG.out; omega)).tr h1011)
  obtain ⟨rep1, hJx, hkx, rep2⟩ : RepC w6 w11 im M 0 #[v0, v1, v2, v3] ∧ Jx = (lookL M im).wt ∧ kx = ((kW M im : Nat) : Int) ∧ RepC w8 w11 im M (kW M im) #[x0, x1, x2, x3] := by
   rcases hf10 with ⟨hno, _⟩ | ⟨M', hii', e1, e2, e3⟩
   ·exact absurd HII.out (hno M)
   ·obtain rfl : M' = M := HII.out.one hii'
    exact ⟨(hrep8.keep HDk.out hc10 HLt.out.1 HLt.out.2).call h1011, e1, e2, e3.call h1011⟩
  have HGa := hid (h1011.keep (hc10.keep HG8.out (fun e => by have := HQ6.out; omega)) (fun e => e));have HGb := hid hw11.here;obtain ⟨b11, hb11⟩ : ∃ y, y = w10.heap.size := ⟨_, rfl⟩;rw [← hb11] at HGb ⊢;obtain ⟨gw, wc, s1, s2, s3, a1, a2, a3, er, _, hwt, _, hl2, hl3, _⟩ := rep1;obtain ⟨gx, xc, t1, t2, t3, c1, c2, c3, ex, _, hwx, _, hm2, hm3, _⟩ := rep2;rw [Nat.sub_self] at ex;have HDx := hid (hd10.call h1011);rw [hJx, hkx, ← HKw.out] at HDx;have HAT : Hid (AllSec (lookL M im).wt) := hid hwt.sec;have HTw := hid (ii_want HII.out HAT.out);have HTl : Hid ((lookL M im).wt.length = n) := hid (by rw [HN.out]; exact (lookL_kp HII.out.root).1);obtain ⟨T, hT⟩ : ∃ y, y = (lookL M im).wt := ⟨_, rfl⟩;obtain ⟨iN, hiN⟩ : ∃ x, x = inodesI M (lookL M im) := ⟨_, rfl⟩;obtain ⟨bN, hbN⟩ : ∃ x, x = blocksI im (lookL M im) := ⟨_, rfl⟩
  have HiL : Hid (iN.length ≤ 20000) := hid (by
   rw [hiN]
   have h1 := keysL_len (M + 1) fun x => ((lookL M im).tk x).isSome
   have h2 := HII.out.ml; have h3 := HII.out.n2;unfold inodesI
   omega)
  have HbL : Hid (bN.length ≤ 20000) := hid (by
   rw [hbN];have h1 := keysL_len im.length (lookL M im).cl;have h3 := HII.out.n2;unfold blocksI
   omega)
  rw [← hT] at hwt hwx HDx HTw HTl;rw [← hiN] at hl2 hm2 er ex;rw [← hbN] at hl3 hm3 er ex;rw [Nat.sub_zero, ← HKw.out, ← HN.out] at er;rw [← HN.out] at ex;rw [er] at HGa;rw [ex] at HGb;unfold repV at HGa HGb;have HWt := hid hwt;have HWx := hid hwx;have HL2 := hid hl2;have HL3 := hid hl3;have HM2 := hid hm2;have HM3 := hid hm3;have hI11 := HImg.out w11 p g T _ false false 0 HTl.out HDx.out;clear hR2 hWs hd10 hl10 hc10 hw11 h1011 hone2 hf10 hwt hwx hl2 hl3 hm2 hm3 er ex hT hiN hbN hb11 hrep hrep8 hii hJd hkd hJx hkx HDk hc7
  go_upto_region 11 with (first
   | (go_at_call 18; go_must (refine hI11.mono ?_; rintro e w12 ⟨q3, rfl, hq3, hc12⟩; have hWl := wellB_c (some ⟨q3, 0, none⟩) n n T HTl.out.symm w12 (ImgAt.of_wt hq3) true (wellB_true HTw.out)))
   | (go_at_call 29; go_must (refine hWl.mono ?_; rintro e w13 ⟨rfl, hc13⟩))
   | fail)
  have HC1113 : Hid (Chg w11 w13 No) := hid (hc12.tr hc13)
  have HCa : Hid (∀ W', Chg w13 W' No → W'.cell? ⟨b8, 0, none⟩ = some (.slice (some ⟨gw, 0, none⟩) n wc) ∧ W'.cell? ⟨b8, 2, none⟩ = some (.slice a2 iN.length s2) ∧ W'.cell? ⟨b8, 3, none⟩ = some (.slice a3 bN.length s3)) := hid (fun W' hW => by
   have h0 := (HC1113.out.tr hW).keep HGa.out (fun e => e)
   exact ⟨(cell_of_row _ _ _ _ _ _ h0).trans rfl, (cell_of_row _ _ _ _ _ _ h0).trans rfl, (cell_of_row _ _ _ _ _ _ h0).trans rfl⟩)
  have HCb : Hid (∀ W', Chg w13 W' No → W'.cell? ⟨b11, 0, none⟩ = some (.slice (some ⟨gx, 0, none⟩) n xc) ∧ W'.cell? ⟨b11, 1, none⟩ = some (.slice c1 0 t1) ∧ W'.cell? ⟨b11, 2, none⟩ = some (.slice c2 iN.length t2) ∧ W'.cell? ⟨b11, 3, none⟩ = some (.slice c3 bN.length t3)) := hid (fun W' hW => by
   have h0 := (HC1113.out.tr hW).keep HGb.out (fun e => e)
   exact ⟨(cell_of_row _ _ _ _ _ _ h0).trans rfl, (cell_of_row _ _ _ _ _ _ h0).trans rfl, (cell_of_row _ _ _ _ _ _ h0).trans rfl, (cell_of_row _ _ _ _ _ _ h0).trans rfl⟩)
  have HD13 := hid (HDx.out.call HC1113.out);have HWt13 := hid (HWt.out.keep HC1113.out (fun e => e));have HWx13 := hid (HWx.out.keep HC1113.out (fun e => e));have HI2 : Hid (∀ W', Chg w13 W' No → Calls Tryz.prog 28 #[.slice a2 iN.length s2, .slice c2 iN.length t2] W' fun e w' => e = .returned (.bool true) ∧ Chg W' w' No) := hid (fun W' hW => ints_like iN a2 c2 s2 t2 W' HiL.out (LatO.of ((HL2.out.call HC1113.out).call hW)) (LatO.of ((HM2.out.call HC1113.out).call hW)));have HI3 : Hid (∀ W', Chg w13 W' No → Calls Tryz.prog 28 #[.slice a3 bN.length s3, .slice c3 bN.length t3] W' fun e w' => e = .returned (.bool true) ∧ Chg W' w' No) := hid (fun W' hW => ints_like bN a3 c3 s3 t3 W' HbL.out (LatO.of ((HL3.out.call HC1113.out).call hW)) (LatO.of ((HM3.out.call HC1113.out).call hW)));have HC13 := hid (HC11.out.tr HC1113.out);clear hc12 hc13 hI11 hWl hq3 HGa HGb HC1113 HWt HWx HL2 HL3 HM2 HM3 HDx HC11;refine wp_region_noPanic ?_;refine wp_region_held_drew (S := fun w' => Chg w13 w' No) (by kernel_rfl) (Chg.refl _ _).drew (fun hH0 => ?_);refine tV 0 72 (.int .i64 0) rfl (by kernel_rfl) rfl (by rfl) hH0 (fun W' hw' => rfl) ?_;simp only [sS];refine tV 1 73 (.bool true) rfl (by kernel_rfl) rfl (by rfl) hH0 (fun W' hw' => by go_simp) ?_;simp only [sS];refine tV 2 74 (.bool true) rfl (by kernel_rfl) rfl (by rfl) hH0 (fun W' hw' => rfl) ?_;simp only [sS];refine tV 3 75 (.bool true) rfl (by kernel_rfl) rfl (by rfl) hH0 (fun W' hw' => rfl) ?_;simp only [sS];refine tV 4 76 (.bool true) rfl (by kernel_rfl) rfl (by rfl) hH0 (fun W' hw' => by go_simp) ?_;simp only [sS];refine tV 5 77 (.bool true) rfl (by kernel_rfl) rfl (by rfl) hH0 (fun W' hw' => rfl) ?_;simp only [sS];refine tV 6 78 (.pointer (some ⟨p, 0, none⟩)) rfl (by kernel_rfl) rfl (by rfl) hH0 (fun W' hw' => rfl) ?_;simp only [sS];refine tV 8 80 (.int .i64 (kw : Int)) rfl (by kernel_rfl) rfl (by rfl) hH0 (fun W' hw' => rfl) ?_;simp only [sS];refine step1 7 (by kernel_rfl) ?_;refine stCall 7 79 15 #[.pointer (some ⟨p, 0, none⟩)] _ rfl rfl (by rfl) (by go_simp) (dk_writes (HD13.out.call hH0)) ?_
  rintro e w14 ⟨rfl, rfl⟩
  have hH1 : Chg w13 _ No := hH0;refine ⟨_, rfl, hH1, ?_⟩;simp only [sS];refine tV 9 81 (.bool true) rfl (by kernel_rfl) rfl (by rfl) hH1 (fun W' hw' => by go_simp) ?_;simp only [sS];refine tV 10 82 (.bool true) rfl (by kernel_rfl) rfl (by rfl) hH1 (fun W' hw' => by go_simp) ?_;simp only [sS];refine tV 11 83 (.bool true) rfl (by kernel_rfl) rfl (by rfl) hH1 (fun W' hw' => rfl) ?_;simp only [sS];refine tV 12 84 (.pointer (some ⟨b11, 1, none⟩)) rfl (by kernel_rfl) rfl (by rfl) hH1 (fun W' hw' => by go_simp) ?_;simp only [sS];refine tV 13 85 (.slice c1 0 t1) rfl (by kernel_rfl) rfl (by rfl) hH1 (fun W' hw' => by have hc := (HCb.out W' hw').2.1; go_simp) ?_;simp only [sS];refine tV 14 86 (.int .i64 0) rfl (by kernel_rfl) rfl (by rfl) hH1 (fun W' hw' => by go_simp) ?_;simp only [sS];refine tV 15 87 (.bool true) rfl (by kernel_rfl) rfl (by rfl) hH1 (fun W' hw' => by go_simp) ?_;simp only [sS];refine tV 16 88 (.bool true) rfl (by kernel_rfl) rfl (by rfl) hH1 (fun W' hw' => by go_simp) ?_;simp only [sS];refine tV 17 89 (.bool true) rfl (by kernel_rfl) rfl (by rfl) hH1 (fun W' hw' => rfl) ?_;simp only [sS];refine tV 18 90 (.pointer (some ⟨b11, 0, none⟩)) rfl (by kernel_rfl) rfl (by rfl) hH1 (fun W' hw' => by go_simp) ?_;simp only [sS];refine tV 19 91 (.slice (some ⟨gx, 0, none⟩) n xc) rfl (by kernel_rfl) rfl (by rfl) hH1 (fun W' hw' => by have hc := (HCb.out W' hw').1; go_simp) ?_;simp only [sS];refine tV 20 92 (.pointer (some ⟨b8, 0, none⟩)) rfl (by kernel_rfl) rfl (by rfl) hH1 (fun W' hw' => by go_simp) ?_;simp only [sS];refine tV 21 93 (.slice (some ⟨gw, 0, none⟩) n wc) rfl (by kernel_rfl) rfl (by rfl) hH1 (fun W' hw' => by have hc := (HCa.out W' hw').1; go_simp) ?_;simp only [sS];refine step1 22 (by kernel_rfl) ?_;refine stCall 22 94 17 #[.slice (some ⟨gx, 0, none⟩) n xc, .slice (some ⟨gw, 0, none⟩) n wc] _ rfl rfl (by rfl) (by go_simp) (HSm.out _ T gx gw xc wc HTl.out (HWx13.out.keep hH1 (fun e => e)) (HWt13.out.keep hH1 (fun e => e))) ?_
  rintro e w15 ⟨rfl, hc15⟩
  have hH2 : Chg w13 _ No := hH1.tr hc15;refine ⟨_, rfl, hH2, ?_⟩;simp only [sS];refine tV 23 95 (.bool true) rfl (by kernel_rfl) rfl (by rfl) hH2 (fun W' hw' => by go_simp) ?_;simp only [sS];refine tV 24 96 (.bool true) rfl (by kernel_rfl) rfl (by rfl) hH2 (fun W' hw' => rfl) ?_;simp only [sS];refine tV 25 97 (.pointer (some ⟨b8, 0, none⟩)) rfl (by kernel_rfl) rfl (by rfl) hH2 (fun W' hw' => by go_simp) ?_;simp only [sS];refine tV 26 98 (.slice (some ⟨gw, 0, none⟩) n wc) rfl (by kernel_rfl) rfl (by rfl) hH2 (fun W' hw' => by have hc := (HCa.out W' hw').1; go_simp) ?_;simp only [sS];refine tV 27 99 (.pointer (some ⟨p, 0, none⟩)) rfl (by kernel_rfl) rfl (by rfl) hH2 (fun W' hw' => rfl) ?_;simp only [sS];refine step1 28 (by kernel_rfl) ?_;refine stCall 28 100 18 #[.pointer (some ⟨p, 0, none⟩)] _ rfl rfl (by rfl) (by go_simp) (HImg.out _ p g T _ false false 0 HTl.out (HD13.out.call hH2)) ?_
  rintro e w16 ⟨q4, rfl, hq4, hc16⟩
  have hH3 : Chg w13 _ No := hH2.tr hc16;refine ⟨_, rfl, hH3, ?_⟩;simp only [sS];refine step1 29 (by kernel_rfl) ?_;refine stCall 29 101 17 #[.slice (some ⟨gw, 0, none⟩) n wc, .slice (some ⟨q4, 0, none⟩) n n] _ rfl rfl (by rfl) (by go_simp) (HSm.out _ T gw q4 wc n HTl.out (HWt13.out.keep hH3 (fun e => e)) hq4) ?_
  rintro e w17 ⟨rfl, hc17⟩
  have hH4 : Chg w13 _ No := hH3.tr hc17;refine ⟨_, rfl, hH4, ?_⟩;simp only [sS];refine tV 30 102 (.bool true) rfl (by kernel_rfl) rfl (by rfl) hH4 (fun W' hw' => by go_simp) ?_;simp only [sS];refine tV 31 103 (.bool true) rfl (by kernel_rfl) rfl (by rfl) hH4 (fun W' hw' => rfl) ?_;simp only [sS];refine tV 32 104 (.pointer (some ⟨b8, 2, none⟩)) rfl (by kernel_rfl) rfl (by rfl) hH4 (fun W' hw' => by go_simp) ?_;simp only [sS];refine tV 33 105 (.slice a2 iN.length s2) rfl (by kernel_rfl) rfl (by rfl) hH4 (fun W' hw' => by have hc := (HCa.out W' hw').2.1; go_simp) ?_;simp only [sS];refine tV 34 106 (.pointer (some ⟨b11, 2, none⟩)) rfl (by kernel_rfl) rfl (by rfl) hH4 (fun W' hw' => by go_simp) ?_;simp only [sS];refine tV 35 107 (.slice c2 iN.length t2) rfl (by kernel_rfl) rfl (by rfl) hH4 (fun W' hw' => by have hc := (HCb.out W' hw').2.2.1; go_simp) ?_;simp only [sS];refine step1 36 (by kernel_rfl) ?_;refine stCall 36 108 28 #[.slice a2 iN.length s2, .slice c2 iN.length t2] _ rfl rfl (by rfl) (by go_simp) (HI2.out _ hH4) ?_
  rintro e w18 ⟨rfl, hc18⟩
  have hH5 : Chg w13 _ No := hH4.tr hc18;refine ⟨_, rfl, hH5, ?_⟩;simp only [sS];refine tV 37 109 (.bool true) rfl (by kernel_rfl) rfl (by rfl) hH5 (fun W' hw' => by go_simp) ?_;simp only [sS];refine tV 38 110 (.bool true) rfl (by kernel_rfl) rfl (by rfl) hH5 (fun W' hw' => rfl) ?_;simp only [sS];refine tV 39 111 (.pointer (some ⟨b8, 3, none⟩)) rfl (by kernel_rfl) rfl (by rfl) hH5 (fun W' hw' => by go_simp) ?_;simp only [sS];refine tV 40 112 (.slice a3 bN.length s3) rfl (by kernel_rfl) rfl (by rfl) hH5 (fun W' hw' => by have hc := (HCa.out W' hw').2.2; go_simp) ?_;simp only [sS];refine tV 41 113 (.pointer (some ⟨b11, 3, none⟩)) rfl (by kernel_rfl) rfl (by rfl) hH5 (fun W' hw' => by go_simp) ?_;simp only [sS];refine tV 42 114 (.slice c3 bN.length t3) rfl (by kernel_rfl) rfl (by rfl) hH5 (fun W' hw' => by have hc := (HCb.out W' hw').2.2.2; go_simp) ?_;simp only [sS];refine step1 43 (by kernel_rfl) ?_;refine stCall 43 115 28 #[.slice a3 bN.length s3, .slice c3 bN.length t3] _ rfl rfl (by rfl) (by go_simp) (HI3.out _ hH5) ?_
  rintro e w19 ⟨rfl, hc19⟩
  have hH6 : Chg w13 _ No := hH5.tr hc19;refine ⟨_, rfl, hH6, ?_⟩;simp only [sS];refine tV 44 116 (.bool true) rfl (by kernel_rfl) rfl (by rfl) hH6 (fun W' hw' => by go_simp) ?_;simp only [sS];refine tV 45 2 (.bool true) rfl (by kernel_rfl) rfl (by rfl) hH6 (fun W' hw' => rfl) ?_;simp only [sS];refine wpAnyH_done (by kernel_rfl) ?_ _;refine NoPanic.normal ?_
  go_wp2_with fail
  go_ret
  exact ⟨rfl, (HC13.out.tr hH6).below⟩
end Go.Proofs.YtboammbcoleicaaGreat
