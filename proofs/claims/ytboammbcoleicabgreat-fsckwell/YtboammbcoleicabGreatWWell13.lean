/-
 FsckWell: of an image that is well-formed nothing is written; where something is written, it was not.
-/
import Derived.Test.YtboammbcoleicabGreatXC
import Derived.Test.YtboammbcoleicabGreatGA
import Derived.Test.YtboammbcoleicabGreatS15
import Derived.Test.YtboammbcoleicabGreatJC
namespace Go.Proofs.YtboammbcoleicabGreat
open Go.RowKit Go.Shelf

def exR : List Int := [2, 7, 128, 0, 5, 0, 0, 0, 0, 0, 0, 0, 0, 0, 0, 0, 0, 0]
def exF : List Int := [1, 1, 3, 0, 6, 0, 0, 0, 0, 0, 0, 0, 0, 0, 0, 0, 0, 0]
def exH : List Int := [104, 101, 108, 108, 111] ++ List.replicate 123 0
def exIm : Img := [supS 16 4, inoS exR, inoS exF, Zs, Zs, slotS 2 ⟨#[97]⟩, exH, Zs, Zs, Zs, Zs, Zs, Zs, Zs, Zs, Zs]
theorem ex_sup : supOf exIm = (16, 4, 0) := by kernel_rfl
theorem ex_root : rootB 4 exIm = true := by kernel_rfl
theorem ex_six : secI (lookL 4 exIm).wt 6 = [104, 101, 108] ++ List.replicate 125 0 := by kernel_rfl
theorem ex_one : (secI (lookL 4 exIm).wt 1).getD 1 0 = 1 := by kernel_rfl
theorem ex_len : (lookL 4 exIm).wt.length = 16 := by kernel_rfl
theorem ex_write : writeI 4 exIm (lookL 4 exIm) = [1, 6] := by kernel_rfl

end Go.Proofs.YtboammbcoleicabGreat

namespace Go.Proofs.YtboammbcoleicabGreat
open Go.RowKit Go.Shelf

def smallL : List Spt := [(0, 0, [66, 82, 75, 87, 16, 0, 0, 0, 4]), (1, 0, [2, 7, 0, 0, 128]), (1, 16, [5]), (2, 0, [1, 1, 0, 0, 3]), (2, 16, [6]), (5, 0, [2, 0, 0, 0, 1, 97]), (6, 0, [104, 101, 108, 108, 111])]
theorem small_im : picI 16 smallL = exIm := by kernel_rfl
theorem small_n : nP 16 = 16 := by kernel_rfl
theorem small_ok : ∀ x ∈ smallL, OkSpt x := by
 intro x hx
 unfold OkSpt I64
 simp only [smallL, List.mem_cons, List.not_mem_nil, or_false] at hx
 rcases hx with rfl | rfl | rfl | rfl | rfl | rfl | rfl <;> decide
theorem bytes_row {w : World} {b : Nat} {t : TypeId} {l : List Int} (h : w.heap[b]? = some (.cells (SA l) t (0, 0))) : D.BytesAt w (some ⟨b, 0, none⟩) l := by
 refine .inr ⟨b, 0, rfl, slt h, fun j hj => ?_⟩
 rw [cell_of_row _ _ _ _ _ _ h, Nat.zero_add]
 show ((l.map (Value.int .u8)).toArray)[j]? = _
 rw [List.getElem?_toArray, List.getElem?_map, List.getD_eq_getElem?_getD, List.getElem?_eq_getElem hj]
 rfl
theorem small_pic (w : World) : SptsAt (((((((((w.alloc (.cells #[.int .u8 66, .int .u8 82, .int .u8 75, .int .u8 87, .int .u8 16, .int .u8 0, .int .u8 0, .int .u8 0, .int .u8 4] 5)).alloc (.cells #[.int .u8 2, .int .u8 7, .int .u8 0, .int .u8 0, .int .u8 128] 5)).alloc (.cells #[.int .u8 5] 5)).alloc (.cells #[.int .u8 1, .int .u8 1, .int .u8 0, .int .u8 0, .int .u8 3] 5)).alloc (.cells #[.int .u8 6] 5)).alloc (.cells #[.int .u8 2, .int .u8 0, .int .u8 0, .int .u8 0, .int .u8 1, .int .u8 97] 5)).alloc (.cells #[.int .u8 104, .int .u8 101, .int .u8 108, .int .u8 108, .int .u8 111] 5)).alloc (.cells #[.int .i64 0, .int .i64 0, .slice (some ⟨w.heap.size, 0, none⟩) 9 9, .int .i64 1, .int .i64 0, .slice (some ⟨w.heap.size + 1, 0, none⟩) 5 5, .int .i64 1, .int .i64 16, .slice (some ⟨w.heap.size + 1 + 1, 0, none⟩) 1 1, .int .i64 2, .int .i64 0, .slice (some ⟨w.heap.size + 1 + 1 + 1, 0, none⟩) 5 5, .int .i64 2, .int .i64 16, .slice (some ⟨w.heap.size + 1 + 1 + 1 + 1, 0, none⟩) 1 1, .int .i64 5, .int .i64 0, .slice (some ⟨w.heap.size + 1 + 1 + 1 + 1 + 1, 0, none⟩) 6 6, .int .i64 6, .int .i64 0, .slice (some ⟨w.heap.size + 1 + 1 + 1 + 1 + 1 + 1, 0, none⟩) 5 5] 43)).alloc (.cells #[.int .i64 16, .slice (some ⟨w.heap.size + 1 + 1 + 1 + 1 + 1 + 1 + 1, 0, none⟩) 7 7] 24)) (some ⟨w.heap.size + 1 + 1 + 1 + 1 + 1 + 1 + 1, 0, none⟩) smallL ∧ Chg w (((((((((w.alloc (.cells #[.int .u8 66, .int .u8 82, .int .u8 75, .int .u8 87, .int .u8 16, .int .u8 0, .int .u8 0, .int .u8 0, .int .u8 4] 5)).alloc (.cells #[.int .u8 2, .int .u8 7, .int .u8 0, .int .u8 0, .int .u8 128] 5)).alloc (.cells #[.int .u8 5] 5)).alloc (.cells #[.int .u8 1, .int .u8 1, .int .u8 0, .int .u8 0, .int .u8 3] 5)).alloc (.cells #[.int .u8 6] 5)).alloc (.cells #[.int .u8 2, .int .u8 0, .int .u8 0, .int .u8 0, .int .u8 1, .int .u8 97] 5)).alloc (.cells #[.int .u8 104, .int .u8 101, .int .u8 108, .int .u8 108, .int .u8 111] 5)).alloc (.cells #[.int .i64 0, .int .i64 0, .slice (some ⟨w.heap.size, 0, none⟩) 9 9, .int .i64 1, .int .i64 0, .slice (some ⟨w.heap.size + 1, 0, none⟩) 5 5, .int .i64 1, .int .i64 16, .slice (some ⟨w.heap.size + 1 + 1, 0, none⟩) 1 1, .int .i64 2, .int .i64 0, .slice (some ⟨w.heap.size + 1 + 1 + 1, 0, none⟩) 5 5, .int .i64 2, .int .i64 16, .slice (some ⟨w.heap.size + 1 + 1 + 1 + 1, 0, none⟩) 1 1, .int .i64 5, .int .i64 0, .slice (some ⟨w.heap.size + 1 + 1 + 1 + 1 + 1, 0, none⟩) 6 6, .int .i64 6, .int .i64 0, .slice (some ⟨w.heap.size + 1 + 1 + 1 + 1 + 1 + 1, 0, none⟩) 5 5] 43)).alloc (.cells #[.int .i64 16, .slice (some ⟨w.heap.size + 1 + 1 + 1 + 1 + 1 + 1 + 1, 0, none⟩) 7 7] 24)) No := by
 obtain ⟨w1, hw1⟩ : ∃ y, y = w.alloc (.cells #[.int .u8 66, .int .u8 82, .int .u8 75, .int .u8 87, .int .u8 16, .int .u8 0, .int .u8 0, .int .u8 0, .int .u8 4] 5) := ⟨_, rfl⟩
 have hc1 : Chg w w1 No := by rw [hw1]; exact Chg.alloc _ _ _
 have hs1 : w1.heap.size = w.heap.size + 1 := by rw [hw1, World.size_alloc]
 have hn1 : w1.heap[w.heap.size]? = some (.cells #[.int .u8 66, .int .u8 82, .int .u8 75, .int .u8 87, .int .u8 16, .int .u8 0, .int .u8 0, .int .u8 0, .int .u8 4] 5 (0, 0)) := by
  have := heap_alloc_new w (.cells #[.int .u8 66, .int .u8 82, .int .u8 75, .int .u8 87, .int .u8 16, .int .u8 0, .int .u8 0, .int .u8 0, .int .u8 4] 5)
  skip
  rw [hw1]
  exact this
 rw [← hw1]
 obtain ⟨w2, hw2⟩ : ∃ y, y = w1.alloc (.cells #[.int .u8 2, .int .u8 7, .int .u8 0, .int .u8 0, .int .u8 128] 5) := ⟨_, rfl⟩
 have hc2 : Chg w1 w2 No := by rw [hw2]; exact Chg.alloc _ _ _
 have hs2 : w2.heap.size = w.heap.size + 1 + 1 := by rw [hw2, World.size_alloc]; rw [hs1]
 have hn2 : w2.heap[w.heap.size + 1]? = some (.cells #[.int .u8 2, .int .u8 7, .int .u8 0, .int .u8 0, .int .u8 128] 5 (0, 0)) := by
  have := heap_alloc_new w1 (.cells #[.int .u8 2, .int .u8 7, .int .u8 0, .int .u8 0, .int .u8 128] 5)
  rw [hs1] at this
  rw [hw2]
  exact this
 rw [← hw2]
 obtain ⟨w3, hw3⟩ : ∃ y, y = w2.alloc (.cells #[.int .u8 5] 5) := ⟨_, rfl⟩
 have hc3 : Chg w2 w3 No := by rw [hw3]; exact Chg.alloc _ _ _
 have hs3 : w3.heap.size = w.heap.size + 1 + 1 + 1 := by rw [hw3, World.size_alloc]; rw [hs2]
 have hn3 : w3.heap[w.heap.size + 1 + 1]? = some (.cells #[.int .u8 5] 5 (0, 0)) := by
  have := heap_alloc_new w2 (.cells #[.int .u8 5] 5)
  rw [hs2] at this
  rw [hw3]
  exact this
 rw [← hw3]
 obtain ⟨w4, hw4⟩ : ∃ y, y = w3.alloc (.cells #[.int .u8 1, .int .u8 1, .int .u8 0, .int .u8 0, .int .u8 3] 5) := ⟨_, rfl⟩
 have hc4 : Chg w3 w4 No := by rw [hw4]; exact Chg.alloc _ _ _
 have hs4 : w4.heap.size = w.heap.size + 1 + 1 + 1 + 1 := by rw [hw4, World.size_alloc]; rw [hs3]
 have hn4 : w4.heap[w.heap.size + 1 + 1 + 1]? = some (.cells #[.int .u8 1, .int .u8 1, .int .u8 0, .int .u8 0, .int .u8 3] 5 (0, 0)) := by
  have := heap_alloc_new w3 (.cells #[.int .u8 1, .int .u8 1, .int .u8 0, .int .u8 0, .int .u8 3] 5)
  rw [hs3] at this
  rw [hw4]
  exact this
 rw [← hw4]
 obtain ⟨w5, hw5⟩ : ∃ y, y = w4.alloc (.cells #[.int .u8 6] 5) := ⟨_, rfl⟩
 have hc5 : Chg w4 w5 No := by rw [hw5]; exact Chg.alloc _ _ _
 have hs5 : w5.heap.size = w.heap.size + 1 + 1 + 1 + 1 + 1 := by rw [hw5, World.size_alloc]; rw [hs4]
 have hn5 : w5.heap[w.heap.size + 1 + 1 + 1 + 1]? = some (.cells #[.int .u8 6] 5 (0, 0)) := by
  have := heap_alloc_new w4 (.cells #[.int .u8 6] 5)
  rw [hs4] at this
  rw [hw5]
  exact this
 rw [← hw5]
 obtain ⟨w6, hw6⟩ : ∃ y, y = w5.alloc (.cells #[.int .u8 2, .int .u8 0, .int .u8 0, .int .u8 0, .int .u8 1, .int .u8 97] 5) := ⟨_, rfl⟩
 have hc6 : Chg w5 w6 No := by rw [hw6]; exact Chg.alloc _ _ _
 have hs6 : w6.heap.size = w.heap.size + 1 + 1 + 1 + 1 + 1 + 1 := by rw [hw6, World.size_alloc]; rw [hs5]
 have hn6 : w6.heap[w.heap.size + 1 + 1 + 1 + 1 + 1]? = some (.cells #[.int .u8 2, .int .u8 0, .int .u8 0, .int .u8 0, .int .u8 1, .int .u8 97] 5 (0, 0)) := by
  have := heap_alloc_new w5 (.cells #[.int .u8 2, .int .u8 0, .int .u8 0, .int .u8 0, .int .u8 1, .int .u8 97] 5)
  rw [hs5] at this
  rw [hw6]
  exact this
 rw [← hw6]
 obtain ⟨w7, hw7⟩ : ∃ y, y = w6.alloc (.cells #[.int .u8 104, .int .u8 101, .int .u8 108, .int .u8 108, .int .u8 111] 5) := ⟨_, rfl⟩
 have hc7 : Chg w6 w7 No := by rw [hw7]; exact Chg.alloc _ _ _
 have hs7 : w7.heap.size = w.heap.size + 1 + 1 + 1 + 1 + 1 + 1 + 1 := by rw [hw7, World.size_alloc]; rw [hs6]
 have hn7 : w7.heap[w.heap.size + 1 + 1 + 1 + 1 + 1 + 1]? = some (.cells #[.int .u8 104, .int .u8 101, .int .u8 108, .int .u8 108, .int .u8 111] 5 (0, 0)) := by
  have := heap_alloc_new w6 (.cells #[.int .u8 104, .int .u8 101, .int .u8 108, .int .u8 108, .int .u8 111] 5)
  rw [hs6] at this
  rw [hw7]
  exact this
 rw [← hw7]
 obtain ⟨w8, hw8⟩ : ∃ y, y = w7.alloc (.cells #[.int .i64 0, .int .i64 0, .slice (some ⟨w.heap.size, 0, none⟩) 9 9, .int .i64 1, .int .i64 0, .slice (some ⟨w.heap.size + 1, 0, none⟩) 5 5, .int .i64 1, .int .i64 16, .slice (some ⟨w.heap.size + 1 + 1, 0, none⟩) 1 1, .int .i64 2, .int .i64 0, .slice (some ⟨w.heap.size + 1 + 1 + 1, 0, none⟩) 5 5, .int .i64 2, .int .i64 16, .slice (some ⟨w.heap.size + 1 + 1 + 1 + 1, 0, none⟩) 1 1, .int .i64 5, .int .i64 0, .slice (some ⟨w.heap.size + 1 + 1 + 1 + 1 + 1, 0, none⟩) 6 6, .int .i64 6, .int .i64 0, .slice (some ⟨w.heap.size + 1 + 1 + 1 + 1 + 1 + 1, 0, none⟩) 5 5] 43) := ⟨_, rfl⟩
 have hc8 : Chg w7 w8 No := by rw [hw8]; exact Chg.alloc _ _ _
 have hs8 : w8.heap.size = w.heap.size + 1 + 1 + 1 + 1 + 1 + 1 + 1 + 1 := by rw [hw8, World.size_alloc]; rw [hs7]
 have hn8 : w8.heap[w.heap.size + 1 + 1 + 1 + 1 + 1 + 1 + 1]? = some (.cells #[.int .i64 0, .int .i64 0, .slice (some ⟨w.heap.size, 0, none⟩) 9 9, .int .i64 1, .int .i64 0, .slice (some ⟨w.heap.size + 1, 0, none⟩) 5 5, .int .i64 1, .int .i64 16, .slice (some ⟨w.heap.size + 1 + 1, 0, none⟩) 1 1, .int .i64 2, .int .i64 0, .slice (some ⟨w.heap.size + 1 + 1 + 1, 0, none⟩) 5 5, .int .i64 2, .int .i64 16, .slice (some ⟨w.heap.size + 1 + 1 + 1 + 1, 0, none⟩) 1 1, .int .i64 5, .int .i64 0, .slice (some ⟨w.heap.size + 1 + 1 + 1 + 1 + 1, 0, none⟩) 6 6, .int .i64 6, .int .i64 0, .slice (some ⟨w.heap.size + 1 + 1 + 1 + 1 + 1 + 1, 0, none⟩) 5 5] 43 (0, 0)) := by
  have := heap_alloc_new w7 (.cells #[.int .i64 0, .int .i64 0, .slice (some ⟨w.heap.size, 0, none⟩) 9 9, .int .i64 1, .int .i64 0, .slice (some ⟨w.heap.size + 1, 0, none⟩) 5 5, .int .i64 1, .int .i64 16, .slice (some ⟨w.heap.size + 1 + 1, 0, none⟩) 1 1, .int .i64 2, .int .i64 0, .slice (some ⟨w.heap.size + 1 + 1 + 1, 0, none⟩) 5 5, .int .i64 2, .int .i64 16, .slice (some ⟨w.heap.size + 1 + 1 + 1 + 1, 0, none⟩) 1 1, .int .i64 5, .int .i64 0, .slice (some ⟨w.heap.size + 1 + 1 + 1 + 1 + 1, 0, none⟩) 6 6, .int .i64 6, .int .i64 0, .slice (some ⟨w.heap.size + 1 + 1 + 1 + 1 + 1 + 1, 0, none⟩) 5 5] 43)
  rw [hs7] at this
  rw [hw8]
  exact this
 rw [← hw8]
 obtain ⟨w9, hw9⟩ : ∃ y, y = w8.alloc (.cells #[.int .i64 16, .slice (some ⟨w.heap.size + 1 + 1 + 1 + 1 + 1 + 1 + 1, 0, none⟩) 7 7] 24) := ⟨_, rfl⟩
 have hc9 : Chg w8 w9 No := by rw [hw9]; exact Chg.alloc _ _ _
 have hs9 : w9.heap.size = w.heap.size + 1 + 1 + 1 + 1 + 1 + 1 + 1 + 1 + 1 := by rw [hw9, World.size_alloc]; rw [hs8]
 have hn9 : w9.heap[w.heap.size + 1 + 1 + 1 + 1 + 1 + 1 + 1 + 1]? = some (.cells #[.int .i64 16, .slice (some ⟨w.heap.size + 1 + 1 + 1 + 1 + 1 + 1 + 1, 0, none⟩) 7 7] 24 (0, 0)) := by
  have := heap_alloc_new w8 (.cells #[.int .i64 16, .slice (some ⟨w.heap.size + 1 + 1 + 1 + 1 + 1 + 1 + 1, 0, none⟩) 7 7] 24)
  rw [hs8] at this
  rw [hw9]
  exact this
 rw [← hw9]
 have k0 := (hc9.keep (hc8.keep (hc7.keep (hc6.keep (hc5.keep (hc4.keep (hc3.keep (hc2.keep hn1 (fun e => e)) (fun e => e)) (fun e => e)) (fun e => e)) (fun e => e)) (fun e => e)) (fun e => e)) (fun e => e))
 have k1 := (hc9.keep (hc8.keep (hc7.keep (hc6.keep (hc5.keep (hc4.keep (hc3.keep hn2 (fun e => e)) (fun e => e)) (fun e => e)) (fun e => e)) (fun e => e)) (fun e => e)) (fun e => e))
 have k2 := (hc9.keep (hc8.keep (hc7.keep (hc6.keep (hc5.keep (hc4.keep hn3 (fun e => e)) (fun e => e)) (fun e => e)) (fun e => e)) (fun e => e)) (fun e => e))
 have k3 := (hc9.keep (hc8.keep (hc7.keep (hc6.keep (hc5.keep hn4 (fun e => e)) (fun e => e)) (fun e => e)) (fun e => e)) (fun e => e))
 have k4 := (hc9.keep (hc8.keep (hc7.keep (hc6.keep hn5 (fun e => e)) (fun e => e)) (fun e => e)) (fun e => e))
 have k5 := (hc9.keep (hc8.keep (hc7.keep hn6 (fun e => e)) (fun e => e)) (fun e => e))
 have k6 := (hc9.keep (hc8.keep hn7 (fun e => e)) (fun e => e))
 have k7 := (hc9.keep hn8 (fun e => e))
 refine ⟨.inr ⟨w.heap.size + 1 + 1 + 1 + 1 + 1 + 1 + 1, 0, rfl, slt k7, fun k x hx => ?_⟩, ((((((((hc1.tr hc2).tr hc3).tr hc4).tr hc5).tr hc6).tr hc7).tr hc8).tr hc9)⟩
 match k, hx with
 | 0, hx =>
  obtain rfl := Option.some.inj hx
  refine ⟨(some ⟨w.heap.size, 0, none⟩), 9, fun j v hv => ?_, bytes_row (l := [66, 82, 75, 87, 16, 0, 0, 0, 4]) k0⟩
  rw [cell_of_row _ _ _ _ _ _ k7]
  match j, hv with
  | 0, hv => exact hv
  | 1, hv => exact hv
  | 2, hv => exact hv
 | 1, hx =>
  obtain rfl := Option.some.inj hx
  refine ⟨(some ⟨w.heap.size + 1, 0, none⟩), 5, fun j v hv => ?_, bytes_row (l := [2, 7, 0, 0, 128]) k1⟩
  rw [cell_of_row _ _ _ _ _ _ k7]
  match j, hv with
  | 0, hv => exact hv
  | 1, hv => exact hv
  | 2, hv => exact hv
 | 2, hx =>
  obtain rfl := Option.some.inj hx
  refine ⟨(some ⟨w.heap.size + 1 + 1, 0, none⟩), 1, fun j v hv => ?_, bytes_row (l := [5]) k2⟩
  rw [cell_of_row _ _ _ _ _ _ k7]
  match j, hv with
  | 0, hv => exact hv
  | 1, hv => exact hv
  | 2, hv => exact hv
 | 3, hx =>
  obtain rfl := Option.some.inj hx
  refine ⟨(some ⟨w.heap.size + 1 + 1 + 1, 0, none⟩), 5, fun j v hv => ?_, bytes_row (l := [1, 1, 0, 0, 3]) k3⟩
  rw [cell_of_row _ _ _ _ _ _ k7]
  match j, hv with
  | 0, hv => exact hv
  | 1, hv => exact hv
  | 2, hv => exact hv
 | 4, hx =>
  obtain rfl := Option.some.inj hx
  refine ⟨(some ⟨w.heap.size + 1 + 1 + 1 + 1, 0, none⟩), 1, fun j v hv => ?_, bytes_row (l := [6]) k4⟩
  rw [cell_of_row _ _ _ _ _ _ k7]
  match j, hv with
  | 0, hv => exact hv
  | 1, hv => exact hv
  | 2, hv => exact hv
 | 5, hx =>
  obtain rfl := Option.some.inj hx
  refine ⟨(some ⟨w.heap.size + 1 + 1 + 1 + 1 + 1, 0, none⟩), 6, fun j v hv => ?_, bytes_row (l := [2, 0, 0, 0, 1, 97]) k5⟩
  rw [cell_of_row _ _ _ _ _ _ k7]
  match j, hv with
  | 0, hv => exact hv
  | 1, hv => exact hv
  | 2, hv => exact hv
 | 6, hx =>
  obtain rfl := Option.some.inj hx
  refine ⟨(some ⟨w.heap.size + 1 + 1 + 1 + 1 + 1 + 1, 0, none⟩), 5, fun j v hv => ?_, bytes_row (l := [104, 101, 108, 108, 111]) k6⟩
  rw [cell_of_row _ _ _ _ _ _ k7]
  match j, hv with
  | 0, hv => exact hv
  | 1, hv => exact hv
  | 2, hv => exact hv

set_option maxHeartbeats 1000000 in
set_option maxRecDepth 100000 in
theorem small_any (w : World) : Calls Tryz.prog 16 #[] w fun e w' => ∃ g, e = .returned (.slice (some ⟨g, 0, none⟩) 16 16) ∧ w.heap.size ≤ g ∧ WtAt w' g exIm ∧ Chg w w' No := by
 obtain ⟨hS, hC⟩ := small_pic w
 have hIm := image_any 16 (some ⟨w.heap.size + 1 + 1 + 1 + 1 + 1 + 1 + 1, 0, none⟩) smallL 7 _ (by unfold I64; omega) hS small_ok (by decide)
 rw [small_im, small_n] at hIm
 have HC := hid hC
 clear hS hC
 go_enter Tryz.func16, Tryz.ntmps16
 go_wp2_with (first
  | (go_at_call 5; go_must (refine hIm.mono ?_; rintro e w2 ⟨g, rfl, hg, hwt, hc2⟩))
  | fail)
 go_ret
 exact ⟨g, rfl, by have := HC.out.size; omega, hwt, HC.out.tr hc2⟩
end Go.Proofs.YtboammbcoleicabGreat

namespace Go.Proofs.YtboammbcoleicabGreat
open Go.RowKit Go.Shelf

theorem wt_all {w : World} {g : Nat} {im : Img} (h : WtAt w g im) : AllSec im := fun n => h.sec n
theorem ex_ii {w : World} {g : Nat} (h : WtAt w g exIm) : II exIm 4 := by
 have hs := ex_sup
 refine ⟨by rw [hs], by rw [hs]; rfl, by decide, ex_root, wt_all h, by decide, by decide⟩
theorem ex_k : kW 4 exIm = 2 := by unfold kW; rw [ex_write]; rfl
theorem wt_byte {w : World} {g : Nat} {T : Img} (h : WtAt w g T) {j i : Nat} (hj : j < T.length) {x : Int} (hx : (secI T (j : Int)).getD i 0 = x) (hi : i < 128) : w.cell? ⟨g, j * 128 + i, none⟩ = some (.int .u8 x) := by
 have h1 := h.range hj
 have hs := (h.sec (j : Int)).1
 refine h1 i _ ?_
 rw [List.getElem?_map]
 rw [List.getD_eq_getElem?_getD, List.getElem?_eq_getElem (by omega)] at hx
 rw [List.getElem?_eq_getElem (by omega)]
 have hx : (secI T (j : Int))[i] = x := hx
 rw [hx]
 rfl
theorem ex_six2 : (secI (lookL 4 exIm).wt ((6 : Nat) : Int)).getD 2 0 = 108 ∧ (secI (lookL 4 exIm).wt ((6 : Nat) : Int)).getD 3 0 = 0 := by
 have h := ex_six
 have e : secI (lookL 4 exIm).wt ((6 : Nat) : Int) = secI (lookL 4 exIm).wt 6 := rfl
 rw [e, h]
 exact ⟨by decide, by decide⟩

set_option maxHeartbeats 2000000 in
set_option maxRecDepth 100000 in
theorem known_any (w : World) : Calls Tryz.prog 7 #[] w fun e w' => e = .returned (.bool true) ∧ Chg w w' No := by
 have hzr := zero_rep
 have hE := small_any w
 have HK2 := hid ex_k
 have HW2 := hid ex_write
 have HL16 := hid ex_len
 have HO1 : Hid ((secI (lookL 4 exIm).wt ((1 : Nat) : Int)).getD 1 0 = 1) := hid ex_one
 have HO6 := hid ex_six2
 have HFr : Hid (∀ W q, WtAt W q exIm → Calls Tryz.prog 6 #[.slice (some ⟨q, 0, none⟩) 16 16] W fun e w' => ∃ p g, e = .returned (.tuple #[.pointer (some ⟨p, 0, none⟩), .int .i64 0]) ∧ W.heap.size ≤ p ∧ W.heap.size ≤ g ∧ DK w' p g exIm 0 false false 0 ∧ Chg W w' No ∧ II exIm 4) := hid (fun W q h => by
  refine (dk_from (ic := 16) (ImgAt.of_wt h) (by decide) (by decide)).mono ?_
  rintro e w' ⟨p, g, h1, h2, h3, h4, h5⟩
  exact ⟨p, g, h1, h2, h3, h4, h5, ex_ii h⟩)
 have HRn : Hid (∀ W p g, DK W p g exIm 0 false false 0 → II exIm 4 → Calls Tryz.prog 8 #[.pointer (some ⟨p, 0, none⟩)] W fun e w' => ∃ gw wc s1 s2 s3 a1 a2 a3, e = .returned (.tuple #[.agg (repV 16 gw wc 2 s1 (inodesI 4 (lookL 4 exIm)).length s2 (blocksI exIm (lookL 4 exIm)).length s3 a1 a2 a3), .int .i64 0]) ∧
   DK w' p g (lookL 4 exIm).wt 2 false false 0 ∧ LAt w' a1 [1, 6] ∧ Chg W w' (fun k => k = p ∨ k = g)) := hid (fun W p g h hii => by
  refine (run_any h (by omega) (by omega)).mono ?_
  rintro e w3 (⟨hn, _⟩ | ⟨M, _, ⟨ha, _⟩, _⟩ | ⟨M, gw, wc, s1, s2, s3, a1, a2, a3, _, rfl, hd3, hX, hc3⟩)
  ·exact absurd hii (hn 4)
  ·cases ha
  ·obtain rfl : M = 4 := hii.one hX.ii
   have h1 := hX.l1
   rw [ex_write] at h1
   rw [ex_k] at hd3 ⊢
   exact ⟨gw, wc, s1, s2, s3, a1, a2, a3, rfl, hd3, h1, hc3⟩)
 have HEl : Hid (exIm.length = 16) := hid rfl
 generalize exIm = im at *
 go_enter Tryz.func7, Tryz.ntmps7
 go_upto_region 4 with (first
  | (go_at_call 16; go_must (refine hE.mono ?_; rintro e w1 ⟨q, rfl, hq, hwq, hc1⟩; have hFr := HFr.out w1 q hwq))
  | (go_at_call 6; go_must (refine hFr.mono ?_; rintro e w2 ⟨p, g, rfl, hp2, hg2, hd2, hc2, hii⟩; have hRn := HRn.out w2 p g hd2 hii))
  | fail)
 have HC2 := hid (hc1.tr hc2)
 have HPG := hid (And.intro hp2 hg2)
 have HS1 := hid hc1.size
 clear hc1 hc2 hq hwq hE hFr hp2 hg2 hd2 hii
 generalize (inodesI 4 (lookL 4 im)).length = ni at *
 generalize (blocksI im (lookL 4 im)).length = nb at *
 go_upto_region 5 with (first
  | (go_at_call 8; go_must (refine hRn.mono ?_; rintro e w3 ⟨gw, wc, s1, s2, s3, a1, a2, a3, rfl, hd3, hl3, hc3⟩))
  | (refine store_R rfl 34 _ _ rfl w3.heap.size (repV 16 gw wc 2 s1 ni s2 nb s3 a1 a2 a3) rfl rfl 34 _ (heap_alloc_new _ _) szRep rfl (repV_one _ _ _ _ _ _ _ _ _ _ _ _) ?_; intro w4 hw4)
  | fail)
 ·have h34 : Chg w3 w4 No := (Chg.alloc w3 _ No).trans (kt_new hw4) (fun _ _ e => e) (fun j hj e => by omega)
  have HD4 := hid (hd3.call h34)
  have HL1 := hid (hl3.call h34)
  have hIm := dk_image HD4.out
  rw [HL16.out] at hIm
  have hWs := fun (W : World) (hW : Chg w4 W No) => D.writes_any W (HD4.out.call hW).d
  have HWs := hid hWs
  have HG4 := hid hw4.here
  obtain ⟨g4, hg4⟩ : ∃ y, y = w3.heap.size := ⟨_, rfl⟩
  rw [← hg4] at HG4 ⊢
  have HC4 : Hid (Chg w w4 No) := hid ((HC2.out.trans hc3 (c := No) (fun _ _ e => e) (fun j hj e => by have := HPG.out; have := HS1.out; omega)).tr h34)
  clear hw4 hg4 h34 hc3 hd3 hl3 hRn hWs
  go_upto_region 6 with (first
   | (go_at_call 12; go_must (refine hIm.mono ?_; rintro e w5 ⟨q, rfl, hq, hwq, hc5⟩))
   | fail)
  have c0 : w5.cell? ⟨g4, 1, none⟩ = some (.slice a1 2 s1) := (cell_of_row _ _ _ _ _ _ (hc5.keep HG4.out (fun e => e))).trans rfl
  have hW5 := HWs.out w5 hc5
  obtain ⟨ga, ha1, hga⟩ : ∃ ga, a1 = some ⟨ga, 0, none⟩ ∧ (w5.cell? ⟨ga, 0, none⟩ = some (.int .i64 1) ∧ w5.cell? ⟨ga, 1, none⟩ = some (.int .i64 6)) := by
   rcases HL1.out.call hc5 with e | ⟨ga, e, _, hc⟩
   ·cases e
   ·exact ⟨ga, e, hc 0 (by decide), hc 1 (by decide)⟩
  subst ha1
  obtain ⟨d0, d1⟩ := hga
  have b1 : w5.cell? ⟨q, 129, none⟩ = some (.int .u8 1) := wt_byte hwq (j := 1) (i := 1) (by rw [HL16.out]; omega) HO1.out (by omega)
  have b2 : w5.cell? ⟨q, 770, none⟩ = some (.int .u8 108) := wt_byte hwq (j := 6) (i := 2) (by rw [HL16.out]; omega) HO6.out.1 (by omega)
  have b3 : w5.cell? ⟨q, 771, none⟩ = some (.int .u8 0) := wt_byte hwq (j := 6) (i := 3) (by rw [HL16.out]; omega) HO6.out.2 (by omega)
  have HC5 := hid (HC4.out.tr hc5)
  clear hwq hc5 hIm hq
  go_wp2_with (first
   | (go_at_call 10; go_must (refine hW5.mono ?_; rintro e w6 ⟨rfl, hw6⟩; obtain rfl : w5 = w6 := hw6.symm))
   | fail)
  go_ret
  exact ⟨rfl, HC5.out⟩
end Go.Proofs.YtboammbcoleicabGreat

namespace Go.Proofs.YtboammbcoleicabGreat
open Go.RowKit Go.Shelf

theorem dkw_any {w : World} {p g : Nat} {im : Img} {nw : Int} {dn ar : Bool} {lf : Int} (h : DK w p g im nw dn ar lf) : Calls Tryz.prog 10 #[.pointer (some ⟨p, 0, none⟩)] w fun e w' => e = .returned (.int .i64 nw) ∧ w' = w := D.writes_any w h.d
theorem ii_nul {im : Img} {M : Nat} (h : II im M) : lookE im = 0 := by
 unfold lookE
 rw [if_neg (by simp [h.sup]), ← h.hM, h.root]
 rfl
theorem run_w {w : World} {p g : Nat} {im : Img} (h : DK w p g im 0 false false 0) :
  Calls Tryz.prog 8 #[.pointer (some ⟨p, 0, none⟩)] w fun e w' => ∃ v0 v1 v2 v3 Jd kd, e = .returned (.tuple #[.agg #[v0, v1, v2, v3], .int .i64 (lookE im)]) ∧ (#[v0, v1, v2, v3] : Array Value).all (·.oneCell') = true ∧ DK w' p g Jd kd false false 0 ∧
   (((∀ M, ¬ II im M) ∧ lookE im ≠ 0 ∧ Jd = im ∧ kd = 0) ∨ ∃ M gw wc s1 s2 s3 i b a1 a2 a3, II im M ∧ Jd = (lookL M im).wt ∧ kd = kW M im ∧ #[v0, v1, v2, v3] = repV im.length gw wc (kW M im) s1 i s2 b s3 a1 a2 a3 ∧ WtAt w' gw (lookL M im).wt) ∧ Jd.length = im.length ∧ Chg w w' (fun k => k = p ∨ k = g) := by
 refine (run_any h (by omega) (by omega)).mono ?_
 rintro e w' (⟨hn, E, ⟨hE, hE2⟩, rfl, hc⟩ | ⟨M, hii, ⟨ha, hk⟩, _⟩ | ⟨M, gw, wc, s1, s2, s3, a1, a2, a3, hnc, rfl, hd, hX, hc⟩)
 ·subst hE
  exact ⟨_, _, _, _, im, 0, rfl, nil4_one, h.call hc, .inl ⟨hn, by omega, rfl, rfl⟩, rfl, hc.mono fun _ _ e => e.elim⟩
 ·cases ha
 ·rw [ii_nul hX.ii]
  rw [Int.zero_add] at hd
  exact ⟨_, _, _, _, _, _, rfl, repV_one _ _ _ _ _ _ _ _ _ _ _ _, hd, .inr ⟨M, gw, wc, s1, s2, s3, _, _, a1, a2, a3, hX.ii, rfl, rfl, rfl, hX.wt⟩, hX.tl, hc⟩
end Go.Proofs.YtboammbcoleicabGreat

namespace Go.Proofs.YtboammbcoleicabGreat
open Go.RowKit Go.Shelf

theorem well_fix {im : Img} (hs : AllSec im) : WellI im ↔ (supOf im).2.2 = 0 ∧ rootB (supOf im).2.1.toNat im = true ∧ (lookL (supOf im).2.1.toNat im).wt = im := by
 unfold WellI
 constructor
 ·rintro ⟨h1, h2⟩
  obtain ⟨_, _, _, m1, m2⟩ := supOf_ok h1
  exact ⟨h1, (fix_iff (by omega) (by omega) hs).1 h2⟩
 ·rintro ⟨h1, h2⟩
  obtain ⟨_, _, _, m1, m2⟩ := supOf_ok h1
  exact ⟨h1, (fix_iff (by omega) (by omega) hs).2 h2⟩
theorem difN_zero (im T : Img) : ∀ k, difN im T k = 0 ↔ ∀ j : Nat, j < k → secI im (j : Int) = secI T (j : Int)
 | 0 => by simp [difN]
 | k + 1 => by
  have ih := difN_zero im T k
  rw [difN]
  constructor
  ·intro h j hj
   have h1 : difN im T k = 0 := by omega
   by_cases e : j = k
   ·subst e
    rcases Classical.em (secI im (j : Int) = secI T (j : Int)) with q | q
    ·exact q
    ·rw [if_neg q] at h; omega
   ·exact ih.1 h1 j (by omega)
  ·intro h
   rw [ih.2 fun j hj => h j (by omega), if_pos (h k (by omega))]
theorem write_nil {M : Nat} {im : Img} (hl : (lookL M im).wt.length = im.length) : (writeI M im (lookL M im)).length = 0 ↔ (lookL M im).wt = im := by
 rw [← dif_write, difN_zero]
 constructor
 ·intro h
  refine List.ext_getElem? fun k => ?_
  by_cases hk : k < im.length
  ·rw [getD_at (by rw [hl]; exact hk), getD_at hk, h k hk]
  ·rw [List.getElem?_eq_none (by omega), List.getElem?_eq_none (by omega)]
 ·intro h j _
  rw [h]
end Go.Proofs.YtboammbcoleicabGreat

namespace Go.Proofs.YtboammbcoleicabGreat
open Go.RowKit Go.Shelf

theorem Chg.aside2 {w w1 w2 : World} {ks : Nat → Prop} (h : Chg w w1 No) (k : Chg w1 w2 ks) (hg : ∀ j, ks j → w.heap.size ≤ j) : Chg w w2 No := h.trans k (fun _ _ e => e) (fun j hj e => by have := hg j e; omega)
theorem wellB_c (ia : Option Addr) (ic n : Nat) (im : Img) (hn : n = im.length) (w : World) (h : ImgAt w ia im) (b : Bool) (hb : wellB im = b) : Calls Tryz.prog 9 #[.slice ia n ic] w fun e w' => e = .returned (.bool b) ∧ Chg w w' No := by
 rw [hn, ← hb]
 exact well_any ia ic im w h
theorem ii_of_well {im : Img} (hs : AllSec im) (h : WellI im) : ∃ M, II im M ∧ (lookL M im).wt = im := by
 obtain ⟨h1, h2, h3⟩ := (well_fix hs).1 h
 obtain ⟨_, n1, n2, m1, m2⟩ := supOf_ok h1
 exact ⟨_, ⟨h1, rfl, by omega, h2, hs, n1, n2⟩, h3⟩
theorem well_of_ii {im : Img} {M : Nat} (h : II im M) (hw : (lookL M im).wt = im) : WellI im := (well_fix h.sec).2 ⟨h.sup, by rw [← h.hM]; exact h.root, by rw [← h.hM]; exact hw⟩
theorem kW_zero {im : Img} {M : Nat} (h : II im M) : kW M im = 0 ↔ (lookL M im).wt = im := write_nil (lookL_kp h.root).1
theorem lookE_bad {im : Img} (h : lookE im ≠ 0) : lookE im = 120 ∨ lookE im = 121 := by
 unfold lookE at *
 split
 ·exact .inl rfl
 ·rename_i q
  rw [if_neg q] at h
  split
  ·rename_i r
   rw [if_pos r] at h
   exact absurd rfl h
  ·exact .inr rfl

set_option maxHeartbeats 4000000 in
set_option maxRecDepth 100000 in
theorem well_walk (s : Int) (a : Option Addr) (l : List Spt) (c : Nat) (w : World) (hs : I64 s) (hl : SptsAt w a l) (hok : ∀ x ∈ l, OkSpt x) (hll : l.length ≤ 9223372036854775807) :
  Calls Tryz.prog 3 #[.agg #[.int .i64 s, .slice a l.length c]] w fun e w' => e = .returned (.bool true) ∧ Below w.heap.size w w' := by
 have hzr := zero_rep
 have HIm : Hid (∀ W, Chg w W No → Calls Tryz.prog 5 #[.agg #[.int .i64 s, .slice a l.length c]] W fun e w' => ∃ g im, e = .returned (.slice (some ⟨g, 0, none⟩) im.length im.length) ∧ 1 ≤ im.length ∧ im.length ≤ 200 ∧ WtAt w' g im ∧ Chg W w' No) := hid (fun W hW => by
  refine (image_any s a l c W hs (hl.keep hW (fun _ _ e => e)) hok hll).mono ?_
  rintro e w' ⟨g, rfl, _, h3, h4⟩
  have hn := nP_bd s
  rw [← picI_len s l] at hn ⊢
  exact ⟨g, picI s l, rfl, hn.1, hn.2, h3, h4⟩)
 have hA := Chg.alloc w (.cells #[.int .i64 s, .slice a l.length c] 24) No
 have hA2 := heap_alloc_new w (.cells #[.int .i64 s, .slice a l.length c] 24)
 have hIm := HIm.out _ hA
 generalize l.length = m at *
 have HA := hid hA
 have HA2 := hid hA2
 have HK := hid known_any
 clear hs hl hok hll hA hA2
 go_enter Tryz.func3, Tryz.ntmps3
 go_upto_region 2 with (first
  | (refine load_R rfl 24 _ rfl w.heap.size rfl 24 _ _ HA2.out Tryz.underlying24 rfl (by kernel_rfl) ?_)
  | (go_at_call 5; go_must (refine hIm.mono ?_; rintro e w3 ⟨q, im, rfl, hn1, hn2, hwq, hc3⟩))
  | fail)
 have HC3 := hid (HA.out.tr hc3)
 have HWq := hid hwq
 have HFr : Hid (∀ W, Chg w3 W No → Calls Tryz.prog 6 #[.slice (some ⟨q, 0, none⟩) im.length im.length] W fun e w' => ∃ p g, e = .returned (.tuple #[.pointer (some ⟨p, 0, none⟩), .int .i64 0]) ∧ W.heap.size ≤ p ∧ W.heap.size ≤ g ∧ DK w' p g im 0 false false 0 ∧ Chg W w' No) := hid (fun W hW => dk_from (ic := im.length) (ImgAt.of_wt (HWq.out.keep hW (fun e => e))) hn1 (by omega))
 obtain ⟨n, hn⟩ : ∃ y, y = im.length := ⟨_, rfl⟩
 rw [← hn] at HFr hn1 hn2 ⊢
 have HN := hid hn
 have hF3 := HFr.out w3 (Chg.refl _ _)
 have HAS : Hid (AllSec im) := hid hwq.sec
 clear hn hwq hc3 hIm HIm
 go_upto_region 3 with (first
  | (go_at_call 6; go_must (refine hF3.mono ?_; rintro e w4 ⟨p, g, rfl, hp4, hg4, hd4, hc4⟩))
  | fail)
 have HC34 := hid hc4
 have HD4 := hid hd4
 have HPG : Hid (w3.heap.size ≤ p ∧ w3.heap.size ≤ g ∧ w.heap.size ≤ p ∧ w.heap.size ≤ g) := hid (by have := HC3.out.size; omega)
 have hK4 := HK.out w4
 clear hF3 hd4 hc4 hp4 hg4
 go_upto_region 5 with (first
  | (go_at_call 7; go_must (refine hK4.mono ?_; rintro e w6 ⟨rfl, hc6⟩))
  | fail)
 have HC36 : Hid (Chg w3 w6 No) := hid (HC34.out.tr hc6)
 have HDd : Hid (DK w6 p g im 0 false false 0) := hid (HD4.out.call hc6)
 have hR := run_w HDd.out
 clear hc6 hK4
 obtain ⟨gE, hgE⟩ : ∃ y, y = lookE im := ⟨_, rfl⟩
 have HGE := hid hgE
 rw [← hgE] at hR
 clear hgE
 go_upto_region 6 with (first
  | (go_at_call 8; go_must (refine hR.mono ?_; rintro e w7 ⟨v0, v1, v2, v3, Jd, kd, rfl, hone, hd7, hf7, hl7, hc7⟩))
  | (refine store_R rfl 34 _ _ rfl w7.heap.size #[v0, v1, v2, v3] rfl rfl 34 _ (heap_alloc_new _ _) szRep rfl hone ?_; intro w8 hw8)
  | fail)
 have h78 : Chg w7 w8 No := (Chg.alloc w7 _ No).trans (kt_new hw8) (fun _ _ e => e) (fun j hj e => by omega)
 have HC38 : Hid (Chg w3 w8 No) := hid ((HC36.out.aside2 hc7 (fun j e => by have := HPG.out; omega)).tr h78)
 have HC8 : Hid (Chg w w8 No) := hid (HC3.out.tr HC38.out)
 have HDd8 := hid (hd7.call h78)
 have HWq8 := hid (HWq.out.keep HC38.out (fun e => e))
 have HG8 := hid hw8.here
 obtain ⟨b8, hb8⟩ : ∃ y, y = w7.heap.size := ⟨_, rfl⟩
 rw [← hb8] at HG8 ⊢
 have HImg : Hid (∀ (W : World) (pp gg : Nat) (J : Img) (nw : Int) (dn ar : Bool) (lf : Int), J.length = n → DK W pp gg J nw dn ar lf → Calls Tryz.prog 12 #[.pointer (some ⟨pp, 0, none⟩)] W fun e w' => ∃ q, e = .returned (.slice (some ⟨q, 0, none⟩) n n) ∧ WtAt w' q J ∧ Chg W w' No) := hid (fun W pp gg J nw dn ar lf hJ h => by
  have := dk_image h
  rw [hJ] at this
  refine this.mono ?_
  rintro e w' ⟨q, h1, _, h3, h4⟩
  exact ⟨q, h1, h3, h4⟩)
 have HSm : Hid (∀ (W : World) (J : Img) (x y xc yc : Nat), J.length = n → WtAt W x J → WtAt W y J → Calls Tryz.prog 11 #[.slice (some ⟨x, 0, none⟩) n xc, .slice (some ⟨y, 0, none⟩) n yc] W fun e w' => e = .returned (.bool true) ∧ Chg W w' No) := hid (fun W J x y xc yc hJ h1 h2 => by
  have := secs_same J (some ⟨x, 0, none⟩) (some ⟨y, 0, none⟩) xc yc W (by rw [hJ]; omega) (ImgAt.of_wt h1) (ImgAt.of_wt h2)
  rw [hJ] at this
  exact this)
 rcases hf7 with ⟨hno, hg0, rfl, rfl⟩ | ⟨M, gw, wc, s1, s2, s3, il, bl, a1, a2, a3, hii, hJd, hkd, er, hwt⟩
 ·have hbad : ¬ WellI Jd := fun q => by
   obtain ⟨M, h1, _⟩ := ii_of_well HAS.out q
   exact hno M h1
  have hWl := wellB_c (some ⟨q, 0, none⟩) n n Jd HN.out w8 (ImgAt.of_wt HWq8.out) false (wellB_false hbad)
  have hg2 := lookE_bad (by rw [← HGE.out]; exact hg0)
  rw [← HGE.out] at hg2
  clear hR hd7 hl7 hc7 hw8 hb8 h78 hone hg0 hbad hno
  rcases hg2 with rfl | rfl
  ·go_wp2_with (first
    | (go_at_call 9; go_must (refine hWl.mono ?_; rintro e w9 ⟨rfl, hc9⟩))
    | fail)
   go_ret
   exact ⟨rfl, (HC8.out.tr hc9).below⟩
  ·go_wp2_with (first
    | (go_at_call 9; go_must (refine hWl.mono ?_; rintro e w9 ⟨rfl, hc9⟩))
    | fail)
   go_ret
   exact ⟨rfl, (HC8.out.tr hc9).below⟩
 ·obtain rfl : gE = 0 := by rw [HGE.out]; exact ii_nul hii
  by_cases hfx : (lookL M im).wt = im
  ·have hWl := wellB_c (some ⟨q, 0, none⟩) n n im HN.out w8 (ImgAt.of_wt HWq8.out) true (wellB_true (well_of_ii hii hfx))
   have hk0 := (kW_zero hii).2 hfx
   have hwt := hwt.keep h78 (fun e => e)
   rw [hfx] at hJd hwt
   rw [hk0] at er
   rw [hk0] at hkd
   subst hJd hkd
   rw [er, ← HN.out] at HG8
   unfold repV at HG8
   have HWt := hid hwt
   clear hR hd7 hl7 hc7 hw8 hb8 h78 hone er hwt hii hfx hk0
   go_upto_region 7 with (first
    | (go_at_call 9; go_must (refine hWl.mono ?_; rintro e w9 ⟨rfl, hc9⟩))
    | fail)
   have HC9 := hid (HC8.out.tr hc9)
   have HD9 := hid (HDd8.out.call hc9)
   have HW9 := hid (HWt.out.keep hc9 (fun e => e))
   have HQ9 := hid (HWq8.out.keep hc9 (fun e => e))
   have h0 := hc9.keep HG8.out (fun e => e)
   have c0 : w9.cell? ⟨b8, 0, none⟩ = some (.slice (some ⟨gw, 0, none⟩) n wc) := (cell_of_row _ _ _ _ _ _ h0).trans rfl
   have c1 : w9.cell? ⟨b8, 1, none⟩ = some (.slice a1 0 s1) := (cell_of_row _ _ _ _ _ _ h0).trans rfl
   have hWs := dkw_any HD9.out
   have hS1 := HSm.out w9 Jd gw q wc n HN.out.symm HW9.out HQ9.out
   clear h0 hc9 HG8 hWl HWt HDd8
   go_wp2_with (first
    | (go_at_call 10; go_must (refine hWs.mono ?_; rintro e w10 ⟨rfl, hw10⟩; obtain rfl : w9 = w10 := hw10.symm))
    | (go_at_call 12; go_must (refine (HImg.out w11 p g Jd _ false false 0 HN.out.symm (HD9.out.call hc11)).mono ?_; rintro e w12 ⟨q2, rfl, hq2, hc12⟩))
    | (go_at_call 11; go_must (first | (refine (HSm.out w12 Jd q2 q n n HN.out.symm hq2 ((HQ9.out.keep hc11 (fun e => e)).keep hc12 (fun e => e))).mono ?_; rintro e w13 ⟨rfl, hc13⟩) | (refine hS1.mono ?_; rintro e w11 ⟨rfl, hc11⟩)))
    | fail)
   go_ret
   exact ⟨rfl, (((HC9.out.tr hc11).tr hc12).tr hc13).below⟩
  ·have hWl := wellB_c (some ⟨q, 0, none⟩) n n im HN.out w8 (ImgAt.of_wt HWq8.out) false (wellB_false fun q => hfx (by
    obtain ⟨M', h1, h2⟩ := ii_of_well HAS.out q
    obtain rfl : M' = M := hii.one h1
    exact h2))
   have hk0 : kW M im ≠ 0 := fun q => hfx ((kW_zero hii).1 q)
   obtain ⟨kw, hkw⟩ : ∃ y, y = kW M im := ⟨_, rfl⟩
   rw [← hkw] at hkd hk0
   subst hkd
   have hd0 : decide (0 < kw) = true := decide_eq_true (by omega)
   clear hR hd7 hl7 hc7 hw8 hb8 h78 hone er hwt hii hfx hkw hk0
   go_wp2_with (first
    | (go_at_call 9; go_must (refine hWl.mono ?_; rintro e w9 ⟨rfl, hc9⟩; have hWs := dkw_any (HDd8.out.call hc9)))
    | (go_at_call 10; go_must (refine hWs.mono ?_; rintro e w10 ⟨rfl, hw10⟩; obtain rfl : w9 = w10 := hw10.symm))
    | fail)
   go_ret
   exact ⟨rfl, (HC8.out.tr hc9).below⟩
end Go.Proofs.YtboammbcoleicabGreat
