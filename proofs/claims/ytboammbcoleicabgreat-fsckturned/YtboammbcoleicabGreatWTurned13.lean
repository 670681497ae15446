/-
 FsckTurned: one byte of an image that was put right is turned: put right again it is well-formed, or refused; no more is written than what differs.
-/
import Derived.Test.YtboammbcoleicabGreatXC
import Derived.Test.YtboammbcoleicabGreatGA
import Derived.Test.YtboammbcoleicabGreatS15
import Derived.Test.YtboammbcoleicabGreatJC
import Derived.Test.YtboammbcoleicabGreatZ2
import Derived.Laws.BitsAllLaws
import Derived.Deep.DeepCutAuto
import Derived.Deep.CutRange
namespace Go.Proofs.YtboammbcoleicabGreat
open Go.RowKit Go.Shelf

def exR : List Int := [2, 7, 128, 0, 5, 0, 0, 0, 0, 0, 0, 0, 0, 0, 0, 0, 0, 0]
def exF : List Int := [1, 1, 3, 0, 6, 0, 0, 0, 0, 0, 0, 0, 0, 0, 0, 0, 0, 0]
def exH : List Int := [104, 101, 108, 108, 111] ++ List.replicate 123 0
def exIm : Img := [supS 16 4, inoS exR, inoS exF, Zs, Zs, slotS 2 ⟨#[97]⟩, exH, Zs, Zs, Zs, Zs, Zs, Zs, Zs, Zs, Zs]
theorem ex_sup : supOf exIm = (16, 4, 0) := by kernel_rfl
theorem ex_root : rootB 4 exIm = true := by kernel_rfl
theorem ex_six : secI (lookL 4 exIm).wt 6 = [104, 101, 108] ++ List.replicate 125 0 := by kernel_rfl
theorem ex_one : (secI (lookL 4 exIm).wt 1).getD 1 0 = 1 := by kernel_rfl
theorem ex_len : (lookL 4 exIm).wt.length = 16 := by kernel_rfl
theorem ex_write : writeI 4 exIm (lookL 4 exIm) = [1, 6] := by kernel_rfl

end Go.Proofs.YtboammbcoleicabGreat

namespace Go.Proofs.YtboammbcoleicabGreat
open Go.RowKit Go.Shelf

def smallL : List Spt := [(0, 0, [66, 82, 75, 87, 16, 0, 0, 0, 4]), (1, 0, [2, 7, 0, 0, 128]), (1, 16, [5]), (2, 0, [1, 1, 0, 0, 3]), (2, 16, [6]), (5, 0, [2, 0, 0, 0, 1, 97]), (6, 0, [104, 101, 108, 108, 111])]
theorem small_im : picI 16 smallL = exIm := by kernel_rfl
theorem small_n : nP 16 = 16 := by kernel_rfl
theorem small_ok : ∀ x ∈ smallL, OkSpt x := by
 intro x hx
 unfold OkSpt I64
 simp only [smallL, List.mem_cons, List.not_mem_nil, or_false] at hx
 rcases hx with rfl | rfl | rfl | rfl | rfl | rfl | rfl <;> decide
theorem bytes_row {w : World} {b : Nat} {t : TypeId} {l : List Int} (h : w.heap[b]? = some (.cells (SA l) t (0, 0))) : D.BytesAt w (some ⟨b, 0, none⟩) l := by
 refine .inr ⟨b, 0, rfl, slt h, fun j hj => ?_⟩;rw [cell_of_row _ _ _ _ _ _ h, Nat.zero_add]
 show ((l.map (Value.int .u8)).toArray)[j]? = _
 rw [List.getElem?_toArray, List.getElem?_map, List.getD_eq_getElem?_getD, List.getElem?_eq_getElem hj]
 rfl
theorem small_pic (w : World) : SptsAt (((((((((w.alloc (.cells #[.int .u8 66, .int .u8 82, .int .u8 75, .int .u8 87, .int .u8 16, .int .u8 0, .int .u8 0, .int .u8 0, .int .u8 4] 5)).alloc (.cells #[.int .u8 2, .int .u8 7, .int .u8 0, .int .u8 0, .int .u8 128] 5)).alloc (.cells #[.int .u8 5] 5)).alloc (.cells #[.int .u8 1, .int .u8 1, .int .u8 0, .int .u8 0, .int .u8 3] 5)).alloc (.cells #[.int .u8 6] 5)).alloc (.cells #[.int .u8 2, .int .u8 0, .int .u8 0, .int .u8 0, .int .u8 1, .int .u8 97] 5)).alloc (.cells #[.int .u8 104, .int .u8 101, .int .u8 108, .int .u8 108, .int .u8 111] 5)).alloc (.cells #[.int .i64 0, .int .i64 0, .slice (some ⟨w.heap.size, 0, none⟩) 9 9, .int .i64 1, .int .i64 0, .slice (some ⟨w.heap.size + 1, 0, none⟩) 5 5, .int .i64 1, .int .i64 16, .slice (some ⟨w.heap.size + 1 + 1, 0, none⟩) 1 1, .int .i64 2, .int .i64 0, .slice (some ⟨w.heap.size + 1 + 1 + 1, 0, none⟩) 5 5, .int .i64 2, .int .i64 16, .slice (some ⟨w.heap.size + 1 + 1 + 1 + 1, 0, none⟩) 1 1, .int .i64 5, .int .i64 0, .slice (some ⟨w.heap.size + 1 + 1 + 1 + 1 + 1, 0, none⟩) 6 6, .int .i64 6, .int .i64 0, .slice (some ⟨w.heap.size + 1 + 1 + 1 + 1 + 1 + 1, 0, none⟩) 5 5] 43)).alloc (.cells #[.int .i64 16, .slice (some ⟨w.heap.size + 1 + 1 + 1 + 1 + 1 + 1 + 1, 0, none⟩) 7 7] 24)) (some ⟨w.heap.size + 1 + 1 + 1 + 1 + 1 + 1 + 1, 0, none⟩) smallL ∧ Chg w (((((((((w.alloc (.cells #[.int .u8 66, .int .u8 82, .int .u8 75, .int .u8 87, .int .u8 16, .int .u8 0, .int .u8 0, .int .u8 0, .int .u8 4] 5)).alloc (.cells #[.int .u8 2, .int .u8 7, .int .u8 0, .int .u8 0, .int .u8 128] 5)).alloc (.cells #[.int .u8 5] 5)).alloc (.cells #[.int .u8 1, .int .u8 1, .int .u8 0, .int .u8 0, .int .u8 3] 5)).alloc (.cells #[.int .u8 6] 5)).alloc (.cells #[.int .u8 2, .int .u8 0, .int .u8 0, .int .u8 0, .int .u8 1, .int .u8 97] 5)).alloc (.cells #[.int .u8 104, .int .u8 101, .int .u8 108, .int .u8 108, .int .u8 111] 5)).alloc (.cells #[.int .i64 0, .int .i64 0, .slice (some ⟨w.heap.size, 0, none⟩) 9 9, .int .i64 1, .int .i64 0, .slice (some ⟨w.heap.size + 1, 0, none⟩) 5 5, .int .i64 1, .int .i64 16, .slice (some ⟨w.heap.size + 1 + 1, 0, none⟩) 1 1, .int .i64 2, .int .i64 0, .slice (some ⟨w.heap.size + 1 + 1 + 1, 0, none⟩) 5 5, .int .i64 2, .int .i64 16, .slice (some ⟨w.heap.size + 1 + 1 + 1 + 1, 0, none⟩) 1 1, .int .i64 5, .int .i64 0, .slice (some ⟨w.heap.size + 1 + 1 + 1 + 1 + 1, 0, none⟩) 6 6, .int .i64 6, .int .i64 0, .slice (some ⟨w.heap.size + 1 + 1 + 1 + 1 + 1 + 1, 0, none⟩) 5 5] 43)).alloc (.cells #[.int .i64 16, .slice (some ⟨w.heap.size + 1 + 1 + 1 + 1 + 1 + 1 + 1, 0, none⟩) 7 7] 24)) No := by
 obtain ⟨w1, hw1⟩ : ∃ y, y = w.alloc (.cells #[.int .u8 66, .int .u8 82, .int .u8 75, .int .u8 87, .int .u8 16, .int .u8 0, .int .u8 0, .int .u8 0, .int .u8 4] 5) := ⟨_, rfl⟩
 have hc1 : Chg w w1 No := by rw [hw1]; exact Chg.alloc _ _ _
 have hs1 : w1.heap.size = w.heap.size + 1 := by rw [hw1, World.size_alloc]
 have hn1 : w1.heap[w.heap.size]? = some (.cells #[.int .u8 66, .int .u8 82, .int .u8 75, .int .u8 87, .int .u8 16, .int .u8 0, .int .u8 0, .int .u8 0, .int .u8 4] 5 (0, 0)) := by
  have := heap_alloc_new w (.cells #[.int .u8 66, .int .u8 82, .int .u8 75, .int .u8 87, .int .u8 16, .int .u8 0, .int .u8 0, .int .u8 0, .int .u8 4] 5)
  skip
  rw [hw1]
  exact this
 rw [← hw1];obtain ⟨w2, hw2⟩ : ∃ y, y = w1.alloc (.cells #[.int .u8 2, .int .u8 7, .int .u8 0, .int .u8 0, .int .u8 128] 5) := ⟨_, rfl⟩
 have hc2 : Chg w1 w2 No := by rw [hw2]; exact Chg.alloc _ _ _
 have hs2 : w2.heap.size = w.heap.size + 1 + 1 := by rw [hw2, World.size_alloc]; rw [hs1]
 have hn2 : w2.heap[w.heap.size + 1]? = some (.cells #[.int .u8 2, .int .u8 7, .int .u8 0, .int .u8 0, .int .u8 128] 5 (0, 0)) := by
  have := heap_alloc_new w1 (.cells #[.int .u8 2, .int .u8 7, .int .u8 0, .int .u8 0, .int .u8 128] 5);rw [hs1] at this;rw [hw2]
  exact this
 rw [← hw2];obtain ⟨w3, hw3⟩ : ∃ y, y = w2.alloc (.cells #[.int .u8 5] 5) := ⟨_, rfl⟩
 have hc3 : Chg w2 w3 No := by rw [hw3]; exact Chg.alloc _ _ _
 have hs3 : w3.heap.size = w.heap.size + 1 + 1 + 1 := by rw [hw3, World.size_alloc]; rw [hs2]
 have hn3 : w3.heap[w.heap.size + 1 + 1]? = some (.cells #[.int .u8 5] 5 (0, 0)) := by
  have := heap_alloc_new w2 (.cells #[.int .u8 5] 5);rw [hs2] at this;rw [hw3]
  exact this
 rw [← hw3];obtain ⟨w4, hw4⟩ : ∃ y, y = w3.alloc (.cells #[.int .u8 1, .int .u8 1, .int .u8 0, .int .u8 0, .int .u8 3] 5) := ⟨_, rfl⟩
 have hc4 : Chg w3 w4 No := by rw [hw4]; exact Chg.alloc _ _ _
 have hs4 : w4.heap.size = w.heap.size + 1 + 1 + 1 + 1 := by rw [hw4, World.size_alloc]; rw [hs3]
 have hn4 : w4.heap[w.heap.size + 1 + 1 + 1]? = some (.cells #[.int .u8 1, .int .u8 1, .int .u8 0, .int .u8 0, .int .u8 3] 5 (0, 0)) := by
  have := heap_alloc_new w3 (.cells #[.int .u8 1, .int .u8 1, .int .u8 0, .int .u8 0, .int .u8 3] 5);rw [hs3] at this;rw [hw4]
  exact this
 rw [← hw4];obtain ⟨w5, hw5⟩ : ∃ y, y = w4.alloc (.cells #[.int .u8 6] 5) := ⟨_, rfl⟩
 have hc5 : Chg w4 w5 No := by rw [hw5]; exact Chg.alloc _ _ _
 have hs5 : w5.heap.size = w.heap.size + 1 + 1 + 1 + 1 + 1 := by rw [hw5, World.size_alloc]; rw [hs4]
 have hn5 : w5.heap[w.heap.size + 1 + 1 + 1 + 1]? = some (.cells #[.int .u8 6] 5 (0, 0)) := by
  have := heap_alloc_new w4 (.cells #[.int .u8 6] 5);rw [hs4] at this;rw [hw5]
  exact this
 rw [← hw5];obtain ⟨w6, hw6⟩ : ∃ y, y = w5.alloc (.cells #[.int .u8 2, .int .u8 0, .int .u8 0, .int .u8 0, .int .u8 1, .int .u8 97] 5) := ⟨_, rfl⟩
 have hc6 : Chg w5 w6 No := by rw [hw6]; exact Chg.alloc _ _ _
 have hs6 : w6.heap.size = w.heap.size + 1 + 1 + 1 + 1 + 1 + 1 := by rw [hw6, World.size_alloc]; rw [hs5]
 have hn6 : w6.heap[w.heap.size + 1 + 1 + 1 + 1 + 1]? = some (.cells #[.int .u8 2, .int .u8 0, .int .u8 0, .int .u8 0, .int .u8 1, .int .u8 97] 5 (0, 0)) := by
  have := heap_alloc_new w5 (.cells #[.int .u8 2, .int .u8 0, .int .u8 0, .int .u8 0, .int .u8 1, .int .u8 97] 5);rw [hs5] at this;rw [hw6]
  exact this
 rw [← hw6];obtain ⟨w7, hw7⟩ : ∃ y, y = w6.alloc (.cells #[.int .u8 104, .int .u8 101, .int .u8 108, .int .u8 108, .int .u8 111] 5) := ⟨_, rfl⟩
 have hc7 : Chg w6 w7 No := by rw [hw7]; exact Chg.alloc _ _ _
 have hs7 : w7.heap.size = w.heap.size + 1 + 1 + 1 + 1 + 1 + 1 + 1 := by rw [hw7, World.size_alloc]; rw [hs6]
 have hn7 : w7.heap[w.heap.size + 1 + 1 + 1 + 1 + 1 + 1]? = some (.cells #[.int .u8 104, .int .u8 101, .int .u8 108, .int .u8 108, .int .u8 111] 5 (0, 0)) := by
  have := heap_alloc_new w6 (.cells #[.int .u8 104, .int .u8 101, .int .u8 108, .int .u8 108, .int .u8 111] 5);rw [hs6] at this;rw [hw7]
  exact this
 rw [← hw7];obtain ⟨w8, hw8⟩ : ∃ y, y = w7.alloc (.cells #[.int .i64 0, .int .i64 0, .slice (some ⟨w.heap.size, 0, none⟩) 9 9, .int .i64 1, .int .i64 0, .slice (some ⟨w.heap.size + 1, 0, none⟩) 5 5, .int .i64 1, .int .i64 16, .slice (some ⟨w.heap.size + 1 + 1, 0, none⟩) 1 1, .int .i64 2, .int .i64 0, .slice (some ⟨w.heap.size + 1 + 1 + 1, 0, none⟩) 5 5, .int .i64 2, .int .i64 16, .slice (some ⟨w.heap.size + 1 + 1 + 1 + 1, 0, none⟩) 1 1, .int .i64 5, .int .i64 0, .slice (some ⟨w.heap.size + 1 + 1 + 1 + 1 + 1, 0, none⟩) 6 6, .int .i64 6, .int .i64 0, .slice (some ⟨w.heap.size + 1 + 1 + 1 + 1 + 1 + 1, 0, none⟩) 5 5] 43) := ⟨_, rfl⟩
 have hc8 : Chg w7 w8 No := by rw [hw8]; exact Chg.alloc _ _ _
 have hs8 : w8.heap.size = w.heap.size + 1 + 1 + 1 + 1 + 1 + 1 + 1 + 1 := by rw [hw8, World.size_alloc]; rw [hs7]
 have hn8 : w8.heap[w.heap.size + 1 + 1 + 1 + 1 + 1 + 1 + 1]? = some (.cells #[.int .i64 0, .int .i64 0, .slice (some ⟨w.heap.size, 0, none⟩) 9 9, .int .i64 1, .int .i64 0, .slice (some ⟨w.heap.size + 1, 0, none⟩) 5 5, .int .i64 1, .int .i64 16, .slice (some ⟨w.heap.size + 1 + 1, 0, none⟩) 1 1, .int .i64 2, .int .i64 0, .slice (some ⟨w.heap.size + 1 + 1 + 1, 0, none⟩) 5 5, .int .i64 2, .int .i64 16, .slice (some ⟨w.heap.size + 1 + 1 + 1 + 1, 0, none⟩) 1 1, .int .i64 5, .int .i64 0, .slice (some ⟨w.heap.size + 1 + 1 + 1 + 1 + 1, 0, none⟩) 6 6, .int .i64 6, .int .i64 0, .slice (some ⟨w.heap.size + 1 + 1 + 1 + 1 + 1 + 1, 0, none⟩) 5 5] 43 (0, 0)) := by
  have := heap_alloc_new w7 (.cells #[.int .i64 0, .int .i64 0, .slice (some ⟨w.heap.size, 0, none⟩) 9 9, .int .i64 1, .int .i64 0, .slice (some ⟨w.heap.size + 1, 0, none⟩) 5 5, .int .i64 1, .int .i64 16, .slice (some ⟨w.heap.size + 1 + 1, 0, none⟩) 1 1, .int .i64 2, .int .i64 0, .slice (some ⟨w.heap.size + 1 + 1 + 1, 0, none⟩) 5 5, .int .i64 2, .int .i64 16, .slice (some ⟨w.heap.size + 1 + 1 + 1 + 1, 0, none⟩) 1 1, .int .i64 5, .int .i64 0, .slice (some ⟨w.heap.size + 1 + 1 + 1 + 1 + 1, 0, none⟩) 6 6, .int .i64 6, .int .i64 0, .slice (some ⟨w.heap.size + 1 + 1 + 1 + 1 + 1 + 1, 0, none⟩) 5 5] 43);rw [hs7] at this;rw [hw8]
  exact this
 rw [← hw8];obtain ⟨w9, hw9⟩ : ∃ y, y = w8.alloc (.cells #[.int .i64 16, .slice (some ⟨w.heap.size + 1 + 1 + 1 + 1 + 1 + 1 + 1, 0, none⟩) 7 7] 24) := ⟨_, rfl⟩
 have hc9 : Chg w8 w9 No := by rw [hw9]; exact Chg.alloc _ _ _
 have hs9 : w9.heap.size = w.heap.size + 1 + 1 + 1 + 1 + 1 + 1 + 1 + 1 + 1 := by rw [hw9, World.size_alloc]; rw [hs8]
 have hn9 : w9.heap[w.heap.size + 1 + 1 + 1 + 1 + 1 + 1 + 1 + 1]? = some (.cells #[.int .i64 16, .slice (some ⟨w.heap.size + 1 + 1 + 1 + 1 + 1 + 1 + 1, 0, none⟩) 7 7] 24 (0, 0)) := by
  have := heap_alloc_new w8 (.cells #[.int .i64 16, .slice (some ⟨w.heap.size + 1 + 1 + 1 + 1 + 1 + 1 + 1, 0, none⟩) 7 7] 24);rw [hs8] at this;rw [hw9]
  exact this
 rw [← hw9];have k0 := (hc9.keep (hc8.keep (hc7.keep (hc6.keep (hc5.keep (hc4.keep (hc3.keep (hc2.keep hn1 (fun e => e)) (fun e => e)) (fun e => e)) (fun e => e)) (fun e => e)) (fun e => e)) (fun e => e)) (fun e => e));have k1 := (hc9.keep (hc8.keep (hc7.keep (hc6.keep (hc5.keep (hc4.keep (hc3.keep hn2 (fun e => e)) (fun e => e)) (fun e => e)) (fun e => e)) (fun e => e)) (fun e => e)) (fun e => e));have k2 := (hc9.keep (hc8.keep (hc7.keep (hc6.keep (hc5.keep (hc4.keep hn3 (fun e => e)) (fun e => e)) (fun e => e)) (fun e => e)) (fun e => e)) (fun e => e));have k3 := (hc9.keep (hc8.keep (hc7.keep (hc6.keep (hc5.keep hn4 (fun e => e)) (fun e => e)) (fun e => e)) (fun e => e)) (fun e => e));have k4 := (hc9.keep (hc8.keep (hc7.keep (hc6.keep hn5 (fun e => e)) (fun e => e)) (fun e => e)) (fun e => e));have k5 := (hc9.keep (hc8.keep (hc7.keep hn6 (fun e => e)) (fun e => e)) (fun e => e));have k6 := (hc9.keep (hc8.keep hn7 (fun e => e)) (fun e => e));have k7 := (hc9.keep hn8 (fun e => e));refine ⟨.inr ⟨w.heap.size + 1 + 1 + 1 + 1 + 1 + 1 + 1, 0, rfl, slt k7, fun k x hx => ?_⟩, ((((((((hc1.tr hc2).tr hc3).tr hc4).tr hc5).tr hc6).tr hc7).tr hc8).tr hc9)⟩
 match k, hx with
 | 0, hx =>
  obtain rfl := Option.some.inj hx;refine ⟨(some ⟨w.heap.size, 0, none⟩), 9, fun j v hv => ?_, bytes_row (l := [66, 82, 75, 87, 16, 0, 0, 0, 4]) k0⟩;rw [cell_of_row _ _ _ _ _ _ k7]
  match j, hv with
  | 0, hv => exact hv
  | 1, hv => exact hv
  | 2, hv => exact hv
 | 1, hx =>
  obtain rfl := Option.some.inj hx;refine ⟨(some ⟨w.heap.size + 1, 0, none⟩), 5, fun j v hv => ?_, bytes_row (l := [2, 7, 0, 0, 128]) k1⟩;rw [cell_of_row _ _ _ _ _ _ k7]
  match j, hv with
  | 0, hv => exact hv
  | 1, hv => exact hv
  | 2, hv => exact hv
 | 2, hx =>
  obtain rfl := Option.some.inj hx;refine ⟨(some ⟨w.heap.size + 1 + 1, 0, none⟩), 1, fun j v hv => ?_, bytes_row (l := [5]) k2⟩;rw [cell_of_row _ _ _ _ _ _ k7]
  match j, hv with
  | 0, hv => exact hv
  | 1, hv => exact hv
  | 2, hv => exact hv
 | 3, hx =>
  obtain rfl := Option.some.inj hx;refine ⟨(some ⟨w.heap.size + 1 + 1 + 1, 0, none⟩), 5, fun j v hv => ?_, bytes_row (l := [1, 1, 0, 0, 3]) k3⟩;rw [cell_of_row _ _ _ _ _ _ k7]
  match j, hv with
  | 0, hv => exact hv
  | 1, hv => exact hv
  | 2, hv => exact hv
 | 4, hx =>
  obtain rfl := Option.some.inj hx;refine ⟨(some ⟨w.heap.size + 1 + 1 + 1 + 1, 0, none⟩), 1, fun j v hv => ?_, bytes_row (l := [6]) k4⟩;rw [cell_of_row _ _ _ _ _ _ k7]
  match j, hv with
  | 0, hv => exact hv
  | 1, hv => exact hv
  | 2, hv => exact hv
 | 5, hx =>
  obtain rfl := Option.some.inj hx;refine ⟨(some ⟨w.heap.size + 1 + 1 + 1 + 1 + 1, 0, none⟩), 6, fun j v hv => ?_, bytes_row (l := [2, 0, 0, 0, 1, 97]) k5⟩;rw [cell_of_row _ _ _ _ _ _ k7]
  match j, hv with
  | 0, hv => exact hv
  | 1, hv => exact hv
  | 2, hv => exact hv
 | 6, hx =>
  obtain rfl := Option.some.inj hx;refine ⟨(some ⟨w.heap.size + 1 + 1 + 1 + 1 + 1 + 1, 0, none⟩), 5, fun j v hv => ?_, bytes_row (l := [104, 101, 108, 108, 111]) k6⟩;rw [cell_of_row _ _ _ _ _ _ k7]
  match j, hv with
  | 0, hv => exact hv
  | 1, hv => exact hv
  | 2, hv => exact hv

set_option maxHeartbeats 1000000 in
set_option maxRecDepth 100000 in
theorem small_any (w : World) : Calls Tryz.prog 16 #[] w fun e w' => ∃ g, e = .returned (.slice (some ⟨g, 0, none⟩) 16 16) ∧ w.heap.size ≤ g ∧ WtAt w' g exIm ∧ Chg w w' No := by
 obtain ⟨hS, hC⟩ := small_pic w;have hIm := image_any 16 (some ⟨w.heap.size + 1 + 1 + 1 + 1 + 1 + 1 + 1, 0, none⟩) smallL 7 _ (by unfold I64; omega) hS small_ok (by decide);rw [small_im, small_n] at hIm;have HC := hid hC;clear hS hC
 go_enter Tryz.func16, Tryz.ntmps16
 go_wp2_with (first
  | (go_at_call 5; go_must (refine hIm.mono ?_; rintro e w2 ⟨g, rfl, hg, hwt, hc2⟩))
  | fail)
 go_ret
 exact ⟨g, rfl, by have := HC.out.size; omega, hwt, HC.out.tr hc2⟩
end Go.Proofs.YtboammbcoleicabGreat

namespace Go.Proofs.YtboammbcoleicabGreat
open Go.RowKit Go.Shelf

theorem wt_all {w : World} {g : Nat} {im : Img} (h : WtAt w g im) : AllSec im := fun n => h.sec n
theorem ex_ii {w : World} {g : Nat} (h : WtAt w g exIm) : II exIm 4 := by
 have hs := ex_sup;refine ⟨by rw [hs], by rw [hs]; rfl, by decide, ex_root, wt_all h, by decide, by decide⟩
theorem ex_k : kW 4 exIm = 2 := by unfold kW; rw [ex_write]; rfl
theorem wt_byte {w : World} {g : Nat} {T : Img} (h : WtAt w g T) {j i : Nat} (hj : j < T.length) {x : Int} (hx : (secI T (j : Int)).getD i 0 = x) (hi : i < 128) : w.cell? ⟨g, j * 128 + i, none⟩ = some (.int .u8 x) := by
 have h1 := h.range hj;have hs := (h.sec (j : Int)).1;refine h1 i _ ?_;rw [List.getElem?_map];rw [List.getD_eq_getElem?_getD, List.getElem?_eq_getElem (by omega)] at hx;rw [List.getElem?_eq_getElem (by omega)];have hx : (secI T (j : Int))[i] = x := hx;rw [hx]
 rfl
theorem ex_six2 : (secI (lookL 4 exIm).wt ((6 : Nat) : Int)).getD 2 0 = 108 ∧ (secI (lookL 4 exIm).wt ((6 : Nat) : Int)).getD 3 0 = 0 := by
 have h := ex_six;have e : secI (lookL 4 exIm).wt ((6 : Nat) : Int) = secI (lookL 4 exIm).wt 6 := rfl;rw [e, h]
 exact ⟨by decide, by decide⟩

set_option maxHeartbeats 2000000 in
set_option maxRecDepth 100000 in
theorem known_any (w : World) : Calls Tryz.prog 7 #[] w fun e w' => e = .returned (.bool true) ∧ Chg w w' No := by
 have hzr := zero_rep;have hE := small_any w;have HK2 := hid ex_k;have HW2 := hid ex_write;have HL16 := hid ex_len;have HO1 : Hid ((secI (lookL 4 exIm).wt ((1 : Nat) : Int)).getD 1 0 = 1) := hid ex_one;have HO6 := hid ex_six2
 have HFr : Hid (∀ W q, WtAt W q exIm → Calls Tryz.prog 6 #[.slice (some ⟨q, 0, none⟩) 16 16] W fun e w' => ∃ p g, e = .returned (.tuple #[.pointer (some ⟨p, 0, none⟩), .int .i64 0]) ∧ W.heap.size ≤ p ∧ W.heap.size ≤ g ∧ DK w' p g exIm 0 false false 0 ∧ Chg W w' No ∧ II exIm 4) := hid (fun W q h => by
  refine (dk_from (ic := 16) (ImgAt.of_wt h) (by decide) (by decide)).mono ?_
  rintro e w' ⟨p, g, h1, h2, h3, h4, h5⟩
  exact ⟨p, g, h1, h2, h3, h4, h5, ex_ii h⟩)
 have HRn : Hid (∀ W p g, DK W p g exIm 0 false false 0 → II exIm 4 → Calls Tryz.prog 8 #[.pointer (some ⟨p, 0, none⟩)] W fun e w' => ∃ gw wc s1 s2 s3 a1 a2 a3, e = .returned (.tuple #[.agg (repV 16 gw wc 2 s1 (inodesI 4 (lookL 4 exIm)).length s2 (blocksI exIm (lookL 4 exIm)).length s3 a1 a2 a3), .int .i64 0]) ∧
   DK w' p g (lookL 4 exIm).wt 2 false false 0 ∧ LAt w' a1 [1, 6] ∧ Chg W w' (fun k => k = p ∨ k = g)) := hid (fun W p g h hii => by
  refine (run_any h (by omega) (by omega)).mono ?_
  rintro e w3 (⟨hn, _⟩ | ⟨M, _, ⟨ha, _⟩, _⟩ | ⟨M, gw, wc, s1, s2, s3, a1, a2, a3, _, rfl, hd3, hX, hc3⟩)
  ·exact absurd hii (hn 4)
  ·cases ha
  ·obtain rfl : M = 4 := hii.one hX.ii
   have h1 := hX.l1;rw [ex_write] at h1;rw [ex_k] at hd3 ⊢
   exact ⟨gw, wc, s1, s2, s3, a1, a2, a3, rfl, hd3, h1, hc3⟩)
 have HEl : Hid (exIm.length = 16) := hid rfl
 generalize exIm = im at *
 go_enter Tryz.func7, Tryz.ntmps7
 go_upto_region 4 with (first
  | (go_at_call 16; go_must (refine hE.mono ?_; rintro e w1 ⟨q, rfl, hq, hwq, hc1⟩; have hFr := HFr.out w1 q hwq))
  | (go_at_call 6; go_must (refine hFr.mono ?_; rintro e w2 ⟨p, g, rfl, hp2, hg2, hd2, hc2, hii⟩; have hRn := HRn.out w2 p g hd2 hii))
  | fail)
 have HC2 := hid (hc1.tr hc2);have HPG := hid (And.intro hp2 hg2);have HS1 := hid hc1.size;clear hc1 hc2 hq hwq hE hFr hp2 hg2 hd2 hii
 generalize (inodesI 4 (lookL 4 im)).length = ni at *
 generalize (blocksI im (lookL 4 im)).length = nb at *
 go_upto_region 5 with (first
  | (go_at_call 8; go_must (refine hRn.mono ?_; rintro e w3 ⟨gw, wc, s1, s2, s3, a1, a2, a3, rfl, hd3, hl3, hc3⟩))
  | (refine store_R rfl 34 _ _ rfl w3.heap.size (repV 16 gw wc 2 s1 ni s2 nb s3 a1 a2 a3) rfl rfl 34 _ (heap_alloc_new _ _) szRep rfl (repV_one _ _ _ _ _ _ _ _ _ _ _ _) ?_; intro w4 hw4)
  | fail)
 ·have h34 : Chg w3 w4 No := (Chg.alloc w3 _ No).trans (kt_new hw4) (fun _ _ e => e) (fun j hj e => by omega)
  have HD4 := hid (hd3.call h34);have HL1 := hid (hl3.call h34);have hIm := dk_image HD4.out;rw [HL16.out] at hIm
  have hWs := fun (W : World) (hW : Chg w4 W No) => D.writes_any W (HD4.out.call hW).d
  have HWs := hid hWs;have HG4 := hid hw4.here;obtain ⟨g4, hg4⟩ : ∃ y, y = w3.heap.size := ⟨_, rfl⟩;rw [← hg4] at HG4 ⊢;have HC4 : Hid (Chg w w4 No) := hid ((HC2.out.trans hc3 (c := No) (fun _ _ e => e) (fun j hj e => by have := HPG.out; have := HS1.out; omega)).tr h34);clear hw4 hg4 h34 hc3 hd3 hl3 hRn hWs
  go_upto_region 6 with (first
   | (go_at_call 12; go_must (refine hIm.mono ?_; rintro e w5 ⟨q, rfl, hq, hwq, hc5⟩))
   | fail)
  have c0 : w5.cell? ⟨g4, 1, none⟩ = some (.slice a1 2 s1) := (cell_of_row _ _ _ _ _ _ (hc5.keep HG4.out (fun e => e))).trans rfl;have hW5 := HWs.out w5 hc5
  obtain ⟨ga, ha1, hga⟩ : ∃ ga, a1 = some ⟨ga, 0, none⟩ ∧ (w5.cell? ⟨ga, 0, none⟩ = some (.int .i64 1) ∧ w5.cell? ⟨ga, 1, none⟩ = some (.int .i64 6)) := by
   rcases HL1.out.call hc5 with e | ⟨ga, e, _, hc⟩
   ·cases e
   ·exact ⟨ga, e, hc 0 (by decide), hc 1 (by decide)⟩
  subst ha1;obtain ⟨d0, d1⟩ := hga;have b1 : w5.cell? ⟨q, 129, none⟩ = some (.int .u8 1) := wt_byte hwq (j := 1) (i := 1) (by rw [HL16.out]; omega) HO1.out (by omega);have b2 : w5.cell? ⟨q, 770, none⟩ = some (.int .u8 108) := wt_byte hwq (j := 6) (i := 2) (by rw [HL16.out]; omega) HO6.out.1 (by omega);have b3 : w5.cell? ⟨q, 771, none⟩ = some (.int .u8 0) := wt_byte hwq (j := 6) (i := 3) (by rw [HL16.out]; omega) HO6.out.2 (by omega);have HC5 := hid (HC4.out.tr hc5);clear hwq hc5 hIm hq
  go_wp2_with (first
   | (go_at_call 10; go_must (refine hW5.mono ?_; rintro e w6 ⟨rfl, hw6⟩; obtain rfl : w5 = w6 := hw6.symm))
   | fail)
  go_ret
  exact ⟨rfl, HC5.out⟩
end Go.Proofs.YtboammbcoleicabGreat

namespace Go.Proofs.YtboammbcoleicabGreat
open Go.RowKit Go.Shelf

theorem well_fix {im : Img} (hs : AllSec im) : WellI im ↔ (supOf im).2.2 = 0 ∧ rootB (supOf im).2.1.toNat im = true ∧ (lookL (supOf im).2.1.toNat im).wt = im := by
 unfold WellI
 constructor
 ·rintro ⟨h1, h2⟩
  obtain ⟨_, _, _, m1, m2⟩ := supOf_ok h1
  exact ⟨h1, (fix_iff (by omega) (by omega) hs).1 h2⟩
 ·rintro ⟨h1, h2⟩
  obtain ⟨_, _, _, m1, m2⟩ := supOf_ok h1
  exact ⟨h1, (fix_iff (by omega) (by omega) hs).2 h2⟩
end Go.Proofs.YtboammbcoleicabGreat

namespace Go.Proofs.YtboammbcoleicabGreat
open Go.RowKit Go.Shelf

theorem want_fix {M : Nat} {im : Img} (hMl : M < im.length) (hs : AllSec im) (hr : rootB M im = true) : supOf (lookL M im).wt = supOf im ∧ rootB M (lookL M im).wt = true ∧ lookL M (lookL M im).wt = lookL M im := by
 have h1 := cut_sup (M := M) (im := im) hr (writeI M im (lookL M im)).length;have h2 := cut_look hMl hs hr (writeI M im (lookL M im)).length;rw [cut_all hr] at h1 h2
 exact ⟨h1, h2.1, h2.2⟩
end Go.Proofs.YtboammbcoleicabGreat

namespace Go.Proofs.YtboammbcoleicabGreat
open Go.RowKit Go.Shelf

theorem dkw_any {w : World} {p g : Nat} {im : Img} {nw : Int} {dn ar : Bool} {lf : Int} (h : DK w p g im nw dn ar lf) : Calls Tryz.prog 10 #[.pointer (some ⟨p, 0, none⟩)] w fun e w' => e = .returned (.int .i64 nw) ∧ w' = w := D.writes_any w h.d
theorem ii_nul {im : Img} {M : Nat} (h : II im M) : lookE im = 0 := by
 unfold lookE;rw [if_neg (by simp [h.sup]), ← h.hM, h.root]
 rfl
theorem run_w {w : World} {p g : Nat} {im : Img} (h : DK w p g im 0 false false 0) :
  Calls Tryz.prog 8 #[.pointer (some ⟨p, 0, none⟩)] w fun e w' => ∃ v0 v1 v2 v3 Jd kd, e = .returned (.tuple #[.agg #[v0, v1, v2, v3], .int .i64 (lookE im)]) ∧ (#[v0, v1, v2, v3] : Array Value).all (·.oneCell') = true ∧ DK w' p g Jd kd false false 0 ∧
   (((∀ M, ¬ II im M) ∧ lookE im ≠ 0 ∧ Jd = im ∧ kd = 0) ∨ ∃ M gw wc s1 s2 s3 i b a1 a2 a3, II im M ∧ Jd = (lookL M im).wt ∧ kd = kW M im ∧ #[v0, v1, v2, v3] = repV im.length gw wc (kW M im) s1 i s2 b s3 a1 a2 a3 ∧ WtAt w' gw (lookL M im).wt) ∧ Jd.length = im.length ∧ Chg w w' (fun k => k = p ∨ k = g) := by
 refine (run_any h (by omega) (by omega)).mono ?_
 rintro e w' (⟨hn, E, ⟨hE, hE2⟩, rfl, hc⟩ | ⟨M, hii, ⟨ha, hk⟩, _⟩ | ⟨M, gw, wc, s1, s2, s3, a1, a2, a3, hnc, rfl, hd, hX, hc⟩)
 ·subst hE
  exact ⟨_, _, _, _, im, 0, rfl, nil4_one, h.call hc, .inl ⟨hn, by omega, rfl, rfl⟩, rfl, hc.mono fun _ _ e => e.elim⟩
 ·cases ha
 ·rw [ii_nul hX.ii]
  rw [Int.zero_add] at hd
  exact ⟨_, _, _, _, _, _, rfl, repV_one _ _ _ _ _ _ _ _ _ _ _ _, hd, .inr ⟨M, gw, wc, s1, s2, s3, _, _, a1, a2, a3, hX.ii, rfl, rfl, rfl, hX.wt⟩, hX.tl, hc⟩
end Go.Proofs.YtboammbcoleicabGreat

namespace Go.Proofs.YtboammbcoleicabGreat
open Go.RowKit Go.Shelf

theorem Chg.aside2 {w w1 w2 : World} {ks : Nat → Prop} (h : Chg w w1 No) (k : Chg w1 w2 ks) (hg : ∀ j, ks j → w.heap.size ≤ j) : Chg w w2 No := h.trans k (fun _ _ e => e) (fun j hj e => by have := hg j e; omega)
theorem wellB_c (ia : Option Addr) (ic n : Nat) (im : Img) (hn : n = im.length) (w : World) (h : ImgAt w ia im) (b : Bool) (hb : wellB im = b) : Calls Tryz.prog 9 #[.slice ia n ic] w fun e w' => e = .returned (.bool b) ∧ Chg w w' No := by
 rw [hn, ← hb]
 exact well_any ia ic im w h
theorem lookE_bad {im : Img} (h : lookE im ≠ 0) : lookE im = 120 ∨ lookE im = 121 := by
 unfold lookE at *
 split
 ·exact .inl rfl
 ·rename_i q
  rw [if_neg q] at h
  split
  ·rename_i r
   rw [if_pos r] at h
   exact absurd rfl h
  ·exact .inr rfl
theorem ii_want {im : Img} {M : Nat} (h : II im M) (hs : AllSec (lookL M im).wt) : WellI (lookL M im).wt ∧ II (lookL M im).wt M := by
 have hml := h.ml;obtain ⟨e1, e2, e3⟩ := want_fix (by omega) h.sec h.root;have hl := (lookL_kp h.root).1;refine ⟨(well_fix hs).2 ?_, ⟨by rw [e1]; exact h.sup, by rw [e1]; exact h.hM, by rw [hl]; exact h.ml, e2, hs, by rw [hl]; exact h.n1, by rw [hl]; exact h.n2⟩⟩;rw [e1, ← h.hM, e3]
 exact ⟨h.sup, e2, rfl⟩
theorem ii_turn {T : Img} {M n : Nat} {s : List Int} (h : II T M) (hn : 2 ≤ n) (hs : AllSec (T.set n s)) : II (T.set n s) M := by
 have e0 : secI (T.set n s) 0 = secI T 0 := secI_nat_set _ _ _ _ (by show (0 : Nat) ≠ n; omega);have e1 : secI (T.set n s) 1 = secI T 1 := secI_nat_set _ _ _ _ (by show (1 : Nat) ≠ n; omega)
 have es : supOf (T.set n s) = supOf T := by unfold supOf; rw [e0, List.length_set]
 have er : rootB M (T.set n s) = rootB M T := by unfold rootB soundZ; rw [e1]
 exact ⟨by rw [es]; exact h.sup, by rw [es]; exact h.hM, by rw [List.length_set]; exact h.ml, by rw [er]; exact h.root, hs, by rw [List.length_set]; exact h.n1, by rw [List.length_set]; exact h.n2⟩
theorem from_w (q n : Nat) (im : Img) (hn : n = im.length) (h1 : 1 ≤ n) (h2 : n ≤ 200) (W : World) (h : WtAt W q im) : Calls Tryz.prog 6 #[.slice (some ⟨q, 0, none⟩) n n] W fun e w' => ∃ p g, e = .returned (.tuple #[.pointer (some ⟨p, 0, none⟩), .int .i64 0]) ∧ W.heap.size ≤ p ∧ W.heap.size ≤ g ∧ DK w' p g im 0 false false 0 ∧ Chg W w' No := by
 subst hn
 exact dk_from (ImgAt.of_wt h) h1 (by omega)
theorem image_w (p g n : Nat) (im : Img) (hn : n = im.length) (W : World) {nw : Int} {dn ar : Bool} {lf : Int} (h : DK W p g im nw dn ar lf) : Calls Tryz.prog 12 #[.pointer (some ⟨p, 0, none⟩)] W fun e w' => ∃ q, e = .returned (.slice (some ⟨q, 0, none⟩) n n) ∧ W.heap.size ≤ q ∧ WtAt w' q im ∧ Chg W w' No := by
 subst hn
 exact dk_image h
theorem same_w (x y n : Nat) (im : Img) (hn : n = im.length) (hb : n ≤ 200) (W : World) (h1 : WtAt W x im) (h2 : WtAt W y im) : Calls Tryz.prog 11 #[.slice (some ⟨x, 0, none⟩) n n, .slice (some ⟨y, 0, none⟩) n n] W fun e w' => e = .returned (.bool true) ∧ Chg W w' No := by
 subst hn
 exact secs_same im (some ⟨x, 0, none⟩) (some ⟨y, 0, none⟩) _ _ W (by omega) (ImgAt.of_wt h1) (ImgAt.of_wt h2)
theorem turn_bd {x m : Int} (hx : 0 ≤ x ∧ x ≤ 255) (hm : 0 ≤ m ∧ m ≤ 255) : 0 ≤ bits .xor .u8 x m ∧ bits .xor .u8 x m ≤ 255 := by
 rw [u8_xor x m hx.1 (by omega) hm.1 (by omega)];have : x.toNat ^^^ m.toNat < 2 ^ 8 := Nat.xor_lt_two_pow (by omega) (by omega)
 omega
theorem difN_le (im T : Img) : ∀ k, difN im T k ≤ k
 | 0 => Nat.le_refl _
 | k + 1 => by
  have := difN_le im T k;rw [difN]
  split <;> omega
section
variable {ops : Array Oper} {Q : Exit → Act → World → Prop} {S : World → Prop} {fuel : Nat} {listed : Array Bool} {a : Act} {w : World}
theorem takeNeq (i d : Nat) (x y : Operand) (c c' : List Int) (b : Bool) (hc : c.length = 128) (hc' : c'.length = 128) (hb : decide (c = c') = b) {o : Oper} (hop : ops[i]? = some o) (hs : Region.noSelect ops = true) (hf : Region.free .any ops listed i = true) (hr : (Region.ready .any ops listed).contains i = true)
  (hd : o.dst = some d) (ho : o.op = .binOp .neq 46 x y 46) (hx : a.eval x = .agg (SA c)) (hy : a.eval y = .agg (SA c')) (hw : Region.wanted o (yielded ops a.tmps) = true) (hQ : ∀ c a w, ¬ Q (.panic c) a w) (hS : S w)
  (h : wpAnyH Tryz.prog .any ops Q S fuel (listed.setIfInBounds i true) { a with tmps := a.tmps.setIfInBounds d (.bool (!b)) } w) : wpAnyH Tryz.prog .any ops Q S (fuel + 1) listed a w := by
 refine takeVal i d _ hop hs hf hr hd hw hQ hS (fun w hw' => ?_) h
 have hq : (Op.equalIn 10000 46 (.agg (SA c)) (.agg (SA c'))).run Tryz.prog w = .ok b w := by rw [eq_sec _ _ hc hc', hb]
 unfold execOp
 simp only [ho, hx, hy, Sem.run_bind, run_eqGuard_agg _ _ _ _ _ _ _ guard_sec, run_neq_struct, hq, Result.andThen_ok, Sem.run_pure]
end
end Go.Proofs.YtboammbcoleicabGreat

namespace Go.Proofs.YtboammbcoleicabGreat
open Go.RowKit Go.Shelf

set_option maxHeartbeats 4000000 in
set_option maxRecDepth 100000 in
theorem turned_walk (s : Int) (a : Option Addr) (l : List Spt) (c : Nat) (x1 x2 : Int) (da : Option Addr) (d : List Int) (dc : Nat) (w : World) (hs : I64 s) (hl : SptsAt w a l) (hok : ∀ x ∈ l, OkSpt x) (hll : l.length ≤ 9223372036854775807) (o1 : I64 x1) (o2 : I64 x2) (o3 : ∀ b ∈ d, 0 ≤ b ∧ b ≤ 255) (o4 : d.length ≤ 9223372036854775807) (hby : D.BytesAt w da d) :
  Calls Tryz.prog 4 #[.agg #[.int .i64 s, .slice a l.length c], .agg #[.int .i64 x1, .int .i64 x2, .slice da d.length dc]] w fun e w' => e = .returned (.bool true) ∧ Below w.heap.size w w' := by
 have hzr := zero_rep
 have HIm : Hid (∀ W, Chg w W No → Calls Tryz.prog 5 #[.agg #[.int .i64 s, .slice a l.length c]] W fun e w' => ∃ g im n, n = im.length ∧ e = .returned (.slice (some ⟨g, 0, none⟩) n n) ∧ 1 ≤ n ∧ n ≤ 200 ∧ WtAt w' g im ∧ Chg W w' No) := hid (fun W hW => by
  refine (image_any s a l c W hs (hl.keep hW (fun _ _ e => e)) hok hll).mono ?_
  rintro e w' ⟨g, rfl, _, h3, h4⟩
  have hn := nP_bd s
  exact ⟨g, picI s l, nP s, (picI_len s l).symm, rfl, hn.1, hn.2, h3, h4⟩)
 obtain ⟨m, hm⟩ : ∃ y, y = l.length := ⟨_, rfl⟩;rw [← hm] at HIm ⊢;obtain ⟨dl, hdl⟩ : ∃ y, y = d.length := ⟨_, rfl⟩;rw [← hdl] at o4 ⊢;have HDl := hid hdl;have HO3 := hid o3;have HBy := hid hby;have HO1 := hid o1;have HO2 := hid o2;have HK := hid known_any;clear hs hl hok hll hm hdl o3 hby o1 o2
 go_enter Tryz.func4, Tryz.ntmps4
 go_upto_region 1 with fail
 have hA : Chg w ((w.alloc (.cells #[.int .i64 s, .slice a m c] 24)).alloc (.cells #[.int .i64 x1, .int .i64 x2, .slice da dl dc] 43)) No := (Chg.alloc w _ No).tr (Chg.alloc _ _ No);have hP : ((w.alloc (.cells #[.int .i64 s, .slice a m c] 24)).alloc (.cells #[.int .i64 x1, .int .i64 x2, .slice da dl dc] 43)).heap[w.heap.size]? = some (.cells #[.int .i64 s, .slice a m c] 24 (0, 0)) := (Chg.alloc _ _ No).keep (heap_alloc_new w _) (fun e => e)
 have hG : ((w.alloc (.cells #[.int .i64 s, .slice a m c] 24)).alloc (.cells #[.int .i64 x1, .int .i64 x2, .slice da dl dc] 43)).heap[w.heap.size + 1]? = some (.cells #[.int .i64 x1, .int .i64 x2, .slice da dl dc] 43 (0, 0)) := by
  have := heap_alloc_new (w.alloc (.cells #[.int .i64 s, .slice a m c] 24)) (.cells #[.int .i64 x1, .int .i64 x2, .slice da dl dc] 43);rw [World.size_alloc] at this
  exact this
 obtain ⟨w2, hw2⟩ : ∃ y, y = ((w.alloc (.cells #[.int .i64 s, .slice a m c] 24)).alloc (.cells #[.int .i64 x1, .int .i64 x2, .slice da dl dc] 43)) := ⟨_, rfl⟩;rw [← hw2] at hA hP hG ⊢;obtain ⟨b, hb⟩ : ∃ y, y = w.heap.size := ⟨_, rfl⟩;obtain ⟨b1, hb1⟩ : ∃ y, y = w.heap.size + 1 := ⟨_, rfl⟩;rw [← hb1] at hG ⊢;rw [← hb] at hP ⊢;have HA := hid hA;have HP := hid hP;have HG := hid hG;have HB : Hid (w.heap.size = b) := hid hb.symm;have hIm := HIm.out w2 hA;clear hw2 hb hb1 hA hP hG HIm
 go_upto_region 2 with (first
  | (refine load_R rfl 24 _ rfl b rfl 24 _ _ HP.out Tryz.underlying24 rfl (by kernel_rfl) ?_)
  | (go_at_call 5; go_must (refine hIm.mono ?_; rintro e w3 ⟨q, im, n, hn, rfl, hn1, hn2, hwq, hc3⟩; have hF3 := from_w q n im hn hn1 hn2 w3 hwq; have HN := hid hn; clear hn))
  | (go_at_call 6; go_must (refine hF3.mono ?_; rintro e w4 ⟨p, g, rfl, hp4, hg4, hd4, hc4⟩))
  | fail)
 have HC4 : Hid (Chg w2 w4 No) := hid (hc3.tr hc4);have HAS : Hid (AllSec im) := hid hwq.sec;have HD4 := hid hd4;have HPG : Hid (w2.heap.size ≤ p ∧ w2.heap.size ≤ g) := hid (by have := hc3.size; omega);have hK4 := HK.out w4;clear hF3 hd4 hc4 hp4 hg4 hc3 hwq hIm
 go_upto_region 4 with (first
  | (go_at_call 7; go_must (refine hK4.mono ?_; rintro e w6 ⟨rfl, hc6⟩))
  | fail)
 have HC6 : Hid (Chg w2 w6 No) := hid (HC4.out.tr hc6);have HDd : Hid (DK w6 p g im 0 false false 0) := hid (HD4.out.call hc6);have hR := run_w HDd.out;obtain ⟨gE, hgE⟩ : ∃ y, y = lookE im := ⟨_, rfl⟩;have HGE := hid hgE;rw [← hgE] at hR;clear hgE hc6 hK4
 go_upto_region 5 with (first
  | (go_at_call 8; go_must (refine hR.mono ?_; rintro e w7 ⟨v0, v1, v2, v3, Jd, kd, rfl, hone, hd7, hf7, hl7, hc7⟩))
  | (refine store_R rfl 34 _ _ rfl w7.heap.size #[v0, v1, v2, v3] rfl rfl 34 _ (heap_alloc_new _ _) szRep rfl hone ?_; intro w8 hw8)
  | fail)
 have h78 : Chg w7 w8 No := (Chg.alloc w7 _ No).trans (kt_new hw8) (fun _ _ e => e) (fun j hj e => by omega);have HC8 : Hid (Chg w2 w8 No) := hid ((HC6.out.aside2 hc7 (fun j e => by have := HPG.out; omega)).tr h78);have HDd8 := hid (hd7.call h78)
 rcases hf7 with ⟨hno, hg0, rfl, rfl⟩ | ⟨M, gw, wc, s1, s2, s3, il, bl, a1, a2, a3, hii, hJd, hkd, er, hwt⟩
 ·have hg2 := lookE_bad (by rw [← HGE.out]; exact hg0)
  rw [← HGE.out] at hg2;have HE : Hid (Chg w w8 No) := hid (HA.out.tr HC8.out);clear hR hd7 hl7 hc7 hw8 h78 hone hg0 hno
  rcases hg2 with rfl | rfl
  ·go_wp2_with fail
   go_ret
   exact ⟨rfl, HE.out.below⟩
  ·go_wp2_with fail
   go_ret
   exact ⟨rfl, HE.out.below⟩
 ·obtain rfl : gE = 0 := by rw [HGE.out]; exact ii_nul hii
  have HTS : Hid (AllSec Jd) := hid (by rw [hJd]; exact hwt.sec);have HTI : Hid (II Jd M) := hid (by rw [hJd]; exact (ii_want hii hwt.sec).2);have HTl : Hid (n = Jd.length) := hid (by rw [hl7]; exact HN.out);have hI8 := image_w p g n Jd HTl.out w8 HDd8.out
  have hp1 := fun W => pick_any x1 (n : Int) W HO1.out (by omega) (by omega)
  have hp2 := fun W => pick_any x2 128 W HO2.out (by omega) (by omega)
  obtain ⟨n1, hn1e⟩ : ∃ y : Nat, (y : Int) = pickN x1 (n : Int) := ⟨(pickN x1 (n : Int)).toNat, by have := pickN_bd x1 (n := (n : Int)) (by omega); omega⟩;obtain ⟨n2, hn2e⟩ : ∃ y : Nat, (y : Int) = pickN x2 128 := ⟨(pickN x2 128).toNat, by have := pickN_bd x2 (n := 128) (by omega); omega⟩
  have b1n : n1 < n := by have := pickN_bd x1 (n := (n : Int)) (by omega); omega
  have b2n : n2 < 128 := by have := pickN_bd x2 (n := 128) (by omega); omega
  rw [← hn1e] at hp1;rw [← hn2e] at hp2;clear hR hd7 hl7 hc7 hw8 h78 hone hii hJd hkd er hwt hn1e hn2e
  go_upto_region 9 with (first
   | (go_at_call 12; go_must (refine hI8.mono ?_; rintro e w9 ⟨q9, rfl, hq9, hwq9, hc9⟩; have hg9 := (HC8.out.tr hc9).keep HG.out (fun e => e); have c30 : w9.cell? ⟨b1, 0, none⟩ = some (.int .i64 x1) := (cell_of_row _ _ _ _ _ _ hg9).trans rfl; have c31 : w9.cell? ⟨b1, 1, none⟩ = some (.int .i64 x2) := (cell_of_row _ _ _ _ _ _ hg9).trans rfl; have c32 : w9.cell? ⟨b1, 2, none⟩ = some (.slice da dl dc) := (cell_of_row _ _ _ _ _ _ hg9).trans rfl; clear hg9))
   | (go_at_call 13; go_must (refine (hp1 _).mono ?_; rintro e w10 ⟨rfl, hw10⟩; obtain rfl := hw10.symm))
   | fail)
  go_upto_if 57 with (first
   | (go_at_call 13; go_must (refine (hp2 _).mono ?_; rintro e w11 ⟨rfl, hw11⟩; obtain rfl := hw11.symm))
   | fail)
  have HC9 : Hid (Chg w2 w9 No) := hid (HC8.out.tr hc9);have HWq : Hid (WtAt w9 q9 Jd) := hid hwq9;have HQ9 : Hid (w2.heap.size ≤ q9) := hid (by have := HC8.out.size; omega);clear hI8 hp1 hp2 hc9 hwq9 hq9
  go_cut [12] (fun x wz => ∃ mm : Int, x = .int .u8 mm ∧ 0 ≤ mm ∧ mm ≤ 255 ∧ wz = w9)
  case first =>
   by_cases hd0 : dl = 0
   ·subst hd0
    go_wp2_with fail
    go_meet
    case rel => exact ⟨1, rfl, by omega, by omega, rfl⟩
   ·have hpos : (0 : Int) < (dl : Int) := by omega
    obtain ⟨bd, od, hda, hbl, hcd⟩ : ∃ bd od, da = some ⟨bd, od, none⟩ ∧ bd < w.heap.size ∧ ∀ j, j < d.length → w.cell? ⟨bd, od + j, none⟩ = some (.int .u8 (d.getD j 0)) := by
     rcases HBy.out with e | e
     ·have := HDl.out; rw [e] at this; simp at this; omega
     ·exact e
    subst hda
    have hdl0 : 0 < d.length := by rw [← HDl.out]; omega
    have cd := cell_keep (hcd 0 hdl0) (HA.out.tr HC9.out) hbl (fun e => e);rw [Nat.add_zero] at cd
    have hmb : 0 ≤ d.getD 0 0 ∧ d.getD 0 0 ≤ 255 := by
     rw [List.getD_eq_getElem?_getD, List.getElem?_eq_getElem hdl0]
     exact HO3.out _ (List.getElem_mem _)
    obtain ⟨m0, hm0⟩ : ∃ y, y = d.getD 0 0 := ⟨_, rfl⟩;rw [← hm0] at cd hmb;clear hcd hm0 hdl0
    go_wp2_with fail
    go_meet
    case rel => exact ⟨m0, rfl, hmb.1, hmb.2, rfl⟩
  case rest =>
   obtain ⟨mm, rfl, hm0, hm1, hwc⟩ := hcut;rw [hwc];clear hwc wc c30 c31 c32;have hsl := HTS.out (n1 : Int);obtain ⟨y0, hy0⟩ : ∃ y, y = (secI Jd (n1 : Int)).getD n2 0 := ⟨_, rfl⟩;have HYb : Hid (0 ≤ bits .xor .u8 y0 mm ∧ bits .xor .u8 y0 mm ≤ 255) := hid (turn_bd (by rw [hy0]; exact hsl.at n2) ⟨hm0, hm1⟩)
   have hlb : n1 < Jd.length := by rw [← HTl.out]; exact b1n
   have c9 := HWq.out;obtain ⟨_, AA, hAA, hAc⟩ := c9;have HFz : Hid (∀ (W' : World), Chg w9 W' No → W'.frozen? ⟨q9, n1 * 128 + n2, none⟩ = false) := hid (fun W' hW => frozen_of_row _ _ _ _ _ (hW.keep hAA (fun e => e)))
   have HCe : Hid (∀ (W' : World), Chg w9 W' No → W'.cell? ⟨q9, n1 * 128 + n2, none⟩ = some (.int .u8 y0)) := hid (fun W' hW => by
    have h1 := hAc n1 _ (getD_at hlb) n2 y0 (by rw [hy0, List.getD_eq_getElem?_getD, List.getElem?_eq_getElem (by rw [hsl.1]; exact b2n)]; rfl)
    exact cell_keep ((cell_of_row _ _ _ _ _ _ hAA).trans h1) hW (slt hAA) (fun e => e))
   obtain ⟨Y, hY⟩ : ∃ y, y = bits .xor .u8 y0 mm := ⟨_, rfl⟩;rw [← hY] at HYb;have HWn : Hid (∀ W, Chg w9 W No → WtAt (W.setCell ⟨q9, n1 * 128 + n2, none⟩ (.int .u8 Y)) q9 (Jd.set n1 ((secI Jd (n1 : Int)).set n2 Y))) := hid (fun W hW => (HWq.out.keep hW (fun e => e)).byte (x := Y) hlb b2n HYb.out);have HJI : Hid (2 ≤ n1 → ∀ hS : AllSec (Jd.set n1 ((secI Jd (n1 : Int)).set n2 Y)), II (Jd.set n1 ((secI Jd (n1 : Int)).set n2 Y)) M) := hid (fun h hS => ii_turn HTI.out h hS);have HJl : Hid (n = (Jd.set n1 ((secI Jd (n1 : Int)).set n2 Y)).length) := hid (by rw [List.length_set]; exact HTl.out)
   generalize Jd.set n1 ((secI Jd (n1 : Int)).set n2 Y) = J at *
   have HY := hid hY
   have i0 : (0 : Int) ≤ (n1 : Int) := by omega
   have i1 : (n1 : Int) < (n : Int) := by omega
   have i2 : (0 : Int) ≤ (n2 : Int) := by omega
   have i3 : (n2 : Int) < 128 := by omega
   clear hY hy0 hAA hAc hsl hlb hm0 hm1 HWq HTI HTS HDd8 HTl
   go_upto_region 13 with fail
   refine wp_region_noPanic ?_;refine wp_region_held_drew (S := fun w' => Chg w9 w' (fun j => j = q9)) (by kernel_rfl) (Chg.refl _ _).drew (fun hH => ?_);refine tV 0 62 (.slice (some ⟨q9, 0, none⟩) n n) rfl (by kernel_rfl) rfl (by rfl) hH (fun W' hw' => rfl) ?_;simp only [sS];refine tV 1 63 (.int .i64 (n1 : Int)) rfl (by kernel_rfl) rfl (by rfl) hH (fun W' hw' => rfl) ?_;simp only [sS];refine tV 2 64 (.int .i64 (n2 : Int)) rfl (by kernel_rfl) rfl (by rfl) hH (fun W' hw' => rfl) ?_;simp only [sS];refine tV 3 65 (.slice (some ⟨q9, 0, none⟩) n n) rfl (by kernel_rfl) rfl (by rfl) hH (fun W' hw' => rfl) ?_;simp only [sS];refine tV 4 66 (.int .i64 (n1 : Int)) rfl (by kernel_rfl) rfl (by rfl) hH (fun W' hw' => rfl) ?_;simp only [sS];refine tV 5 67 (.int .i64 (n2 : Int)) rfl (by kernel_rfl) rfl (by rfl) hH (fun W' hw' => rfl) ?_;simp only [sS];refine tV 6 68 (.pointer (some ⟨q9, n1 * 128, none⟩)) rfl (by kernel_rfl) rfl (by rfl) hH (fun W' hw' => by go_simp) ?_;simp only [sS];refine tV 7 69 (.pointer (some ⟨q9, n1 * 128 + n2, none⟩)) rfl (by kernel_rfl) rfl (by rfl) hH (fun W' hw' => by go_simp) ?_;simp only [sS];refine tV 9 71 (.int .u8 mm) rfl (by kernel_rfl) rfl (by rfl) hH (fun W' hw' => rfl) ?_;simp only [sS];refine tV 11 73 (.pointer (some ⟨q9, n1 * 128, none⟩)) rfl (by kernel_rfl) rfl (by rfl) hH (fun W' hw' => by go_simp) ?_;simp only [sS];refine step1 8 (by kernel_rfl) ?_;refine stVal 8 70 (.int .u8 y0) rfl rfl (by rfl) (by have hc := HCe.out w9.drew (Chg.refl _ _).drew; go_simp) hH ?_;simp only [sS];refine tV 10 72 (.int .u8 Y) rfl (by kernel_rfl) rfl (by rfl) hH (fun W' hw' => by rw [HY.out]; go_simp) ?_;simp only [sS];refine tV 12 74 (.pointer (some ⟨q9, n1 * 128 + n2, none⟩)) rfl (by kernel_rfl) rfl (by rfl) hH (fun W' hw' => by go_simp) ?_;simp only [sS];refine step1 13 (by kernel_rfl) ?_;refine stPut 13 (w9.drew.setCell ⟨q9, n1 * 128 + n2, none⟩ (.int .u8 Y)) rfl rfl (by rfl) (by have hc := HCe.out w9.drew (Chg.refl _ _).drew; have hf9 := HFz.out w9.drew (Chg.refl _ _).drew; go_simp) ?_;have hS9 : Chg w9 (w9.drew.setCell ⟨q9, n1 * 128 + n2, none⟩ (.int .u8 Y)) (fun j => j = q9) := ((Chg.refl w9 _).drew).trans Chg.setCell (fun _ _ e => e) (fun _ _ e => e);have hw9 := HWn.out w9.drew ((Chg.refl w9 No).drew);obtain ⟨w10, hw10⟩ : ∃ z, z = w9.drew.setCell ⟨q9, n1 * 128 + n2, none⟩ (.int .u8 Y) := ⟨_, rfl⟩;rw [← hw10] at hS9 hw9 ⊢;clear hw10;refine ⟨hS9, ?_⟩;refine wpAnyH_done (by kernel_rfl) ?_ _;refine NoPanic.normal ?_;have HC10 : Hid (Chg w2 w10 No) := hid (HC9.out.aside2 hS9 (fun j e => by rw [e]; exact HQ9.out));have HWj := hid hw9;have HJS : Hid (AllSec J) := hid hw9.sec;have hF10 := from_w q9 n J HJl.out hn1 hn2 w10 hw9;clear hS9 hw9 hH HCe HFz HWn HY HYb
   go_upto_region 15 with (first
    | (go_at_call 6; go_must (refine hF10.mono ?_; rintro e w11 ⟨p2, g2, rfl, hp11, hg11, hd11, hc11⟩))
    | fail)
   have HC11 : Hid (Chg w2 w11 No) := hid (HC10.out.tr hc11);have HW11 := hid (HWj.out.keep hc11 (fun e => e));have HPG2 : Hid (w2.heap.size ≤ p2 ∧ w2.heap.size ≤ g2 ∧ w10.heap.size ≤ p2 ∧ w10.heap.size ≤ g2) := hid (by have := HC10.out.size; omega);have HQlt : Hid (q9 < w10.heap.size) := hid HWj.out.lt;have hR2 := run_w hd11;obtain ⟨hE, hhE⟩ : ∃ y, y = lookE J := ⟨_, rfl⟩;have HHE := hid hhE;rw [← hhE] at hR2;clear hhE hF10 hp11 hg11 hd11 hc11
   go_upto_region 18 with (first
    | (go_at_call 8; go_must (refine hR2.mono ?_; rintro e w12 ⟨v0, v1, v2, v3, T2, k2, rfl, hone, hd12, hf12, hl12, hc12⟩))
    | (refine store_R rfl 34 _ _ rfl w12.heap.size #[v0, v1, v2, v3] rfl rfl 34 _ (heap_alloc_new _ _) szRep rfl hone ?_; intro w13 hw13)
    | fail)
   have h1213 : Chg w12 w13 No := (Chg.alloc w12 _ No).trans (kt_new hw13) (fun _ _ e => e) (fun j hj e => by omega);have HC13 : Hid (Chg w2 w13 No) := hid ((HC11.out.aside2 hc12 (fun j e => by have := HPG2.out; omega)).tr h1213);have HD13 := hid (hd12.call h1213);have HW13 := hid ((HW11.out.keep hc12 (fun e => by have := HPG2.out; have := HQlt.out; omega)).keep h1213 (fun e => e));have HT2l : Hid (n = T2.length) := hid (by rw [hl12]; exact HJl.out);have HG13 := hid hw13.here;obtain ⟨b13, hb13⟩ : ∃ y, y = w12.heap.size := ⟨_, rfl⟩;rw [← hb13] at HG13 ⊢
   rcases hf12 with ⟨hno, hg0, rfl, rfl⟩ | ⟨M2, gw, wc, s1, s2, s3, il, bl, a1, a2, a3, hii, hJd, hkd, er, hwt⟩
   ·have hg2 := lookE_bad (by rw [← HHE.out]; exact hg0)
    rw [← HHE.out] at hg2
    have hle : (n1 : Int) ≤ 1 := by
     rcases Nat.lt_or_ge n1 2 with e | e
     ·omega
     ·exact absurd (HJI.out e HJS.out) (hno M)
    have hWs := dkw_any HD13.out;have hI13 := image_w p2 g2 n T2 HT2l.out w13 HD13.out;have HSm : Hid (∀ W, Chg w13 W No → ∀ x, WtAt W x T2 → Calls Tryz.prog 11 #[.slice (some ⟨x, 0, none⟩) n n, .slice (some ⟨q9, 0, none⟩) n n] W fun e w' => e = .returned (.bool true) ∧ Chg W w' No) := hid (fun W hW x hx => same_w x q9 n T2 HT2l.out hn2 W hx (HW13.out.keep hW (fun e => e)));clear hR2 hd12 hl12 hc12 hw13 hb13 h1213 hone hg0 hno HG13
    rcases hg2 with rfl | rfl
    ·go_wp2_with (first
      | (go_at_call 10; go_must (refine hWs.mono ?_; rintro e w14 ⟨rfl, hw14⟩; obtain rfl : w13 = w14 := hw14.symm))
      | (go_at_call 12; go_must (refine hI13.mono ?_; rintro e w15 ⟨q15, rfl, hq15, hwq15, hc15⟩; have hS15 := HSm.out w15 hc15 q15 hwq15))
      | (go_at_call 11; go_must (refine hS15.mono ?_; rintro e w16 ⟨rfl, hc16⟩))
      | fail)
     go_ret
     exact ⟨rfl, (((HA.out.tr HC13.out).tr hc15).tr hc16).below⟩
    ·go_wp2_with (first
      | (go_at_call 10; go_must (refine hWs.mono ?_; rintro e w14 ⟨rfl, hw14⟩; obtain rfl : w13 = w14 := hw14.symm))
      | (go_at_call 12; go_must (refine hI13.mono ?_; rintro e w15 ⟨q15, rfl, hq15, hwq15, hc15⟩; have hS15 := HSm.out w15 hc15 q15 hwq15))
      | (go_at_call 11; go_must (refine hS15.mono ?_; rintro e w16 ⟨rfl, hc16⟩))
      | fail)
     go_ret
     exact ⟨rfl, (((HA.out.tr HC13.out).tr hc15).tr hc16).below⟩
   ·obtain rfl : hE = 0 := by rw [HHE.out]; exact ii_nul hii
    have HT2S : Hid (AllSec T2) := hid (by rw [hJd]; exact hwt.sec);have HT2W : Hid (WellI T2) := hid (by rw [hJd]; exact (ii_want hii hwt.sec).1);have HDf : Hid (difN J T2 n = kW M2 J) := hid (by rw [HJl.out, hJd]; exact dif_write M2 J (lookL M2 J));obtain ⟨kw, hkw⟩ : ∃ y, y = kW M2 J := ⟨_, rfl⟩;rw [← hkw] at HDf er hkd;subst hkd
    have hkn : kw ≤ n := by rw [← HDf.out]; exact difN_le _ _ _
    have hI13 := image_w p2 g2 n T2 HT2l.out w13 HD13.out;rw [er] at HG13;unfold repV at HG13;clear hR2 hd12 hl12 hc12 hw13 hb13 h1213 hone er hwt hii hJd hkw
    go_upto_region 21 with (first
     | (go_at_call 12; go_must (refine hI13.mono ?_; rintro e w15 ⟨q15, rfl, hq15, hwq15, hc15⟩))
     | fail)
    have HC15 : Hid (Chg w2 w15 No) := hid (HC13.out.tr hc15);have HWa := hid hwq15;have HWl := hid (HW13.out.keep hc15 (fun e => e));have HD15 := hid (HD13.out.call hc15);have HG15 := hid (hc15.keep HG13.out (fun e => e));have HRa : Hid (∀ (W' : World) (_hW : Chg w15 W' No) (j : Nat) (_hj : j < n), W'.rangeAt q15 (j * 128) ((secI T2 (j : Int)).map (Value.int .u8))) := hid (fun W' hW j hj => (HWa.out.keep hW (fun e => e)).range (by rw [← HT2l.out]; exact hj));have HRl : Hid (∀ (W' : World) (_hW : Chg w15 W' No) (j : Nat) (_hj : j < n), W'.rangeAt q9 (j * 128) ((secI J (j : Int)).map (Value.int .u8))) := hid (fun W' hW j hj => (HWl.out.keep hW (fun e => e)).range (by rw [← HJl.out]; exact hj));clear hI13 hq15 hwq15 hc15 HG13 HD13 HW13
    go_wp2_with fail
    go_loopw [18, 19] (fun x i wr => ∃ k : Nat, k ≤ n ∧ i = .int .i64 k ∧ x = .int .i64 (difN J T2 k : Nat) ∧ Hid (Chg w15 wr No)) (fun _ i _ => n - (intOf i).toNat)
    case atStart => exact ⟨0, by omega, rfl, rfl, hid (Chg.refl _ _)⟩
    case round =>
     obtain ⟨k, hk, rfl, rfl, HC⟩ := hrel
     by_cases hlt : k < n
     ·have i4 : (0 : Int) ≤ (k : Int) := by omega
      have i5 : (k : Int) < (n : Int) := by omega
      obtain ⟨jk, hjk⟩ : ∃ y, y = secI J (k : Int) := ⟨_, rfl⟩;obtain ⟨tk, htk⟩ : ∃ y, y = secI T2 (k : Int) := ⟨_, rfl⟩;have HIS : Hid (IsSec jk) := hid (by rw [hjk]; exact HJS.out _);have HTS : Hid (IsSec tk) := hid (by rw [htk]; exact HT2S.out _)
      have hR1 := fun W' (hW : Chg wr W' No) => HRa.out W' (HC.out.tr hW) k hlt
      have hR2 := fun W' (hW : Chg wr W' No) => HRl.out W' (HC.out.tr hW) k hlt
      rw [← htk] at hR1;rw [← hjk] at hR2;have HDs : Hid (difN J T2 (k + 1) = difN J T2 k + if jk = tk then 0 else 1) := hid (by rw [difN, ← hjk, ← htk]);obtain ⟨df, hdf⟩ : ∃ y, y = difN J T2 k := ⟨_, rfl⟩
      have hdl : df ≤ k := by rw [hdf]; exact difN_le _ _ _
      rw [← hdf] at HDs ⊢;clear hjk htk hdf
      go_upto_region 25 with fail
      refine wp_region_noPanic ?_;refine wp_region_held_drew (S := fun w' => Chg wr w' No) (by kernel_rfl) (Chg.refl _ _).drew (fun hH => ?_);obtain ⟨w16, hw16⟩ : ∃ y, y = wr.drew := ⟨_, rfl⟩;rw [← hw16] at hH ⊢;clear hw16;refine tV 0 114 (.slice (some ⟨q15, 0, none⟩) n n) rfl (by kernel_rfl) rfl (by rfl) hH (fun W' hw' => rfl) ?_;simp only [sS];refine tV 1 115 (.int .i64 (k : Int)) rfl (by kernel_rfl) rfl (by rfl) hH (fun W' hw' => rfl) ?_;simp only [sS];refine tV 2 116 (.pointer (some ⟨q15, k * 128, none⟩)) rfl (by kernel_rfl) rfl (by rfl) hH (fun W' hw' => by clear hR1 hR2; go_simp) ?_;simp only [sS];refine takeMid 3 117 (.tmp 116) q15 (k * 128) tk HTS.out.1 rfl (by kernel_rfl) (by kernel_rfl) (by kernel_rfl) rfl rfl rfl (by rfl) (fun _ _ _ h => h) hH (fun W' hw' => hR1 W' hw') ?_;simp only [sS];refine tV 4 118 (.slice (some ⟨q9, 0, none⟩) n n) rfl (by kernel_rfl) rfl (by rfl) hH (fun W' hw' => rfl) ?_;simp only [sS];refine tV 5 119 (.int .i64 (k : Int)) rfl (by kernel_rfl) rfl (by rfl) hH (fun W' hw' => rfl) ?_;simp only [sS];refine tV 6 120 (.pointer (some ⟨q9, k * 128, none⟩)) rfl (by kernel_rfl) rfl (by rfl) hH (fun W' hw' => by clear hR1 hR2; go_simp) ?_;simp only [sS];refine takeMid 7 121 (.tmp 120) q9 (k * 128) jk HIS.out.1 rfl (by kernel_rfl) (by kernel_rfl) (by kernel_rfl) rfl rfl rfl (by rfl) (fun _ _ _ h => h) hH (fun W' hw' => hR2 W' hw') ?_;simp only [sS];have HC16 : Hid (Chg w15 w16 No) := hid (HC.out.tr hH);clear hR1 hR2
      by_cases he : jk = tk
      ·have HD1 : Hid (difN J T2 (k + 1) = df) := hid (by rw [HDs.out, if_pos he]; rfl)
       refine takeNeq 8 122 (.tmp 117) (.tmp 121) tk jk true HTS.out.1 HIS.out.1 (decide_eq_true he.symm) rfl (by kernel_rfl) (by kernel_rfl) (by kernel_rfl) rfl rfl rfl rfl (by rfl) (fun _ _ _ h => h) hH ?_;simp only [sS];refine wpAnyH_done (by kernel_rfl) ?_ _;refine NoPanic.normal ?_;clear hH HDs he
       go_wp2_with fail
       exact ⟨⟨k + 1, by omega, by go_num, by rw [HD1.out], HC16⟩, by simp [intOf]; omega⟩
      ·have HD1 : Hid (difN J T2 (k + 1) = df + 1) := hid (by rw [HDs.out, if_neg he])
       refine takeNeq 8 122 (.tmp 117) (.tmp 121) tk jk false HTS.out.1 HIS.out.1 (decide_eq_false (fun e => he e.symm)) rfl (by kernel_rfl) (by kernel_rfl) (by kernel_rfl) rfl rfl rfl rfl (by rfl) (fun _ _ _ h => h) hH ?_;simp only [sS];refine wpAnyH_done (by kernel_rfl) ?_ _;refine NoPanic.normal ?_;clear hH HDs he
       go_wp2_with fail
       exact ⟨⟨k + 1, by omega, by go_num, by rw [HD1.out]; go_num, HC16⟩, by simp [intOf]; omega⟩
     ·have i5 : ¬ (k : Int) < (n : Int) := by omega
      obtain rfl : k = n := by omega
      rw [HDf.out];have HWr := hid (HWa.out.keep HC.out (fun e => e));have hWl := wellB_c (some ⟨q15, 0, none⟩) k k T2 HT2l.out wr (ImgAt.of_wt HWr.out) true (wellB_true HT2W.out);have HDr := hid (HD15.out.call HC.out);have HGr := hid (HC.out.keep HG15.out (fun e => e));have HCr := hid ((HA.out.tr HC15.out).tr HC.out);clear hk hlt
      go_wp2_with (first
       | (go_at_call 9; go_must (refine hWl.mono ?_; rintro e w17 ⟨rfl, hc17⟩; have hWs := dkw_any (HDr.out.call hc17); have h0 := hc17.keep HGr.out (fun e => e); have c1 : w17.cell? ⟨b13, 1, none⟩ = some (.slice a1 kw s1) := (cell_of_row _ _ _ _ _ _ h0).trans rfl; clear h0))
       | (go_at_call 10; go_must (refine hWs.mono ?_; rintro e w18 ⟨rfl, hw18⟩; obtain rfl : w17 = w18 := hw18.symm))
       | fail)
      go_ret
      exact ⟨rfl, (HCr.out.tr hc17).below⟩
end Go.Proofs.YtboammbcoleicabGreat
