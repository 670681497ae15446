/-
  Copy of package disk, and the document's disk: what they answer and leave, for every input.
-/
import Derived.Test.YtcgchdcbbiahnaaDisk2
namespace Go.Proofs.Ytcgchdcbbiahnaa
open Go.RowKit

theorem szD : (Try.prog.info? 72).map (·.size) = some 5 := by kernel_rfl
theorem DC_size (g n : Nat) (wr : Int) (dn ar : Bool) (lf : Int) : (DC g n wr dn ar lf).size = 5 := rfl
theorem zero_disk (w : World) : (zeroValue 72).run Try.prog w = .ok (.agg #[.slice none 0 0, .int .i64 0, .bool false, .bool false, .int .i64 0]) w := by kernel_rfl
theorem DC_one (g n : Nat) (wr : Int) (dn ar : Bool) (lf : Int) : (DC g n wr dn ar lf).all (·.oneCell') = true := by simp [DC, Value.oneCell']

set_option maxRecDepth 100000 in
set_option maxHeartbeats 1000000 in
theorem copy_any {p g n : Nat} {d : St8} (w : World) (h : IsD w p g n d) : Calls Try.prog 32 #[.pointer (some ⟨p, 0, none⟩)] w fun e w' => ∃ q k, e = .returned (.pointer (some ⟨q, 0, none⟩)) ∧ w.heap.size ≤ q ∧ w.heap.size ≤ k ∧ IsD w' q k n d ∧ Below w.heap.size w w' := by
  have hz := zero_disk
  have HME := hid h.me
  have HQ := hid (heap_alloc_new w (.cells #[.slice none 0 0, .int .i64 0, .bool false, .bool false, .int .i64 0] 72))
  have hb0 := hid (Below.refl_call w (.cells #[.slice none 0 0, .int .i64 0, .bool false, .bool false, .int .i64 0] 72))
  have HT := hid h.top
  go_enter Try.func32, Try.ntmps32
  go_wp2_with (first | (refine wpList_load_row rfl 72 _ rfl p rfl 72 (DC g n d.wr d.dn d.ar d.lf) (0, 0) _ HME.out Try.underlying72 rfl (by rw [szD, DC_size]) ?_) | (refine store_row rfl 72 _ _ rfl w.heap.size rfl (DC g n d.wr d.dn d.ar d.lf) rfl _ HQ.out (by rw [szD, DC_size]) rfl (DC_one _ _ _ _ _ _) ?_; intro w1 hw1; have h1 := (h.call hb0.out).keep hw1.mod (by simpa using Nat.ne_of_lt (slt h.me)) (by simpa using Nat.ne_of_lt (slt h.row)); have c0 := h1.c0; have HW1 := hid hw1; clear hw1) | (go_at_call 34; refine (laid_any n n ⟨g, 0, none⟩ d.S _ (by have := HT.out; omega) h1.len (row_bytes h1.row)).mono ?_; rintro e w2 ⟨k, rfl, k1, k2, k3⟩; have hq := (k3.block w.heap.size (slt HW1.out.here)).trans HW1.out.here; have hq0 := cell_of_row _ _ 0 _ _ _ hq; have hqf := frozen_of_row _ _ 0 _ _ hq; have HQ2 := hid hq; clear hq))
  go_ret
  have e1 : w1.heap.size = w.heap.size + 1 := by rw [HW1.out.size]; simp
  have e2 := put_cell (j := 0) (.slice (some ⟨k, 0, none⟩) n n) HQ2.out
  have hkq : k ≠ w.heap.size := by omega
  refine ⟨w.heap.size, k, rfl, Nat.le_refl _, by omega, ⟨e2.here, ?_, h.len, h.pos, h.top⟩, ?_⟩
  · rw [e2.other k hkq]
    exact k2
  · have b1 : Below w.heap.size w w1 := HW1.out.mod.to hb0.out (by simp) (by simp)
    have b2 : Below w.heap.size w w2 := b1.trans (k3.mono (by omega))
    exact e2.mod.to b2 b2.size (by simp)

end Go.Proofs.Ytcgchdcbbiahnaa
