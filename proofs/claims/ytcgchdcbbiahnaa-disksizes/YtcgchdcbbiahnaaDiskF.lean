/-
  From of package disk: what it answers, for every input.
-/
import Derived.Test.YtcgchdcbbiahnaaDisk2
namespace Go.Proofs.Ytcgchdcbbiahnaa
open Go.RowKit

set_option maxHeartbeats 400000 in
theorem len_any {p g n : Nat} {d : St8} (w : World) (h : IsD w p g n d) : Calls Try.prog 15 #[.pointer (some ⟨p, 0, none⟩)] w fun e w' => e = .returned (.int .i64 n) ∧ w' = w := by
  have h0 := h.c0
  go_enter Try.func15, Try.ntmps15
  go_wp2
  go_ret
  exact ⟨rfl, rfl⟩
set_option maxHeartbeats 400000 in
theorem from_bad (m cap : Nat) (ad : Option Addr) (w : World) (h : ¬ (1 ≤ (m : Int) ∧ (m : Int) ≤ 4096)) : Calls Try.prog 20 #[.slice ad m cap] w fun e w' => e = .returned (.tuple #[.pointer none, .int .i64 20]) ∧ w' = w := by
  have hm := fun w => maySize_any m w
  rw [mayB_false h] at hm
  go_enter Try.func20, Try.ntmps20
  go_wp2_with (go_at_call 33; refine (hm _).mono ?_; rintro e w1 ⟨rfl, rfl⟩)
  go_ret2
  exact ⟨rfl, rfl⟩

set_option maxHeartbeats 400000 in
theorem from_ok (m cap : Nat) (ad : Addr) (fl : List Int) (w : World) (h0 : 1 ≤ m) (h1 : m ≤ 4096) (hl : Hid (fl.length = 128 * m)) (HZ : Hid (BytesAt w (some ad) fl)) :
    Calls Try.prog 20 #[.slice (some ad) m cap] w fun e w' => ∃ p g, e = .returned (.tuple #[.pointer (some ⟨p, 0, none⟩), .int .i64 0]) ∧ w.heap.size ≤ p ∧ w.heap.size ≤ g ∧ IsD w' p g m (D0 fl) ∧ Below w.heap.size w w' := by
  have hm := fun w => maySize_any m w
  rw [mayB_true (by omega)] at hm
  have HLa := laid_any m cap ad fl w (by omega) hl HZ
  have hbd := fun g w => build_disk (.slice (some ⟨g, 0, none⟩) m m) _ _ _ rfl w
  go_enter Try.func20, Try.ntmps20
  go_wp2_with (first | (go_at_call 33; refine (hm _).mono ?_; rintro e w1 ⟨rfl, rfl⟩) | (go_at_call 34; refine HLa.mono ?_; rintro e w2 ⟨q, rfl, k1, k2, k3⟩))
  go_ret2
  refine ⟨w2.heap.size, q, rfl, k3.size, k1, ⟨heap_alloc_new _ _, ?_, hl.out, h0, h1⟩, k3.alloc k3.size _⟩
  rw [Below.heap_alloc _ _ _ (slt k2)]
  exact k2

end Go.Proofs.Ytcgchdcbbiahnaa
