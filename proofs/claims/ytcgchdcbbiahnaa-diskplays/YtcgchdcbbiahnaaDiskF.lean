/-
  From of package disk: what it answers, for every input.
-/
import Derived.Test.YtcgchdcbbiahnaaDisk2
namespace Go.Proofs.Ytcgchdcbbiahnaa
open Go.RowKit

set_option maxHeartbeats 400000 in
theorem restart_any {p g n : Nat} {d : St8} (w : World) (h : IsD w p g n d) : Calls Try.prog 30 #[.pointer (some ⟨p, 0, none⟩)] w fun e w' => e = .returned (.tuple #[]) ∧ IsD w' p g n ⟨d.S, d.wr, false, false, 0⟩ ∧ Mod w w' [p] := by
  have h2 := h.c2
  have h3 := h.c3
  have h4 := h.c4
  have f2 := h.fz 2
  have f3 := h.fz 3
  have f4 := h.fz 4
  go_enter Try.func30, Try.ntmps30
  go_wp2
  go_end0
  have a1 : IsD (w.setCell ⟨p, 2, none⟩ (.bool false)) p g n ⟨d.S, d.wr, false, d.ar, d.lf⟩ := h.put 2 _ rfl rfl
  have a2 : IsD ((w.setCell ⟨p, 2, none⟩ (.bool false)).setCell ⟨p, 3, none⟩ (.bool false)) p g n ⟨d.S, d.wr, false, false, d.lf⟩ := a1.put 3 _ rfl rfl
  exact ⟨rfl, a2.put 4 _ rfl rfl, ((Mod.set.trans Mod.set).trans Mod.set).mono (by simp)⟩

set_option maxHeartbeats 400000 in
theorem len_any {p g n : Nat} {d : St8} (w : World) (h : IsD w p g n d) : Calls Try.prog 15 #[.pointer (some ⟨p, 0, none⟩)] w fun e w' => e = .returned (.int .i64 n) ∧ w' = w := by
  have h0 := h.c0
  go_enter Try.func15, Try.ntmps15
  go_wp2
  go_ret
  exact ⟨rfl, rfl⟩
set_option maxHeartbeats 400000 in
theorem from_bad (m cap : Nat) (ad : Option Addr) (w : World) (h : ¬ (1 ≤ (m : Int) ∧ (m : Int) ≤ 4096)) : Calls Try.prog 20 #[.slice ad m cap] w fun e w' => e = .returned (.tuple #[.pointer none, .int .i64 20]) ∧ w' = w := by
  have hm := fun w => maySize_any m w
  rw [mayB_false h] at hm
  go_enter Try.func20, Try.ntmps20
  go_wp2_with (go_at_call 33; refine (hm _).mono ?_; rintro e w1 ⟨rfl, rfl⟩)
  go_ret2
  exact ⟨rfl, rfl⟩

set_option maxHeartbeats 400000 in
theorem from_ok (m cap : Nat) (ad : Addr) (fl : List Int) (w : World) (h0 : 1 ≤ m) (h1 : m ≤ 4096) (hl : Hid (fl.length = 128 * m)) (HZ : Hid (BytesAt w (some ad) fl)) :
    Calls Try.prog 20 #[.slice (some ad) m cap] w fun e w' => ∃ p g, e = .returned (.tuple #[.pointer (some ⟨p, 0, none⟩), .int .i64 0]) ∧ w.heap.size ≤ p ∧ w.heap.size ≤ g ∧ IsD w' p g m (D0 fl) ∧ Below w.heap.size w w' := by
  have hm := fun w => maySize_any m w
  rw [mayB_true (by omega)] at hm
  have HLa := laid_any m cap ad fl w (by omega) hl HZ
  have hbd := fun g w => build_disk (.slice (some ⟨g, 0, none⟩) m m) _ _ _ rfl w
  go_enter Try.func20, Try.ntmps20
  go_wp2_with (first | (go_at_call 33; refine (hm _).mono ?_; rintro e w1 ⟨rfl, rfl⟩) | (go_at_call 34; refine HLa.mono ?_; rintro e w2 ⟨q, rfl, k1, k2, k3⟩))
  go_ret2
  refine ⟨w2.heap.size, q, rfl, k3.size, k1, ⟨heap_alloc_new _ _, ?_, hl.out, h0, h1⟩, k3.alloc k3.size _⟩
  rw [Below.heap_alloc _ _ _ (slt k2)]
  exact k2

end Go.Proofs.Ytcgchdcbbiahnaa
