/-
  The statements' own helpers: awake, few.
-/
import Derived.Test.YtiakfgplhdbaeaaBY
namespace Go.Proofs.Ytiakfgplhdbaeaa
open Go.RowKit

def nC : Nod := ⟨⟨#[47, 99]⟩, 1, 7, ⟨#[]⟩, none, [], 0⟩
theorem flat_C : flatB [nC] = [1, 7, 0, 0, 0, 0, 0, 0, 0, 2, 0, 0, 0, 47, 99, 0, 0, 0, 0, 0, 0, 0, 0] := by kernel_rfl
theorem str_C : strOf (flatB [nC]) = ⟨#[1, 7, 0, 0, 0, 0, 0, 0, 0, 2, 0, 0, 0, 47, 99, 0, 0, 0, 0, 0, 0, 0, 0]⟩ := by kernel_rfl
theorem at_C (w : World) : NAt (w.alloc (.cells (nodA nC) 47)) (some ⟨w.heap.size, 0, none⟩) [nC] := by
  refine ⟨.inr ⟨w.heap.size, 0, rfl, by simp, fun i hi j v hv => ?_⟩, fun i hi => .inl ?_⟩
  · have hi : i = 0 := by simp at hi; omega
    subst hi
    rw [cell_of_row _ _ _ _ _ _ (heap_alloc_new w _)]
    simpa using hv
  · have hi : i = 0 := by simp at hi; omega
    subst hi
    rfl

set_option maxHeartbeats 2000000 in
set_option maxRecDepth 100000 in
theorem awake_any (w : World) : Calls Try.prog 7 #[] w fun e w' => e = .returned (.bool true) ∧ Chg w w' No := by
  obtain ⟨w1, hw1⟩ : ∃ y, y = w.alloc (.cells #[.string ⟨#[47, 99]⟩, .int .i64 1, .int .i64 7, .string ⟨#[]⟩, .slice none 0 0] 47) := ⟨_, rfl⟩
  have hc1 : Chg w w1 No := by rw [hw1]; exact Chg.alloc w _ No
  have hBy := bytes_any [nC] (some ⟨w.heap.size, 0, none⟩) 1 w1 (by rw [hw1]; exact at_C w) (fun i hi => by
    have hi : i = 0 := by simp at hi; omega
    subst hi
    exact ⟨⟨by decide, by decide⟩, ⟨by decide, by decide⟩⟩) (by decide)
  have hbs : ∀ W, (Instr.build 47 #[(0, .string ⟨#[47, 99]⟩), (1, .int .i64 1), (2, .int .i64 7)]).run Try.prog W = .ok (.agg #[.string ⟨#[47, 99]⟩, .int .i64 1, .int .i64 7, .string ⟨#[]⟩, .slice none 0 0]) W := fun W => by kernel_rfl
  have HC1 := hid hc1
  rw [hw1] at hBy HC1
  clear hc1 hw1
  go_enter Try.func7, Try.ntmps7
  go_upto_region 2 with (first
    | (go_at_call 10; go_must (refine hBy.mono ?_; rintro e w2 ⟨hp, hc2⟩; have HP := hid hp; have HC2 := hid (HC1.out.tr hc2); clear hp hc2; rcases HP.out with ⟨_, v, rfl, hv⟩ | ⟨hv, _⟩))
    | fail)
  obtain ⟨a, cp, rfl, hb⟩ := hv.one
  have hcv := conv_at hb cp
  rw [str_C, flat_C] at hcv
  rw [flat_C]
  clear hv hb HP hBy hbs
  go_wp2_with (first
    | (refine conv_G (by rfl) 29 9 _ rfl _ _ _ rfl hcv ?_)
    | fail)
  go_ret
  exact ⟨rfl, HC2.out⟩
end Go.Proofs.Ytiakfgplhdbaeaa
