/-
  LayoutBack, walked.
-/
import Derived.Test.YtligeanfgeajoaaWBackL
import Derived.Test.YtligeanfgeajoaaBackP
namespace Go.Proofs.Ytligeanfgeajoaa
open Go.RowKit

theorem backL_walk (a b : Int) (z x : List Int) (n : Int) (s : ByteArray) (w : World) (hz : z.length = 18) (hx : x.length = 32) :
    Calls Try.prog 7 #[.agg (thL a b z x n s).toArray] w fun e w' => e = .returned (.bool true) ∧ Below w.heap.size w w' := by
  refine back_core a b z x n s (supS a b) (inoS z) (ptrS x) (slotS n s) _ _ (supE a b) (inoE z) (ptrE x) (slotE n s) _ _ _ _ _ _ _ w hz hx (rdIno_len (s := inoS z) (zTo_len _ _)) (ptrsTo_len _ _) (supS_sec a b).1 (inoS_sec z).1 (ptrS_sec x).1 (slotS_sec n s).1
    (fun w' => superSector_any a b w') (fun w' => readSuper_any _ (supS_sec a b) w') (fun w' => inodeSector_any z hz w') (fun w' => readInode_any _ (inoS_sec z) w') (fun w' => pointersSector_any x hx w') (fun w' => readPointers_any _ (ptrS_sec x) w') (fun w' => slotSector_all n s w') (fun w' => readSlot_all _ (slotS_sec n s) w') ?_ ?_ ?_ ?_
  · cases h : supB a b
    · right; exact ⟨by unfold supE; rw [h]; rfl, by unfold supS; rw [h]; rfl⟩
    · left; rw [sup_back h]; exact ⟨by unfold supE; rw [h]; rfl, rfl, rfl, rfl⟩
  · cases h : inoB z
    · right; exact ⟨by unfold inoE; rw [h]; rfl, by unfold inoS; rw [h]; rfl⟩
    · left; rw [ino_back hz h]; exact ⟨by unfold inoE; rw [h]; rfl, rfl, rfl⟩
  · cases h : ptrB x
    · right; exact ⟨by unfold ptrE; rw [h]; rfl, by unfold ptrS; rw [h]; rfl⟩
    · left; exact ⟨by unfold ptrE; rw [h]; rfl, (ptr_back hx h).symm⟩
  · cases h : slotB n s
    · right; exact ⟨by unfold slotE; rw [h]; rfl, by unfold slotS; rw [h]; rfl⟩
    · left; rw [slot_back h]; exact ⟨by unfold slotE; rw [h]; rfl, rfl, rfl, rfl⟩

end Go.Proofs.Ytligeanfgeajoaa
