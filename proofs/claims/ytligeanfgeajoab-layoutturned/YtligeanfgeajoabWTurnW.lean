/-
  LayoutTurned, walked.
-/
import Derived.Test.YtligeanfgeajoabWTurnL
import Derived.Test.YtligeanfgeajoabWTurnZ
namespace Go.Proofs.Ytligeanfgeajoab
open Go.RowKit

theorem beq_no {E : Int} (h : ¬ E = 0) : (E == 0) = false := by simp [h]
theorem turnedL_walk (a b : Int) (z x : List Int) (n : Int) (s : ByteArray) (at_ mask : Int) (w : World) (hz : z.length = 18) (hx : x.length = 32) (ha : I64 at_) (hm : 0 ≤ mask ∧ mask ≤ 255) :
    Calls Try.prog 3 #[.agg (thL a b z x n s).toArray, .int .i64 at_, .int .u8 mask] w fun e w' => e = .returned (.bool true) ∧ Below w.heap.size w w' := by
  have hpb := pickN_bd at_ (n := 128) (by omega)
  obtain ⟨K, hKe⟩ : ∃ K : Nat, pickN at_ 128 = (K : Int) := ⟨(pickN at_ 128).toNat, by omega⟩
  have hpk := fun w' => pick_any at_ 128 w' ha (by omega) (by omega)
  rw [hKe] at hpk
  have hpk : ∀ w', Calls Try.prog 6 #[.int .i64 at_, .int .i64 128] w' fun e w'' => e = .returned (.int .i64 (K : Int)) ∧ w' = w'' := fun w' => (hpk w').mono fun e w'' ⟨h1, h2⟩ => ⟨h1, h2.symm⟩
  have hK : K < 128 := by omega
  have key : ∀ mm : Int, 1 ≤ mm ∧ mm ≤ 255 → 
      (∀ S : List Int, IsSec S → bits .xor .u8 (S.getD K 0) mm = turnB (S.getD K 0) mm) ∧
      (((supE a b == 0) = false ∨ (supE a b = 0 ∧ ((rdSup (getV (turnS (supS a b) K mm) 4 4) (getV (turnS (supS a b) K mm) 8 4) (turnS (supS a b) K mm)).2.2 == 0) = false) ∨ (supE a b = 0 ∧ (rdSup (getV (turnS (supS a b) K mm) 4 4) (getV (turnS (supS a b) K mm) 8 4) (turnS (supS a b) K mm)).2.2 = 0 ∧ ¬ ((rdSup (getV (turnS (supS a b) K mm) 4 4) (getV (turnS (supS a b) K mm) 8 4) (turnS (supS a b) K mm)).1 = a ∧ (rdSup (getV (turnS (supS a b) K mm) 4 4) (getV (turnS (supS a b) K mm) 8 4) (turnS (supS a b) K mm)).2.1 = b)))) ∧
      (((inoE z == 0) = false ∨ (inoE z = 0 ∧ ((rdIno (zTo (turnS (inoS z) K mm) 18) (turnS (inoS z) K mm)).2 == 0) = false) ∨ (inoE z = 0 ∧ (rdIno (zTo (turnS (inoS z) K mm) 18) (turnS (inoS z) K mm)).2 = 0 ∧ ¬ (rdIno (zTo (turnS (inoS z) K mm) 18) (turnS (inoS z) K mm)).1 = z))) ∧
      (((ptrE x == 0) = false ∨ (ptrE x = 0 ∧ ¬ ptrsTo (turnS (ptrS x) K mm) 32 = x))) ∧
      (((slotE n s == 0) = false ∨ (slotE n s = 0 ∧ ((rdSlot (getV (turnS (slotS n s) K mm) 0 4) (turnS (slotS n s) K mm)).2.2 == 0) = false) ∨ (slotE n s = 0 ∧ (rdSlot (getV (turnS (slotS n s) K mm) 0 4) (turnS (slotS n s) K mm)).2.2 = 0 ∧ ¬ ((rdSlot (getV (turnS (slotS n s) K mm) 0 4) (turnS (slotS n s) K mm)).1 = n ∧ (rdSlot (getV (turnS (slotS n s) K mm) 0 4) (turnS (slotS n s) K mm)).2.1 = s)))) := by
    intro mm hmm
    refine ⟨fun S hS => ?_, ?_, ?_, ?_, ?_⟩
    · have h1 := hS.at K
      unfold turnB
      exact u8_xor _ _ h1.1 (by omega) (by omega) (by omega)
    · by_cases h : supE a b = 0
      · by_cases h2 : (rdSup (getV (turnS (supS a b) K mm) 4 4) (getV (turnS (supS a b) K mm) 8 4) (turnS (supS a b) K mm)).2.2 = 0
        · refine .inr (.inr ⟨h, h2, fun h3 => ?_⟩)
          have h4 := rdSup_of h2
          rw [h3.1, h3.2] at h4
          exact turnS_ne (supS_sec a b) hK hmm h4.symm
        · exact .inr (.inl ⟨h, beq_no h2⟩)
      · exact .inl (beq_no h)
    · by_cases h : inoE z = 0
      · by_cases h2 : (rdIno (zTo (turnS (inoS z) K mm) 18) (turnS (inoS z) K mm)).2 = 0
        · refine .inr (.inr ⟨h, h2, fun h3 => ?_⟩)
          have h4 := rdIno_of h2
          rw [h3] at h4
          exact turnS_ne (inoS_sec z) hK hmm h4.symm
        · exact .inr (.inl ⟨h, beq_no h2⟩)
      · exact .inl (beq_no h)
    · by_cases h : ptrE x = 0
      · refine .inr ⟨h, fun h3 => ?_⟩
        have h4 := (ptrs_lay (turnS_sec (ptrS_sec x) K (m := mm) (by omega))).1
        rw [h3] at h4
        exact turnS_ne (ptrS_sec x) hK hmm h4.symm
      · exact .inl (beq_no h)
    · by_cases h : slotE n s = 0
      · by_cases h2 : (rdSlot (getV (turnS (slotS n s) K mm) 0 4) (turnS (slotS n s) K mm)).2.2 = 0
        · refine .inr (.inr ⟨h, h2, fun h3 => ?_⟩)
          have h4 := rdSlot_of h2
          rw [h3.1, h3.2] at h4
          exact turnS_ne (slotS_sec n s) hK hmm h4.symm
        · exact .inr (.inl ⟨h, beq_no h2⟩)
      · exact .inl (beq_no h)
  by_cases h0 : mask = 0
  · subst h0
    obtain ⟨kq, k1, k2, k3, k4⟩ := key 1 (by omega)
    have hm1 : (0 : Int) ≤ 1 ∧ (1 : Int) ≤ 255 := by omega
    exact turned_z a b z x n s at_ K (supS a b) (inoS z) (ptrS x) (slotS n s) _ _ (supE a b) (inoE z) (ptrE x) (slotE n s) _ _ _ _ _ _ _ w hz hx (rdIno_len (zTo_len _ _)) (ptrsTo_len _ _) hK (supS_sec a b).1 (inoS_sec z).1 (ptrS_sec x).1 (slotS_sec n s).1 hpk
      (kq _ (supS_sec a b)) (kq _ (inoS_sec z)) (kq _ (ptrS_sec x)) (kq _ (slotS_sec n s))
      (fun w' => superSector_any a b w') (fun w' => readSuper_any _ (turnS_sec (supS_sec a b) K hm1) w') (fun w' => inodeSector_any z hz w') (fun w' => readInode_any _ (turnS_sec (inoS_sec z) K hm1) w') (fun w' => pointersSector_any x hx w') (fun w' => readPointers_any _ (turnS_sec (ptrS_sec x) K hm1) w') (fun w' => slotSector_all n s w') (fun w' => readSlot_all _ (turnS_sec (slotS_sec n s) K hm1) w') k1 k2 k3 k4
  · obtain ⟨kq, k1, k2, k3, k4⟩ := key mask (by omega)
    exact turned_m a b z x n s at_ mask K (supS a b) (inoS z) (ptrS x) (slotS n s) _ _ (supE a b) (inoE z) (ptrE x) (slotE n s) _ _ _ _ _ _ _ w hz hx (rdIno_len (zTo_len _ _)) (ptrsTo_len _ _) hK (supS_sec a b).1 (inoS_sec z).1 (ptrS_sec x).1 (slotS_sec n s).1 hpk (beq_no h0)
      (kq _ (supS_sec a b)) (kq _ (inoS_sec z)) (kq _ (ptrS_sec x)) (kq _ (slotS_sec n s))
      (fun w' => superSector_any a b w') (fun w' => readSuper_any _ (turnS_sec (supS_sec a b) K hm) w') (fun w' => inodeSector_any z hz w') (fun w' => readInode_any _ (turnS_sec (inoS_sec z) K hm) w') (fun w' => pointersSector_any x hx w') (fun w' => readPointers_any _ (turnS_sec (ptrS_sec x) K hm) w') (fun w' => slotSector_all n s w') (fun w' => readSlot_all _ (turnS_sec (slotS_sec n s) K hm) w') k1 k2 k3 k4

end Go.Proofs.Ytligeanfgeajoab
