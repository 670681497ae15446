/-
  LayoutOne comes out true for every sector.
-/
import Derived.Test.YtligeanfgeajoaaWOne
import Derived.Test.YtligeanfgeajoaaWOneZ
import Derived.Test.YtligeanfgeajoaaWOneP
import Derived.Test.YtligeanfgeajoaaLH4
namespace Go.Proofs.Ytligeanfgeajoaa
open Go.RowKit

theorem Zs_slot : slotB 0 ⟨#[]⟩ = true := by unfold slotB; rw [if_pos rfl, toList_nil]; rfl
theorem Zs_rdSlot : rdSlot (getV Zs 0 4) Zs = (0, ⟨#[]⟩, 0) := by
  have e1 : getV Zs 0 4 = 0 := by decide
  have e2 : nameOf Zs = ⟨#[]⟩ := by decide
  have e3 : slotS 0 ⟨#[]⟩ = Zs := by unfold slotS; rw [if_pos Zs_slot]; decide
  unfold rdSlot
  rw [e1, e2, if_pos ⟨by decide, Zs_slot, e3⟩]
theorem one_walk (s : List Int) (w : World) (hs : IsSec s) : Calls Try.prog 8 #[.agg (SA s)] w fun e w' => e = .returned (.bool true) ∧ Below w.heap.size w w' := by
  have hl := hs.1
  have hrp := fun w' => readPointers_any s hs w'
  have hsp := fun w' => pointersSector_any (ptrsTo s 32) (ptrsTo_len s 32) w'
  rw [(ptrs_lay hs).1, (ptrs_lay hs).2] at hsp
  have hrs := fun w' => readSuper_any s hs w'
  have hri := fun w' => readInode_any s hs w'
  have hrl := fun w' => readSlot_all s hs w'
  by_cases hz : s = Zs
  · subst hz
    rw [show rdSup (getV Zs 4 4) (getV Zs 8 4) Zs = (0, 0, 60) by decide] at hrs
    rw [show rdIno (zTo Zs 18) Zs = (Zi, 0) by decide] at hri
    rw [Zs_rdSlot] at hrl
    have hsi := fun w' => inodeSector_any Zi Zi_len w'
    rw [show inoS Zi = Zs by decide, show inoE Zi = 0 by decide] at hsi
    have hsl := fun w' => slotSector_all 0 ⟨#[]⟩ w'
    rw [show slotS 0 ⟨#[]⟩ = Zs by unfold slotS; rw [if_pos Zs_slot]; decide, show slotE 0 ⟨#[]⟩ = 0 by unfold slotE; rw [if_pos Zs_slot]] at hsl
    exact one_zero Zs (ptrsTo Zs 32) w hl hrs hri hsi hrl hsl hrp hsp rfl
  · by_cases hF : supB (getV s 4 4) (getV s 8 4) = true ∧ supS (getV s 4 4) (getV s 8 4) = s
    · have hss := fun w' => superSector_any (getV s 4 4) (getV s 8 4) w'
      rw [hF.2, show supE (getV s 4 4) (getV s 8 4) = 0 by unfold supE; rw [if_pos hF.1]] at hss
      have hi := sup_inode hF.1
      have hn := fun M => sup_slot hF.1 M
      rw [hF.2] at hi hn
      rw [show rdSup (getV s 4 4) (getV s 8 4) s = (getV s 4 4, getV s 8 4, 0) by unfold rdSup; rw [if_pos hF]] at hrs
      rw [show rdIno (zTo s 18) s = (Zi, 61) by unfold rdIno; rw [if_neg (fun k => by rw [hi] at k; exact absurd k.1 (by decide))]] at hri
      rw [show rdSlot (getV s 0 4) s = (0, ⟨#[]⟩, 63) by unfold rdSlot; rw [if_neg (fun k => by rw [hn] at k; exact absurd k.2.1 (by decide))]] at hrl
      exact one_first s (ptrsTo s 32) _ _ w hl hrs hss hri hrl hrp hsp hz
    · rw [show rdSup (getV s 4 4) (getV s 8 4) s = (0, 0, 60) by unfold rdSup; rw [if_neg hF]] at hrs
      by_cases hI : inoB (zTo s 18) = true ∧ inoS (zTo s 18) = s
      · rw [show rdIno (zTo s 18) s = (zTo s 18, 0) by unfold rdIno; rw [if_pos hI]] at hri
        have hsi := fun w' => inodeSector_any (zTo s 18) (zTo_len s 18) w'
        rw [hI.2, show inoE (zTo s 18) = 0 by unfold inoE; rw [if_pos hI.1]] at hsi
        by_cases hL : szOf s ≤ 40 ∧ slotB (getV s 0 4) (nameOf s) = true ∧ slotS (getV s 0 4) (nameOf s) = s
        · rw [show rdSlot (getV s 0 4) s = (getV s 0 4, nameOf s, 0) by unfold rdSlot; rw [if_pos hL]] at hrl
          have hsl := fun w' => slotSector_all (getV s 0 4) (nameOf s) w'
          rw [hL.2.2, show slotE (getV s 0 4) (nameOf s) = 0 by unfold slotE; rw [if_pos hL.2.1]] at hsl
          exact one_both s (ptrsTo s 32) _ _ _ w hl hrs hri (zTo_len s 18) hsi hrl hsl hrp hsp hz
        · rw [show rdSlot (getV s 0 4) s = (0, ⟨#[]⟩, 63) by unfold rdSlot; rw [if_neg hL]] at hrl
          exact one_inode s (ptrsTo s 32) _ w hl hrs hri (zTo_len s 18) hsi hrl hrp hsp hz
      · rw [show rdIno (zTo s 18) s = (Zi, 61) by unfold rdIno; rw [if_neg hI]] at hri
        by_cases hL : szOf s ≤ 40 ∧ slotB (getV s 0 4) (nameOf s) = true ∧ slotS (getV s 0 4) (nameOf s) = s
        · rw [show rdSlot (getV s 0 4) s = (getV s 0 4, nameOf s, 0) by unfold rdSlot; rw [if_pos hL]] at hrl
          have hsl := fun w' => slotSector_all (getV s 0 4) (nameOf s) w'
          rw [hL.2.2, show slotE (getV s 0 4) (nameOf s) = 0 by unfold slotE; rw [if_pos hL.2.1]] at hsl
          exact one_slot s (ptrsTo s 32) _ _ w hl hrs hri hrl hsl hrp hsp hz
        · rw [show rdSlot (getV s 0 4) s = (0, ⟨#[]⟩, 63) by unfold rdSlot; rw [if_neg hL]] at hrl
          exact one_none s (ptrsTo s 32) w hl hrs hri hrl hrp hsp hz

end Go.Proofs.Ytligeanfgeajoaa
