/-
  Both readers of inodes read alike, in words.
-/
import Derived.Test.YtmgkfifjcodhnaaRI3
import Derived.Test.YtmgkfifjcodhnaaLN2
namespace Go.Proofs.Ytmgkfifjcodhnaa
open Go.RowKit

theorem say_small {s : List Int} {P L : Nat} (h7 : L ≤ 7) : sayV s P L = numAt s P L := by
  unfold sayV
  rw [if_neg (fun k => by have := k.1; omega)]
  simp
theorem pls_small : ∀ m, m < 18 → m ≠ 3 → ∃ P L : Nat, pls.getD m (0, 0) = ((P : Int), (L : Int)) ∧ P + L ≤ 128 ∧ 1 ≤ L ∧ L ≤ 7 := by
  intro m hm h3
  refine ⟨(pls.getD m (0, 0)).1.toNat, (pls.getD m (0, 0)).2.toNat, ?_⟩
  revert m
  decide
theorem same_at {s : List Int} (hs : IsSec s) {m : Nat} (hm : m < 18) (h3 : m ≠ 3) : gv s m = pv s m := by
  obtain ⟨P, L, e, h1, h2, h4⟩ := pls_small m hm h3
  unfold gv pv
  rw [e]
  show getV s (P : Int) (L : Int) = sayV s (P : Int) (L : Int)
  rw [getV_small hs h1 h2 h4, say_small h4]
theorem same_3 {s : List Int} (hs : IsSec s) : gv s 3 = pv s 3 ∨ (¬ (0 ≤ gv s 3 ∧ gv s 3 ≤ 1099511627776) ∧ ¬ (0 ≤ pv s 3 ∧ pv s 3 ≤ 1099511627776)) := by
  have eg : gv s 3 = if numAt s 8 8 ≤ top then numAt s 8 8 else -1 := by
    show getV s 8 8 = _
    unfold getV getE getN
    rw [if_pos (show inB 8 8 = true by decide)]
    by_cases h : numAt s 8 8 ≤ top
    · have h' : numAt s (8 : Int).toNat (8 : Int).toNat ≤ top := h
      rw [if_pos h', if_pos rfl, if_pos ⟨by decide, h'⟩, if_pos h]
      rfl
    · have h' : ¬ numAt s (8 : Int).toNat (8 : Int).toNat ≤ top := h
      rw [if_neg h', if_neg (by decide), if_neg h]
  have ep : pv s 3 = if s.getD 15 0 ≠ 0 then -1 else numAt s 8 8 := by
    show sayV s 8 8 = _
    unfold sayV
    by_cases h : s.getD 15 0 ≠ 0
    · rw [if_pos h, if_pos ⟨rfl, h⟩]
    · rw [if_neg h, if_neg (fun k => h k.2)]
      rfl
  have hb7 := numAt_bd hs 8 7
  have e8 : numAt s 8 8 = numAt s 8 7 + s.getD 15 0 * 256 ^ 7 := rfl
  have e7 : (256 : Int) ^ 7 = 72057594037927936 := by decide
  have h15 := hs.at 15
  rw [e7] at e8 hb7
  by_cases h : s.getD 15 0 = 0
  · left
    have ht : numAt s 8 8 ≤ top := by rw [top_eq, e8, h]; omega
    rw [eg, ep, if_pos ht, if_neg (show ¬ s.getD 15 0 ≠ 0 from fun k => k h)]
  · right
    refine ⟨?_, ?_⟩
    · rw [eg]
      split
      · omega
      · omega
    · rw [ep, if_pos h]
      omega
theorem get_map18 (f : Nat → Int) {m : Nat} (hm : m < 18) : ((List.range 18).map f).getD m 0 = f m := by
  rw [List.getD_eq_getElem?_getD, List.getElem?_map, List.getElem?_range hm]
  rfl
theorem zTo_at (s : List Int) {m : Nat} (hm : m < 18) : (zTo s 18).getD m 0 = gv s m := by
  unfold zTo
  rw [get_map18 _ hm, if_pos hm]
theorem yA_at (s : List Int) {m : Nat} (hm : m < 18) : (yA s).getD m 0 = pv s m := by
  unfold yA yTo
  rw [get_map18 _ hm, if_pos (by omega)]
theorem yA_len (s : List Int) : (yA s).length = 18 := yTo_len s 12
theorem inoB_far {z : List Int} (h : ¬ (0 ≤ z.getD 3 0 ∧ z.getD 3 0 ≤ 1099511627776)) : inoB z = false := by
  unfold inoB
  split
  · apply decide_eq_false
    intro e
    rw [e] at h
    exact h (by decide)
  · rw [allB_false (m := 3) (by decide) h]
    rfl
theorem rd_same {s : List Int} (hs : IsSec s) : rdIno (yA s) s = rdIno (zTo s 18) s := by
  rcases same_3 hs with h | ⟨h1, h2⟩
  · have e : yA s = zTo s 18 := by
      apply List.ext_getElem (by rw [yA_len, zTo_len])
      intro i k1 k2
      rw [yA_len] at k1
      have a1 := yA_at s k1
      have a2 := zTo_at s k1
      rw [List.getD_eq_getElem?_getD, List.getElem?_eq_getElem (by rw [yA_len]; exact k1)] at a1
      rw [List.getD_eq_getElem?_getD, List.getElem?_eq_getElem k2] at a2
      have a3 : gv s i = pv s i := by
        by_cases c : i = 3
        · rw [c]; exact h
        · exact same_at hs k1 c
      simp only [Option.getD_some] at a1 a2
      rw [a1, a2, a3]
    rw [e]
  · have f1 : inoB (zTo s 18) = false := inoB_far (by rw [zTo_at s (by decide)]; exact h1)
    have f2 : inoB (yA s) = false := inoB_far (by rw [yA_at s (by decide)]; exact h2)
    unfold rdIno
    rw [f1, f2]
    simp

end Go.Proofs.Ytmgkfifjcodhnaa
