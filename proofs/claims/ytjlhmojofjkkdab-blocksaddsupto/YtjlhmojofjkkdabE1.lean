/-
  The document's Find.
-/
import Derived.Test.YtjlhmojofjkkdabE0
-- may lack
namespace Go.Proofs.Ytjlhmojofjkkdab
open Go.RowKit Go.Shelf

/-- What the document's Find answers. -/
def findQ (s : Src) (z : List Int) (k : Int) : Int × Int :=
  if k < 0 ∨ 1068 ≤ k then (0, 90) else if k < 12 then (z.getD (4 + k.toNat) 0, 0) else if k < 44 then ((rtabS s (z.getD 16 0)).1.getD (k - 12).toNat 0, (rtabS s (z.getD 16 0)).2)
  else if (rtabS s (z.getD 17 0)).2 = 0 then ((rtabS s ((rtabS s (z.getD 17 0)).1.getD ((k - 44).tdiv 32).toNat 0)).1.getD ((k - 44) % 32).toNat 0, (rtabS s ((rtabS s (z.getD 17 0)).1.getD ((k - 44).tdiv 32).toNat 0)).2)
  else (0, (rtabS s (z.getD 17 0)).2)
theorem Zp_get (j : Nat) : Zp.getD j 0 = 0 := by
  unfold Zp
  rw [List.getD_eq_getElem?_getD, List.getElem?_replicate]
  split <;> rfl
theorem fol1 (s : Src) (n p : Int) (g : Nat) : (folW s n [p] g).1 = (rtabS s n).1.getD p.toNat 0 ∧ (folW s n [p] g).2.2 = (rtabS s n).2 := by
  unfold folW rtabS
  by_cases h : n = 0
  · rw [if_pos h, if_pos h]; exact ⟨(Zp_get _).symm, rfl⟩
  · rw [if_neg h, if_neg h]
    by_cases h2 : (tabS s n).2 = 0
    · rw [if_pos h2]; exact ⟨rfl, h2.symm⟩
    · rw [if_neg h2]
      refine ⟨?_, rfl⟩
      have : (tabS s n).1 = Zp := by
        unfold tabS at h2 ⊢
        split
        · rename_i h3; rw [if_pos h3] at h2; exact absurd rfl h2
        · rfl
      rw [this]; exact (Zp_get _).symm
theorem fol2 (s : Src) (n p q : Int) : (folW s n [p, q] 0).1 = (if (rtabS s n).2 = 0 then (rtabS s ((rtabS s n).1.getD p.toNat 0)).1.getD q.toNat 0 else 0) ∧ (folW s n [p, q] 0).2.2 = (if (rtabS s n).2 = 0 then (rtabS s ((rtabS s n).1.getD p.toNat 0)).2 else (rtabS s n).2) := by
  have h0 : rtabS s 0 = (Zp, 0) := if_pos rfl
  unfold folW
  by_cases h : n = 0
  · rw [if_pos h, h, h0]
    simp only [if_true, Zp_get, h0]
    exact ⟨trivial, trivial⟩
  · have hr : rtabS s n = tabS s n := if_neg h
    rw [if_neg h, hr]
    by_cases h2 : (tabS s n).2 = 0
    · simp only [h2, if_true]
      exact fol1 s _ q 1
    · simp only [h2, if_false]
      exact ⟨trivial, trivial⟩
theorem find_same (s : Src) (z : List Int) (k : Int) : findQ s z k = findR s z k := by
  unfold findQ findR
  by_cases h0 : k < 0 ∨ 1068 ≤ k
  · rw [if_pos h0, if_pos h0]
  · rw [if_neg h0, if_neg h0]
    by_cases h1 : k < 12
    · rw [if_pos h1]
      unfold bgW plW
      rw [if_pos h1, if_pos h1]
      rfl
    · rw [if_neg h1]
      by_cases h2 : k < 44
      · rw [if_pos h2]
        unfold bgW plW
        rw [if_neg h1, if_neg h1, if_pos h2, if_pos h2]
        obtain ⟨e1, e2⟩ := fol1 s (z.getD 16 0) (k - 12) 0
        rw [e1, e2]
      · rw [if_neg h2]
        unfold bgW plW
        rw [if_neg h1, if_neg h1, if_neg h2, if_neg h2]
        obtain ⟨e1, e2⟩ := fol2 s (z.getD 17 0) ((k - 44).tdiv 32) ((k - 44) % 32)
        rw [e1, e2]
        split <;> rfl

end Go.Proofs.Ytjlhmojofjkkdab
