/-
 A look behind some of the writes.
-/
import Derived.Test.YtboammbcoleicabGreatH9
namespace Go.Proofs.YtboammbcoleicabGreat

def wroteI (W : Img) : List Int → Img → Img
 | [], im => im
 | n :: l, im => wroteI W l (im.set n.toNat (secI W n))
theorem wroteI_len (W : Img) : ∀ (l : List Int) (im : Img), (wroteI W l im).length = im.length
 | [], _ => rfl
 | n :: l, im => by simp only [wroteI]; rw [wroteI_len W l]; simp
theorem wroteI_append (W : Img) : ∀ (l m : List Int) (im : Img), wroteI W (l ++ m) im = wroteI W m (wroteI W l im)
 | [], _, _ => rfl
 | _ :: l, m, _ => wroteI_append W l m _
theorem wroteI_at (W : Img) (x : Int) (hx : 0 ≤ x) : ∀ (l : List Int) (im : Img), (∀ n ∈ l, 0 ≤ n ∧ n < im.length) → secI (wroteI W l im) x = if x ∈ l then secI W x else secI im x
 | [], im, _ => by rw [if_neg (by simp)]; rfl
 | n :: l, im, h => by
  obtain ⟨h0, h1⟩ := h n List.mem_cons_self
  have ih := wroteI_at W x hx l (im.set n.toNat (secI W n)) (fun m hm => by rw [List.length_set]; exact h m (List.mem_cons_of_mem _ hm))
  simp only [wroteI]
  rw [ih]
  by_cases e : x ∈ l
  ·rw [if_pos e, if_pos (List.mem_cons_of_mem _ e)]
  ·rw [if_neg e]
   by_cases e2 : x = n
   ·subst e2
    rw [if_pos List.mem_cons_self, secI_set h0 h1]
   ·rw [if_neg (by simp [e, e2]), secI_nat_set _ _ _ _ (by omega)]
theorem row_mem {M : Nat} {im : Img} {s : LS} {j : Nat} {x : Int} : x ∈ rowL M im s j ↔ 0 ≤ x ∧ x < im.length ∧ wrKind M im s.wt s.wp x = j := by
 unfold rowL
 rw [keysL_mem, decide_eq_true_eq]
theorem write_in {M : Nat} {im : Img} {s : LS} {x : Int} : x ∈ writeI M im s ↔ 0 ≤ x ∧ x < im.length ∧ secI s.wt x ≠ secI im x := by
 rw [writeI_rows, List.mem_append, List.mem_append, row_mem, row_mem, row_mem]
 unfold wrKind
 by_cases e : secI s.wt x = secI im x
 ·rw [if_pos e]
  constructor
  ·rintro ((⟨_, _, h⟩ | ⟨_, _, h⟩) | ⟨_, _, h⟩) <;> omega
  ·rintro ⟨_, _, h⟩; exact absurd e h
 ·rw [if_neg e]
  constructor
  ·rintro ((⟨a, b, _⟩ | ⟨a, b, _⟩) | ⟨a, b, _⟩) <;> exact ⟨a, b, e⟩
  ·rintro ⟨a, b, _⟩
   by_cases h1 : x ≤ M
   ·exact .inl (.inr ⟨a, b, by rw [if_pos h1]⟩)
   ·by_cases h2 : s.wp x = true
    ·exact .inr ⟨a, b, by rw [if_neg h1, if_pos h2]⟩
    ·exact .inl (.inl ⟨a, b, by rw [if_neg h1, if_neg h2]⟩)
def cutI (M : Nat) (im : Img) (k : Nat) : Img := wroteI (lookL M im).wt ((writeI M im (lookL M im)).take k) im
theorem cutI_len (M : Nat) (im : Img) (k : Nat) : (cutI M im k).length = im.length := wroteI_len _ _ _
theorem cutI_at {M : Nat} {im : Img} {k : Nat} {x : Int} (hx : 0 ≤ x) : secI (cutI M im k) x = if x ∈ (writeI M im (lookL M im)).take k then secI (lookL M im).wt x else secI im x :=
 wroteI_at _ x hx _ _ fun n hn => by
  have := write_in.1 (List.mem_of_mem_take hn)
  exact ⟨this.1, this.2.1⟩
theorem cut_all {M : Nat} {im : Img} (hr : rootB M im = true) : cutI M im (writeI M im (lookL M im)).length = (lookL M im).wt := by
 have hlen : (lookL M im).wt.length = im.length := (lookL_kp hr).1
 refine img_ext (by rw [cutI_len, hlen]) fun n => ?_
 by_cases hn : 0 ≤ n
 ·rw [cutI_at hn, List.take_of_length_le (Nat.le_refl _)]
  split
  ·rfl
  ·rename_i h
   by_cases e : secI (lookL M im).wt n = secI im n
   ·exact e.symm
   ·by_cases hl : n < im.length
    ·exact absurd (write_in.2 ⟨hn, hl, e⟩) h
    ·unfold secI
     rw [List.getD_eq_getElem?_getD, List.getD_eq_getElem?_getD, List.getElem?_eq_none (by omega), List.getElem?_eq_none (by omega)]
 ·have : n.toNat = (0 : Int).toNat := by omega
  rw [secI_nat this, secI_nat (wt := (lookL M im).wt) this, cutI_at (by omega)]
  split
  ·rfl
  ·exact (lookL_kp hr).sec.symm
end Go.Proofs.YtboammbcoleicabGreat
