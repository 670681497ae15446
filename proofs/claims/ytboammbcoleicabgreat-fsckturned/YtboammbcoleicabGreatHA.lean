/-
 A look behind some of the writes.
-/
import Derived.Test.YtboammbcoleicabGreatH9
namespace Go.Proofs.YtboammbcoleicabGreat

def wroteI (W : Img) : List Int → Img → Img
 | [], im => im
 | n :: l, im => wroteI W l (im.set n.toNat (secI W n))
theorem wroteI_len (W : Img) : ∀ (l : List Int) (im : Img), (wroteI W l im).length = im.length
 | [], _ => rfl
 | n :: l, im => by simp only [wroteI]; rw [wroteI_len W l]; simp
theorem wroteI_append (W : Img) : ∀ (l m : List Int) (im : Img), wroteI W (l ++ m) im = wroteI W m (wroteI W l im)
 | [], _, _ => rfl
 | _ :: l, m, _ => wroteI_append W l m _
theorem wroteI_at (W : Img) (x : Int) (hx : 0 ≤ x) : ∀ (l : List Int) (im : Img), (∀ n ∈ l, 0 ≤ n ∧ n < im.length) → secI (wroteI W l im) x = if x ∈ l then secI W x else secI im x
 | [], im, _ => by rw [if_neg (by simp)]; rfl
 | n :: l, im, h => by
  obtain ⟨h0, h1⟩ := h n List.mem_cons_self;have ih := wroteI_at W x hx l (im.set n.toNat (secI W n)) (fun m hm => by rw [List.length_set]; exact h m (List.mem_cons_of_mem _ hm))
  simp only [wroteI]
  rw [ih]
  by_cases e : x ∈ l
  ·rw [if_pos e, if_pos (List.mem_cons_of_mem _ e)]
  ·rw [if_neg e]
   by_cases e2 : x = n
   ·subst e2
    rw [if_pos List.mem_cons_self, secI_set h0 h1]
   ·rw [if_neg (by simp [e, e2]), secI_nat_set _ _ _ _ (by omega)]
theorem row_mem {M : Nat} {im : Img} {s : LS} {j : Nat} {x : Int} : x ∈ rowL M im s j ↔ 0 ≤ x ∧ x < im.length ∧ wrKind M im s.wt s.wp x = j := by
 unfold rowL;rw [keysL_mem, decide_eq_true_eq]
theorem write_in {M : Nat} {im : Img} {s : LS} {x : Int} : x ∈ writeI M im s ↔ 0 ≤ x ∧ x < im.length ∧ secI s.wt x ≠ secI im x := by
 rw [writeI_rows, List.mem_append, List.mem_append, row_mem, row_mem, row_mem];unfold wrKind
 by_cases e : secI s.wt x = secI im x
 ·rw [if_pos e]
  constructor
  ·rintro ((⟨_, _, h⟩ | ⟨_, _, h⟩) | ⟨_, _, h⟩) <;> omega
  ·rintro ⟨_, _, h⟩; exact absurd e h
 ·rw [if_neg e]
  constructor
  ·rintro ((⟨a, b, _⟩ | ⟨a, b, _⟩) | ⟨a, b, _⟩) <;> exact ⟨a, b, e⟩
  ·rintro ⟨a, b, _⟩
   by_cases h1 : x ≤ M
   ·exact .inl (.inr ⟨a, b, by rw [if_pos h1]⟩)
   ·by_cases h2 : s.wp x = true
    ·exact .inr ⟨a, b, by rw [if_neg h1, if_pos h2]⟩
    ·exact .inl (.inl ⟨a, b, by rw [if_neg h1, if_neg h2]⟩)
def cutI (M : Nat) (im : Img) (k : Nat) : Img := wroteI (lookL M im).wt ((writeI M im (lookL M im)).take k) im
theorem cutI_len (M : Nat) (im : Img) (k : Nat) : (cutI M im k).length = im.length := wroteI_len _ _ _
theorem cutI_at {M : Nat} {im : Img} {k : Nat} {x : Int} (hx : 0 ≤ x) : secI (cutI M im k) x = if x ∈ (writeI M im (lookL M im)).take k then secI (lookL M im).wt x else secI im x :=
 wroteI_at _ x hx _ _ fun n hn => by
  have := write_in.1 (List.mem_of_mem_take hn)
  exact ⟨this.1, this.2.1⟩
theorem cut_look {M : Nat} {im : Img} (hMl : M < im.length) (hs : AllSec im) (hr : rootB M im = true) (k : Nat) :
  rootB M (cutI M im k) = true ∧ lookL M (cutI M im k) = lookL M im := by
 obtain ⟨r0, h0⟩ : ∃ r, r = rowL M im (lookL M im) 0 := ⟨_, rfl⟩;obtain ⟨r1, h1⟩ : ∃ r, r = rowL M im (lookL M im) 1 := ⟨_, rfl⟩;obtain ⟨r2, h2⟩ : ∃ r, r = rowL M im (lookL M im) 2 := ⟨_, rfl⟩
 have hw : writeI M im (lookL M im) = (r0 ++ r1) ++ r2 := by rw [writeI_rows, h0, h1, h2]
 have hz := (lookL_kp hr).sec
 have hat := fun (x : Int) (hx : 0 ≤ x) => cutI_at (M := M) (im := im) (k := k) hx
 rw [hw] at hat
 have m0 : ∀ x, x ∈ r0 ↔ 0 ≤ x ∧ x < im.length ∧ wrKind M im (lookL M im).wt (lookL M im).wp x = 0 := fun x => by rw [h0]; exact row_mem
 have m1 : ∀ x, x ∈ r1 ↔ 0 ≤ x ∧ x < im.length ∧ wrKind M im (lookL M im).wt (lookL M im).wp x = 1 := fun x => by rw [h1]; exact row_mem
 have hfew : ¬ (r0 ++ r1).length ≤ k → ∀ x, x ∈ ((r0 ++ r1) ++ r2).take k → x ∈ r0 ++ r1 := fun hk x hx => by
  rw [List.take_append_of_le_length (by omega)] at hx
  exact List.mem_of_mem_take hx
 have hmany : (r0 ++ r1).length ≤ k → ∀ x, x ∈ r0 ++ r1 → x ∈ ((r0 ++ r1) ++ r2).take k := fun hk x hx => by
  rw [List.take_append, List.take_of_length_le hk]
  exact List.mem_append_left _ hx
 refine look_lk (full := (r0 ++ r1).length ≤ k) (cutI_len M im k) hMl hs hr ?_ ?_ ?_ ?_ ?_
 ·rw [hat 0 (by omega)]
  split
  ·exact hz
  ·rfl
 ·intro i i1 i2
  rw [hat i (by omega)]
  by_cases hx : i ∈ ((r0 ++ r1) ++ r2).take k
  ·rw [if_pos hx]; exact .inr rfl
  ·rw [if_neg hx]
   by_cases hf : (r0 ++ r1).length ≤ k
   ·right
    have hn : i ∉ r1 := fun e => hx (hmany hf i (List.mem_append_right _ e))
    by_cases he : secI (lookL M im).wt i = secI im i
    ·exact he.symm
    ·exact absurd ((m1 i).2 ⟨by omega, by omega, by unfold wrKind; rw [if_neg he, if_pos i2]⟩) hn
   ·exact .inl ⟨hf, rfl⟩
 ·intro n n1 n2
  rw [hat n (by omega)]
  split
  ·exact .inr rfl
  ·exact .inl rfl
 ·intro hf n n1 n2 hwp
  rw [hat n (by omega)]
  by_cases hx : n ∈ ((r0 ++ r1) ++ r2).take k
  ·rw [if_pos hx]
  ·rw [if_neg hx]
   have hn : n ∉ r0 := fun e => hx (hmany hf n (List.mem_append_left _ e))
   by_cases he : secI (lookL M im).wt n = secI im n
   ·exact he.symm
   ·exact absurd ((m0 n).2 ⟨by omega, n2, by unfold wrKind; rw [if_neg he, if_neg (by omega), hwp]; rfl⟩) hn
 ·intro hf n n1 n2 hwp
  rw [hat n (by omega)]
  by_cases hx : n ∈ ((r0 ++ r1) ++ r2).take k
  ·exfalso
   rcases List.mem_append.1 (hfew hf n hx) with e | e
   ·have := ((m0 n).1 e).2.2
    unfold wrKind at this;rw [if_neg (show ¬ n ≤ (M : Int) by omega), hwp] at this
    split at this
    ·omega
    ·simp at this
   ·have := ((m1 n).1 e).2.2
    unfold wrKind at this;rw [if_neg (show ¬ n ≤ (M : Int) by omega), hwp] at this
    split at this
    ·omega
    ·simp at this
  ·rw [if_neg hx]
theorem cut_sup {M : Nat} {im : Img} (hr : rootB M im = true) (k : Nat) : supOf (cutI M im k) = supOf im := by
 have h0 : secI (cutI M im k) 0 = secI im 0 := by
  rw [cutI_at (by omega)]
  split
  ·exact (lookL_kp hr).sec
  ·rfl
 unfold supOf;rw [cutI_len, h0]
theorem cut_all {M : Nat} {im : Img} (hr : rootB M im = true) : cutI M im (writeI M im (lookL M im)).length = (lookL M im).wt := by
 have hlen : (lookL M im).wt.length = im.length := (lookL_kp hr).1
 refine img_ext (by rw [cutI_len, hlen]) fun n => ?_
 by_cases hn : 0 ≤ n
 ·rw [cutI_at hn, List.take_of_length_le (Nat.le_refl _)]
  split
  ·rfl
  ·rename_i h
   by_cases e : secI (lookL M im).wt n = secI im n
   ·exact e.symm
   ·by_cases hl : n < im.length
    ·exact absurd (write_in.2 ⟨hn, hl, e⟩) h
    ·unfold secI
     rw [List.getD_eq_getElem?_getD, List.getD_eq_getElem?_getD, List.getElem?_eq_none (by omega), List.getElem?_eq_none (by omega)]
 ·have : n.toNat = (0 : Int).toNat := by omega
  rw [secI_nat this, secI_nat (wt := (lookL M im).wt) this, cutI_at (by omega)]
  split
  ·rfl
  ·exact (lookL_kp hr).sec.symm
end Go.Proofs.YtboammbcoleicabGreat
