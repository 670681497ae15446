/-
 What is to be written, in its three rows.
-/
import Derived.Test.YtboammbcoleicabGreatXC
namespace Go.Proofs.YtboammbcoleicabGreat
open Go.RowKit Go.Shelf

def Kp (a b : Img) : Prop := b.length = a.length ∧ b[0]? = a[0]?
theorem Kp.refl (a : Img) : Kp a a := ⟨rfl, rfl⟩
theorem Kp.trans {a b c : Img} (h : Kp a b) (k : Kp b c) : Kp a c := ⟨k.1.trans h.1, k.2.trans h.2⟩
theorem kp_set (a : Img) {k : Nat} (hk : 0 < k) (x : List Int) : Kp a (a.set k x) := ⟨by simp, by rw [List.getElem?_set_ne (by omega)]⟩
theorem Kp.sec {a b : Img} (h : Kp a b) : secI b 0 = secI a 0 := by
 unfold secI;rw [List.getD_eq_getElem?_getD, List.getD_eq_getElem?_getD]
 show (b[0]?).getD Zs = (a[0]?).getD Zs
 rw [h.2]
def KpF (keep : KeepF) : Prop := ∀ s i n, Kp s.wt (keep s i n).2.wt
theorem claim_pos {N : Int} {M : Nat} {cl : Int → Bool} {n : Int} (h : claimB N M cl n = true) : 0 < n.toNat := by
 unfold claimB dataB at h
 simp only [Bool.and_eq_true, decide_eq_true_eq] at h
 omega
theorem block_kp (N M cnt : Int) : KpF (blockF N M cnt) := fun s i n => by
 unfold blockF
 split
 ·exact Kp.refl _
 ·exact Kp.refl _
theorem inner_kp {each f : Int} {keep : KeepF} (h : KpF keep) : KpF (innerF each f keep) := fun s _ p => h s _ p
theorem goK_kp {keep : KeepF} (h : KpF keep) (t0 : List Int) (s0 : TS) : ∀ k, Kp s0.wt (goK keep t0 s0 k).2.wt
 | 0 => Kp.refl _
 | k + 1 => (goK_kp h t0 s0 k).trans (h _ _ _)
theorem goF_kp {keep : KeepF} (h : KpF keep) (n : Int) (s : TS) (hn : 0 < n.toNat) : Kp s.wt (goF keep n s).2.wt := by
 have hk := goK_kp h (ptrsTo (secI s.wt n) 32) s 32;unfold goF
 generalize goK keep (ptrsTo (secI s.wt n) 32) s 32 = r at *
 by_cases hz : r.1 = Zp
 ·rw [if_pos hz]
  exact hk
 ·rw [if_neg hz]
  exact hk.trans (kp_set _ hn _)
theorem table_kp {N : Int} {M : Nat} {cnt each : Int} {keep : KeepF} (h : KpF keep) : KpF (tableF N M cnt each keep) := fun s f n => by
 unfold tableF
 split
 ·rename_i hc
  simp only [Bool.and_eq_true] at hc
  exact goF_kp (inner_kp h) n ⟨s.wt, putC s.cl n, s.sp⟩ (claim_pos hc.2)
 ·exact Kp.refl _
theorem dblT_kp (N : Int) (M : Nat) (z : List Int) (wt : Img) (cl : Int → Bool) : Kp wt (dblT N M z wt cl).2.wt :=
 ((goK_kp (block_kp N M (cntZ z)) ((z.drop 4).take 12) ⟨wt, cl, []⟩ 12).trans (table_kp (block_kp N M (cntZ z)) _ _ _)).trans (table_kp (table_kp (block_kp N M (cntZ z))) _ _ _)
theorem takeL_kp (N : Int) (M : Nat) (z : List Int) (s : LS) : Kp s.wt (takeL N M z s).wt := by
 have h := dblT_kp N M z s.wt s.cl;unfold takeL
 simp only
 split
 ·exact h
 ·refine h.trans ?_
  show Kp _ (wipeW _ _ _)
  unfold wipeW
  split
  ·rename_i l hl
   refine kp_set _ ?_ _
   have hm : l ∈ (dblT N M z s.wt s.cl).2.sp := by
    unfold lastB at hl
    split at hl
    ·rename_i l' hq
     split at hl
     ·cases hl
      exact List.mem_of_getLast? hq
     ·cases hl
    ·cases hl
   have := dblT_ok N M z s.wt s.cl l hm
   omega
  ·exact Kp.refl _
theorem enterL_kp (N : Int) (M : Nat) (im : Img) (i : Int) (s : LS) : Kp s.wt (enterL N M im i s).wt := by
 unfold enterL
 split
 ·exact Kp.refl _
 ·exact takeL_kp N M _ s
theorem slotL_kp (N : Int) (M : Nat) (im : Img) (n : Int) (r : List ByteArray × LS) (hn : 0 < n.toNat) : Kp r.2.wt (slotL N M im n r).2.wt := by
 unfold slotL
 simp only
 split
 ·exact Kp.refl _
 ·split
  ·exact enterL_kp N M im _ r.2
  ·exact kp_set _ hn _
theorem dirK_kp (N : Int) (M : Nat) (im : Img) : ∀ (l : List Int) (r : List ByteArray × LS), (∀ x ∈ l, 0 < x.toNat) → Kp r.2.wt (dirK N M im l r).2.wt
 | [], _, _ => Kp.refl _
 | n :: l, r, h => (slotL_kp N M im n r (h n List.mem_cons_self)).trans (dirK_kp N M im l _ fun x hx => h x (List.mem_cons_of_mem _ hx))
theorem allL_kp {c : LC} : ∀ (f : Nat) (s : LS), LOk c s → Kp s.wt (allL c.N c.M c.im f s).wt
 | 0, _, _ => Kp.refl _
 | f + 1, s, h => by
  cases hq : s.q with
  | nil => rw [allL_nil hq]; exact Kp.refl _
  | cons l q =>
   rw [allL_cons hq];refine Kp.trans ?_ (allL_kp f _ (dirL_ok (h.pop hq)))
   exact dirK_kp c.N c.M c.im l ([], { s with q := q }) fun x hx => by
    have := h.qd l (by rw [hq]; exact List.mem_cons_self) x hx
    omega
theorem layK_kp (tk : Int → Option (List Int)) (wt : Img) : ∀ k, Kp wt (layK tk wt k)
 | 0 => Kp.refl _
 | k + 1 => (layK_kp tk wt k).trans (kp_set _ (by omega) _)
theorem lookL_kp {M : Nat} {im : Img} (hr : rootB M im = true) : Kp im (lookL M im).wt := by
 obtain ⟨h1, _⟩ := rootB_parts.1 hr;obtain ⟨c, hN, hM, hi⟩ : ∃ c : LC, c.N = im.length ∧ c.M = M ∧ c.im = im := ⟨⟨0, ⟨0, 0, 0, 0, 0, 0⟩, im.length, M, none, 0, 0, im⟩, rfl, rfl, rfl⟩
 have hMay : May c (startL im) 1 := by
  show (soundZ c.M c.im 1).2 = true
  rw [hM, hi]
  exact h1
 have hOk := enterL_ok (startL_ok c im) hMay;have h2 := allL_kp (c := c) M _ hOk;rw [hN, hM, hi] at h2
 exact ((enterL_kp im.length M im 1 (startL im)).trans h2).trans (layK_kp _ _ M)

end Go.Proofs.YtboammbcoleicabGreat

namespace Go.Proofs.YtboammbcoleicabGreat
open Go.RowKit Go.Shelf

def rowL (M : Nat) (im : Img) (s : LS) (j : Nat) : List Int := keysL im.length fun x => decide (wrKind M im s.wt s.wp x = j)
theorem writeI_rows (M : Nat) (im : Img) (s : LS) : writeI M im s = rowL M im s 0 ++ rowL M im s 1 ++ rowL M im s 2 := by
 simp [writeI, catK, rowL]
def difN (im T : Img) : Nat → Nat
 | 0 => 0
 | k + 1 => difN im T k + if secI im (k : Int) = secI T (k : Int) then 0 else 1
theorem dif_rows (M : Nat) (im : Img) (s : LS) : ∀ k, difN im s.wt k = (keysL k fun x => decide (wrKind M im s.wt s.wp x = 0)).length + (keysL k fun x => decide (wrKind M im s.wt s.wp x = 1)).length + (keysL k fun x => decide (wrKind M im s.wt s.wp x = 2)).length
 | 0 => rfl
 | k + 1 => by
  have ih := dif_rows M im s k;rw [difN, ih, keysL_succ, keysL_succ, keysL_succ]
  simp only [List.length_append]
  by_cases h1 : secI s.wt (k : Int) = secI im (k : Int)
  ·have hk : wrKind M im s.wt s.wp (k : Int) = 3 := by unfold wrKind; rw [if_pos h1]
   rw [if_pos h1.symm, hk]
   simp
  ·rw [if_neg (fun e => h1 e.symm)]
   by_cases h2 : (k : Int) ≤ M
   ·have hk : wrKind M im s.wt s.wp (k : Int) = 1 := by unfold wrKind; rw [if_neg h1, if_pos h2]
    rw [hk]
    simp
    omega
   ·by_cases h3 : s.wp (k : Int) = true
    ·have hk : wrKind M im s.wt s.wp (k : Int) = 2 := by unfold wrKind; rw [if_neg h1, if_neg h2, if_pos h3]
     rw [hk]
     simp
     omega
    ·have hk : wrKind M im s.wt s.wp (k : Int) = 0 := by unfold wrKind; rw [if_neg h1, if_neg h2, if_neg h3]
     rw [hk]
     simp
     omega
theorem dif_write (M : Nat) (im : Img) (s : LS) : difN im s.wt im.length = (writeI M im s).length := by
 rw [writeI_rows, List.length_append, List.length_append, dif_rows M im s]
 rfl
end Go.Proofs.YtboammbcoleicabGreat
