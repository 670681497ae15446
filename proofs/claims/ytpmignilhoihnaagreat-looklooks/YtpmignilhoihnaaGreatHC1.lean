/-
 The same run beside others that are claimed.
-/
import Derived.Test.YtpmignilhoihnaaGreatH5
namespace Go.Proofs.YtpmignilhoihnaaGreat

theorem slot_empty {N M : Int} {im : Img} {n : Int} {r : List ByteArray × LS} (h : (slotOf (secI r.2.wt n)).2.2 = 0 ∧ (slotOf (secI r.2.wt n)).1 = 0 ∧ (slotOf (secI r.2.wt n)).2.1.size = 0) : slotL N M im n r = r := by
 unfold slotL
 simp only
 rw [if_pos h]
theorem slot_entry {N M : Int} {im : Img} {n : Int} {r : List ByteArray × LS} (h : ¬ ((slotOf (secI r.2.wt n)).2.2 = 0 ∧ (slotOf (secI r.2.wt n)).1 = 0 ∧ (slotOf (secI r.2.wt n)).2.1.size = 0))
  (h2 : (slotOf (secI r.2.wt n)).2.2 = 0 ∧ isEntryB M im r.2 (slotOf (secI r.2.wt n)).1 (hasN r.1 (slotOf (secI r.2.wt n)).2.1) = true) :
  slotL N M im n r = ((slotOf (secI r.2.wt n)).2.1 :: r.1, enterL N M im (slotOf (secI r.2.wt n)).1 r.2) := by
 unfold slotL
 simp only
 rw [if_neg h, if_pos h2]
theorem slot_none {N M : Int} {im : Img} {n : Int} {r : List ByteArray × LS} (h : ¬ ((slotOf (secI r.2.wt n)).2.2 = 0 ∧ (slotOf (secI r.2.wt n)).1 = 0 ∧ (slotOf (secI r.2.wt n)).2.1.size = 0))
  (h2 : ¬ ((slotOf (secI r.2.wt n)).2.2 = 0 ∧ isEntryB M im r.2 (slotOf (secI r.2.wt n)).1 (hasN r.1 (slotOf (secI r.2.wt n)).2.1) = true)) :
  slotL N M im n r = (r.1, { r.2 with wt := r.2.wt.set n.toNat Zs }) := by
 unfold slotL
 simp only
 rw [if_neg h, if_neg h2]
theorem Zs_sec' : IsSec Zs := ⟨by simp [Zs], fun x hx => by have := List.eq_of_mem_replicate hx; omega⟩
theorem sub_Zs (a : List Int) : SubP a Zs := fun k => .inr (by rw [ptrs_Zs, Zp_get])
theorem LInv.next {N M : Int} {im : Img} {s : LS} {n : Int} {l : List Int} (h : LInv N M im s (n :: l)) : LInv N M im s l :=
 ⟨h.len, h.un, fun m hm => h.raw m (List.mem_cons_of_mem _ hm), (List.nodup_cons.1 h.nod).2, h.sec, h.sub, h.tk⟩
theorem slot_inv {N M : Int} {im : Img} (hM : 0 ≤ M) {n : Int} {l : List Int} {r : List ByteArray × LS} (h : LInv N M im r.2 (n :: l)) :
  LInv N M im (slotL N M im n r).2 l ∧ MoL (fun m => m = n) r.2 (slotL N M im n r).2 ∧ MoQ N M r.2 (slotL N M im n r).2 := by
 obtain ⟨c1, c2, c3, c4⟩ := h.raw n List.mem_cons_self
 by_cases h1 : (slotOf (secI r.2.wt n)).2.2 = 0 ∧ (slotOf (secI r.2.wt n)).1 = 0 ∧ (slotOf (secI r.2.wt n)).2.1.size = 0
 ·rw [slot_empty h1]
  exact ⟨h.next, MoL.refl _ _, [], by simp, by simp, by simp⟩
 ·by_cases h2 : (slotOf (secI r.2.wt n)).2.2 = 0 ∧ isEntryB M im r.2 (slotOf (secI r.2.wt n)).1 (hasN r.1 (slotOf (secI r.2.wt n)).2.1) = true
  ·rw [slot_entry h1 h2]
   obtain ⟨a, b⟩ := enter_mo (im := im) (i := (slotOf (secI r.2.wt n)).1) hM h.len
   exact ⟨enter_inv hM h.next (mayE_of h2.2), ⟨a.len, a.cl, fun m hm _ => a.wt m hm (fun e => e), a.wp, a.tk⟩, b⟩
  ·rw [slot_none h1 h2]
   have hn : n ∉ l ++ r.2.q.flatten := (List.nodup_cons.1 h.nod).1;refine ⟨⟨by rw [List.length_set]; exact h.len, fun m hm => ?_, fun m hm => ?_, h.next.nod, h.sec.set n Zs_sec', fun m hm => ?_, h.tk⟩, ⟨by simp, fun _ k => k, fun m hm e => ?_, fun _ _ => rfl, (MoL.refl r.2 (fun _ => False)).tk⟩, ⟨[], by simp, by simp, by simp⟩⟩
   ·have hm : r.2.cl m = false := hm
    show secI (r.2.wt.set n.toNat Zs) m = _ ∧ _
    rw [secI_set_ne (by omega) (fun e => by rw [e, c1] at hm; cases hm)]
    exact h.un m hm
   ·obtain ⟨a, b, c, d⟩ := h.next.raw m hm
    refine ⟨a, ?_, c, d⟩
    show secI (r.2.wt.set n.toNat Zs) m = _
    rw [secI_set_ne (p := n) (n := m) (by omega) (fun e => hn (by rw [← e]; exact hm))]
    exact b
   ·show SubP _ (secI (r.2.wt.set n.toNat Zs) m)
    rcases secI_set_cases r.2.wt n m Zs with k | k
    ·rw [k.2]; exact sub_Zs _
    ·rw [k]; exact h.sub m hm
   ·show secI (r.2.wt.set n.toNat Zs) m = _
    exact secI_set_ne (by omega) e
theorem LInv.pop {N M : Int} {im : Img} {s : LS} {l : List Int} {q : List (List Int)} (h : LInv N M im s []) (e : s.q = l :: q) : LInv N M im { s with q := q } l :=
 ⟨h.len, h.un, fun m hm => h.raw m (by rw [e]; exact hm), by have := h.nod; rw [e] at this; exact this, h.sec, h.sub, h.tk⟩
end Go.Proofs.YtpmignilhoihnaaGreat

namespace Go.Proofs.YtpmignilhoihnaaGreat

end Go.Proofs.YtpmignilhoihnaaGreat

namespace Go.Proofs.YtpmignilhoihnaaGreat

end Go.Proofs.YtpmignilhoihnaaGreat

namespace Go.Proofs.YtpmignilhoihnaaGreat

theorem secI_nat_set (wt : Img) (k : Nat) (n : Int) (x : List Int) (hn : n.toNat ≠ k) : secI (wt.set k x) n = secI wt n := by
 unfold secI;rw [List.getD_eq_getElem?_getD, List.getElem?_set_ne (fun e => hn e.symm), ← List.getD_eq_getElem?_getD]
theorem layK_size (tk : Int → Option (List Int)) (wt : Img) : ∀ k, (layK tk wt k).length = wt.length
 | 0 => rfl
 | k + 1 => by simp only [layK, List.length_set]; exact layK_size tk wt k
theorem layK_at (tk : Int → Option (List Int)) (wt : Img) (n : Int) : ∀ k : Nat, k < wt.length → secI (layK tk wt k) n = if 1 ≤ n ∧ n ≤ k then inodeW tk n else secI wt n
 | 0, _ => by rw [if_neg (by omega)]; rfl
 | k + 1, hk => by
  have ih := layK_at tk wt n k (by omega)
  simp only [layK]
  by_cases e : n = (k : Int) + 1
  ·subst e
   rw [if_pos (by omega)]
   have : (k + 1 : Nat) = ((k : Int) + 1).toNat := by omega
   rw [show (layK tk wt k).set (k + 1) (inodeW tk (↑k + 1)) = (layK tk wt k).set ((k : Int) + 1).toNat (inodeW tk (↑k + 1)) by rw [← this], secI_set (by omega) (by rw [layK_size]; omega)]
  ·by_cases h1 : 1 ≤ n ∧ n ≤ (k : Int)
   ·rw [secI_nat_set _ _ _ _ (by omega), ih, if_pos h1, if_pos (by omega)]
   ·by_cases h2 : n.toNat = k + 1
    ·omega
    ·rw [secI_nat_set _ _ _ _ h2, ih, if_neg h1, if_neg (by omega)]
theorem putT_same (tk : Int → Option (List Int)) (i : Int) (z : List Int) : putT tk i z i = some z := by
 unfold putT;rw [if_pos rfl]
theorem start_inv {N M : Int} {im : Img} (hl : im.length = N) (hs : AllSec im) : LInv N M im (startL im) [] :=
 ⟨hl, fun _ _ => ⟨rfl, rfl⟩, (fun n hn => by cases hn), List.nodup_nil, hs, fun n _ => SubP.refl _, (fun i z hz => by cases hz)⟩
theorem root_may {M : Nat} {im : Img} (hr : rootB M im = true) : MayE M im (startL im) 1 := by
 unfold rootB at hr;rw [Bool.and_eq_true] at hr
 exact hr.1
end Go.Proofs.YtpmignilhoihnaaGreat

namespace Go.Proofs.YtpmignilhoihnaaGreat

end Go.Proofs.YtpmignilhoihnaaGreat
