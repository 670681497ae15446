/-
 The document's report, in memory.
-/
import Derived.Test.YtpmignilhoihnaaGreatOL2
import Derived.Test.YtpmignilhoihnaaGreatOK
import Derived.Test.YtpmignilhoihnaaGreatS14
namespace Go.Proofs.YtpmignilhoihnaaGreat
open Go.RowKit Go.Shelf

theorem mem_gTT0 {im : Img} {p q : Int} : q ∈ gTT g0 im p ↔ q = p := by
 constructor
 ·intro h
  rcases List.mem_cons.1 h with e | e
  ·exact e
  ·obtain ⟨_, _, _, h2⟩ := mem_gRow.1 e
   cases h2
 ·intro e
  rw [e]
  exact List.mem_cons_self
theorem mem_gTT1 {im : Img} {p q : Int} : q ∈ gTT (gTT g0) im p ↔ q = p ∨ ∃ j, j < 32 ∧ (ptrsTo (secI im p) 32).getD j 0 ≠ 0 ∧ q = (ptrsTo (secI im p) 32).getD j 0 := by
 constructor
 ·intro h
  rcases List.mem_cons.1 h with e | e
  ·exact .inl e
  ·obtain ⟨j, h1, h2, h3⟩ := mem_gRow.1 e
   exact .inr ⟨j, h1, h2, mem_gTT0.1 h3⟩
 ·rintro (e | ⟨j, h1, h2, h3⟩)
  ·rw [e]; exact List.mem_cons_self
  ·exact List.mem_cons_of_mem _ (mem_gRow.2 ⟨j, h1, h2, mem_gTT0.2 h3⟩)
theorem mem_there {t : List Int} {q : Int} : q ∈ (thereL t).map (·.2) ↔ ∃ j, j < t.length ∧ t.getD j 0 ≠ 0 ∧ q = t.getD j 0 := by
 unfold thereL plc nz
 constructor
 ·intro h
  obtain ⟨y, h1, rfl⟩ := List.mem_map.1 h;obtain ⟨j, h2, rfl⟩ := List.mem_map.1 h1;obtain ⟨h3, h4⟩ := List.mem_filter.1 h2
  exact ⟨j, List.mem_range.1 h3, by simpa using h4, rfl⟩
 ·rintro ⟨j, h1, h2, h3⟩
  exact List.mem_map.2 ⟨(j, t.getD j 0), List.mem_map.2 ⟨j, List.mem_filter.2 ⟨List.mem_range.2 h1, by simpa using h2⟩, rfl⟩, h3.symm⟩
theorem tables_in {im : Img} {z : List Int} (h : ∀ q ∈ tabsZ im z, 0 ≤ q ∧ q < im.length) : ∃ T, tblR ⟨im, -1, 0⟩ z = (T, 0) ∧ ∀ q, q ∈ T ↔ q ∈ tabsZ im z := by
 have hone : ∀ q, q ∈ (if z.getD 16 0 = 0 then [] else [z.getD 16 0]) ↔ q ∈ gZ (gTT g0 im) (z.getD 16 0) := fun q => by
  rw [mem_gZ, mem_gTT0]
  by_cases e : z.getD 16 0 = 0
  ·rw [if_pos e]
   exact ⟨fun h => (by cases h), fun h => absurd e h.1⟩
  ·rw [if_neg e]
   exact ⟨fun h => ⟨e, List.mem_singleton.1 h⟩, fun h => List.mem_singleton.2 h.2⟩
 by_cases e : z.getD 17 0 = 0
 ·refine ⟨_, tblR_none e, fun q => ?_⟩
  unfold tabsZ;rw [List.mem_append, hone q]
  constructor
  ·exact .inl
  ·rintro (h1 | h1)
   ·exact h1
   ·exact absurd e (mem_gZ.1 h1).1
 ·have hr := rtab_in (im := im) (p := z.getD 17 0) (fun e2 => h _ (tab_dbl e2))
  have ht : tab9 ⟨im, -1, 0⟩ (z.getD 17 0) = (ptrsTo (secI im (z.getD 17 0)) 32, 0) := by
   unfold rtab9 at hr;rw [if_neg e, if_neg e] at hr
   exact hr
  have hq : tblR ⟨im, -1, 0⟩ z = ((if z.getD 16 0 = 0 then [] else [z.getD 16 0]) ++ [z.getD 17 0] ++ (thereL (ptrsTo (secI im (z.getD 17 0)) 32)).map (·.2), 0) := by
   unfold tblR;rw [if_neg e, ht, if_pos rfl]
  refine ⟨_, hq, fun q => ?_⟩;unfold tabsZ;rw [List.mem_append, List.mem_append, List.mem_append, hone q, mem_gZ (p := z.getD 17 0), mem_gTT1, mem_there, ptrsTo_len]
  constructor
  ·rintro ((h1 | h1) | h1)
   ·exact .inl h1
   ·exact .inr ⟨e, .inl (by simpa using h1)⟩
   ·exact .inr ⟨e, .inr h1⟩
  ·rintro (h1 | ⟨_, h1 | h1⟩)
   ·exact .inl (.inl h1)
   ·exact .inl (.inr (by simpa using h1))
   ·exact .inr h1
end Go.Proofs.YtpmignilhoihnaaGreat

namespace Go.Proofs.YtpmignilhoihnaaGreat
open Go.RowKit Go.Shelf

def FstJ (k : KT) (j : Nat) (n : Int) : Prop := k.tk (j : Int) = true ∧ (n ∈ tabsZ k.wt (k.ino j) ∨ (k.ino j).getD 0 0 = 2 ∧ ∃ y ∈ spI k.wt (k.ino j), y.2 = n)
def FstK (k : KT) (i : Nat) (n : Int) : Prop := ∃ j : Nat, 1 ≤ j ∧ j ≤ i ∧ FstJ k j n
theorem FstK_zero (k : KT) (n : Int) : ¬ FstK k 0 n := by
 rintro ⟨j, h1, h2, _⟩
 omega
theorem FstK_succ (k : KT) (i : Nat) (n : Int) : FstK k (i + 1) n ↔ FstK k i n ∨ FstJ k (i + 1) n := by
 constructor
 ·rintro ⟨j, h1, h2, h3⟩
  by_cases e : j = i + 1
  ·exact .inr (e ▸ h3)
  ·exact .inl ⟨j, h1, by omega, h3⟩
 ·rintro (⟨j, h1, h2, h3⟩ | h)
  ·exact ⟨j, h1, by omega, h3⟩
  ·exact ⟨i + 1, by omega, Nat.le_refl _, h⟩
structure EK (N M : Nat) (im : Img) (k : KT) (F : LS) : Prop where
 wt : k.wt = layK F.tk F.wt M
 cl : k.cl = F.cl
 tk : ∀ i : Nat, i ≤ M → k.tk (i : Int) = (F.tk (i : Int)).isSome
 out : F.tk 0 = none
 tabs : ∀ j : Nat, 1 ≤ j → j ≤ M → k.tk (j : Int) = true → ∀ q ∈ tabsZ k.wt (k.ino j), (M : Int) < q ∧ q < N
 spot : ∀ j : Nat, 1 ≤ j → j ≤ M → k.tk (j : Int) = true → ∀ y ∈ spI k.wt (k.ino j), (M : Int) < y.2 ∧ y.2 < N
 first : ∀ n : Int, (M : Int) < n → secI k.wt n ≠ secI im n → (FstK k M n ↔ F.wp n = false)
theorem ek_of {N M : Nat} {im : Img} {pre : List Int} {k : KT} {F : LS} (h : DB N M im pre k F []) (hMN : M < N) : EK N M im { k with wt := layK F.tk F.wt M } F := by
 have hlen : F.wt.length = N := by have := h.iv.len; omega
 have hat : ∀ q : Int, (M : Int) < q → secI (layK F.tk F.wt M) q = secI F.wt q := fun q hq => by
  rw [layK_at F.tk F.wt q M (by omega), if_neg (by omega)]
 have hcl : ∀ q : Int, F.cl q = true → q < N := fun q hq => Decidable.byContradiction fun e => by
  rw [h.cn q (by omega)] at hq
  cases hq
 have hz : ∀ j : Nat, j ≤ M → k.tk (j : Int) = true → ∃ z, F.tk (j : Int) = some z ∧ z.getD 0 0 = (k.ino j).getD 0 0 ∧ tabsZ F.wt z = tabsZ F.wt (k.ino j) ∧ spI F.wt z = spI F.wt (k.ino j) ∧ tabsZ (layK F.tk F.wt M) (k.ino j) = tabsZ F.wt (k.ino j) ∧ spI (layK F.tk F.wt M) (k.ino j) = spI F.wt (k.ino j) := fun j hj ht => by
  rw [h.kl.tk j hj] at ht
  cases hq : F.tk (j : Int) with
  | none => rw [hq] at ht; cases ht
  | some z =>
   have hi := h.kl.ino j z hq;obtain ⟨t1, t2⟩ := tabs_links F.wt (k.ino j) (k.en (j : Int));rw [← hi] at t1 t2;obtain ⟨l1, l2⟩ := tabs_loc (im := F.wt) (im' := layK F.tk F.wt M) (z := k.ino j) (fun q hm => hat q ((h.ki _ z hq).tab q (by rw [t1]; exact hm)).2.2.2)
   exact ⟨z, rfl, by rw [hi, getD_set_ne (by omega)], t1, t2, l1, l2⟩
 refine ⟨rfl, h.kl.cl, h.kl.tk, ?_, fun j j1 j2 ht q hq => ?_, fun j j1 j2 ht y hy => ?_, fun n hn hd => ?_⟩
 ·refine Decidable.byContradiction fun e => ?_
  have := h.kl.out 0 e
  omega
 ·obtain ⟨z, hq1, _, t1, _, l1, _⟩ := hz j j2 ht
  have hq : q ∈ tabsZ (layK F.tk F.wt M) (k.ino j) := hq;rw [l1, ← t1] at hq;have := (h.ki _ z hq1).tab q hq
  exact ⟨this.2.2.2, hcl q this.1⟩
 ·obtain ⟨z, hq1, _, _, t2, _, l2⟩ := hz j j2 ht
  have hy : y ∈ spI (layK F.tk F.wt M) (k.ino j) := hy;rw [l2, ← t2] at hy;have := (h.ki _ z hq1).blk y hy
  exact ⟨this.2.1, hcl _ this.1⟩
 ·have hd : secI (layK F.tk F.wt M) n ≠ secI im n := hd
  rw [hat n hn] at hd;have hf := h.qi.first h.ki hd
  have he : FstK { k with wt := layK F.tk F.wt M } M n ↔ FirstP F n := by
   constructor
   ·rintro ⟨j, j1, j2, ht, hh⟩
    obtain ⟨z, hq1, e0, t1, t2, l1, l2⟩ := hz j j2 ht;refine ⟨(j : Int), z, hq1, ?_⟩
    rcases hh with hh | ⟨h1, y, hy, hyn⟩
    ·have hh : n ∈ tabsZ (layK F.tk F.wt M) (k.ino j) := hh
     rw [l1, ← t1] at hh
     exact .inl hh
    ·have hy : y ∈ spI (layK F.tk F.wt M) (k.ino j) := hy
     rw [l2, ← t2] at hy
     exact .inr ⟨e0.trans h1, y, hy, hyn⟩
   ·rintro ⟨i, z, hq1, hh⟩
    have ho := h.kl.out i (by rw [hq1]; intro e; cases e);obtain ⟨j, rfl⟩ : ∃ j : Nat, i = (j : Int) := ⟨i.toNat, by omega⟩
    have ht : k.tk (j : Int) = true := by rw [h.kl.tk j (by omega), hq1]; rfl
    obtain ⟨z', hq2, e0, t1, t2, l1, l2⟩ := hz j (by omega) ht;rw [hq1] at hq2;obtain rfl := Option.some.inj hq2;refine ⟨j, by omega, by omega, ht, ?_⟩
    rcases hh with hh | ⟨h1, y, hy, hyn⟩
    ·refine .inl ?_
     show n ∈ tabsZ (layK F.tk F.wt M) (k.ino j)
     rw [l1, ← t1]
     exact hh
    ·refine .inr ⟨e0.symm.trans h1, y, ?_, hyn⟩
     show y ∈ spI (layK F.tk F.wt M) (k.ino j)
     rw [l2, ← t2]
     exact hy
  rw [he]
  constructor
  ·intro hp
   cases hw : F.wp n with
   | false => rfl
   | true => exact absurd hp (hf.1 hw)
  ·intro hw
   refine Classical.byContradiction fun e => ?_
   rw [hf.2 e] at hw
   cases hw
theorem EK.row {N M : Nat} {im : Img} {k : KT} {F : LS} (h : EK N M im k F) {n : Int} {b : Bool} (hb : b = true ↔ FstK k M n) (hd : secI k.wt n ≠ secI im n) : wrKind M im (layK F.tk F.wt M) F.wp n = if n ≤ M then 1 else if b then 0 else 2 := by
 unfold wrKind;rw [← h.wt, if_neg hd]
 by_cases e : n ≤ (M : Int)
 ·rw [if_pos e, if_pos e]
 ·rw [if_neg e, if_neg e]
  have := h.first n (by omega) hd
  cases b with
  | true =>
   rw [this.1 (hb.1 rfl)]
   rfl
  | false =>
   cases hw : F.wp n with
   | true => rfl
   | false => have := hb.2 (this.2 hw); cases this
theorem wrKind_same {M : Int} {im T : Img} {wp : Int → Bool} {n : Int} (h : secI T n = secI im n) : wrKind M im T wp n = 3 := by
 unfold wrKind;rw [if_pos h]
theorem inoS_zero : inoS Zi = Zs := by kernel_rfl
end Go.Proofs.YtpmignilhoihnaaGreat

namespace Go.Proofs.YtpmignilhoihnaaGreat
open Go.RowKit Go.Shelf

structure RW (w0 w : World) (c : KC) (gr fb : Nat) (v1 v2 v3 : Value) (l1 l2 l3 : List Int) (f : Int → Bool) : Prop where
 ch : Chg w0 w No
 r : w.heap[gr]? = some (.cells #[.slice (some ⟨c.g, 0, none⟩) c.N c.wc, v1, v2, v3] 26 (0, 0))
 f : BAt w fb c.N f
 o1 : IOwn w w0.heap.size v1 l1
 o2 : IOwn w w0.heap.size v2 l2
 o3 : IOwn w w0.heap.size v3 l3
 a12 : Apart v1 v2
 a13 : Apart v1 v3
 a23 : Apart v2 v3
 br : w0.heap.size ≤ gr
 bf : w0.heap.size ≤ fb
 q : w.heap[w0.heap.size]? = some (.cells nil4 26 (0, 0))
 nq : gr ≠ w0.heap.size
section
variable {w0 w w' : World} {c : KC} {gr fb : Nat} {v1 v2 v3 v' : Value} {l1 l2 l3 l' : List Int} {f : Int → Bool}
theorem RW.call (h : RW w0 w c gr fb v1 v2 v3 l1 l2 l3 f) (hc : Chg w w' No) : RW w0 w' c gr fb v1 v2 v3 l1 l2 l3 f :=
 ⟨h.ch.trans hc (fun _ _ e => e) (fun _ _ e => e), hc.keep h.r (fun e => e), h.f.keep hc (fun e => e), h.o1.keep hc (fun _ _ e => e), h.o2.keep hc (fun _ _ e => e), h.o3.keep hc (fun _ _ e => e), h.a12, h.a13, h.a23, h.br, h.bf, hc.keep h.q (fun e => e), h.nq⟩
theorem RW.c1 (h : RW w0 w c gr fb v1 v2 v3 l1 l2 l3 f) : w.cell? ⟨gr, 1, none⟩ = some v1 := (cell_of_row _ _ _ _ _ _ h.r).trans rfl
theorem RW.c2 (h : RW w0 w c gr fb v1 v2 v3 l1 l2 l3 f) : w.cell? ⟨gr, 2, none⟩ = some v2 := (cell_of_row _ _ _ _ _ _ h.r).trans rfl
theorem RW.c3 (h : RW w0 w c gr fb v1 v2 v3 l1 l2 l3 f) : w.cell? ⟨gr, 3, none⟩ = some v3 := (cell_of_row _ _ _ _ _ _ h.r).trans rfl
theorem RW.mark (h : RW w0 w c gr fb v1 v2 v3 l1 l2 l3 f) {n : Nat} (hn : n < c.N) : RW w0 (w.setCell ⟨fb, n, none⟩ (.bool true)) c gr fb v1 v2 v3 l1 l2 l3 (fun x => if x = (n : Int) then true else f x) := by
 have hc : Chg w (w.setCell ⟨fb, n, none⟩ (.bool true)) (· = fb) := Chg.setCell;obtain ⟨A, hA, _⟩ := h.f;have n0 : gr ≠ fb := obj_ne h.r hA (by intro e; cases e)
 have no : ∀ {v : Value} {l : List Int}, IOwn w w0.heap.size v l → ∀ k, v.ownBlock = some k → ¬ k = fb := fun ho k e => by
  obtain ⟨_, A', hA'⟩ := ho.blk e
  exact obj_ne hA' hA (by intro e; cases e)
 exact ⟨h.ch.trans hc (fun _ _ e => e) (fun j hj e => by have := h.bf; omega), hc.keep h.r n0, h.f.setb hn true, h.o1.keep hc (no h.o1), h.o2.keep hc (no h.o2), h.o3.keep hc (no h.o3), h.a12, h.a13, h.a23, h.br, h.bf, hc.keep h.q (obj_ne h.q hA (by intro e; cases e)), h.nq⟩
theorem own_notR (h : RW w0 w c gr fb v1 v2 v3 l1 l2 l3 f) {v : Value} {l : List Int} (ho : IOwn w w0.heap.size v l) {k : Nat} (e : v.ownBlock = some k) : ¬ k = gr := by
 obtain ⟨_, A, hA⟩ := ho.blk e
 exact obj_ne hA h.r (by intro e; cases e)
theorem own_notF (h : RW w0 w c gr fb v1 v2 v3 l1 l2 l3 f) {v : Value} {l : List Int} (ho : IOwn w w0.heap.size v l) : ¬ v.ownBlock = some fb := fun e => by
 obtain ⟨_, A, hA⟩ := ho.blk e;obtain ⟨C, hC, _⟩ := h.f
 exact obj_ne hA hC (by intro e; cases e) rfl
theorem own_notQ (h : RW w0 w c gr fb v1 v2 v3 l1 l2 l3 f) {v : Value} {l : List Int} (ho : IOwn w w0.heap.size v l) : ¬ v.ownBlock = some w0.heap.size := fun e => by
 obtain ⟨_, A, hA⟩ := ho.blk e
 exact obj_ne hA h.q (by intro e; cases e) rfl
theorem RW.grow (h : RW w0 w c gr fb v1 v2 v3 l1 l2 l3 f) {v : Value} {l : List Int} (ho : IOwn w w0.heap.size v l) (hi : IOwn w' w0.heap.size v' l') (hc : Chg w w' (fun j => v.ownBlock = some j)) (hn : v'.ownBlock = v.ownBlock ∨ v'.ownBlock = some w.heap.size) (m : Nat) :
  Chg w0 (w'.setCell ⟨gr, m, none⟩ v') No ∧ w'.heap[gr]? = some (.cells #[.slice (some ⟨c.g, 0, none⟩) c.N c.wc, v1, v2, v3] 26 (0, 0)) ∧ BAt (w'.setCell ⟨gr, m, none⟩ v') fb c.N f ∧ IOwn (w'.setCell ⟨gr, m, none⟩ v') w0.heap.size v' l' ∧ (w'.setCell ⟨gr, m, none⟩ v').heap[w0.heap.size]? = some (.cells nil4 26 (0, 0)) ∧ ∀ {u : Value} {q : List Int}, Apart v u → IOwn w w0.heap.size u q → IOwn (w'.setCell ⟨gr, m, none⟩ v') w0.heap.size u q := by
 have h2 : Chg w' (w'.setCell ⟨gr, m, none⟩ v') (· = gr) := Chg.setCell
 have hgr : ¬ v.ownBlock = some gr := fun e => own_notR h ho e rfl
 have hr := hc.keep h.r hgr;obtain ⟨C, hC, _⟩ := h.f;have hlt := slt h.r;refine ⟨(own_no ho h.ch hc).trans h2 (fun _ _ e => e) (fun j hj e => by have := h.br; omega), hr, (h.f.keep hc (own_notF h ho)).keep h2 (obj_ne hC h.r (by intro e; cases e)), hi.keep h2 (fun k e e2 => ?_), h2.keep (hc.keep h.q (fun e => own_notQ h ho e)) (fun e => h.nq e.symm), fun ha hu => (keep_apart ha hu hc).keep h2 (fun k e => own_notR h hu e)⟩;subst e2
 rcases hn with e3 | e3
 ·exact hgr (e3 ▸ e)
 ·rw [e3] at e
  have := Option.some.inj e
  omega
theorem RW.put1 (h : RW w0 w c gr fb v1 v2 v3 l1 l2 l3 f) (hi : IOwn w' w0.heap.size v' l') (hc : Chg w w' (fun j => v1.ownBlock = some j)) (hn : v'.ownBlock = v1.ownBlock ∨ v'.ownBlock = some w.heap.size) : RW w0 (w'.setCell ⟨gr, 1, none⟩ v') c gr fb v' v2 v3 l' l2 l3 f ∧ w'.cell? ⟨gr, 1, none⟩ = some v1 ∧ w'.frozen? ⟨gr, 1, none⟩ = false := by
 obtain ⟨g1, g2, g3, g4, g6, g5⟩ := h.grow h.o1 hi hc hn 1
 exact ⟨⟨g1, heap_setCell_same w' gr 1 _ _ _ g2, g3, g4, g5 h.a12 h.o2, g5 h.a13 h.o3, apart_new h.a12 h.o2 hn, apart_new h.a13 h.o3 hn, h.a23, h.br, h.bf, g6, h.nq⟩, (cell_of_row _ _ _ _ _ _ g2).trans rfl, frozen_of_row w' gr 1 _ 26 g2⟩
theorem RW.put2 (h : RW w0 w c gr fb v1 v2 v3 l1 l2 l3 f) (hi : IOwn w' w0.heap.size v' l') (hc : Chg w w' (fun j => v2.ownBlock = some j)) (hn : v'.ownBlock = v2.ownBlock ∨ v'.ownBlock = some w.heap.size) : RW w0 (w'.setCell ⟨gr, 2, none⟩ v') c gr fb v1 v' v3 l1 l' l3 f ∧ w'.cell? ⟨gr, 2, none⟩ = some v2 ∧ w'.frozen? ⟨gr, 2, none⟩ = false := by
 obtain ⟨g1, g2, g3, g4, g6, g5⟩ := h.grow h.o2 hi hc hn 2
 exact ⟨⟨g1, heap_setCell_same w' gr 2 _ _ _ g2, g3, g5 h.a12.symm h.o1, g4, g5 h.a23 h.o3, (apart_new h.a12.symm h.o1 hn).symm, h.a13, apart_new h.a23 h.o3 hn, h.br, h.bf, g6, h.nq⟩, (cell_of_row _ _ _ _ _ _ g2).trans rfl, frozen_of_row w' gr 2 _ 26 g2⟩
theorem RW.put3 (h : RW w0 w c gr fb v1 v2 v3 l1 l2 l3 f) (hi : IOwn w' w0.heap.size v' l') (hc : Chg w w' (fun j => v3.ownBlock = some j)) (hn : v'.ownBlock = v3.ownBlock ∨ v'.ownBlock = some w.heap.size) : RW w0 (w'.setCell ⟨gr, 3, none⟩ v') c gr fb v1 v2 v' l1 l2 l' f ∧ w'.cell? ⟨gr, 3, none⟩ = some v3 ∧ w'.frozen? ⟨gr, 3, none⟩ = false := by
 obtain ⟨g1, g2, g3, g4, g6, g5⟩ := h.grow h.o3 hi hc hn 3
 exact ⟨⟨g1, heap_setCell_same w' gr 3 _ _ _ g2, g3, g5 h.a13.symm h.o1, g5 h.a23.symm h.o2, g4, h.a12, (apart_new h.a13.symm h.o1 hn).symm, (apart_new h.a23.symm h.o2 hn).symm, h.br, h.bf, g6, h.nq⟩, (cell_of_row _ _ _ _ _ _ g2).trans rfl, frozen_of_row w' gr 3 _ 26 g2⟩
end
theorem Chg.tr2 {w w1 w2 : World} (h1 : Chg w w1 No) (h2 : Chg w1 w2 No) : Chg w w2 No := h1.trans h2 (fun _ _ e => e) (fun _ _ e => e)
theorem own_max {w : World} {B : Nat} {v : Value} {l : List Int} (h : IOwn w B v l) : l.length ≤ 9223372036854775807 := by
 rcases h.2 with ⟨_, e⟩ | ⟨g, cap, cur, rfl, hb, hg, h1, h2, h3, h4⟩
 ·omega
 ·unfold maxLen at h2; omega
theorem spo_max {w : World} {B : Nat} {v : Value} {l : List Sp9} (h : SOwn w B v l) : l.length ≤ 9223372036854775807 := by
 rcases h.2 with ⟨_, e⟩ | ⟨g, cap, cur, rfl, hb, hg, h1, h2, h3, h4⟩
 ·omega
 ·unfold maxLen at h2; omega
def MK (N : Nat) (f : Int → Bool) (P : Int → Prop) : Prop := ∀ n : Int, 0 ≤ n → n < N → (f n = true ↔ P n)
theorem MK.put {N : Nat} {f : Int → Bool} {P R : Int → Prop} (h : MK N f P) (m : Int) (hR : ∀ n, R n ↔ P n ∨ n = m) : MK N (fun x => if x = m then true else f x) R := fun n h0 h1 => by
 show (if n = m then true else f n) = true ↔ R n
 rw [hR n]
 by_cases e : n = m
 ·rw [if_pos e]; exact ⟨fun _ => .inr e, fun _ => rfl⟩
 ·rw [if_neg e, h n h0 h1]; exact ⟨.inl, fun h => h.resolve_right e⟩
theorem MK.same {N : Nat} {f : Int → Bool} {P R : Int → Prop} (h : MK N f P) (hR : ∀ n, R n ↔ P n) : MK N f R := fun n h0 h1 => by
 rw [hR n]; exact h n h0 h1
theorem take_mem {l : List Int} {j : Nat} (hj : j < l.length) (n : Int) : n ∈ l.take (j + 1) ↔ n ∈ l.take j ∨ n = l.getD j 0 := by
 rw [List.take_add_one, List.mem_append, List.getD_eq_getElem?_getD, List.getElem?_eq_getElem hj]
 simp
end Go.Proofs.YtpmignilhoihnaaGreat
