/-
 The document's sight: may the pointers of an inode be?
-/
import Derived.Test.YtpmignilhoihnabGreatC1
import Derived.Test.YtpmignilhoihnabGreatK6
import Derived.Test.YtpmignilhoihnabGreatQ0
import Derived.Test.YtpmignilhoihnabGreatHE2
namespace Go.Proofs.YtpmignilhoihnabGreat
open Go.RowKit Go.Shelf

structure SC where
 p : Nat
 sb : Nat
 ib : Nat
 N : Nat
 M : Nat
 ia : Option Addr
 ic : Nat
 sc : Nat
 jc : Nat
 im : Img
def sightV (c : SC) : Array Value := #[.int .i64 c.N, .int .i64 c.M, .slice c.ia c.N c.ic, .slice (some ⟨c.sb, 0, none⟩) c.N c.sc, .slice (some ⟨c.ib, 0, none⟩) (c.M + 1) c.jc]
def BAt (w : World) (g n : Nat) (f : Int → Bool) : Prop := ∃ A, w.heap[g]? = some (.cells A 4 (0, 0)) ∧ ∀ k, k < n → A[k]? = some (.bool (f (k : Int)))
theorem BAt.keep {w w' : World} {g n : Nat} {f : Int → Bool} {ks : Nat → Prop} (h : BAt w g n f) (hc : Chg w w' ks) (hn : ¬ ks g) : BAt w' g n f := by
 obtain ⟨A, h1, h2⟩ := h
 exact ⟨A, hc.keep h1 hn, h2⟩
theorem BAt.cell {w : World} {g n : Nat} {f : Int → Bool} (h : BAt w g n f) {k : Nat} (hk : k < n) : w.cell? ⟨g, k, none⟩ = some (.bool (f (k : Int))) ∧ w.frozen? ⟨g, k, none⟩ = false := by
 obtain ⟨A, h1, h2⟩ := h
 exact ⟨(cell_of_row _ _ _ _ _ _ h1).trans (h2 k hk), frozen_of_row _ _ _ _ _ h1⟩
theorem BAt.put {w : World} {g n : Nat} {f : Int → Bool} (h : BAt w g n f) {k : Nat} (hk : k < n) : BAt (w.setCell ⟨g, k, none⟩ (.bool true)) g n (putC f (k : Int)) := by
 obtain ⟨A, h1, h2⟩ := h;refine ⟨_, heap_setCell_same w g k A _ _ h1, fun j hj => ?_⟩;rw [Array.getElem?_setIfInBounds];have hs : k < A.size := (Array.getElem?_eq_some_iff.1 (h2 k hk)).1
 by_cases e : k = j
 ·subst e
  rw [if_pos rfl, if_pos hs]
  simp [putC]
 ·rw [if_neg e, h2 j hj]
  have : ((j : Int) == (k : Int)) = false := by simp; omega
  simp [putC, this]
structure IsS (w : World) (c : SC) (sn : Int → Bool) : Prop where
 me : w.heap[c.p]? = some (.cells (sightV c) 68 (0, 0))
 ci : ImgAt w c.ia c.im
 il : c.im.length = c.N
 n1 : 8 ≤ c.N
 n2 : c.N ≤ 4096
 m1 : 1 ≤ c.M
 m2 : c.M + 2 ≤ c.N
 ib : ∀ k, blkOf c.ia k → k ≠ c.sb
 se : BAt w c.sb c.N sn
section
variable {w w' : World} {c : SC} {sn : Int → Bool}
theorem IsS.c0 (h : IsS w c sn) : w.cell? ⟨c.p, 0, none⟩ = some (.int .i64 c.N) := (cell_of_row _ _ _ _ _ _ h.me).trans rfl
theorem IsS.c1 (h : IsS w c sn) : w.cell? ⟨c.p, 1, none⟩ = some (.int .i64 c.M) := (cell_of_row _ _ _ _ _ _ h.me).trans rfl
theorem IsS.c2 (h : IsS w c sn) : w.cell? ⟨c.p, 2, none⟩ = some (.slice c.ia c.N c.ic) := (cell_of_row _ _ _ _ _ _ h.me).trans rfl
theorem IsS.c3 (h : IsS w c sn) : w.cell? ⟨c.p, 3, none⟩ = some (.slice (some ⟨c.sb, 0, none⟩) c.N c.sc) := (cell_of_row _ _ _ _ _ _ h.me).trans rfl
theorem IsS.c4 (h : IsS w c sn) : w.cell? ⟨c.p, 4, none⟩ = some (.slice (some ⟨c.ib, 0, none⟩) (c.M + 1) c.jc) := (cell_of_row _ _ _ _ _ _ h.me).trans rfl
theorem IsS.call (h : IsS w c sn) (hc : Chg w w' No) : IsS w' c sn :=
 ⟨hc.keep h.me (fun e => e), h.ci.keep hc (fun _ _ e => e), h.il, h.n1, h.n2, h.m1, h.m2, h.ib, h.se.keep hc (fun e => e)⟩
theorem IsS.put (h : IsS w c sn) {k : Nat} (hk : k < c.N) : IsS (w.setCell ⟨c.sb, k, none⟩ (.bool true)) c (putC sn (k : Int)) := by
 have hc : Chg w (w.setCell ⟨c.sb, k, none⟩ (.bool true)) (· = c.sb) := Chg.setCell;obtain ⟨A, hA, _⟩ := h.se;have n1 : ¬ c.p = c.sb := obj_ne h.me hA (by intro e; cases e)
 exact ⟨hc.keep h.me n1, h.ci.keep hc (fun k hk e => h.ib k hk e), h.il, h.n1, h.n2, h.m1, h.m2, h.ib, h.se.put hk⟩
end
def aimB (c : SC) (sn : Int → Bool) (x i n : Int) : Bool := decide (i < n) && (dataB c.M c.N x && !sn x)
set_option maxHeartbeats 1000000 in
set_option maxRecDepth 100000 in
theorem aim_any {c : SC} {sn : Int → Bool} (x i n : Int) (w : World) (h : IsS w c sn) :
  Calls Tryz.prog 44 #[.pointer (some ⟨c.p, 0, none⟩), .int .i64 x, .int .i64 i, .int .i64 n] w fun e w' => e = .returned (.bool (aimB c sn x i n)) ∧ IsS w' c (if aimB c sn x i n = true then putC sn x else sn) ∧ Chg w w' (· = c.sb) := by
 have c0 := h.c0;have c1 := h.c1;have hID := risData_any (c.N : Int) (c.M : Int) x w;have HH := hid h;clear h
 by_cases h1 : i < n
 ·cases h2 : dataB c.M c.N x
  ·have hB : aimB c sn x i n = false := by simp [aimB, h2]
   rw [hB];rw [h2] at hID
   have hge : ¬ i ≥ n := by omega
   go_enter Tryz.func44, Tryz.ntmps44
   go_wp2_with (first
    | (go_at_call 75; go_must (refine hID.mono ?_; rintro e w2 ⟨rfl, hb2⟩))
    | fail)
   go_ret
   exact ⟨rfl, HH.out.call (Chg.of_below hb2 No), (Chg.of_below hb2 No).mono fun _ _ e => e.elim⟩
  ·have hd : (c.M : Int) < x ∧ x < c.N := by simpa [dataB] using h2
   obtain ⟨k, rfl⟩ : ∃ k : Nat, x = (k : Int) := ⟨x.toNat, by omega⟩
   have hk : k < c.N := by omega
   have hge : ¬ i ≥ n := by omega
   have k0 : (0 : Int) ≤ (k : Int) := by omega
   have k1 : (k : Int) < (c.N : Int) := by omega
   rw [h2] at hID
   cases h3 : sn (k : Int)
   ·have hB : aimB c sn (k : Int) i n = true := by simp [aimB, h1, h2, h3]
    rw [hB];have H3 := hid h3;clear h3 hB h2 hd
    go_enter Tryz.func44, Tryz.ntmps44
    go_wp2_with (first
     | (go_at_call 75; go_must (refine hID.mono ?_; rintro e w2 ⟨rfl, hb2⟩; have hS2 := HH.out.call (Chg.of_below hb2 No); have c3 := hS2.c3; obtain ⟨d1, d2⟩ := hS2.se.cell hk; rw [H3.out] at d1))
     | fail)
    go_ret
    exact ⟨rfl, hS2.put hk, (Chg.of_below hb2 _).trans Chg.setCell (fun _ _ e => e) (fun _ _ e => e)⟩
   ·have hB : aimB c sn (k : Int) i n = false := by simp [aimB, h3]
    rw [hB];have H3 := hid h3;clear h3 hB h2 hd
    go_enter Tryz.func44, Tryz.ntmps44
    go_wp2_with (first
     | (go_at_call 75; go_must (refine hID.mono ?_; rintro e w2 ⟨rfl, hb2⟩; have hS2 := HH.out.call (Chg.of_below hb2 No); have c3 := hS2.c3; obtain ⟨d1, d2⟩ := hS2.se.cell hk; rw [H3.out] at d1))
     | fail)
    go_ret
    exact ⟨rfl, hS2, (Chg.of_below hb2 No).mono fun _ _ e => e.elim⟩
 ·have hB : aimB c sn x i n = false := by simp [aimB, h1]
  rw [hB]
  have hge : i ≥ n := by omega
  go_enter Tryz.func44, Tryz.ntmps44
  go_wp2_with fail
  go_ret
  exact ⟨rfl, HH.out, Chg.refl _ _⟩

end Go.Proofs.YtpmignilhoihnabGreat

namespace Go.Proofs.YtpmignilhoihnabGreat
open Go.RowKit Go.Shelf

def rowW (c : SC) (t : List Int) (f n : Int) (sn : Int → Bool) : Nat → Option (Int → Bool)
 | 0 => some sn
 | k + 1 => (rowW c t f n sn k).bind fun s => if t.getD k 0 = 0 then some s else if aimB c s (t.getD k 0) (f + k) n = true then some (putC s (t.getD k 0)) else none
theorem rowW_none {c : SC} {t : List Int} {f n : Int} {sn : Int → Bool} {k : Nat} (h : rowW c t f n sn k = none) : ∀ j, k ≤ j → rowW c t f n sn j = none
 | 0, hj => by
  obtain rfl : k = 0 := by omega
  exact h
 | j + 1, hj => by
  rcases Nat.lt_or_ge j k with e | e
  ·obtain rfl : k = j + 1 := by omega
   exact h
  ·rw [rowW, rowW_none h j e]
   rfl
def anyN (t : List Int) (k : Nat) : Bool := (t.take k).any (· != 0)
theorem anyN_succ {t : List Int} {k : Nat} (h : k < t.length) : anyN t (k + 1) = (anyN t k || t.getD k 0 != 0) := by
 unfold anyN;rw [List.take_succ_eq_append_getElem h, List.any_append, List.getD_eq_getElem?_getD, List.getElem?_eq_getElem h]
 simp
def tabB (c : SC) (t : List Int) (f n : Int) (sn : Int → Bool) : Bool := (rowW c t f n sn 32).isSome && anyN t 32
structure TW (w0 w : World) (c : SC) (g : Nat) (t : List Int) (s : Int → Bool) : Prop where
 s : IsS w c s
 g : w.heap[g]? = some (.cells (NA t) 78 (0, 0))
 ch : Chg w0 w (· = c.sb)
theorem putR_chg {w w' : World} {g : Nat} {t : TypeId} {A : Array Value} (h : PutR w g A t w') : Chg w w' (· = g) := ⟨h.os, h.tape, h.output, Nat.le_of_eq h.size.symm, fun k _ hk => h.other k hk⟩
theorem zero_ptrs (w : World) : (zeroValue 78).run Tryz.prog w = .ok (.agg (NA Zp)) w := by kernel_rfl
set_option maxHeartbeats 2000000 in
set_option maxRecDepth 100000 in
theorem table_w {c : SC} {sn : Int → Bool} (at_ : Nat) (f n : Int) (w : World) (h : IsS w c sn) (ha : at_ < c.N) (hf : 0 ≤ f ∧ f ≤ 100000) :
  Calls Tryz.prog 45 #[.pointer (some ⟨c.p, 0, none⟩), .int .i64 at_, .int .i64 f, .int .i64 n] w fun e w' => ∃ s', e = .returned (.bool (tabB c (ptrsTo (secI c.im at_) 32) f n sn)) ∧ IsS w' c s' ∧ (∀ s, rowW c (ptrsTo (secI c.im at_) 32) f n sn 32 = some s → s' = s) ∧ Chg w w' (· = c.sb) := by
 have hzp := zero_ptrs
 obtain ⟨b, o, hia, hb, hrg⟩ : ∃ b o, c.ia = some ⟨b, o, none⟩ ∧ b < w.heap.size ∧ ∀ (j : Nat) s, c.im[j]? = some s → w.rangeAt b (o + j * 128) (s.map (Value.int .u8)) := by
  rcases h.ci.2 with e | e
  ·have h1 := h.il; have h2 := h.n1; rw [e] at h1; simp at h1; omega
  ·exact e
 have c2 := h.c2;rw [hia] at c2;have HR := hid (hrg at_ _ (getD_at (by rw [h.il]; exact ha)));have hsec := h.ci.secI (at_ : Int);have HL := hid hsec.1;have hRP := rreadPointers_any (secI c.im (at_ : Int)) hsec w;have HH := hid h;obtain ⟨t, ht⟩ : ∃ y, y = ptrsTo (secI c.im (at_ : Int)) 32 := ⟨_, rfl⟩;have HTl : Hid (t.length = 32) := hid (by rw [ht]; exact ptrsTo_len _ _);rw [← ht] at hRP ⊢
 have k0 : (0 : Int) ≤ (at_ : Int) := by omega
 have k1 : (at_ : Int) < (c.N : Int) := by omega
 have HF := hid hf
 generalize secI c.im (at_ : Int) = sk at *
 clear h hrg hia ht hsec hb
 go_enter Tryz.func45, Tryz.ntmps45
 go_upto_region 2 with (first
  | (refine load_mid 36 _ rfl b (o + at_ * 128) rfl _ _ HR.out Tryz.underlying36 rfl (by rw [sz26, List.length_map, HL.out]) (by rfl) ?_)
  | (go_at_call 29; go_must (refine hRP.mono ?_; rintro e w1 ⟨rfl, hb1⟩))
  | (refine store_R rfl 78 _ _ rfl w1.heap.size (NA t) rfl rfl 78 _ (heap_alloc_new _ _) (by rw [szP, NA_size, HTl.out]) (by rw [NA_size, NA_size, HTl.out]; rfl) (NA_one _) ?_; intro w2 hw2)
  | fail)
 have h02 : Chg w w2 No := ((Chg.of_below hb1 No).trans (Chg.alloc w1 _ No) (c := No) (fun _ _ e => e) (fun _ _ e => e)).trans (putR_chg hw2) (fun _ _ e => e) (fun j hj e => by have := hb1.size; omega);obtain ⟨g, hg⟩ : ∃ y, y = w1.heap.size := ⟨_, rfl⟩;have G0 : Hid (TW w w2 c g t sn) := hid ⟨HH.out.call h02, by rw [hg]; exact hw2.here, h02.mono fun _ _ e => e.elim⟩;rw [← hg];clear hg hw2 hb1 h02 hRP HR HL c2
 go_wp2_with fail
 go_loopw [10, 11] (fun x10 x11 wr => ∃ k : Nat, k ≤ 32 ∧ x11 = .int .i64 k ∧ x10 = .bool (anyN t k) ∧ Hid (∃ s, rowW c t f n sn k = some s ∧ TW w wr c g t s)) (fun _ x11 _ => 32 - (intOf x11).toNat)
 case atStart => exact ⟨0, by omega, rfl, by rfl, hid ⟨sn, rfl, G0.out⟩⟩
 case round =>
  obtain ⟨k, hk, rfl, rfl, HI⟩ := hrel;obtain ⟨s, hs, hT⟩ := HI.out;have HS := hid hs;have HT := hid hT;clear HI hs hT
  by_cases hlt : k < 32
  ·have i0 : (0 : Int) ≤ (k : Int) := by omega
   have i1 : (k : Int) < 32 := by omega
   have q := row_cell HT.out.g k (by rw [HTl.out]; exact hlt);have HA := hid (anyN_succ (t := t) (k := k) (by rw [HTl.out]; exact hlt));obtain ⟨y, hy⟩ : ∃ y, y = t.getD k 0 := ⟨_, rfl⟩;have HW : Hid (rowW c t f n sn (k + 1) = if y = 0 then some s else if aimB c s y (f + k) n = true then some (putC s y) else none) := hid (by rw [rowW, HS.out, hy]; rfl);rw [← hy] at q HA;clear hy;obtain ⟨an, han⟩ : ∃ y, y = anyN t k := ⟨_, rfl⟩;rw [← han] at HA ⊢;clear han;have hfk := HF.out
   by_cases hy : y = 0
   ·subst hy
    have HW1 : Hid (rowW c t f n sn (k + 1) = some s) := hid (by rw [HW.out, if_pos rfl]);clear HW
    cases an
    ·go_wp2_with fail
     exact ⟨⟨k + 1, by omega, by go_num, by rw [HA.out]; rfl, hid ⟨s, HW1.out, HT.out⟩⟩, by simp [intOf]; omega⟩
    ·go_wp2_with fail
     exact ⟨⟨k + 1, by omega, by go_num, by rw [HA.out]; rfl, hid ⟨s, HW1.out, HT.out⟩⟩, by simp [intOf]; omega⟩
   ·have hyb : (y == 0) = false := by simpa using hy
    have hAI := aim_any y (f + k) n wr HT.out.s
    cases hb : aimB c s y (f + k) n
    ·have HN : Hid (rowW c t f n sn (k + 1) = none) := hid (by rw [HW.out, if_neg hy, if_neg (by rw [hb]; decide)])
     rw [hb] at hAI;have H32 : Hid (rowW c t f n sn 32 = none) := hid (rowW_none HN.out 32 (by omega));have HTB : Hid (tabB c t f n sn = false) := hid (by unfold tabB; rw [H32.out]; rfl);clear HW HN hb
     go_wp2_with (first
      | (go_at_call 44; go_must (refine hAI.mono ?_; rintro e w3 ⟨rfl, hS3, hc3⟩))
      | fail)
     go_ret
     refine ⟨s, by rw [HTB.out]; rfl, ?_, fun s' e => (by rw [H32.out] at e; cases e), HT.out.ch.trans hc3 (fun _ _ e => e) (fun _ _ e => e)⟩
     simpa using hS3
    ·have HW1 : Hid (rowW c t f n sn (k + 1) = some (putC s y)) := hid (by rw [HW.out, if_neg hy, if_pos hb])
     rw [hb, if_pos rfl] at hAI
     have HGN : Hid (g ≠ c.sb) := hid (by
      obtain ⟨A, hA, _⟩ := HT.out.s.se
      exact obj_ne HT.out.g hA (by intro e; cases e))
     have hgl := slt HT.out.g;clear HW hb
     cases an
     ·go_wp2_with (first
       | (go_at_call 44; go_must (refine hAI.mono ?_; rintro e w3 ⟨rfl, hS3, hc3⟩; have q3 := cell_keep q hc3 hgl HGN.out))
       | fail)
      exact ⟨⟨k + 1, by omega, by go_num, by rw [HA.out]; simp [hyb, bne], hid ⟨_, HW1.out, ⟨hS3, hc3.keep HT.out.g HGN.out, HT.out.ch.trans hc3 (fun _ _ e => e) (fun _ _ e => e)⟩⟩⟩, by simp [intOf]; omega⟩
     ·go_wp2_with (first
       | (go_at_call 44; go_must (refine hAI.mono ?_; rintro e w3 ⟨rfl, hS3, hc3⟩; have q3 := cell_keep q hc3 hgl HGN.out))
       | fail)
      exact ⟨⟨k + 1, by omega, by go_num, by rw [HA.out]; simp, hid ⟨_, HW1.out, ⟨hS3, hc3.keep HT.out.g HGN.out, HT.out.ch.trans hc3 (fun _ _ e => e) (fun _ _ e => e)⟩⟩⟩, by simp [intOf]; omega⟩
  ·have i1 : ¬ (k : Int) < 32 := by omega
   obtain rfl : k = 32 := by omega
   have HTB : Hid (tabB c t f n sn = anyN t 32) := hid (by unfold tabB; rw [HS.out]; rfl);obtain ⟨an, han⟩ : ∃ y, y = anyN t 32 := ⟨_, rfl⟩;rw [← han] at HTB ⊢;clear han
   go_wp2_with fail
   go_ret
   exact ⟨(by rw [HTB.out]; rfl), s, HT.out.s, fun s' e => (by rw [HS.out] at e; exact Option.some.inj e), HT.out.ch⟩

end Go.Proofs.YtpmignilhoihnabGreat

namespace Go.Proofs.YtpmignilhoihnabGreat
open Go.RowKit Go.Shelf

set_option maxHeartbeats 1000000 in
set_option maxRecDepth 100000 in
theorem rcount_any (z : List Int) (hz : z.length = 18) (h0 : 0 ≤ z.getD 2 0) (h1 : z.getD 2 0 ≤ 1000000) (w : World) : Calls Tryz.prog 43 #[.agg (NA z)] w fun e w' => e = .returned (.int .i64 (cntZ z)) ∧ Chg w w' No := by
 have hA := Chg.alloc w (.cells (NA z) 39) No;have HA := hid hA;have q := row_cell (heap_alloc_new w (.cells (NA z) 39)) 2 (by omega);have HC : Hid (cntZ z = (z.getD 2 0 + 127) / 128) := hid rfl
 generalize z.getD 2 0 = y at *
 have hd : (y + 127).tdiv 128 = (y + 127) / 128 := Int.tdiv_eq_ediv_of_nonneg (by omega);clear hA
 go_enter Tryz.func43, Tryz.ntmps43
 go_wp2_with fail
 go_ret
 exact ⟨by rw [HC.out]; rfl, HA.out⟩

end Go.Proofs.YtpmignilhoihnabGreat

namespace Go.Proofs.YtpmignilhoihnabGreat
open Go.RowKit Go.Shelf

theorem aim_is (c : SC) (s : Int → Bool) (x i n : Int) : aimB c s x i n = (decide (i < n) && claimB c.N c.M s x) := by
 unfold aimB claimB;rw [Bool.and_comm (dataB _ _ _)]
theorem rowW_is (c : SC) (t : List Int) (f n : Int) (sn : Int → Bool) : ∀ k, rowW c t f n sn k = rowS (blockS c.N c.M n) t f 1 sn k
 | 0 => rfl
 | k + 1 => by
  rw [rowW, rowS, rowW_is c t f n sn k];refine congrArg _ (funext fun s => ?_);unfold blockS;rw [aim_is, Int.one_mul]
def tabS (c : SC) (n : Int) : StepF := tableS c.N c.M n 1 c.im (blockS c.N c.M n)
theorem tab_no {c : SC} {n f p : Int} {s : Int → Bool} (h : aimB c s p f n = false) : tabS c n f p s = none := by
 rw [aim_is] at h;unfold tabS tableS;rw [if_neg (by rw [h]; decide)]
theorem tab_off {c : SC} {n f p : Int} {s : Int → Bool} (h : tabB c (ptrsTo (secI c.im p) 32) f n (putC s p) = false) : tabS c n f p s = none := by
 unfold tabS tableS
 split
 ·split
  ·rename_i ha
   rw [← rowW_is];unfold tabB at h;rw [show anyN (ptrsTo (secI c.im p) 32) 32 = true from ha, Bool.and_true] at h
   cases e : rowW c (ptrsTo (secI c.im p) 32) f n (putC s p) 32 with
   | none => rfl
   | some _ => rw [e] at h; cases h
  ·rfl
 ·rfl
theorem tab_on {c : SC} {n f p : Int} {s : Int → Bool} (ha : aimB c s p f n = true) (h : tabB c (ptrsTo (secI c.im p) 32) f n (putC s p) = true) : ∃ s', rowW c (ptrsTo (secI c.im p) 32) f n (putC s p) 32 = some s' ∧ tabS c n f p s = some s' := by
 rw [aim_is] at ha;unfold tabB at h;rw [Bool.and_eq_true] at h;obtain ⟨s', hs'⟩ := Option.isSome_iff_exists.1 h.1;refine ⟨s', hs', ?_⟩;unfold tabS tableS;rw [if_pos ha, if_pos (show anyP _ 32 = true from h.2), ← rowW_is]
 exact hs'
theorem aim_data {c : SC} {n f p : Int} {s : Int → Bool} (ha : aimB c s p f n = true) : ∃ k : Nat, p = (k : Int) ∧ k < c.N ∧ 0 < k := by
 rw [aim_is, Bool.and_eq_true] at ha;obtain ⟨_, h1, h2⟩ := claimB_of.1 ha.2
 exact ⟨p.toNat, by omega, by omega, by omega⟩
structure PW (w0 w : World) (c : SC) (g : Nat) (z : List Int) (s : Int → Bool) : Prop where
 s : IsS w c s
 g : w.heap[g]? = some (.cells (NA z) 39 (0, 0))
 ch : Chg w0 w (· = c.sb)
theorem PW.ne {w0 w : World} {c : SC} {g : Nat} {z : List Int} {s : Int → Bool} (h : PW w0 w c g z s) : g ≠ c.sb := by
 obtain ⟨A, hA, _⟩ := h.s.se
 exact obj_ne h.g hA (by intro e; cases e)
theorem PW.step {w0 w w' : World} {c : SC} {g : Nat} {z : List Int} {s s' : Int → Bool} (h : PW w0 w c g z s) (hs : IsS w' c s') (hc : Chg w w' (· = c.sb)) : PW w0 w' c g z s' :=
 ⟨hs, hc.keep h.g h.ne, h.ch.trans hc (fun _ _ e => e) (fun _ _ e => e)⟩
def PtrPost (c : SC) (z : List Int) (sn : Int → Bool) (w : World) (e : Ending) (w' : World) : Prop :=
 ∃ s', e = .returned (.bool (ptrsW c.N c.M c.im z sn).isSome) ∧ IsS w' c s' ∧ (∀ s, ptrsW c.N c.M c.im z sn = some s → s' = s) ∧ Chg w w' (· = c.sb)
theorem ptr_none {c : SC} {z : List Int} {sn s : Int → Bool} {w w' : World} {g : Nat} (h : ptrsW c.N c.M c.im z sn = none) (hp : PW w w' c g z s) : PtrPost c z sn w (.returned (.bool false)) w' :=
 ⟨s, by rw [h]; rfl, hp.s, fun s' e => (by rw [h] at e; cases e), hp.ch⟩
theorem ptr_some {c : SC} {z : List Int} {sn s : Int → Bool} {w w' : World} {g : Nat} (h : ptrsW c.N c.M c.im z sn = some s) (hp : PW w w' c g z s) : PtrPost c z sn w (.returned (.bool true)) w' :=
 ⟨s, by rw [h]; rfl, hp.s, fun s' e => (by rw [h] at e; cases e; rfl), hp.ch⟩
theorem rowS_none {st : StepF} {t : List Int} {f each : Int} {sn : Int → Bool} {k : Nat} (h : rowS st t f each sn k = none) : ∀ j, k ≤ j → rowS st t f each sn j = none
 | 0, hj => by
  obtain rfl : k = 0 := by omega
  exact h
 | j + 1, hj => by
  rcases Nat.lt_or_ge j k with e | e
  ·obtain rfl : k = j + 1 := by omega
   exact h
  ·rw [rowS, rowS_none h j e]
   rfl
end Go.Proofs.YtpmignilhoihnabGreat
