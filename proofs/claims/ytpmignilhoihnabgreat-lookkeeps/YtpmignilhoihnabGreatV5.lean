/-
 Whom follow's pointers point to: what the inode claims.
-/
import Derived.Test.YtpmignilhoihnabGreatS12
import Derived.Deep.DeepCutAuto
import Derived.Deep.CutRange
import Derived.Test.YtpmignilhoihnabGreatHE8
namespace Go.Proofs.YtpmignilhoihnabGreat
open Go.RowKit Go.Shelf

abbrev Pt := Int × Int × Int
theorem infoPt : ∃ i, Tryz.prog.info? 46 = some i ∧ i.zero = some (.agg #[.int .i64 0, .int .i64 0, .int .i64 0]) ∧ i.size = 3 ∧ i.bytes = 24 := by
 have h : (Tryz.prog.info? 46).map (fun i => (i.zero, i.size, i.bytes)) = some (some (.agg #[.int .i64 0, .int .i64 0, .int .i64 0]), 3, 24) := by kernel_rfl
 cases hq : Tryz.prog.info? 46 with
 | none => rw [hq] at h; cases h
 | some i =>
  rw [hq] at h
  simp at h
  exact ⟨i, rfl, h.1, h.2.1, h.2.2⟩
def cellsPt (l : List Pt) : List Value := l.flatMap fun y => [.int .i64 y.1, .int .i64 y.2.1, .int .i64 y.2.2]
theorem cellsPt_append (l m : List Pt) : cellsPt (l ++ m) = cellsPt l ++ cellsPt m := by simp [cellsPt]
theorem cellsPt_len (l : List Pt) : (cellsPt l).length = l.length * 3 := by
 induction l with
 | nil => rfl
 | cons x l ih => unfold cellsPt at *; rw [List.flatMap_cons, List.length_append, ih]; simp; omega
theorem cellsPt_one (l : List Pt) : ∀ u ∈ cellsPt l, u.oneCell' = true := by
 intro u hu
 unfold cellsPt at hu;obtain ⟨x, _, hx⟩ := List.mem_flatMap.1 hu
 simp at hx
 rcases hx with rfl | rfl | rfl <;> rfl
def PtOwn (w : World) (B : Nat) (v : Value) (l : List Pt) : Prop := w.ownsRow B 46 3 v l.length (cellsPt l)
theorem PtOwn.blk {w : World} {B : Nat} {v : Value} {l : List Pt} (h : PtOwn w B v l) {k : Nat} (e : v.ownBlock = some k) : B ≤ k ∧ ∃ A, w.heap[k]? = some (.cells A 46 (0, 0)) := by
 rcases h.2 with ⟨rfl, _⟩ | ⟨g, cap, cur, rfl, hb, hg, _⟩
 ·cases e
 ·have : g = k := by simpa [Value.ownBlock] using e
  subst this
  exact ⟨hb, cur, hg⟩
theorem PtOwn.keep {w w' : World} {B : Nat} {v : Value} {l : List Pt} {ks : Nat → Prop} (h : PtOwn w B v l) (hc : Chg w w' ks) (hn : ∀ k, v.ownBlock = some k → ¬ ks k) : PtOwn w' B v l := by
 refine ⟨h.1, ?_⟩
 rcases h.2 with k | ⟨g, cap, cur, rfl, hb, hg, r⟩
 ·exact .inl k
 ·exact .inr ⟨g, cap, cur, rfl, hb, hc.keep hg (hn g rfl), r⟩
section
variable {ops : Array Oper} {rest : List Oper} {o : Oper} {a : Act} {Q : Exit → Act → World → Prop} {w : World}
theorem wp_appPt (hg : o.guard = none) (s x : Operand) (hop : o.op = .call { callee := .builtin .append, args := #[s, x], argTypes := #[42, 42] }) (B g c : Nat) (v : Value) (l : List Pt) (y : Pt) (hs : a.eval s = v) (hx : a.eval x = .slice (some ⟨g, 0, none⟩) 1 c)
  (hown : PtOwn w B v l) (h0 : w.cell? ⟨g, 0, none⟩ = some (.int .i64 y.1)) (h1 : w.cell? ⟨g, 1, none⟩ = some (.int .i64 y.2.1)) (h2 : w.cell? ⟨g, 2, none⟩ = some (.int .i64 y.2.2)) (hl : l.length ≤ 1000000) (hB : B ≤ w.heap.size)
  (hK : ∀ v' w', PtOwn w' B v' (l ++ [y]) → Chg w w' (fun k => v.ownBlock = some k) → wpList Tryz.prog ops Q rest (a.put o.dst v') w') : wpList Tryz.prog ops Q (o :: rest) a w := by
 obtain ⟨i, hi, hz, hsz, hby⟩ := infoPt;refine wpList_append_own_at w hg s x 42 hop B 46 i _ 3 24 Tryz.underlying42 hi hz hsz hby rfl (by decide) v l.length (cellsPt l) hs hown ⟨g, 0, none⟩ 1 c [.int .i64 y.1, .int .i64 y.2.1, .int .i64 y.2.2] hx rfl (fun j u hj => ?_) (by simp [Value.oneCell']) (by unfold maxLen; omega) (by omega) hB ?_
 ·match j, hj with
  | 0, hj => simp at hj; subst hj; exact h0
  | 1, hj => simp at hj; subst hj; exact h1
  | 2, hj => simp at hj; subst hj; exact h2
  | j + 3, hj => simp at hj
 ·intro v' w' h1 h2 _ _
  refine hK v' w' ?_ ((Chg.grown h2).mono fun j _ e => e.symm);unfold PtOwn;rw [cellsPt_append, List.length_append]
  exact h1
theorem wp_appPts (hg : o.guard = none) (s x : Operand) (hop : o.op = .call { callee := .builtin .append, args := #[s, x], argTypes := #[42, 42] }) (B B2 : Nat) (v v2 : Value) (l m : List Pt) (hs : a.eval s = v) (hx : a.eval x = v2)
  (hown : PtOwn w B v l) (hat : PtOwn w B2 v2 m) (hm0 : m ≠ []) (hl : l.length ≤ 1000000) (hm : m.length ≤ 1000000) (hB : B ≤ w.heap.size)
  (hK : ∀ v' w', PtOwn w' B v' (l ++ m) → Chg w w' (fun k => v.ownBlock = some k) → wpList Tryz.prog ops Q rest (a.put o.dst v') w') : wpList Tryz.prog ops Q (o :: rest) a w := by
 obtain ⟨i, hi, hz, hsz, hby⟩ := infoPt;unfold PtOwn at hat
 rcases hat.2 with ⟨rfl, h0⟩ | ⟨g, cap, cur, rfl, _⟩
 ·exact absurd (List.eq_nil_of_length_eq_zero h0) hm0
 ·refine wpList_append_own_at w hg s x 42 hop B 46 i _ 3 24 Tryz.underlying42 hi hz hsz hby rfl (by decide) v l.length (cellsPt l) hs hown ⟨g, 0, none⟩ m.length cap (cellsPt m) hx (cellsPt_len m) (fun j u hj => World.ownsRow.cells hat rfl j u hj) (cellsPt_one m) (by unfold maxLen; omega) (by omega) hB ?_
  intro v' w' h1 h2 _ _
  refine hK v' w' ?_ ((Chg.grown h2).mono fun j _ e => e.symm);unfold PtOwn;rw [cellsPt_append, List.length_append]
  exact h1
end
def rowP (at_ : Int) (t : List Int) (k : Nat) : List Pt := (List.range k).map fun (j : Nat) => (at_, (j : Int), t.getD j 0)
theorem rowP_succ (at_ : Int) (t : List Int) (k : Nat) : rowP at_ t (k + 1) = rowP at_ t k ++ [(at_, (k : Int), t.getD k 0)] := by
 unfold rowP;rw [List.range_succ, List.map_append]
 rfl
def noteB (fb : Int → Int) (t : List Int) (f : Int) (n : Nat) : Nat → Int → Int
 | 0 => fb
 | k + 1 => if f + k < n then putI (noteB fb t f n k) (f + k) (t.getD k 0) else noteB fb t f n k
end Go.Proofs.YtpmignilhoihnabGreat

namespace Go.Proofs.YtpmignilhoihnabGreat
open Go.RowKit Go.Shelf

structure VW (w0 w : World) (gt g bn : Nat) (t : List Int) (fb : Int → Int) (v : Value) (l : List Pt) : Prop where
 t : w.heap[gt]? = some (.cells (NA t) 78 (0, 0))
 b : NAt w g bn fb
 o : PtOwn w w0.heap.size v l
 ch : Chg w0 w (· = g)
theorem VW.step {w0 w w' : World} {gt g bn : Nat} {t : List Int} {fb : Int → Int} {v : Value} {l : List Pt} (h : VW w0 w gt g bn t fb v l) (hc : Chg w w' No) : VW w0 w' gt g bn t fb v l :=
 ⟨hc.keep h.t (fun e => e), h.b.keep hc (fun e => e), h.o.keep hc (fun _ _ e => e), h.ch.trans hc (fun _ _ e => e) (fun _ _ e => e.elim)⟩
theorem VW.more {w0 w w' : World} {gt g bn : Nat} {t : List Int} {fb : Int → Int} {v v' : Value} {l l' : List Pt} (h : VW w0 w gt g bn t fb v l) (ho : PtOwn w' w0.heap.size v' l') (hc : Chg w w' (fun k => v.ownBlock = some k)) : VW w0 w' gt g bn t fb v' l' := by
 have hn : ∀ {x : Obj} {j : Nat}, w.heap[j]? = some x → (∀ A, x ≠ .cells A 46 (0, 0)) → ¬ v.ownBlock = some j := fun {x j} hj hx e => by
  obtain ⟨_, A, hA⟩ := h.o.blk e;rw [hj] at hA
  exact hx A (Option.some.inj hA)
 obtain ⟨A, hA, hA2⟩ := h.b
 exact ⟨hc.keep h.t (hn h.t fun A e => (by cases e)), ⟨A, hc.keep hA (hn hA fun A e => (by cases e)), hA2⟩, ho, h.ch.trans hc (fun _ _ e => e) (fun j hj e => by have := (h.o.blk e).1; omega)⟩
theorem VW.note {w0 w : World} {gt g bn : Nat} {t : List Int} {fb : Int → Int} {v : Value} {l : List Pt} (h : VW w0 w gt g bn t fb v l) {k : Nat} (hk : k < bn) (x : Int) : VW w0 (w.setCell ⟨g, k, none⟩ (.int .i64 x)) gt g bn t (putI fb (k : Int) x) v l := by
 have hc : Chg w (w.setCell ⟨g, k, none⟩ (.int .i64 x)) (· = g) := Chg.setCell;obtain ⟨A, hA, _⟩ := h.b
 exact ⟨hc.keep h.t (obj_ne h.t hA (by intro e; cases e)), h.b.put hk x, h.o.keep hc (fun j e e2 => by
  obtain ⟨_, C, hC⟩ := h.o.blk e;subst e2;rw [hA] at hC
  cases hC), h.ch.trans hc (fun _ _ e => e) (fun _ _ e => e)⟩

set_option maxHeartbeats 2000000 in
set_option maxRecDepth 100000 in
theorem lrow_any (ia : Option Addr) (ic : Nat) (im : Img) (at_ : Nat) (f : Int) (g bn bc : Nat) (fb : Int → Int) (w : World) (h : ImgAt w ia im) (ha : at_ < im.length) (hf : 0 ≤ f ∧ f ≤ 2000) (hb : NAt w g bn fb) (hbn : bn ≤ 2000) :
  Calls Tryz.prog 28 #[.slice ia im.length ic, .int .i64 at_, .int .i64 f, .slice (some ⟨g, 0, none⟩) bn bc] w fun e w' => ∃ v, e = .returned v ∧ PtOwn w' w.heap.size v (rowP at_ (ptrsTo (secI im at_) 32) 32) ∧ NAt w' g bn (noteB fb (ptrsTo (secI im at_) 32) f bn 32) ∧ Chg w w' (· = g) := by
 have hzp := zero_ptrs
 obtain ⟨b, o, hia, hb', hrg⟩ : ∃ b o, ia = some ⟨b, o, none⟩ ∧ b < w.heap.size ∧ ∀ (j : Nat) s, im[j]? = some s → w.rangeAt b (o + j * 128) (s.map (Value.int .u8)) := by
  rcases h.2 with e | e
  ·rw [e] at ha; simp at ha
  ·exact e
 subst hia;have HR := hid (hrg at_ _ (getD_at ha));have hsec := h.secI (at_ : Int);have HL := hid hsec.1;have hRP := rptrs_c (secI im (at_ : Int)) hsec w;obtain ⟨n, hn⟩ : ∃ y, y = im.length := ⟨_, rfl⟩;rw [← hn] at ha ⊢;obtain ⟨t, ht⟩ : ∃ y, y = ptrsTo (secI im (at_ : Int)) 32 := ⟨_, rfl⟩;have HTl : Hid (t.length = 32) := hid (by rw [ht]; exact ptrsTo_len _ _);rw [← ht] at hRP ⊢
 have k0 : (0 : Int) ≤ (at_ : Int) := by omega
 have k1 : (at_ : Int) < (n : Int) := by omega
 have HB := hid hb
 have hbn2 : (bn : Int) ≤ 2000 := by omega
 generalize secI im (at_ : Int) = sk at *
 clear h hrg ht hsec hb' hn hb ha hbn
 go_enter Tryz.func28, Tryz.ntmps28
 go_upto_region 2 with (first
  | (refine load_mid 36 _ rfl b (o + at_ * 128) rfl _ _ HR.out Tryz.underlying36 rfl (by rw [sz26, List.length_map, HL.out]) (by rfl) ?_)
  | (go_at_call 29; go_must (refine hRP.mono ?_; rintro e w1 ⟨rfl, hc1⟩))
  | (refine store_R rfl 78 _ _ rfl w1.heap.size (NA t) rfl rfl 78 _ (heap_alloc_new _ _) (by rw [szP, NA_size, HTl.out]) (by rw [NA_size, NA_size, HTl.out]; rfl) (NA_one _) ?_; intro w2 hw2)
  | fail)
 have h02 : Chg w w2 No := (hc1.trans (Chg.alloc w1 _ No) (c := No) (fun _ _ e => e) (fun _ _ e => e)).trans (putR_chg hw2) (fun _ _ e => e) (fun j hj e => by have := hc1.size; omega);obtain ⟨gt, hgt⟩ : ∃ y, y = w1.heap.size := ⟨_, rfl⟩;have G0 : Hid (VW w w2 gt g bn t fb (.slice none 0 0) (rowP at_ t 0)) := hid ⟨by rw [hgt]; exact hw2.here, HB.out.keep h02 (fun e => e), World.ownsRow_nil _ _ _ _, h02.mono fun _ _ e => e.elim⟩;rw [← hgt];clear hgt hw2 hc1 h02 hRP HR HL HB hzp
 go_wp2_with fail
 go_loopw [10, 11] (fun x10 x11 wr => ∃ (k : Nat) (vv : Value), vv = x10 ∧ k ≤ 32 ∧ x11 = .int .i64 k ∧ Hid (VW w wr gt g bn t (noteB fb t f bn k) vv (rowP at_ t k))) (fun _ x11 _ => 32 - (intOf x11).toNat)
 case atStart => exact ⟨0, _, rfl, by omega, rfl, G0⟩
 case round =>
  obtain ⟨k, vv, rfl, hk, rfl, HV⟩ := hrel;clear G0
  by_cases hlt : k < 32
  ·have i0 : (0 : Int) ≤ (k : Int) := by omega
   have i1 : (k : Int) < 32 := by omega
   have q := row_cell HV.out.t k (by rw [HTl.out]; exact hlt);obtain ⟨y, hy⟩ : ∃ y, y = t.getD k 0 := ⟨_, rfl⟩;rw [← hy] at q;have HP : Hid (rowP at_ t (k + 1) = rowP at_ t k ++ [((at_ : Int), (k : Int), y)]) := hid (by rw [rowP_succ, hy]);have HNb : Hid (noteB fb t f bn (k + 1) = if f + k < bn then putI (noteB fb t f bn k) (f + k) y else noteB fb t f bn k) := hid (by rw [hy]; rfl);have HRl : Hid ((rowP at_ t k).length ≤ 1000000) := hid (by unfold rowP; simp; omega);clear hy;have e0 : (wr.alloc (.cells #[.int .i64 at_, .int .i64 k, .int .i64 y] 46)).cell? ⟨wr.heap.size, 0, none⟩ = some (.int .i64 at_) := (cell_of_row _ _ _ _ _ _ (heap_alloc_new wr _)).trans rfl;have e1 : (wr.alloc (.cells #[.int .i64 at_, .int .i64 k, .int .i64 y] 46)).cell? ⟨wr.heap.size, 1, none⟩ = some (.int .i64 k) := (cell_of_row _ _ _ _ _ _ (heap_alloc_new wr _)).trans rfl;have e2 : (wr.alloc (.cells #[.int .i64 at_, .int .i64 k, .int .i64 y] 46)).cell? ⟨wr.heap.size, 2, none⟩ = some (.int .i64 y) := (cell_of_row _ _ _ _ _ _ (heap_alloc_new wr _)).trans rfl;have HV1 := hid (HV.out.step (Chg.alloc wr (.cells #[.int .i64 at_, .int .i64 k, .int .i64 y] 46) No));have HB1 : Hid (w.heap.size ≤ (wr.alloc (.cells #[.int .i64 at_, .int .i64 k, .int .i64 y] 46)).heap.size) := hid HV1.out.ch.size
   go_upto_region 7 with (first
    | (at_builtin; go_must (refine wp_appPt rfl _ _ rfl w.heap.size wr.heap.size 1 vv _ ((at_ : Int), (k : Int), y) rfl rfl HV1.out.o e0 e1 e2 HRl.out HB1.out ?_; intro v' w7 hO7 hc7))
    | fail)
   have HV7 : Hid (VW w w7 gt g bn t (noteB fb t f bn k) v' (rowP at_ t (k + 1))) := hid (by rw [HP.out]; exact HV1.out.more hO7 hc7)
   have q7 : w7.cell? ⟨gt, k, none⟩ = some (.int .i64 y) := by
    have q' := row_cell HV7.out.t k (by rw [HTl.out]; exact hlt);have h1 := row_cell HV.out.t k (by rw [HTl.out]; exact hlt);rw [q] at h1;rw [q']
    exact h1.symm
   clear q hO7 hc7 e0 e1 e2 HV HV1 HB1 HP
   by_cases hfk : f + k < bn
   ·have f0 : (0 : Int) ≤ f + k := by omega
    have hj : (f + k).toNat < bn := by omega
    obtain ⟨d1, d2⟩ := HV7.out.b.cell hj
    have HVn : Hid (VW w (w7.setCell ⟨g, (f + k).toNat, none⟩ (.int .i64 y)) gt g bn t (noteB fb t f bn (k + 1)) v' (rowP at_ t (k + 1))) := hid (by
     have := HV7.out.note hj y;rw [HNb.out, if_pos hfk];rw [show (((f + k).toNat : Nat) : Int) = f + k by omega] at this
     exact this)
    go_wp2_with fail
    exact ⟨⟨k + 1, v', rfl, by omega, by go_num, HVn⟩, by simp [intOf]; omega⟩
   ·have HVn : Hid (VW w w7 gt g bn t (noteB fb t f bn (k + 1)) v' (rowP at_ t (k + 1))) := hid (by rw [HNb.out, if_neg hfk]; exact HV7.out)
    go_wp2_with fail
    exact ⟨⟨k + 1, v', rfl, by omega, by go_num, HVn⟩, by simp [intOf]; omega⟩
  ·have i1 : ¬ (k : Int) < 32 := by omega
   obtain rfl : k = 32 := by omega
   go_wp2_with fail
   go_ret
   exact ⟨vv, rfl, HV.out.o, HV.out.b, HV.out.ch⟩
end Go.Proofs.YtpmignilhoihnabGreat

namespace Go.Proofs.YtpmignilhoihnabGreat
open Go.RowKit Go.Shelf

section
variable {ops : Array Oper} {rest : List Oper} {o : Oper} {a : Act} {Q : Exit → Act → World → Prop} {w : World}
theorem wp_appPt2 (hg : o.guard = none) (s x : Operand) (hop : o.op = .call { callee := .builtin .append, args := #[s, x], argTypes := #[42, 42] }) (B g c : Nat) (v : Value) (l : List Pt) (y z : Pt) (hs : a.eval s = v) (hx : a.eval x = .slice (some ⟨g, 0, none⟩) 2 c)
  (hown : PtOwn w B v l) (hb : w.heap[g]? = some (.cells (cellsPt [y, z]).toArray 46 (0, 0))) (hl : l.length ≤ 1000000) (hB : B ≤ w.heap.size)
  (hK : ∀ v' w', PtOwn w' B v' (l ++ [y, z]) → Chg w w' (fun k => v.ownBlock = some k) → wpList Tryz.prog ops Q rest (a.put o.dst v') w') : wpList Tryz.prog ops Q (o :: rest) a w := by
 obtain ⟨i, hi, hz, hsz, hby⟩ := infoPt;refine wpList_append_own_at w hg s x 42 hop B 46 i _ 3 24 Tryz.underlying42 hi hz hsz hby rfl (by decide) v l.length (cellsPt l) hs hown ⟨g, 0, none⟩ 2 c (cellsPt [y, z]) hx (cellsPt_len _) (fun j u hj => ?_) (cellsPt_one _) (by unfold maxLen; omega) (by omega) hB ?_
 ·have hadd : (⟨g, 0, none⟩ : Addr).add j = ⟨g, j, none⟩ := by unfold Addr.add; split <;> simp_all
  rw [hadd, cell_of_row _ _ _ _ _ _ hb, List.getElem?_toArray]
  exact hj
 ·intro v' w' h1 h2 _ _
  refine hK v' w' ?_ ((Chg.grown h2).mono fun j _ e => e.symm);unfold PtOwn;rw [cellsPt_append, List.length_append]
  exact h1
end
section
variable {ops : Array Oper} {Q : Exit → Act → World → Prop} {S : World → Prop} {fuel : Nat} {listed : Array Bool} {a : Act} {w : World}
theorem stAppPt (i d : Nat) {o : Oper} (hop : ops[i]? = some o) (hd : o.dst = some d) (hw : Region.wanted o (yielded ops a.tmps) = true) (s x : Operand)
  (ho : o.op = .call { callee := .builtin .append, args := #[s, x], argTypes := #[42, 42] }) (B g ca : Nat) (v : Value) (l : List Pt) (y : Pt) (hs : a.eval s = v) (hx : a.eval x = .slice (some ⟨g, 0, none⟩) 1 ca)
  (hown : PtOwn w B v l) (hb : w.heap[g]? = some (.cells (cellsPt [y]).toArray 46 (0, 0))) (hl : l.length ≤ 1000000) (hB : B ≤ w.heap.size)
  (h : ∀ v' w', PtOwn w' B v' (l ++ [y]) → Chg w w' (fun k => v.ownBlock = some k) → S w' ∧ wpAnyH Tryz.prog .any ops Q S fuel (listed.setIfInBounds i true) { a with tmps := a.tmps.setIfInBounds d v' } w') : St ops Q S fuel listed a w i := by
 obtain ⟨ti, hi, hz, hsz, hby⟩ := infoPt
 obtain ⟨v', w', hr, h2, h3, _, _⟩ := run_append_own_at (P := Tryz.prog) w B 42 o.type 46 ti _ 3 24 Tryz.underlying42 hi hz hsz hby rfl (by decide) v l.length (cellsPt l) hown ⟨g, 0, none⟩ 1 ca (cellsPt [y]) (cellsPt_len _) (fun j u hj => by
  have hadd : (⟨g, 0, none⟩ : Addr).add j = ⟨g, j, none⟩ := by unfold Addr.add; split <;> simp_all
  rw [hadd, cell_of_row _ _ _ _ _ _ hb, List.getElem?_toArray]
  exact hj) (cellsPt_one _) (by unfold maxLen; omega) (by omega) hB
 have hh := h v' w' (by
  unfold PtOwn;rw [cellsPt_append, List.length_append]
  exact h2) ((Chg.grown h3).mono fun j _ e => e.symm)
 refine wpOp_step hop (fun K hK => ?_);rw [if_pos hw];unfold Oper.wp execOp
 simp only [ho, resolve, invoke, builtin, Sem.run_bind, Sem.run_pure, Result.andThen_ok, List.map_toArray, List.map_cons, List.map_nil, hs, hx, hr]
 refine hK _ _ ⟨hh.1, ?_⟩;unfold Act.put;rw [hd]
 exact hh.2
end
structure FO (w0 w : World) (gi gb K : Nat) (z : List Int) (fb : Int → Int) (v : Value) (l : List Pt) : Prop where
 i : w.heap[gi]? = some (.cells (NA z) 39 (0, 0))
 b : NAt w gb K fb
 o : PtOwn w w0.heap.size v l
 ch : Chg w0 w No
 nb : w0.heap.size ≤ gb
section
variable {w0 w w' : World} {gi gb K : Nat} {z : List Int} {fb : Int → Int} {v v' : Value} {l l' : List Pt}
theorem FO.step (h : FO w0 w gi gb K z fb v l) (hc : Chg w w' No) : FO w0 w' gi gb K z fb v l :=
 ⟨hc.keep h.i (fun e => e), h.b.keep hc (fun e => e), h.o.keep hc (fun _ _ e => e), h.ch.trans hc (fun _ _ e => e) (fun _ _ e => e), h.nb⟩
theorem FO.more (h : FO w0 w gi gb K z fb v l) (ho : PtOwn w' w0.heap.size v' l') (hc : Chg w w' (fun k => v.ownBlock = some k)) : FO w0 w' gi gb K z fb v' l' := by
 have hn : ∀ {x : Obj} {j : Nat}, w.heap[j]? = some x → (∀ A, x ≠ .cells A 46 (0, 0)) → ¬ v.ownBlock = some j := fun {x j} hj hx e => by
  obtain ⟨_, A, hA⟩ := h.o.blk e;rw [hj] at hA
  exact hx A (Option.some.inj hA)
 obtain ⟨A, hA, hA2⟩ := h.b
 exact ⟨hc.keep h.i (hn h.i fun A e => (by cases e)), ⟨A, hc.keep hA (hn hA fun A e => (by cases e)), hA2⟩, ho, h.ch.trans hc (fun _ _ e => e) (fun j hj e => by have := (h.o.blk e).1; omega), h.nb⟩
theorem FO.noted {fb' : Int → Int} (h : FO w0 w gi gb K z fb v l) (hb : NAt w' gb K fb') (hc : Chg w w' (· = gb)) : FO w0 w' gi gb K z fb' v l := by
 obtain ⟨A, hA, _⟩ := h.b
 exact ⟨hc.keep h.i (obj_ne h.i hA (by intro e; cases e)), hb, h.o.keep hc (fun j e e2 => by
  obtain ⟨_, C, hC⟩ := h.o.blk e;subst e2;rw [hA] at hC
  cases hC), h.ch.trans hc (fun _ _ e => e) (fun j hj e => by have := h.nb; omega), h.nb⟩
end
def dirP12 (i : Int) (z : List Int) (k : Nat) : List Pt := (List.range k).map fun (j : Nat) => (i, (j : Int), z.getD (4 + j) 0)
theorem dirP12_succ (i : Int) (z : List Int) (k : Nat) : dirP12 i z (k + 1) = dirP12 i z k ++ [(i, (k : Int), z.getD (4 + k) 0)] := by
 unfold dirP12;rw [List.range_succ, List.map_append]
 rfl
def sinP (im : Img) (p : Int) : List Pt := if p = 0 then [] else rowP p (ptrsTo (secI im p) 32) 32
def dblP (im : Img) (p : Int) (t : List Int) : Nat → List Pt
 | 0 => []
 | k + 1 => dblP im p t k ++ [(p, (k : Int), t.getD k 0)] ++ sinP im (t.getD k 0)
def folL (im : Img) (i : Int) (z : List Int) : List Pt := dirP12 i z 12 ++ [(i, 12, z.getD 16 0), (i, 13, z.getD 17 0)] ++ sinP im (z.getD 16 0) ++ (if z.getD 17 0 = 0 then [] else dblP im (z.getD 17 0) (ptrsTo (secI im (z.getD 17 0)) 32) 32)
end Go.Proofs.YtpmignilhoihnabGreat

namespace Go.Proofs.YtpmignilhoihnabGreat
open Go.RowKit Go.Shelf

structure FolOk (im : Img) (z : List Int) : Prop where
 len : z.length = 18
 s0 : 0 ≤ z.getD 2 0
 s1 : z.getD 2 0 ≤ 136704
 o16 : z.getD 16 0 ≠ 0 → 0 ≤ z.getD 16 0 ∧ z.getD 16 0 < im.length
 o17 : z.getD 17 0 ≠ 0 → 0 ≤ z.getD 17 0 ∧ z.getD 17 0 < im.length
 o18 : z.getD 17 0 ≠ 0 → ∀ a, a < 32 → (ptrsTo (secI im (z.getD 17 0)) 32).getD a 0 ≠ 0 → 0 ≤ (ptrsTo (secI im (z.getD 17 0)) 32).getD a 0 ∧ (ptrsTo (secI im (z.getD 17 0)) 32).getD a 0 < im.length
theorem dblP_len (im : Img) (p : Int) (t : List Int) : ∀ k, (dblP im p t k).length ≤ 33 * k
 | 0 => Nat.le_refl _
 | k + 1 => by
  have := dblP_len im p t k;unfold dblP;rw [List.length_append, List.length_append]
  have h2 : (sinP im (t.getD k 0)).length ≤ 32 := by
   unfold sinP rowP
   split <;> simp
  have h3 : ([(p, (k : Int), t.getD k 0)] : List Pt).length = 1 := rfl
  omega
def FB (K : Nat) (im : Img) (z : List Int) (fb : Int → Int) (c : Nat) : Prop := ∀ j : Nat, j < K → fb (j : Int) = if j < c then blkP im z j else 0
theorem FB.zero (K : Nat) (im : Img) (z : List Int) : FB K im z (fun _ => 0) 0 := fun j _ => by rw [if_neg (by omega)]
theorem FB.dir {K : Nat} {im : Img} {z : List Int} {fb : Int → Int} {k : Nat} (h : FB K im z fb k) (hk : k < 12) : FB K im z (putI fb (k : Int) (z.getD (4 + k) 0)) (k + 1) := fun j hj => by
 unfold putI
 by_cases e : j = k
 ·subst e
  rw [if_pos rfl, if_pos (by omega)];unfold blkP;rw [if_pos hk]
 ·rw [if_neg (by omega), h j hj]
  by_cases e2 : j < k
  ·rw [if_pos e2, if_pos (by omega)]
  ·rw [if_neg e2, if_neg (by omega)]
theorem FB.out {K : Nat} {im : Img} {z : List Int} {fb : Int → Int} {k k' : Nat} (h : FB K im z fb k) (hk : K ≤ k) (hk2 : k ≤ k') : FB K im z fb k' := fun j hj => by
 rw [h j hj, if_pos (by omega), if_pos (by omega)]
theorem noteB_at (fb : Int → Int) (t : List Int) (f : Int) (n : Nat) : ∀ (k : Nat) (j : Int), noteB fb t f n k j = if f ≤ j ∧ j < f + k ∧ j < n then t.getD (j - f).toNat 0 else fb j
 | 0, j => by rw [if_neg (by omega)]; rfl
 | k + 1, j => by
  have ih := noteB_at fb t f n k j;unfold noteB
  by_cases h1 : f + k < n
  ·rw [if_pos h1]
   unfold putI
   by_cases e : j = f + k
   ·rw [if_pos e, if_pos (by omega), show (j - f).toNat = k by omega]
   ·rw [if_neg e, ih]
    by_cases h2 : f ≤ j ∧ j < f + k ∧ j < n
    ·rw [if_pos h2, if_pos (by omega)]
    ·rw [if_neg h2, if_neg (by omega)]
  ·rw [if_neg h1, ih]
   by_cases h2 : f ≤ j ∧ j < f + k ∧ j < n
   ·rw [if_pos h2, if_pos (by omega)]
   ·rw [if_neg h2, if_neg (by omega)]
theorem FB.row {K : Nat} {im : Img} {z : List Int} {fb : Int → Int} {c : Nat} {f : Int} {t : List Int} (h : FB K im z fb c) (hf : f = (c : Int)) (hr : ∀ j : Nat, c ≤ j → j < c + 32 → blkP im z j = t.getD (j - c) 0) : FB K im z (noteB fb t f K 32) (c + 32) := fun j hj => by
 rw [noteB_at, hf]
 by_cases h1 : c ≤ j
 ·by_cases h2 : j < c + 32
  ·rw [if_pos (by omega), if_pos h2, hr j h1 h2, show ((j : Int) - (c : Int)).toNat = j - c by omega]
  ·rw [if_neg (by omega), if_neg h2, h j hj, if_neg (by omega)]
 ·rw [if_neg (by omega), h j hj, if_pos (by omega), if_pos (by omega)]
theorem FB.skip {K : Nat} {im : Img} {z : List Int} {fb : Int → Int} {c : Nat} (h : FB K im z fb c) (hr : ∀ j : Nat, c ≤ j → j < c + 32 → blkP im z j = 0) : FB K im z fb (c + 32) := fun j hj => by
 rw [h j hj]
 by_cases h1 : j < c
 ·rw [if_pos h1, if_pos (by omega)]
 ·rw [if_neg h1]
  by_cases h2 : j < c + 32
  ·rw [if_pos h2, hr j (by omega) h2]
  ·rw [if_neg h2]
theorem blk_sin {im : Img} {z : List Int} {j : Nat} (h1 : 12 ≤ j) (h2 : j < 44) : blkP im z j = if z.getD 16 0 = 0 then 0 else (ptrsTo (secI im (z.getD 16 0)) 32).getD (j - 12) 0 := by
 unfold blkP;rw [if_neg (by omega), if_pos h2]
theorem blk_dbl {im : Img} {z : List Int} {j : Nat} (h1 : 44 ≤ j) : blkP im z j = if z.getD 17 0 = 0 then 0 else if (ptrsTo (secI im (z.getD 17 0)) 32).getD ((j - 44) / 32) 0 = 0 then 0 else (ptrsTo (secI im ((ptrsTo (secI im (z.getD 17 0)) 32).getD ((j - 44) / 32) 0)) 32).getD ((j - 44) % 32) 0 := by
 unfold blkP;rw [if_neg (by omega), if_neg (by omega)]
def FolPost (im : Img) (i : Int) (z : List Int) (w : World) (e : Ending) (w' : World) : Prop := ∃ v gb K fb, e = .returned (.tuple #[v, .slice (some ⟨gb, 0, none⟩) K K]) ∧ PtOwn w' w.heap.size v (folL im i z) ∧ NAt w' gb K fb ∧ Chg w w' No ∧ (K : Int) = cntZ z ∧ ∀ j : Nat, j < K → fb (j : Int) = blkP im z j
set_option maxHeartbeats 4000000 in
set_option maxRecDepth 100000 in
theorem follow_any (ia : Option Addr) (ic : Nat) (im : Img) (i : Nat) (w : World) (h : ImgAt w ia im) (hi : i < im.length) (hk : FolOk im (zI im (i : Int))) :
  Calls Tryz.prog 11 #[.slice ia im.length ic, .int .i64 i] w (FolPost im (i : Int) (zI im (i : Int)) w) := by
 have hzi := zero_inode;have hzp := zero_ptrs
 obtain ⟨b, o, hia, hb', hrg⟩ : ∃ b o, ia = some ⟨b, o, none⟩ ∧ b < w.heap.size ∧ ∀ (j : Nat) s, im[j]? = some s → w.rangeAt b (o + j * 128) (s.map (Value.int .u8)) := by
  rcases h.2 with e | e
  ·rw [e] at hi; simp at hi
  ·exact e
 have HRg : Hid (∀ W, Chg w W No → ∀ m : Nat, m < im.length → W.rangeAt b (o + m * 128) ((secI im (m : Int)).map (Value.int .u8))) := hid (fun W hW m hm j x hx => cell_keep (hrg m _ (getD_at hm) j x hx) hW hb' (fun e => e));have HSec : Hid (∀ j, IsSec (secI im j)) := hid h.secI;have HI := hid h;have hRI := rinode_c (secI im (i : Int)) (h.secI _) w
 have HRow : Hid (∀ (W : World) (at_ : Int) (f : Int) (g bn : Nat) (fb : Int → Int), Chg w W No → 0 ≤ at_ ∧ at_ < im.length → 0 ≤ f ∧ f ≤ 2000 → NAt W g bn fb → bn ≤ 2000 → Calls Tryz.prog 28 #[.slice ia im.length ic, .int .i64 at_, .int .i64 f, .slice (some ⟨g, 0, none⟩) bn bn] W fun e w' => ∃ v, e = .returned v ∧ PtOwn w' W.heap.size v (rowP at_ (ptrsTo (secI im at_) 32) 32) ∧ NAt w' g bn (noteB fb (ptrsTo (secI im at_) 32) f bn 32) ∧ Chg W w' (· = g)) := hid (fun W p f g bn fb hW ha hf hb hbn => by
  obtain ⟨at_, rfl⟩ : ∃ at_ : Nat, p = (at_ : Int) := ⟨p.toNat, by omega⟩;refine (lrow_any ia ic im at_ f g bn bn fb W (HI.out.keep hW (fun _ _ e => e)) (by omega) hf hb hbn).mono ?_
  rintro e w' ⟨v, rfl, h1, h2, h3⟩
  exact ⟨v, rfl, h1, h2, h3⟩)
 subst hia;obtain ⟨z, hz⟩ : ∃ y, y = zI im (i : Int) := ⟨_, rfl⟩;have HZe : Hid ((rdIno (zTo (secI im (i : Int)) 18) (secI im (i : Int))).1 = z) := hid (by rw [hz]; rfl);rw [← hz] at hk ⊢;rw [HZe.out] at hRI;obtain ⟨er, her⟩ : ∃ y, y = (rdIno (zTo (secI im (i : Int)) 18) (secI im (i : Int))).2 := ⟨_, rfl⟩;rw [← her] at hRI;have HR0 := hid (HRg.out w (Chg.refl _ _) i hi);have HS0 := hid (HSec.out (i : Int)).1;obtain ⟨K, hK⟩ : ∃ K : Nat, (K : Int) = (z.getD 2 0 + 127) / 128 := ⟨((z.getD 2 0 + 127) / 128).toNat, by have := hk.s0; omega⟩
 have hK2 : K ≤ 1068 := by have := hk.s1; omega
 have HKe : Hid ((K : Int) = cntZ z) := hid hK;have hmk := make_ints K (by omega)
 have hdv : (z.getD 2 0 + 127).tdiv 128 = (K : Int) := by rw [Int.tdiv_eq_ediv_of_nonneg (by have := hk.s0; omega), hK]
 obtain ⟨n, hn⟩ : ∃ y, y = im.length := ⟨_, rfl⟩;have HN := hid hn;rw [← hn] at hi HRg HRow ⊢;have HK := hid hk;have HL : Hid (z.length = 18) := hid hk.len
 have i0 : (0 : Int) ≤ (i : Int) := by omega
 have i1 : (i : Int) < (n : Int) := by omega
 have K9 : (K : Int) ≤ 1068 := by omega
 have s0 := hk.s0;have s1 := hk.s1;obtain ⟨sk, hsk⟩ : ∃ y, y = secI im (i : Int) := ⟨_, rfl⟩;rw [← hsk] at hRI HR0 HS0;clear h hrg hz her hb' hn hk hK hsk HZe
 go_enter Tryz.func11, Tryz.ntmps11
 go_upto_region 2 with (first
  | (refine load_mid 36 _ rfl b (o + i * 128) rfl _ _ HR0.out Tryz.underlying36 rfl (by rw [sz26, List.length_map, HS0.out]) (by rfl) ?_)
  | (go_at_call 10; go_must (refine hRI.mono ?_; rintro e w1 ⟨rfl, hc1⟩))
  | (refine store_R rfl 39 _ _ rfl w1.heap.size (NA z) rfl rfl 39 _ (heap_alloc_new _ _) (by rw [szI, NA_size, HL.out]) (by rw [NA_size, NA_size, HL.out]; rfl) (NA_one _) ?_; intro w2 hw2)
  | fail)
 have h02 : Chg w w2 No := (hc1.trans (Chg.alloc w1 _ No) (c := No) (fun _ _ e => e) (fun _ _ e => e)).trans (putR_chg hw2) (fun _ _ e => e) (fun j hj e => by have := hc1.size; omega);have HG2 := hid hw2.here;obtain ⟨gi, hgi⟩ : ∃ y, y = w1.heap.size := ⟨_, rfl⟩;rw [← hgi] at HG2 ⊢;have q2 := row_cell HG2.out 2 (by rw [HL.out]; omega);have G0 : Hid (FO w (w2.alloc (.cells (TA K) 3)) gi w2.heap.size K z (fun _ => 0) (.slice none 0 0) (dirP12 i z 0)) := hid
  ⟨(Chg.alloc w2 _ No).keep HG2.out (fun e => e), nat_made w2 K, World.ownsRow_nil _ _ _ _, h02.trans (Chg.alloc w2 _ No) (fun _ _ e => e) (fun _ _ e => e), h02.size⟩
 obtain ⟨gb, hgb⟩ : ∃ y, y = w2.heap.size := ⟨_, rfl⟩
 generalize z.getD 2 0 = sz at *
 clear hgi hw2 hc1 h02 hRI HR0 HS0 hzi
 go_wp2_with fail
 rw [← hgb] at G0 ⊢;clear hgb q2 hdv s0 s1 hmk
 go_loopw [10, 11] (fun x10 x11 wr => ∃ (k : Nat) (vv : Value) (fb : Int → Int), vv = x10 ∧ k ≤ 12 ∧ x11 = .int .i64 k ∧ Hid (FO w wr gi gb K z fb vv (dirP12 i z k)) ∧ Hid (FB K im z fb k)) (fun _ x11 _ => 12 - (intOf x11).toNat)
 case atStart => exact ⟨0, _, _, rfl, by omega, rfl, G0, hid (FB.zero _ _ _)⟩
 case round =>
  obtain ⟨k, vv, fb, rfl, hk, rfl, HV, HFb⟩ := hrel;clear G0
  by_cases hlt : k < 12
  ·have j0 : (0 : Int) ≤ (k : Int) := by omega
   have j1 : (k : Int) < 12 := by omega
   have q := row_cell HV.out.i (4 + k) (by rw [HL.out]; omega);obtain ⟨y, hy⟩ : ∃ y, y = z.getD (4 + k) 0 := ⟨_, rfl⟩;rw [← hy] at q;have HP : Hid (dirP12 i z (k + 1) = dirP12 i z k ++ [((i : Int), (k : Int), y)]) := hid (by rw [dirP12_succ, hy]);have HRl : Hid ((dirP12 i z k).length ≤ 1000000) := hid (by unfold dirP12; simp; omega);have HY := hid hy;have HFn : Hid (FB K im z (putI fb (k : Int) y) (k + 1)) := hid (by rw [hy]; exact HFb.out.dir hlt);clear hy;have e0 : (wr.alloc (.cells #[.int .i64 i, .int .i64 k, .int .i64 y] 46)).cell? ⟨wr.heap.size, 0, none⟩ = some (.int .i64 i) := (cell_of_row _ _ _ _ _ _ (heap_alloc_new wr _)).trans rfl;have e1 : (wr.alloc (.cells #[.int .i64 i, .int .i64 k, .int .i64 y] 46)).cell? ⟨wr.heap.size, 1, none⟩ = some (.int .i64 k) := (cell_of_row _ _ _ _ _ _ (heap_alloc_new wr _)).trans rfl;have e2 : (wr.alloc (.cells #[.int .i64 i, .int .i64 k, .int .i64 y] 46)).cell? ⟨wr.heap.size, 2, none⟩ = some (.int .i64 y) := (cell_of_row _ _ _ _ _ _ (heap_alloc_new wr _)).trans rfl;have HV1 := hid (HV.out.step (Chg.alloc wr (.cells #[.int .i64 i, .int .i64 k, .int .i64 y] 46) No));have HB1 : Hid (w.heap.size ≤ (wr.alloc (.cells #[.int .i64 i, .int .i64 k, .int .i64 y] 46)).heap.size) := hid HV1.out.ch.size
   go_upto_region 9 with (first
    | (at_builtin; go_must (refine wp_appPt rfl _ _ rfl w.heap.size wr.heap.size 1 vv _ ((i : Int), (k : Int), y) rfl rfl HV1.out.o e0 e1 e2 HRl.out HB1.out ?_; intro v' w7 hO7 hc7))
    | fail)
   have HV7 : Hid (FO w w7 gi gb K z fb v' (dirP12 i z (k + 1))) := hid (by rw [HP.out]; exact HV1.out.more hO7 hc7)
   have q7 : w7.cell? ⟨gi, 4 + k, none⟩ = some (.int .i64 y) := by
    rw [row_cell HV7.out.i (4 + k) (by rw [HL.out]; omega), HY.out]
   clear q hO7 hc7 e0 e1 e2 HV HV1 HB1 HP HY
   by_cases hkK : k < K
   ·have f1 : (k : Int) < (K : Int) := by omega
    obtain ⟨d1, d2⟩ := HV7.out.b.cell hkK;have HVn : Hid (FO w (w7.setCell ⟨gb, k, none⟩ (.int .i64 y)) gi gb K z (putI fb (k : Int) y) v' (dirP12 i z (k + 1))) := hid (HV7.out.noted (HV7.out.b.put hkK y) Chg.setCell)
    go_wp2_with fail
    exact ⟨⟨k + 1, v', _, rfl, by omega, by go_num, HVn, HFn⟩, by simp [intOf]; omega⟩
   ·have f1 : ¬ (k : Int) < (K : Int) := by omega
    go_wp2_with fail
    exact ⟨⟨k + 1, v', _, rfl, by omega, by go_num, HV7, hid (HFb.out.out (by omega) (by omega))⟩, by simp [intOf]; omega⟩
  ·have j1 : ¬ (k : Int) < 12 := by omega
   obtain rfl : k = 12 := by omega
   obtain ⟨p16, hp16⟩ : ∃ y, y = z.getD 16 0 := ⟨_, rfl⟩;obtain ⟨p17, hp17⟩ : ∃ y, y = z.getD 17 0 := ⟨_, rfl⟩;have q16 := row_cell HV.out.i 16 (by rw [HL.out]; omega);have q17 := row_cell HV.out.i 17 (by rw [HL.out]; omega);rw [← hp16] at q16;rw [← hp17] at q17;have H16 := hid hp16;have H17 := hid hp17;clear hp16 hp17;obtain ⟨L1, hL1⟩ : ∃ y, y = dirP12 i z 12 ++ [((i : Int), (12 : Int), p16), ((i : Int), (13 : Int), p17)] := ⟨_, rfl⟩;have HL1 := hid hL1;have HL1n : Hid (L1.length = 14) := hid (by rw [hL1]; unfold dirP12; simp);clear hL1;have hbk := heap_alloc_new wr (.cells (cellsPt [((i : Int), (12 : Int), p16), ((i : Int), (13 : Int), p17)]).toArray 46);have HBk := hid hbk;have HV1 := hid (HV.out.step (Chg.alloc wr (.cells (cellsPt [((i : Int), (12 : Int), p16), ((i : Int), (13 : Int), p17)]).toArray 46) No));have HB1 := hid HV1.out.ch.size;have HRl : Hid ((dirP12 i z 12).length ≤ 1000000) := hid (by unfold dirP12; simp);clear hbk
   go_upto_if 65 with (first
    | (at_builtin; go_must (refine wp_appPt2 rfl _ _ rfl w.heap.size wr.heap.size 2 vv _ ((i : Int), (12 : Int), p16) ((i : Int), (13 : Int), p17) rfl rfl HV1.out.o HBk.out HRl.out HB1.out ?_; intro v' w7 hO7 hc7; have q16 := (row_cell (HV1.out.more hO7 hc7).i 16 (by rw [HL.out]; omega)).trans (congrArg (fun x => some (Value.int .i64 x)) H16.out.symm)))
    | fail)
   have HV7 : Hid (FO w w7 gi gb K z fb v' L1) := hid (by rw [HL1.out]; exact HV1.out.more hO7 hc7);clear hO7 hc7 HV HV1 HB1 HBk HRl q17
   go_cut [10] (fun x10 wz => ∃ fb', Hid (FO w wz gi gb K z fb' x10 (L1 ++ sinP im p16)) ∧ Hid (FB K im z fb' (12 + 32)))
   case first =>
    by_cases h16 : p16 = 0
    ·have HFs : Hid (FB K im z fb (12 + 32)) := hid (HFb.out.skip (fun j h1 h2 => by rw [blk_sin h1 (by omega), if_pos (by rw [← H16.out]; exact h16)]))
     subst h16;have HE : Hid (FO w w7 gi gb K z fb v' (L1 ++ sinP im 0)) := hid (by unfold sinP; rw [if_pos rfl, List.append_nil]; exact HV7.out)
     go_wp2_with fail
     go_meet
     case rel => exact ⟨fb, HE, HFs⟩
    ·have h16b : (p16 == 0) = false := beq_eq_false_iff_ne.2 h16
     have h16c : decide (p16 = 0) = false := decide_eq_false h16
     have h16d : (p16 != 0) = true := by simpa using h16
     have hm : 0 ≤ p16 ∧ p16 < n := by have := HK.out.o16 (by rw [← H16.out]; exact h16); rw [← H16.out, ← HN.out] at this; exact this
     have hRw := HRow.out w7 p16 12 gb K fb HV7.out.ch hm (by omega) HV7.out.b (by omega);have HSn : Hid (sinP im p16 = rowP p16 (ptrsTo (secI im p16) 32) 32) := hid (by unfold sinP; rw [if_neg h16]);have HRn : Hid (rowP p16 (ptrsTo (secI im p16) 32) 32 ≠ [] ∧ (rowP p16 (ptrsTo (secI im p16) 32) 32).length ≤ 1000000) := hid ⟨by unfold rowP; simp, by unfold rowP; simp⟩;have HLl : Hid (L1.length ≤ 1000000) := hid (by rw [HL1n.out]; omega);have HFs : Hid (FB K im z (noteB fb (ptrsTo (secI im p16) 32) 12 K 32) (12 + 32)) := hid (HFb.out.row rfl (fun j h1 h2 => by rw [blk_sin h1 (by omega), if_neg (by rw [← H16.out]; exact h16), ← H16.out]))
     generalize rowP p16 (ptrsTo (secI im p16) 32) 32 = Rw at *
     generalize noteB fb (ptrsTo (secI im p16) 32) 12 K 32 = fb8 at *
     clear h16 hm
     go_wp2_with (first
      | (go_at_call 28; go_must (refine hRw.mono ?_; rintro e w8 ⟨v8, rfl, hO8, hb8, hc8⟩; have HV8 := hid (HV7.out.noted hb8 hc8)))
      | (at_builtin; go_must (refine wp_appPts rfl _ _ rfl w.heap.size w7.heap.size v' v8 L1 Rw rfl rfl HV8.out.o hO8 HRn.out.1 HLl.out HRn.out.2 HV8.out.ch.size ?_; intro v9 w9 hO9 hc9))
      | fail)
     go_meet
     case rel => exact ⟨fb8, hid (by rw [HSn.out]; exact HV8.out.more hO9 hc9), HFs⟩
   case rest =>
    obtain ⟨fb2, HV2, HF2⟩ := hcut;obtain ⟨w8, hw8⟩ : ∃ x : World, x = wc := ⟨_, rfl⟩;rw [← hw8] at HV2 ⊢;clear hw8 wc HV7 q16;obtain ⟨L2, hL2⟩ : ∃ y, y = L1 ++ sinP im p16 := ⟨_, rfl⟩;rw [← hL2] at HV2;have HL2 := hid hL2
    have HL2n : Hid (L2.length ≤ 46) := hid (by
     rw [hL2, List.length_append, HL1n.out];unfold sinP rowP
     split <;> simp)
    clear hL2;have q17 := row_cell HV2.out.i 17 (by rw [HL.out]; omega);rw [← H17.out] at q17
    by_cases h17 : p17 = 0
    ·have HF : Hid (folL im (i : Int) z = L2) := hid (by
      unfold folL
      rw [← H16.out, ← H17.out, if_pos h17, List.append_nil, HL2.out, HL1.out])
     have HFe : Hid (∀ j : Nat, j < K → fb2 (j : Int) = blkP im z j) := hid (fun j hj => by
      rw [HF2.out j hj]
      by_cases e : j < 12 + 32
      ·rw [if_pos e]
      ·rw [if_neg e, blk_dbl (by omega), if_pos (by rw [← H17.out]; exact h17)])
     subst h17
     go_wp2_with fail
     go_ret2
     exact ⟨_, gb, K, fb2, rfl, by rw [HF.out]; exact HV2.out.o, HV2.out.b, HV2.out.ch, HKe.out, HFe.out⟩
    ·have h17b : (p17 == 0) = false := beq_eq_false_iff_ne.2 h17
     have h17c : decide (p17 = 0) = false := decide_eq_false h17
     have h17d : (p17 != 0) = true := by simpa using h17
     have hm : 0 ≤ p17 ∧ p17 < n := by have := HK.out.o17 (by rw [← H17.out]; exact h17); rw [← H17.out, ← HN.out] at this; exact this
     obtain ⟨m0, m1⟩ := hm
     have HT8 : Hid (∀ a, a < 32 → (ptrsTo (secI im p17) 32).getD a 0 ≠ 0 → 0 ≤ (ptrsTo (secI im p17) 32).getD a 0 ∧ (ptrsTo (secI im p17) 32).getD a 0 < n) := hid (by
      have := HK.out.o18 (by rw [← H17.out]; exact h17);rw [← H17.out, ← HN.out] at this
      exact this)
     have HF : Hid (folL im (i : Int) z = L2 ++ dblP im p17 (ptrsTo (secI im p17) 32) 32) := hid (by
      unfold folL
      rw [← H16.out, ← H17.out, if_neg h17, HL2.out, HL1.out])
     have HR8 := hid (HRg.out w8 HV2.out.ch p17.toNat (by omega));rw [show ((p17.toNat : Nat) : Int) = p17 by omega] at HR8;have hRP := rptrs_c (secI im p17) (HSec.out p17) w8;have HS8 := hid (HSec.out p17).1;obtain ⟨t, ht⟩ : ∃ y, y = ptrsTo (secI im p17) 32 := ⟨_, rfl⟩;have HTe : Hid (∀ j : Nat, 44 ≤ j → blkP im z j = if t.getD ((j - 44) / 32) 0 = 0 then 0 else (ptrsTo (secI im (t.getD ((j - 44) / 32) 0)) 32).getD ((j - 44) % 32) 0) := hid (fun j hj => by rw [blk_dbl hj, ← H17.out, if_neg h17, ← ht]);have HTl : Hid (t.length = 32) := hid (by rw [ht]; exact ptrsTo_len _ _);rw [← ht] at hRP HT8 HF;obtain ⟨s8, hs8⟩ : ∃ y, y = secI im p17 := ⟨_, rfl⟩;rw [← hs8] at HR8 hRP HS8;clear ht hs8 h17
     go_upto_region 16 with (first
      | (refine load_mid 36 _ rfl b (o + p17.toNat * 128) rfl _ _ HR8.out Tryz.underlying36 rfl (by rw [sz26, List.length_map, HS8.out]) (by rfl) ?_)
      | (go_at_call 29; go_must (refine hRP.mono ?_; rintro e w9 ⟨rfl, hc9⟩))
      | (refine store_R rfl 78 _ _ rfl w9.heap.size (NA t) rfl rfl 78 _ (heap_alloc_new _ _) (by rw [szP, NA_size, HTl.out]) (by rw [NA_size, NA_size, HTl.out]; rfl) (NA_one _) ?_; intro w10 hw10)
      | fail)
     have h810 : Chg w8 w10 No := (hc9.trans (Chg.alloc w9 _ No) (c := No) (fun _ _ e => e) (fun _ _ e => e)).trans (putR_chg hw10) (fun _ _ e => e) (fun j hj e => by have := hc9.size; omega);have HG10 := hid hw10.here;obtain ⟨gt, hgt⟩ : ∃ y, y = w9.heap.size := ⟨_, rfl⟩;rw [← hgt] at HG10 ⊢
     have G10 : Hid (FO w w10 gi gb K z fb2 u10 (L2 ++ dblP im p17 t 0)) := hid (by
      show FO w w10 gi gb K z fb2 u10 (L2 ++ [])
      rw [List.append_nil]
      exact HV2.out.step h810)
     have HGw : Hid (w.heap.size ≤ gt) := hid (by rw [hgt]; have := HV2.out.ch.size; have := hc9.size; omega);clear hgt hw10 hc9 h810 hRP HR8 HS8 HV2 q17
     go_wp2_with fail
     go_loopw [10, 13] (fun x10 x13 wr => ∃ (k : Nat) (vv : Value) (fb : Int → Int), vv = x10 ∧ k ≤ 32 ∧ x13 = .int .i64 k ∧ Hid (FO w wr gi gb K z fb vv (L2 ++ dblP im p17 t k)) ∧ Hid (wr.heap[gt]? = some (.cells (NA t) 78 (0, 0))) ∧ Hid (FB K im z fb (44 + 32 * k))) (fun _ x13 _ => 32 - (intOf x13).toNat)
     case atStart => exact ⟨0, _, _, rfl, by omega, rfl, G10, HG10, HF2⟩
     case round =>
      obtain ⟨k, vv, fb, rfl, hk, rfl, HV, HG, HFk⟩ := hrel;clear G10 HG10
      by_cases hlt : k < 32
      ·have j0 : (0 : Int) ≤ (k : Int) := by omega
       have j1 : (k : Int) < 32 := by omega
       obtain ⟨y, hy⟩ : ∃ y, y = t.getD k 0 := ⟨_, rfl⟩;have HY := hid hy;have HD : Hid (dblP im p17 t (k + 1) = dblP im p17 t k ++ [(p17, (k : Int), y)] ++ sinP im y) := hid (by rw [hy]; rfl);have HTy := hid (HT8.out k hlt);rw [← hy] at HTy;clear hy
       have HLn : Hid ((L2 ++ dblP im p17 t k).length ≤ 100000) := hid (by
        have := dblP_len im p17 t k;rw [List.length_append];have := HL2n.out
        omega)
       have HNo : Hid (∀ (x : Obj) (j : Nat), wr.heap[j]? = some x → (∀ A, x ≠ .cells A 46 (0, 0)) → ¬ vv.ownBlock = some j) := hid (fun x j hj hx e => by
        obtain ⟨_, A, hA⟩ := HV.out.o.blk e;rw [hj] at hA
        exact hx A (Option.some.inj hA))
       have HQi : Hid (∀ W', Chg wr W' (fun j => vv.ownBlock = some j) → W'.cell? ⟨gi, 17, none⟩ = some (.int .i64 p17)) := hid (fun W' hW => by
        rw [row_cell (hW.keep HV.out.i (HNo.out _ _ HV.out.i fun A e => (by cases e))) 17 (by rw [HL.out]; omega), H17.out])
       have HQt : Hid (∀ W', Chg wr W' (fun j => vv.ownBlock = some j) → W'.cell? ⟨gt, k, none⟩ = some (.int .i64 y)) := hid (fun W' hW => by
        rw [row_cell (hW.keep HG.out (HNo.out _ _ HG.out fun A e => (by cases e))) k (by rw [HTl.out]; exact hlt), HY.out])
       go_upto_region 19 with fail
       refine wp_region_noPanic ?_;refine wp_region_held_drew (S := fun w' => Chg wr w' (fun j => vv.ownBlock = some j)) (by kernel_rfl) (Chg.refl _ _).drew (fun hH => ?_);refine tV 0 86 (vv) rfl (by kernel_rfl) rfl (by rfl) hH (fun W' hw' => rfl) ?_;simp only [sS];refine tV 1 87 (.pointer (some ⟨gi, 17, none⟩)) rfl (by kernel_rfl) rfl (by rfl) hH (fun W' hw' => by go_simp) ?_;simp only [sS];refine tV 2 88 (.int .i64 p17) rfl (by kernel_rfl) rfl (by rfl) hH (fun W' hw' => by have hc := HQi.out W' hw'; go_simp) ?_;simp only [sS];refine tV 3 89 (.int .i64 (k : Int)) rfl (by kernel_rfl) rfl (by rfl) hH (fun W' hw' => rfl) ?_;simp only [sS];refine tV 4 90 (.int .i64 (k : Int)) rfl (by kernel_rfl) rfl (by rfl) hH (fun W' hw' => rfl) ?_;simp only [sS];refine tV 5 91 (.pointer (some ⟨gt, k, none⟩)) rfl (by kernel_rfl) rfl (by rfl) hH (fun W' hw' => by go_simp) ?_;simp only [sS];refine tV 6 92 (.int .i64 y) rfl (by kernel_rfl) rfl (by rfl) hH (fun W' hw' => by have hc := HQt.out W' hw'; go_simp) ?_;simp only [sS];refine tV 7 93 (.agg #[.int .i64 p17, .int .i64 k, .int .i64 y]) rfl (by kernel_rfl) rfl (by rfl) hH (fun W' hw' => by go_simp) ?_;simp only [sS];obtain ⟨W, hW⟩ : ∃ W, W = wr.drew := ⟨_, rfl⟩;have HVd : Hid (FO w W gi gb K z fb vv (L2 ++ dblP im p17 t k)) := hid (by rw [hW]; exact HV.out.step (Chg.refl _ _).drew);rw [← hW] at hH ⊢;clear hW;refine step1 8 (by kernel_rfl) ?_;refine stNew 8 94 (.slice (some ⟨W.heap.size, 0, none⟩) 1 1) (.cells (cellsPt [(p17, (k : Int), y)]).toArray 46) rfl rfl (by rfl) (by unfold cellsPt; go_simp) ?_;have hH1 : Chg wr (W.alloc (.cells (cellsPt [(p17, (k : Int), y)]).toArray 46)) (fun j => vv.ownBlock = some j) := hH.trans (Chg.alloc W _ No) (fun _ _ e => e) (fun _ _ e => e.elim);refine ⟨hH1, ?_⟩;simp only [sS];have HV1 := hid (HVd.out.step (Chg.alloc W (.cells (cellsPt [(p17, (k : Int), y)]).toArray 46) No));refine step1 9 (by kernel_rfl) ?_;refine stAppPt 9 95 rfl rfl (by rfl) (.tmp 86) (.tmp 94) rfl w.heap.size W.heap.size 1 vv _ (p17, (k : Int), y) rfl rfl HV1.out.o (heap_alloc_new _ _) (by have := HLn.out; omega) HV1.out.ch.size ?_
       intro v' w7 hO7 hc7
       have hH7 : Chg wr w7 (fun j => vv.ownBlock = some j) := hH1.trans hc7 (fun _ _ e => e) (fun _ _ e => e);have HV7 := hid (HV1.out.more hO7 hc7);refine ⟨hH7, ?_⟩;simp only [sS];refine tV 10 10 (v') rfl (by kernel_rfl) rfl (by rfl) hH7 (fun W' hw' => rfl) ?_;simp only [sS];refine wpAnyH_done (by kernel_rfl) ?_ _;refine NoPanic.normal ?_;have q7 := HQt.out w7 hH7;have HG7 := hid (hH7.keep HG.out (HNo.out _ _ HG.out fun A e => (by cases e)));clear hH hH1 hH7 hO7 hc7 HV HV1 HVd HG HQi HQt HNo
       by_cases hy0 : y = 0
       ·have HFs : Hid (FB K im z fb (44 + 32 * (k + 1))) := hid (HFk.out.skip (fun j h1 h2 => by rw [HTe.out j (by omega), show (j - 44) / 32 = k by omega, if_pos (by rw [← HY.out]; exact hy0)]))
        subst hy0
        have HVn : Hid (FO w w7 gi gb K z fb v' (L2 ++ dblP im p17 t (k + 1))) := hid (by
         rw [HD.out];unfold sinP;rw [if_pos rfl, List.append_nil, ← List.append_assoc]
         exact HV7.out)
        go_wp2_with fail
        exact ⟨⟨k + 1, v', fb, rfl, by omega, by go_num, HVn, HG7, HFs⟩, by simp [intOf]; omega⟩
       ·have hyb : (y == 0) = false := beq_eq_false_iff_ne.2 hy0
        have hyc : decide (y = 0) = false := decide_eq_false hy0
        have hyd : (y != 0) = true := by simpa using hy0
        have hRw := HRow.out w7 y (44 + 32 * (k : Int)) gb K fb HV7.out.ch (HTy.out hy0) (by omega) HV7.out.b (by omega);have HSn : Hid (sinP im y = rowP y (ptrsTo (secI im y) 32) 32) := hid (by unfold sinP; rw [if_neg hy0]);have HRn : Hid (rowP y (ptrsTo (secI im y) 32) 32 ≠ [] ∧ (rowP y (ptrsTo (secI im y) 32) 32).length ≤ 1000000) := hid ⟨by unfold rowP; simp, by unfold rowP; simp⟩;have HLl : Hid ((L2 ++ dblP im p17 t k ++ [(p17, (k : Int), y)]).length ≤ 1000000) := hid (by rw [List.length_append]; have := HLn.out; have h3 : ([(p17, (k : Int), y)] : List Pt).length = 1 := rfl; omega);have HFs : Hid (FB K im z (noteB fb (ptrsTo (secI im y) 32) (44 + 32 * (k : Int)) K 32) (44 + 32 * (k + 1))) := hid (HFk.out.row (by omega) (fun j h1 h2 => by rw [HTe.out j (by omega), show (j - 44) / 32 = k by omega, if_neg (by rw [← HY.out]; exact hy0), ← HY.out, show (j - 44) % 32 = j - (44 + 32 * k) by omega]))
        generalize rowP y (ptrsTo (secI im y) 32) 32 = Rw at *
        generalize noteB fb (ptrsTo (secI im y) 32) (44 + 32 * (k : Int)) K 32 = fb8 at *
        clear hy0
        go_wp2_with (first
         | (go_at_call 28; go_must (refine hRw.mono ?_; rintro e w8 ⟨v8, rfl, hO8, hb8, hc8⟩; have HV8 := hid (HV7.out.noted hb8 hc8)))
         | (at_builtin; go_must (refine wp_appPts rfl _ _ rfl w.heap.size w7.heap.size v' v8 _ Rw rfl rfl HV8.out.o hO8 HRn.out.1 HLl.out HRn.out.2 HV8.out.ch.size ?_; intro v9 w9 hO9 hc9))
         | fail)
        have HVn : Hid (FO w w9 gi gb K z fb8 v9 (L2 ++ dblP im p17 t (k + 1))) := hid (by
         rw [HD.out, HSn.out, ← List.append_assoc, ← List.append_assoc]
         exact HV8.out.more hO9 hc9)
        have HG9 : Hid (w9.heap[gt]? = some (.cells (NA t) 78 (0, 0))) := hid (by
         obtain ⟨A, hA, _⟩ := HV7.out.b;have h8 := hc8.keep HG7.out (obj_ne HG7.out hA (by intro e; cases e));refine hc9.keep h8 (fun e => ?_);obtain ⟨_, C, hC⟩ := HV8.out.o.blk e;rw [h8] at hC
         cases hC)
        exact ⟨⟨k + 1, v9, fb8, rfl, by omega, by go_num, HVn, HG9, HFs⟩, by simp [intOf]; omega⟩
      ·have j1 : ¬ (k : Int) < 32 := by omega
       obtain rfl : k = 32 := by omega
       go_wp2_with fail
       go_ret2
       exact ⟨vv, gb, K, fb, rfl, by rw [HF.out]; exact HV.out.o, HV.out.b, HV.out.ch, HKe.out, fun j hj => by rw [HFk.out j hj, if_pos (by omega)]⟩
end Go.Proofs.YtpmignilhoihnabGreat

namespace Go.Proofs.YtpmignilhoihnabGreat
open Go.RowKit Go.Shelf

def tos (l : List Pt) : List Int := l.map fun y => y.2.2
theorem tos_app (a b : List Pt) : tos (a ++ b) = tos a ++ tos b := by simp [tos]
theorem mem_gB {t : List Int} {k : Nat} {n : Int} (hn : n ≠ 0) : n ∈ gRow gB t k ↔ ∃ j, j < k ∧ t.getD j 0 = n := by
 unfold gRow;rw [List.mem_flatMap]
 constructor
 ·rintro ⟨j, hj, q⟩
  split at q
  ·cases q
  ·exact ⟨j, List.mem_range.1 hj, (List.mem_singleton.1 q).symm⟩
 ·rintro ⟨j, hj, q⟩
  refine ⟨j, List.mem_range.2 hj, ?_⟩;rw [if_neg (by rw [q]; exact hn), q]
  exact List.mem_singleton.2 rfl
theorem mem_rowP {p : Int} {t : List Int} {k : Nat} {n : Int} : n ∈ tos (rowP p t k) ↔ ∃ j, j < k ∧ t.getD j 0 = n := by
 unfold tos rowP;rw [List.map_map]
 simp only [List.mem_map, List.mem_range, Function.comp]
theorem mem_sinP {im : Img} {p n : Int} (hn : n ≠ 0) : (n = p ∨ n ∈ tos (sinP im p)) ↔ n ∈ gZ (gT im gB) p := by
 unfold sinP gZ
 by_cases h0 : p = 0
 ·rw [if_pos h0, if_pos h0, h0]
  constructor
  ·rintro (q | q)
   ·exact absurd q hn
   ·cases q
  ·intro q; cases q
 ·rw [if_neg h0, if_neg h0]
  unfold gT;rw [List.mem_cons, mem_rowP, mem_gB hn]
theorem mem_dblP {im : Img} {p : Int} {t : List Int} {n : Int} (hn : n ≠ 0) : ∀ k, n ∈ tos (dblP im p t k) ↔ n ∈ gRow (gT im gB) t k
 | 0 => by simp [dblP, tos, gRow]
 | k + 1 => by
  have ih := mem_dblP (im := im) (p := p) (t := t) hn k;unfold dblP;rw [gRow_succ, tos_app, tos_app, List.mem_append, List.mem_append, List.mem_append, ih, or_assoc]
  have h1 : n ∈ tos [(p, (k : Int), t.getD k 0)] ↔ n = t.getD k 0 := by unfold tos; exact List.mem_singleton
  rw [h1, mem_sinP hn]
  rfl
theorem mem_dir {i : Int} {z : List Int} (hz : z.length = 18) {n : Int} (hn : n ≠ 0) : n ∈ tos (dirP12 i z 12) ↔ n ∈ gRow gB ((z.drop 4).take 12) 12 := by
 rw [mem_gB hn];unfold tos dirP12;rw [List.map_map]
 simp only [List.mem_map, List.mem_range, Function.comp]
 constructor
 ·rintro ⟨j, hj, q⟩
  exact ⟨j, hj, by rw [part_get hz hj]; exact q⟩
 ·rintro ⟨j, hj, q⟩
  exact ⟨j, hj, by rw [part_get hz hj] at q; exact q⟩
theorem mem_fol {im : Img} {i : Int} {z : List Int} (hz : z.length = 18) {n : Int} (hn : n ≠ 0) : n ∈ tos (folL im i z) ↔ n ∈ ptsZ im z := by
 unfold folL ptsZ;rw [tos_app, tos_app, tos_app, List.mem_append, List.mem_append, List.mem_append, List.mem_append, List.mem_append, mem_dir hz hn]
 have h2 : n ∈ tos [(i, 12, z.getD 16 0), (i, 13, z.getD 17 0)] ↔ n = z.getD 16 0 ∨ n = z.getD 17 0 := by
  unfold tos;rw [List.map_cons, List.map_cons, List.map_nil, List.mem_cons, List.mem_singleton]
 have h3 : n ∈ tos (if z.getD 17 0 = 0 then [] else dblP im (z.getD 17 0) (ptrsTo (secI im (z.getD 17 0)) 32) 32) ↔ z.getD 17 0 ≠ 0 ∧ n ∈ gRow (gT im gB) (ptrsTo (secI im (z.getD 17 0)) 32) 32 := by
  by_cases h0 : z.getD 17 0 = 0
  ·rw [if_pos h0]
   exact ⟨fun q => (by cases q), fun q => absurd h0 q.1⟩
  ·rw [if_neg h0, mem_dblP hn]
   exact ⟨fun q => ⟨h0, q⟩, fun q => q.2⟩
 have h4 : n ∈ gZ (gT im (gT im gB)) (z.getD 17 0) ↔ z.getD 17 0 ≠ 0 ∧ (n = z.getD 17 0 ∨ n ∈ gRow (gT im gB) (ptrsTo (secI im (z.getD 17 0)) 32) 32) := by
  unfold gZ
  by_cases h0 : z.getD 17 0 = 0
  ·rw [if_pos h0]
   exact ⟨fun q => (by cases q), fun q => absurd h0 q.1⟩
  ·rw [if_neg h0]
   unfold gT;rw [List.mem_cons]
   exact ⟨fun q => ⟨h0, q⟩, fun q => q.2⟩
 have h5 := mem_sinP (im := im) (p := z.getD 16 0) hn;rw [h2, h3, h4, ← h5]
 constructor
 ·rintro (((q | q | q) | q) | q)
  ·exact .inl (.inl q)
  ·exact .inl (.inr (.inl q))
  ·exact .inr ⟨fun e => hn (by rw [q, e]), .inl q⟩
  ·exact .inl (.inr (.inr q))
  ·exact .inr ⟨q.1, .inr q.2⟩
 ·rintro ((q | q | q) | ⟨q1, q | q⟩)
  ·exact .inl (.inl (.inl q))
  ·exact .inl (.inl (.inr (.inl q)))
  ·exact .inl (.inr q)
  ·exact .inl (.inl (.inr (.inr q)))
  ·exact .inr ⟨q1, q⟩
end Go.Proofs.YtpmignilhoihnabGreat
