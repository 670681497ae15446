/-
 The queue of directories: the first one taken, one put behind.
-/
import Derived.Test.YtpmignilhoihnabGreatC1
import Derived.ArgAppend
namespace Go.Proofs.YtpmignilhoihnabGreat
open Go.RowKit Go.Shelf

def LAt (w : World) (a : Option Addr) (l : List Int) : Prop := l = [] ∨ ∃ g, a = some ⟨g, 0, none⟩ ∧ (∃ A, w.heap[g]? = some (.cells A 3 (0, 0))) ∧ ∀ k, k < l.length → w.cell? ⟨g, k, none⟩ = some (.int .i64 (l.getD k 0))
theorem cell_keep {w w' : World} {g j : Nat} {v : Value} {ks : Nat → Prop} (h : w.cell? ⟨g, j, none⟩ = some v) (hc : Chg w w' ks) (hg : g < w.heap.size) (hn : ¬ ks g) : w'.cell? ⟨g, j, none⟩ = some v := by
 unfold World.cell? at h ⊢;rw [hc.block g hg hn]
 exact h
theorem LAt.keep {w w' : World} {a : Option Addr} {l : List Int} {ks : Nat → Prop} (h : LAt w a l) (hc : Chg w w' ks) (hn : ∀ g A, w.heap[g]? = some (.cells A 3 (0, 0)) → ¬ ks g) : LAt w' a l := by
 rcases h with h | ⟨g, rfl, ⟨A, hg⟩, h⟩
 ·exact .inl h
 ·exact .inr ⟨g, rfl, ⟨A, hc.keep hg (hn g A hg)⟩, fun j hj => cell_keep (h j hj) hc (slt hg) (hn g A hg)⟩
theorem LAt.call {w w' : World} {a : Option Addr} {l : List Int} (h : LAt w a l) (hc : Chg w w' No) : LAt w' a l := h.keep hc fun _ _ _ e => e

def QueV (w : World) (B : Nat) (v : Value) (xs : List Value) : Prop :=
 (v = .slice none 0 0 ∧ xs = []) ∨ ∃ g o cap cur, v = .slice (some ⟨g, o, none⟩) xs.length cap ∧ B ≤ g ∧ w.heap[g]? = some (.cells cur 24 (0, 0)) ∧ xs.length ≤ cap ∧ o + cap ≤ cur.size ∧ ∀ j x, xs[j]? = some x → cur[o + j]? = some x
theorem QueV.keep {w w' : World} {B : Nat} {v : Value} {xs : List Value} {ks : Nat → Prop} (h : QueV w B v xs) (hc : Chg w w' ks) (hn : ∀ g A, w.heap[g]? = some (.cells A 24 (0, 0)) → ¬ ks g) : QueV w' B v xs := by
 rcases h with h | ⟨g, o, cap, cur, rfl, hB, hw, r⟩
 ·exact .inl h
 ·exact .inr ⟨g, o, cap, cur, rfl, hB, hc.keep hw (hn g cur hw), r⟩
theorem QueV.shape {w : World} {B : Nat} {v x : Value} {xs : List Value} (h : QueV w B v (x :: xs)) : ∃ g o cap, v = .slice (some ⟨g, o, none⟩) (xs.length + 1) cap ∧ w.cell? ⟨g, o, none⟩ = some x ∧ xs.length + 1 ≤ cap := by
 rcases h with ⟨_, h⟩ | ⟨g, o, cap, cur, rfl, hB, hw, hq, hc, hx⟩
 ·cases h
 ·refine ⟨g, o, cap, rfl, ?_, hq⟩
  rw [cell_of_row _ _ _ _ _ _ hw]
  exact hx 0 x rfl
theorem QueV.pop {w : World} {B g o cap : Nat} {x : Value} {xs : List Value} (h : QueV w B (.slice (some ⟨g, o, none⟩) (xs.length + 1) cap) (x :: xs)) :
  QueV w B (.slice (if cap = 1 then some ⟨g, o, none⟩ else some ⟨g, o + 1, none⟩) xs.length (cap - 1)) xs := by
 rcases h with ⟨h, _⟩ | ⟨g', o', cap', cur, e, hB, hw, hq, hc, hx⟩
 ·cases h
 cases e
 simp at hq
 by_cases h1 : cap = 1
 ·rw [if_pos h1]
  refine .inr ⟨g, o, cap - 1, cur, rfl, hB, hw, by omega, by omega, fun j y hj => ?_⟩;have : xs = [] := List.eq_nil_of_length_eq_zero (by omega);subst this
  simp at hj
 ·rw [if_neg h1]
  refine .inr ⟨g, o + 1, cap - 1, cur, rfl, hB, hw, by omega, by omega, fun j y hj => ?_⟩;have := hx (j + 1) y (by simpa using hj);rw [show o + 1 + j = o + (j + 1) by omega]
  exact this
theorem infoSl : ∃ i, Tryz.prog.info? 24 = some i ∧ i.zero = some (.slice none 0 0) ∧ i.size = 1 ∧ i.bytes = 24 := by
 have h : (Tryz.prog.info? 24).map (fun i => (i.zero, i.size, i.bytes)) = some (some (.slice none 0 0), 1, 24) := by kernel_rfl
 cases hq : Tryz.prog.info? 24 with
 | none => rw [hq] at h; cases h
 | some i =>
  rw [hq] at h
  simp at h
  exact ⟨i, rfl, h.1, h.2.1, h.2.2⟩

section
variable {ops : Array Oper} {rest : List Oper} {o : Oper} {a : Act} {Q : Exit → Act → World → Prop} {w : World}
theorem wp_pushV (hg : o.guard = none) (s x : Operand) (hop : o.op = .call { callee := .builtin .append, args := #[s, x], argTypes := #[106, 106] }) (B h c : Nat) (v : Value) (xs : List Value) (y : Value) (hs : a.eval s = v) (hx : a.eval x = .slice (some ⟨h, 0, none⟩) 1 c)
  (hq : QueV w B v xs) (hat : w.cell? ⟨h, 0, none⟩ = some y) (hy : y.oneCell' = true) (hl : xs.length ≤ 1000000) (hB0 : B ≤ w.heap.size)
  (hK : ∀ v' w', QueV w' B v' (xs ++ [y]) → Chg w w' (fun k => v.ownBlock = some k) → wpList Tryz.prog ops Q rest (a.put o.dst v') w') : wpList Tryz.prog ops Q (o :: rest) a w := by
 obtain ⟨i, hi, hz, hsz, hby⟩ := infoSl
 have hnew : ∀ (w' : World) (v' : Value) (olds : List Value), olds = xs → w'.ownsRow w.heap.size 24 1 v' (olds.length + 1) (olds ++ [y]) → QueV w' B v' (xs ++ [y]) := by
  intro w' v' olds he h1
  subst he
  rcases h1.2 with ⟨_, h0⟩ | ⟨g2, cap2, cur2, rfl, hg2, hw2, k1, k2, k3, k4⟩
  ·omega
  ·refine .inr ⟨g2, 0, cap2, cur2, by simp, by omega, hw2, by simpa using k1, by omega, fun j z hj => ?_⟩
   have e : (cur2.toList.take ((olds.length + 1) * 1))[j]? = (olds ++ [y])[j]? := by rw [k4]
   have hlt : j < olds.length + 1 := by
    rcases Nat.lt_or_ge j (olds.length + 1) with c | c
    ·exact c
    ·rw [List.getElem?_eq_none (by simpa using c)] at hj; cases hj
   rw [List.getElem?_take, if_pos (by omega), Array.getElem?_toList, hj] at e;rw [Nat.zero_add]
   exact e
 rcases hq with ⟨rfl, rfl⟩ | ⟨g, of, cap, cur, rfl, hBg, hw, hqc, hcap, hcell⟩
 ·refine wpList_append_grows w hg s x 106 hop 24 i _ 1 24 Tryz.underlying106 hi hz hsz hby rfl (by decide) none 0 0 [] hs (fun _ => ⟨rfl, rfl⟩) rfl (fun b e => by cases e) ⟨h, 0, none⟩ 1 c [y] hx rfl (fun j u hj => ?_) (by simpa using hy) (by omega) (by unfold maxLen; omega) (by omega) (fun v' w' h1 h2 => ?_)
  ·cases j with
   | zero => simp at hj; subst hj; exact hat
   | succ j => simp at hj
  ·exact hK v' w' (hnew w' v' [] rfl h1) ((Chg.grown h2).mono fun j _ e => by cases e)
 have hget : ∀ j u, xs[j]? = some u → w.cell? ⟨g, of + j, none⟩ = some u := fun j u hj => by
  rw [cell_of_row _ _ _ _ _ _ hw]
  exact hcell j u hj
 refine wpList_append_arg w hg s x 106 hop 24 i _ 1 24 Tryz.underlying106 hi hz hsz hby rfl (by decide) g of xs.length cap xs hs (by simp) hget ⟨h, 0, none⟩ 1 c [y] hx rfl (fun j u hj => ?_) (by simpa using hy) (fun hr j hj => ?_) (by unfold maxLen; omega) (by omega) (fun hr => ?_) (fun hr v' w' h1 h2 => ?_)
 ·cases j with
  | zero => simp at hj; subst hj; exact hat
  | succ j => simp at hj
 ·have hj0 : j = 0 := by simpa using hj
  subst hj0;rw [cell_of_row _ _ _ _ _ _ hw];refine ⟨?_, frozen_of_row w g _ cur 24 hw⟩;rw [Array.getElem?_eq_getElem (by omega)]
  rfl
 ·refine hK _ _ (.inr ⟨g, of, cap, cur.setIfInBounds (of + xs.length * 1) y, by simp, hBg, ?_, by simp; omega, by simp; omega, fun j z hj => ?_⟩) ?_
  ·exact heap_setCell_same w g (of + xs.length * 1) cur 24 y hw
  ·by_cases hjq : j < xs.length
   ·rw [List.getElem?_append_left hjq] at hj
    rw [Array.getElem?_setIfInBounds_ne (by omega)]
    exact hcell j z hj
   ·rw [List.getElem?_append_right (by omega)] at hj
    have : j - xs.length = 0 := by
     rcases Nat.eq_zero_or_pos (j - xs.length) with k | k
     ·exact k
     ·rw [List.getElem?_eq_none (by simp; omega)] at hj; cases hj
    rw [this] at hj
    simp at hj
    subst hj;rw [show of + j = of + xs.length * 1 by omega];rw [Array.getElem?_setIfInBounds_self_of_lt (by omega)]
  ·exact Chg.setCell.mono fun j _ e => by rw [e]; rfl
 ·exact hK v' w' (hnew w' v' xs rfl h1) ((Chg.grown h2).mono fun j _ e => by cases e)
end
theorem run_popV {w : World} {g o L cap : Nat} (h1 : 1 ≤ L) : (Instr.sliceAt 106 (.slice (some ⟨g, o, none⟩) L cap) (some (.int .i64 1)) none none).run Tryz.prog w = .ok (.slice (if cap = 1 then some ⟨g, o, none⟩ else some ⟨g, o + 1, none⟩) (L - 1) (cap - 1)) w := by
 have ht : Tryz.prog.underlying 106 = some (.slice (Tryz.prog.elem 106)) := by kernel_rfl
 have he : ∀ w, (sizeOf (Tryz.prog.elem 106)).run Tryz.prog w = .ok 1 w := fun w => by kernel_rfl
 rw [run_sliceAt_slice _ _ _ _ _ _ ht, run_slice_l w 106 (some ⟨g, o, none⟩) L cap ht .i64 1 (by omega) (by omega), he w]
 simp only [Result.andThen_ok, sliced]
 rw [show (1 : Int).toNat = 1 from rfl]
 congr 2
section
variable {ops : Array Oper} {rest : List Oper} {o : Oper} {a : Act} {Q : Exit → Act → World → Prop} {w : World}
theorem wp_popV (hg : o.guard = none) (x : Operand) (hop : o.op = .slice 106 x (some (.const (.int .i64 1))) none none) (B g of L cap : Nat) (y : Value) (xs : List Value) (hx : a.eval x = .slice (some ⟨g, of, none⟩) L cap) (hL : L = xs.length + 1)
  (hq : QueV w B (.slice (some ⟨g, of, none⟩) (xs.length + 1) cap) (y :: xs)) (hK : ∀ v', v'.oneCell' = true → QueV w B v' xs → wpList Tryz.prog ops Q rest (a.put o.dst v') w) : wpList Tryz.prog ops Q (o :: rest) a w := by
 refine wpList_plain hg fun K' hK' => ?_
 have hrun := run_popV (w := w) (g := g) (o := of) (L := L) (cap := cap) (by omega);have hc : a.eval (.const (.int .i64 1)) = .int .i64 1 := rfl;unfold Oper.wp
 simp [execOp, hop, hx, hc, hrun, Result.andThen]
 have := hq.pop;rw [show L - 1 = xs.length by omega]
 exact hK' _ _ (hK _ rfl this)
end

def QAt (w : World) (B qb : Nat) (q : List (List Int)) : Prop :=
 B ≤ qb ∧ ∃ v xs, w.heap[qb]? = some (.cells #[v] 106 (0, 0)) ∧ QueV w B v xs ∧ xs.length = q.length ∧ ∀ (j : Nat) l, q[j]? = some l → ∃ aj cj, xs[j]? = some (.slice aj l.length cj) ∧ LAt w aj l
theorem QAt.keep {w w' : World} {B qb : Nat} {q : List (List Int)} {ks : Nat → Prop} (h : QAt w B qb q) (hc : Chg w w' ks) (hq : ¬ ks qb) (h1 : ∀ g A, w.heap[g]? = some (.cells A 24 (0, 0)) → ¬ ks g) (h2 : ∀ g A, w.heap[g]? = some (.cells A 3 (0, 0)) → ¬ ks g) : QAt w' B qb q := by
 obtain ⟨kB, v, xs, k1, k2, k3, k4⟩ := h;refine ⟨kB, v, xs, hc.keep k1 hq, k2.keep hc h1, k3, fun j l hj => ?_⟩;obtain ⟨aj, cj, e, hl⟩ := k4 j l hj
 exact ⟨aj, cj, e, hl.keep hc h2⟩
theorem QAt.call {w w' : World} {B qb : Nat} {q : List (List Int)} (h : QAt w B qb q) (hc : Chg w w' No) : QAt w' B qb q := h.keep hc (fun e => e) (fun _ _ _ e => e) (fun _ _ _ e => e)

def Kq (w : World) (B qb : Nat) (k : Nat) : Prop := k = qb ∨ B ≤ k ∧ ∃ A, w.heap[k]? = some (.cells A 24 (0, 0))

theorem QAt.push {w w1 : World} {B qb : Nat} {q : List (List Int)} {v v' : Value} {xs : List Value} {a : Option Addr} {cap : Nat} {l : List Int} (hBq : B ≤ qb) (hb : w.heap[qb]? = some (.cells #[v] 106 (0, 0))) (hq : QueV w B v xs) (hx : xs.length = q.length)
  (hL : ∀ (j : Nat) m, q[j]? = some m → ∃ aj cj, xs[j]? = some (.slice aj m.length cj) ∧ LAt w aj m) (hl : LAt w a l) (h1 : QueV w1 B v' (xs ++ [.slice a l.length cap])) (hc : Chg w w1 (fun k => v.ownBlock = some k)) :
  QAt (w1.setCell ⟨qb, 0, none⟩ v') B qb (q ++ [l]) ∧ Chg w (w1.setCell ⟨qb, 0, none⟩ v') (Kq w B qb) := by
 have hblk : ∀ k, v.ownBlock = some k → B ≤ k ∧ ∃ A, w.heap[k]? = some (.cells A 24 (0, 0)) := fun k e => by
  rcases hq with ⟨rfl, _⟩ | ⟨g, o, cc, cur, rfl, hB, hw, _⟩
  ·cases e
  ·have : g = k := by simpa [Value.ownBlock] using e
   subst this
   exact ⟨hB, cur, hw⟩
 have hset : Chg w1 (w1.setCell ⟨qb, 0, none⟩ v') (· = qb) := Chg.setCell;have hk : Chg w (w1.setCell ⟨qb, 0, none⟩ v') (Kq w B qb) := hc.trans hset (fun j _ e => .inr (hblk j e)) (fun _ _ e => .inl e)
 have hb1 : w1.heap[qb]? = some (.cells #[v] 106 (0, 0)) := hc.keep hb (fun e => by
  obtain ⟨_, A, e⟩ := hblk _ e
  rw [hb] at e; cases e)
 have hLk : ∀ {aj : Option Addr} {m : List Int}, LAt w aj m → LAt (w1.setCell ⟨qb, 0, none⟩ v') aj m := fun h => h.keep hk (fun g A hg e => by
  rcases e with rfl | ⟨_, B', e⟩
  ·rw [hb] at hg; cases hg
  ·rw [hg] at e; cases e)
 refine ⟨⟨hBq, v', xs ++ [.slice a l.length cap], (heap_setCell_same w1 qb 0 _ _ _ hb1).trans rfl, h1.keep hset (fun g A hg e => by subst e; rw [hb1] at hg; cases hg), by simp [hx], fun j m hj => ?_⟩, hk⟩
 by_cases hjq : j < q.length
 ·rw [List.getElem?_append_left hjq] at hj
  obtain ⟨aj, cj, e, hm⟩ := hL j m hj
  exact ⟨aj, cj, by rw [List.getElem?_append_left (by omega)]; exact e, hLk hm⟩
 ·rw [List.getElem?_append_right (by omega)] at hj
  have h0 : j - q.length = 0 := by
   rcases Nat.eq_zero_or_pos (j - q.length) with k | k
   ·exact k
   ·rw [List.getElem?_eq_none (by simp; omega)] at hj; cases hj
  rw [h0] at hj
  simp at hj
  subst hj
  exact ⟨a, cap, by rw [List.getElem?_append_right (by omega), show j - xs.length = 0 by omega]; rfl, hLk hl⟩
theorem QueV.shp {w : World} {B : Nat} {v : Value} {xs : List Value} (h : QueV w B v xs) : ∃ a c, v = .slice a xs.length c := by
 rcases h with ⟨rfl, rfl⟩ | ⟨g, o, cap, cur, rfl, _⟩
 ·exact ⟨none, 0, rfl⟩
 ·exact ⟨_, cap, rfl⟩
set_option maxRecDepth 100000 in
set_option maxHeartbeats 1000000 in
theorem fill_any (B qb : Nat) (q : List (List Int)) (a : Option Addr) (cap : Nat) (l : List Int) (w : World) (h : QAt w B qb q) (hl : LAt w a l) (hq : q.length ≤ 5000) :
  Calls Tryz.prog 54 #[.slice a l.length cap, .pointer (some ⟨qb, 0, none⟩)] w fun e w' => e = .returned (.tuple #[]) ∧ QAt w' B qb (q ++ [l]) ∧ Chg w w' (Kq w B qb) := by
 obtain ⟨kB, v, xs, k1, k2, k3, k4⟩ := h;have c0 : w.cell? ⟨qb, 0, none⟩ = some v := (cell_of_row _ _ _ _ _ _ k1).trans rfl;obtain ⟨W, hW⟩ : ∃ y, y = w.alloc (.cells #[.slice a l.length cap] 24) := ⟨_, rfl⟩;have HC : Hid (Chg w W No) := hid (by rw [hW]; exact Chg.alloc _ _ No)
 have hcn : W.cell? ⟨w.heap.size, 0, none⟩ = some (.slice a l.length cap) := by rw [hW]; exact (cell_of_row _ _ _ _ _ _ (heap_alloc_new w _)).trans rfl
 have HQ := hid (k2.keep HC.out (fun _ _ _ e => e));have HB := hid (HC.out.keep k1 (fun e => e))
 have HL : Hid (∀ (j : Nat) m, q[j]? = some m → ∃ aj cj, xs[j]? = some (.slice aj m.length cj) ∧ LAt W aj m) := hid (fun j m hj => by
  obtain ⟨aj, cj, e, hm⟩ := k4 j m hj
  exact ⟨aj, cj, e, hm.call HC.out⟩)
 have HLl := hid (hl.call HC.out)
 have HBK : Hid (∀ X, Chg W X (fun k => v.ownBlock = some k) → X.heap[qb]? = some (.cells #[v] 106 (0, 0))) := hid (fun X hX => hX.keep HB.out (fun e => by
  rcases HQ.out with ⟨rfl, _⟩ | ⟨g, o, cc, cur, rfl, _, hw, _⟩
  ·cases e
  ·have : g = qb := by simpa [Value.ownBlock] using e
   subst this;have k := HB.out
   rw [hw] at k; cases k))
 have hx3 : xs.length ≤ 5000 := by omega
 have HBz : Hid (B ≤ W.heap.size) := hid (by have := slt HB.out; omega);have HKB := hid kB;have HX := hid k3;clear kB k1 k2 k3 k4 hl;subst hW
 go_enter Tryz.func54, Tryz.ntmps54
 go_wp2_with (first
  | (at_builtin; go_must (refine wp_pushV rfl _ _ rfl B w.heap.size 1 v xs (.slice a l.length cap) rfl rfl HQ.out hcn rfl (by omega) HBz.out ?_; intro v' w1 hQ1 hc1; have hb1 := HBK.out w1 hc1; have d0 : w1.cell? ⟨qb, 0, none⟩ = some v := (cell_of_row _ _ _ _ _ _ hb1).trans rfl; have d1 := frozen_of_row w1 qb 0 _ _ hb1; clear hb1; obtain ⟨sa, sc, rfl⟩ := hQ1.shp))
  | fail)
 go_end0
 obtain ⟨r1, r2⟩ := QAt.push HKB.out HB.out HQ.out HX.out HL.out HLl.out hQ1 hc1;rw [List.length_append, List.length_singleton] at r1 r2;refine ⟨rfl, r1, HC.out.trans r2 (fun _ _ e => e.elim) (fun j hj e => ?_)⟩
 rcases e with e | ⟨hB, A, e⟩
 ·exact .inl e
 ·exact .inr ⟨hB, A, by rw [HC.out.block j hj (fun e => e)] at e; exact e⟩

set_option maxRecDepth 100000 in
set_option maxHeartbeats 1000000 in
theorem empty_none (B qb : Nat) (w : World) (h : QAt w B qb []) :
  Calls Tryz.prog 55 #[.pointer (some ⟨qb, 0, none⟩)] w fun e w' => e = .returned (.tuple #[.slice none 0 0, .bool false]) ∧ w' = w := by
 obtain ⟨kB, v, xs, k1, k2, k3, k4⟩ := h;have c0 : w.cell? ⟨qb, 0, none⟩ = some v := (cell_of_row _ _ _ _ _ _ k1).trans rfl;obtain ⟨sa, sc, rfl⟩ := k2.shp;rw [k3] at c0
 simp only [List.length_nil] at c0
 clear kB k1 k2 k3 k4
 go_enter Tryz.func55, Tryz.ntmps55
 go_wp2_with fail
 go_ret2
 exact ⟨rfl, rfl⟩

set_option maxRecDepth 100000 in
set_option maxHeartbeats 1000000 in
theorem empty_some (B qb : Nat) (l : List Int) (q : List (List Int)) (w : World) (h : QAt w B qb (l :: q)) (hl : q.length ≤ 1000000) :
  Calls Tryz.prog 55 #[.pointer (some ⟨qb, 0, none⟩)] w fun e w' => ∃ a c, e = .returned (.tuple #[.slice a l.length c, .bool true]) ∧ LAt w' a l ∧ QAt w' B qb q ∧ Chg w w' (· = qb) := by
 obtain ⟨kB, v, xs, k1, k2, k3, k4⟩ := h
 cases xs with
 | nil => simp at k3
 | cons x xs =>
 obtain ⟨a, c, ex, hla⟩ := k4 0 l rfl
 obtain rfl : x = .slice a l.length c := by simpa using ex
 obtain ⟨g, o, cap, rfl, hc, hcap⟩ := k2.shape;have c0 : w.cell? ⟨qb, 0, none⟩ = some (.slice (some ⟨g, o, none⟩) (xs.length + 1) cap) := (cell_of_row _ _ _ _ _ _ k1).trans rfl;have f0 := frozen_of_row w qb 0 _ _ k1
 have hx : xs.length = q.length := by simpa using k3
 have hpos : (0 : Int) < ((xs.length + 1 : Nat) : Int) := by omega
 have hne : (((xs.length + 1 : Nat) : Int) == 0) = false := by simp; omega
 have HKB := hid kB;have K1 := hid k1;have K2 := hid k2;have K4 := hid k4;have HL := hid hla;have HX := hid hx
 generalize hn : xs.length = n at *
 have HN := hid hn;clear kB k1 k2 k3 k4 hx hla ex hn
 go_enter Tryz.func55, Tryz.ntmps55
 go_wp2_with (first
  | (refine wp_popV rfl _ rfl B g o (n + 1) cap (.slice a l.length c) xs rfl (by rw [HN.out]) (by rw [HN.out]; exact K2.out) ?_; intro v' h1 hq'; obtain ⟨sa, sc, rfl⟩ := hq'.shp)
  | fail)
 go_ret2
 have hset : Chg w (w.setCell ⟨qb, 0, none⟩ (.slice sa xs.length sc)) (· = qb) := Chg.setCell
 have hLk : ∀ {aj : Option Addr} {m : List Int}, LAt w aj m → LAt (w.setCell ⟨qb, 0, none⟩ (.slice sa xs.length sc)) aj m := fun h => h.keep hset (fun g' A hg e => by
  subst e;have k := K1.out
  rw [hg] at k; cases k)
 refine ⟨a, c, rfl, hLk HL.out, ⟨HKB.out, .slice sa xs.length sc, xs, (heap_setCell_same w qb 0 _ _ _ K1.out).trans rfl, hq'.keep hset (fun g' A hg e => by subst e; have k := K1.out; rw [hg] at k; cases k), by rw [HN.out]; exact HX.out, fun j m hj => ?_⟩, hset⟩;obtain ⟨aj, cj, e, hm⟩ := K4.out (j + 1) m hj
 exact ⟨aj, cj, by simpa using e, hLk hm⟩

end Go.Proofs.YtpmignilhoihnabGreat
