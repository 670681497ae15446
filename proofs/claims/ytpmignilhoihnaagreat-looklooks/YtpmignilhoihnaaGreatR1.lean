/-
 The sectors of blocks that were found; a list of numbers of the call's own.
-/
import Derived.ArgAppend
import Derived.Test.YtpmignilhoihnaaGreatK6
namespace Go.Proofs.YtpmignilhoihnaaGreat
open Go.RowKit Go.Shelf

def LAt (w : World) (a : Option Addr) (l : List Int) : Prop := l = [] ∨ ∃ g, a = some ⟨g, 0, none⟩ ∧ (∃ A, w.heap[g]? = some (.cells A 3 (0, 0))) ∧ ∀ k, k < l.length → w.cell? ⟨g, k, none⟩ = some (.int .i64 (l.getD k 0))
theorem cell_keep {w w' : World} {g j : Nat} {v : Value} {ks : Nat → Prop} (h : w.cell? ⟨g, j, none⟩ = some v) (hc : Chg w w' ks) (hg : g < w.heap.size) (hn : ¬ ks g) : w'.cell? ⟨g, j, none⟩ = some v := by
 unfold World.cell? at h ⊢;rw [hc.block g hg hn]
 exact h
theorem LAt.keep {w w' : World} {a : Option Addr} {l : List Int} {ks : Nat → Prop} (h : LAt w a l) (hc : Chg w w' ks) (hn : ∀ g A, w.heap[g]? = some (.cells A 3 (0, 0)) → ¬ ks g) : LAt w' a l := by
 rcases h with h | ⟨g, rfl, ⟨A, hg⟩, h⟩
 ·exact .inl h
 ·exact .inr ⟨g, rfl, ⟨A, hc.keep hg (hn g A hg)⟩, fun j hj => cell_keep (h j hj) hc (slt hg) (hn g A hg)⟩
theorem LAt.call {w w' : World} {a : Option Addr} {l : List Int} (h : LAt w a l) (hc : Chg w w' No) : LAt w' a l := h.keep hc fun _ _ _ e => e

def QueV (w : World) (B : Nat) (v : Value) (xs : List Value) : Prop :=
 (v = .slice none 0 0 ∧ xs = []) ∨ ∃ g o cap cur, v = .slice (some ⟨g, o, none⟩) xs.length cap ∧ B ≤ g ∧ w.heap[g]? = some (.cells cur 24 (0, 0)) ∧ xs.length ≤ cap ∧ o + cap ≤ cur.size ∧ ∀ j x, xs[j]? = some x → cur[o + j]? = some x
theorem QueV.keep {w w' : World} {B : Nat} {v : Value} {xs : List Value} {ks : Nat → Prop} (h : QueV w B v xs) (hc : Chg w w' ks) (hn : ∀ g A, w.heap[g]? = some (.cells A 24 (0, 0)) → ¬ ks g) : QueV w' B v xs := by
 rcases h with h | ⟨g, o, cap, cur, rfl, hB, hw, r⟩
 ·exact .inl h
 ·exact .inr ⟨g, o, cap, cur, rfl, hB, hc.keep hw (hn g cur hw), r⟩
theorem QueV.shape {w : World} {B : Nat} {v x : Value} {xs : List Value} (h : QueV w B v (x :: xs)) : ∃ g o cap, v = .slice (some ⟨g, o, none⟩) (xs.length + 1) cap ∧ w.cell? ⟨g, o, none⟩ = some x ∧ xs.length + 1 ≤ cap := by
 rcases h with ⟨_, h⟩ | ⟨g, o, cap, cur, rfl, hB, hw, hq, hc, hx⟩
 ·cases h
 ·refine ⟨g, o, cap, rfl, ?_, hq⟩
  rw [cell_of_row _ _ _ _ _ _ hw]
  exact hx 0 x rfl
theorem QueV.pop {w : World} {B g o cap : Nat} {x : Value} {xs : List Value} (h : QueV w B (.slice (some ⟨g, o, none⟩) (xs.length + 1) cap) (x :: xs)) :
  QueV w B (.slice (if cap = 1 then some ⟨g, o, none⟩ else some ⟨g, o + 1, none⟩) xs.length (cap - 1)) xs := by
 rcases h with ⟨h, _⟩ | ⟨g', o', cap', cur, e, hB, hw, hq, hc, hx⟩
 ·cases h
 cases e
 simp at hq
 by_cases h1 : cap = 1
 ·rw [if_pos h1]
  refine .inr ⟨g, o, cap - 1, cur, rfl, hB, hw, by omega, by omega, fun j y hj => ?_⟩;have : xs = [] := List.eq_nil_of_length_eq_zero (by omega);subst this
  simp at hj
 ·rw [if_neg h1]
  refine .inr ⟨g, o + 1, cap - 1, cur, rfl, hB, hw, by omega, by omega, fun j y hj => ?_⟩;have := hx (j + 1) y (by simpa using hj);rw [show o + 1 + j = o + (j + 1) by omega]
  exact this
theorem infoSl : ∃ i, Tryz.prog.info? 24 = some i ∧ i.zero = some (.slice none 0 0) ∧ i.size = 1 ∧ i.bytes = 24 := by
 have h : (Tryz.prog.info? 24).map (fun i => (i.zero, i.size, i.bytes)) = some (some (.slice none 0 0), 1, 24) := by kernel_rfl
 cases hq : Tryz.prog.info? 24 with
 | none => rw [hq] at h; cases h
 | some i =>
  rw [hq] at h
  simp at h
  exact ⟨i, rfl, h.1, h.2.1, h.2.2⟩

section
variable {ops : Array Oper} {rest : List Oper} {o : Oper} {a : Act} {Q : Exit → Act → World → Prop} {w : World}
theorem wp_pushV (hg : o.guard = none) (s x : Operand) (hop : o.op = .call { callee := .builtin .append, args := #[s, x], argTypes := #[126, 126] }) (B h c : Nat) (v : Value) (xs : List Value) (y : Value) (hs : a.eval s = v) (hx : a.eval x = .slice (some ⟨h, 0, none⟩) 1 c)
  (hq : QueV w B v xs) (hat : w.cell? ⟨h, 0, none⟩ = some y) (hy : y.oneCell' = true) (hl : xs.length ≤ 1000000) (hB0 : B ≤ w.heap.size)
  (hK : ∀ v' w', QueV w' B v' (xs ++ [y]) → Chg w w' (fun k => v.ownBlock = some k) → wpList Tryz.prog ops Q rest (a.put o.dst v') w') : wpList Tryz.prog ops Q (o :: rest) a w := by
 obtain ⟨i, hi, hz, hsz, hby⟩ := infoSl
 have hnew : ∀ (w' : World) (v' : Value) (olds : List Value), olds = xs → w'.ownsRow w.heap.size 24 1 v' (olds.length + 1) (olds ++ [y]) → QueV w' B v' (xs ++ [y]) := by
  intro w' v' olds he h1
  subst he
  rcases h1.2 with ⟨_, h0⟩ | ⟨g2, cap2, cur2, rfl, hg2, hw2, k1, k2, k3, k4⟩
  ·omega
  ·refine .inr ⟨g2, 0, cap2, cur2, by simp, by omega, hw2, by simpa using k1, by omega, fun j z hj => ?_⟩
   have e : (cur2.toList.take ((olds.length + 1) * 1))[j]? = (olds ++ [y])[j]? := by rw [k4]
   have hlt : j < olds.length + 1 := by
    rcases Nat.lt_or_ge j (olds.length + 1) with c | c
    ·exact c
    ·rw [List.getElem?_eq_none (by simpa using c)] at hj; cases hj
   rw [List.getElem?_take, if_pos (by omega), Array.getElem?_toList, hj] at e;rw [Nat.zero_add]
   exact e
 rcases hq with ⟨rfl, rfl⟩ | ⟨g, of, cap, cur, rfl, hBg, hw, hqc, hcap, hcell⟩
 ·refine wpList_append_grows w hg s x 126 hop 24 i _ 1 24 Tryz.underlying126 hi hz hsz hby rfl (by decide) none 0 0 [] hs (fun _ => ⟨rfl, rfl⟩) rfl (fun b e => by cases e) ⟨h, 0, none⟩ 1 c [y] hx rfl (fun j u hj => ?_) (by simpa using hy) (by omega) (by unfold maxLen; omega) (by omega) (fun v' w' h1 h2 => ?_)
  ·cases j with
   | zero => simp at hj; subst hj; exact hat
   | succ j => simp at hj
  ·exact hK v' w' (hnew w' v' [] rfl h1) ((Chg.grown h2).mono fun j _ e => by cases e)
 have hget : ∀ j u, xs[j]? = some u → w.cell? ⟨g, of + j, none⟩ = some u := fun j u hj => by
  rw [cell_of_row _ _ _ _ _ _ hw]
  exact hcell j u hj
 refine wpList_append_arg w hg s x 126 hop 24 i _ 1 24 Tryz.underlying126 hi hz hsz hby rfl (by decide) g of xs.length cap xs hs (by simp) hget ⟨h, 0, none⟩ 1 c [y] hx rfl (fun j u hj => ?_) (by simpa using hy) (fun hr j hj => ?_) (by unfold maxLen; omega) (by omega) (fun hr => ?_) (fun hr v' w' h1 h2 => ?_)
 ·cases j with
  | zero => simp at hj; subst hj; exact hat
  | succ j => simp at hj
 ·have hj0 : j = 0 := by simpa using hj
  subst hj0;rw [cell_of_row _ _ _ _ _ _ hw];refine ⟨?_, frozen_of_row w g _ cur 24 hw⟩;rw [Array.getElem?_eq_getElem (by omega)]
  rfl
 ·refine hK _ _ (.inr ⟨g, of, cap, cur.setIfInBounds (of + xs.length * 1) y, by simp, hBg, ?_, by simp; omega, by simp; omega, fun j z hj => ?_⟩) ?_
  ·exact heap_setCell_same w g (of + xs.length * 1) cur 24 y hw
  ·by_cases hjq : j < xs.length
   ·rw [List.getElem?_append_left hjq] at hj
    rw [Array.getElem?_setIfInBounds_ne (by omega)]
    exact hcell j z hj
   ·rw [List.getElem?_append_right (by omega)] at hj
    have : j - xs.length = 0 := by
     rcases Nat.eq_zero_or_pos (j - xs.length) with k | k
     ·exact k
     ·rw [List.getElem?_eq_none (by simp; omega)] at hj; cases hj
    rw [this] at hj
    simp at hj
    subst hj;rw [show of + j = of + xs.length * 1 by omega];rw [Array.getElem?_setIfInBounds_self_of_lt (by omega)]
  ·exact Chg.setCell.mono fun j _ e => by rw [e]; rfl
 ·exact hK v' w' (hnew w' v' xs rfl h1) ((Chg.grown h2).mono fun j _ e => by cases e)
end
theorem run_popV {w : World} {g o L cap : Nat} (h1 : 1 ≤ L) : (Instr.sliceAt 126 (.slice (some ⟨g, o, none⟩) L cap) (some (.int .i64 1)) none none).run Tryz.prog w = .ok (.slice (if cap = 1 then some ⟨g, o, none⟩ else some ⟨g, o + 1, none⟩) (L - 1) (cap - 1)) w := by
 have ht : Tryz.prog.underlying 126 = some (.slice (Tryz.prog.elem 126)) := by kernel_rfl
 have he : ∀ w, (sizeOf (Tryz.prog.elem 126)).run Tryz.prog w = .ok 1 w := fun w => by kernel_rfl
 rw [run_sliceAt_slice _ _ _ _ _ _ ht, run_slice_l w 126 (some ⟨g, o, none⟩) L cap ht .i64 1 (by omega) (by omega), he w]
 simp only [Result.andThen_ok, sliced]
 rw [show (1 : Int).toNat = 1 from rfl]
 congr 2
section
variable {ops : Array Oper} {rest : List Oper} {o : Oper} {a : Act} {Q : Exit → Act → World → Prop} {w : World}
theorem wp_popV (hg : o.guard = none) (x : Operand) (hop : o.op = .slice 126 x (some (.const (.int .i64 1))) none none) (B g of L cap : Nat) (y : Value) (xs : List Value) (hx : a.eval x = .slice (some ⟨g, of, none⟩) L cap) (hL : L = xs.length + 1)
  (hq : QueV w B (.slice (some ⟨g, of, none⟩) (xs.length + 1) cap) (y :: xs)) (hK : ∀ v', v'.oneCell' = true → QueV w B v' xs → wpList Tryz.prog ops Q rest (a.put o.dst v') w) : wpList Tryz.prog ops Q (o :: rest) a w := by
 refine wpList_plain hg fun K' hK' => ?_
 have hrun := run_popV (w := w) (g := g) (o := of) (L := L) (cap := cap) (by omega);have hc : a.eval (.const (.int .i64 1)) = .int .i64 1 := rfl;unfold Oper.wp
 simp [execOp, hop, hx, hc, hrun, Result.andThen]
 have := hq.pop;rw [show L - 1 = xs.length by omega]
 exact hK' _ _ (hK _ rfl this)
end

def QAt (w : World) (B qb : Nat) (q : List (List Int)) : Prop :=
 B ≤ qb ∧ ∃ v xs, w.heap[qb]? = some (.cells #[v] 126 (0, 0)) ∧ QueV w B v xs ∧ xs.length = q.length ∧ ∀ (j : Nat) l, q[j]? = some l → ∃ aj cj, xs[j]? = some (.slice aj l.length cj) ∧ LAt w aj l
theorem QAt.keep {w w' : World} {B qb : Nat} {q : List (List Int)} {ks : Nat → Prop} (h : QAt w B qb q) (hc : Chg w w' ks) (hq : ¬ ks qb) (h1 : ∀ g A, w.heap[g]? = some (.cells A 24 (0, 0)) → ¬ ks g) (h2 : ∀ g A, w.heap[g]? = some (.cells A 3 (0, 0)) → ¬ ks g) : QAt w' B qb q := by
 obtain ⟨kB, v, xs, k1, k2, k3, k4⟩ := h;refine ⟨kB, v, xs, hc.keep k1 hq, k2.keep hc h1, k3, fun j l hj => ?_⟩;obtain ⟨aj, cj, e, hl⟩ := k4 j l hj
 exact ⟨aj, cj, e, hl.keep hc h2⟩
theorem QAt.call {w w' : World} {B qb : Nat} {q : List (List Int)} (h : QAt w B qb q) (hc : Chg w w' No) : QAt w' B qb q := h.keep hc (fun e => e) (fun _ _ _ e => e) (fun _ _ _ e => e)

def Kq (w : World) (B qb : Nat) (k : Nat) : Prop := k = qb ∨ B ≤ k ∧ ∃ A, w.heap[k]? = some (.cells A 24 (0, 0))

theorem QAt.push {w w1 : World} {B qb : Nat} {q : List (List Int)} {v v' : Value} {xs : List Value} {a : Option Addr} {cap : Nat} {l : List Int} (hBq : B ≤ qb) (hb : w.heap[qb]? = some (.cells #[v] 126 (0, 0))) (hq : QueV w B v xs) (hx : xs.length = q.length)
  (hL : ∀ (j : Nat) m, q[j]? = some m → ∃ aj cj, xs[j]? = some (.slice aj m.length cj) ∧ LAt w aj m) (hl : LAt w a l) (h1 : QueV w1 B v' (xs ++ [.slice a l.length cap])) (hc : Chg w w1 (fun k => v.ownBlock = some k)) :
  QAt (w1.setCell ⟨qb, 0, none⟩ v') B qb (q ++ [l]) ∧ Chg w (w1.setCell ⟨qb, 0, none⟩ v') (Kq w B qb) := by
 have hblk : ∀ k, v.ownBlock = some k → B ≤ k ∧ ∃ A, w.heap[k]? = some (.cells A 24 (0, 0)) := fun k e => by
  rcases hq with ⟨rfl, _⟩ | ⟨g, o, cc, cur, rfl, hB, hw, _⟩
  ·cases e
  ·have : g = k := by simpa [Value.ownBlock] using e
   subst this
   exact ⟨hB, cur, hw⟩
 have hset : Chg w1 (w1.setCell ⟨qb, 0, none⟩ v') (· = qb) := Chg.setCell;have hk : Chg w (w1.setCell ⟨qb, 0, none⟩ v') (Kq w B qb) := hc.trans hset (fun j _ e => .inr (hblk j e)) (fun _ _ e => .inl e)
 have hb1 : w1.heap[qb]? = some (.cells #[v] 126 (0, 0)) := hc.keep hb (fun e => by
  obtain ⟨_, A, e⟩ := hblk _ e
  rw [hb] at e; cases e)
 have hLk : ∀ {aj : Option Addr} {m : List Int}, LAt w aj m → LAt (w1.setCell ⟨qb, 0, none⟩ v') aj m := fun h => h.keep hk (fun g A hg e => by
  rcases e with rfl | ⟨_, B', e⟩
  ·rw [hb] at hg; cases hg
  ·rw [hg] at e; cases e)
 refine ⟨⟨hBq, v', xs ++ [.slice a l.length cap], (heap_setCell_same w1 qb 0 _ _ _ hb1).trans rfl, h1.keep hset (fun g A hg e => by subst e; rw [hb1] at hg; cases hg), by simp [hx], fun j m hj => ?_⟩, hk⟩
 by_cases hjq : j < q.length
 ·rw [List.getElem?_append_left hjq] at hj
  obtain ⟨aj, cj, e, hm⟩ := hL j m hj
  exact ⟨aj, cj, by rw [List.getElem?_append_left (by omega)]; exact e, hLk hm⟩
 ·rw [List.getElem?_append_right (by omega)] at hj
  have h0 : j - q.length = 0 := by
   rcases Nat.eq_zero_or_pos (j - q.length) with k | k
   ·exact k
   ·rw [List.getElem?_eq_none (by simp; omega)] at hj; cases hj
  rw [h0] at hj
  simp at hj
  subst hj
  exact ⟨a, cap, by rw [List.getElem?_append_right (by omega), show j - xs.length = 0 by omega]; rfl, hLk hl⟩
theorem QueV.shp {w : World} {B : Nat} {v : Value} {xs : List Value} (h : QueV w B v xs) : ∃ a c, v = .slice a xs.length c := by
 rcases h with ⟨rfl, rfl⟩ | ⟨g, o, cap, cur, rfl, _⟩
 ·exact ⟨none, 0, rfl⟩
 ·exact ⟨_, cap, rfl⟩
set_option maxRecDepth 100000 in
set_option maxHeartbeats 1000000 in
theorem fill_any (B qb : Nat) (q : List (List Int)) (a : Option Addr) (cap : Nat) (l : List Int) (w : World) (h : QAt w B qb q) (hl : LAt w a l) (hq : q.length ≤ 5000) :
  Calls Tryz.prog 73 #[.slice a l.length cap, .pointer (some ⟨qb, 0, none⟩)] w fun e w' => e = .returned (.tuple #[]) ∧ QAt w' B qb (q ++ [l]) ∧ Chg w w' (Kq w B qb) := by
 obtain ⟨kB, v, xs, k1, k2, k3, k4⟩ := h;have c0 : w.cell? ⟨qb, 0, none⟩ = some v := (cell_of_row _ _ _ _ _ _ k1).trans rfl;obtain ⟨W, hW⟩ : ∃ y, y = w.alloc (.cells #[.slice a l.length cap] 24) := ⟨_, rfl⟩;have HC : Hid (Chg w W No) := hid (by rw [hW]; exact Chg.alloc _ _ No)
 have hcn : W.cell? ⟨w.heap.size, 0, none⟩ = some (.slice a l.length cap) := by rw [hW]; exact (cell_of_row _ _ _ _ _ _ (heap_alloc_new w _)).trans rfl
 have HQ := hid (k2.keep HC.out (fun _ _ _ e => e));have HB := hid (HC.out.keep k1 (fun e => e))
 have HL : Hid (∀ (j : Nat) m, q[j]? = some m → ∃ aj cj, xs[j]? = some (.slice aj m.length cj) ∧ LAt W aj m) := hid (fun j m hj => by
  obtain ⟨aj, cj, e, hm⟩ := k4 j m hj
  exact ⟨aj, cj, e, hm.call HC.out⟩)
 have HLl := hid (hl.call HC.out)
 have HBK : Hid (∀ X, Chg W X (fun k => v.ownBlock = some k) → X.heap[qb]? = some (.cells #[v] 126 (0, 0))) := hid (fun X hX => hX.keep HB.out (fun e => by
  rcases HQ.out with ⟨rfl, _⟩ | ⟨g, o, cc, cur, rfl, _, hw, _⟩
  ·cases e
  ·have : g = qb := by simpa [Value.ownBlock] using e
   subst this;have k := HB.out
   rw [hw] at k; cases k))
 have hx3 : xs.length ≤ 5000 := by omega
 have HBz : Hid (B ≤ W.heap.size) := hid (by have := slt HB.out; omega);have HKB := hid kB;have HX := hid k3;clear kB k1 k2 k3 k4 hl;subst hW
 go_enter Tryz.func73, Tryz.ntmps73
 go_wp2_with (first
  | (at_builtin; go_must (refine wp_pushV rfl _ _ rfl B w.heap.size 1 v xs (.slice a l.length cap) rfl rfl HQ.out hcn rfl (by omega) HBz.out ?_; intro v' w1 hQ1 hc1; have hb1 := HBK.out w1 hc1; have d0 : w1.cell? ⟨qb, 0, none⟩ = some v := (cell_of_row _ _ _ _ _ _ hb1).trans rfl; have d1 := frozen_of_row w1 qb 0 _ _ hb1; clear hb1; obtain ⟨sa, sc, rfl⟩ := hQ1.shp))
  | fail)
 go_end0
 obtain ⟨r1, r2⟩ := QAt.push HKB.out HB.out HQ.out HX.out HL.out HLl.out hQ1 hc1;rw [List.length_append, List.length_singleton] at r1 r2;refine ⟨rfl, r1, HC.out.trans r2 (fun _ _ e => e.elim) (fun j hj e => ?_)⟩
 rcases e with e | ⟨hB, A, e⟩
 ·exact .inl e
 ·exact .inr ⟨hB, A, by rw [HC.out.block j hj (fun e => e)] at e; exact e⟩

set_option maxRecDepth 100000 in
set_option maxHeartbeats 1000000 in
theorem empty_none (B qb : Nat) (w : World) (h : QAt w B qb []) :
  Calls Tryz.prog 74 #[.pointer (some ⟨qb, 0, none⟩)] w fun e w' => e = .returned (.tuple #[.slice none 0 0, .bool false]) ∧ w' = w := by
 obtain ⟨kB, v, xs, k1, k2, k3, k4⟩ := h;have c0 : w.cell? ⟨qb, 0, none⟩ = some v := (cell_of_row _ _ _ _ _ _ k1).trans rfl;obtain ⟨sa, sc, rfl⟩ := k2.shp;rw [k3] at c0
 simp only [List.length_nil] at c0
 clear kB k1 k2 k3 k4
 go_enter Tryz.func74, Tryz.ntmps74
 go_wp2_with fail
 go_ret2
 exact ⟨rfl, rfl⟩

set_option maxRecDepth 100000 in
set_option maxHeartbeats 1000000 in
theorem empty_some (B qb : Nat) (l : List Int) (q : List (List Int)) (w : World) (h : QAt w B qb (l :: q)) (hl : q.length ≤ 1000000) :
  Calls Tryz.prog 74 #[.pointer (some ⟨qb, 0, none⟩)] w fun e w' => ∃ a c, e = .returned (.tuple #[.slice a l.length c, .bool true]) ∧ LAt w' a l ∧ QAt w' B qb q ∧ Chg w w' (· = qb) := by
 obtain ⟨kB, v, xs, k1, k2, k3, k4⟩ := h
 cases xs with
 | nil => simp at k3
 | cons x xs =>
 obtain ⟨a, c, ex, hla⟩ := k4 0 l rfl
 obtain rfl : x = .slice a l.length c := by simpa using ex
 obtain ⟨g, o, cap, rfl, hc, hcap⟩ := k2.shape;have c0 : w.cell? ⟨qb, 0, none⟩ = some (.slice (some ⟨g, o, none⟩) (xs.length + 1) cap) := (cell_of_row _ _ _ _ _ _ k1).trans rfl;have f0 := frozen_of_row w qb 0 _ _ k1
 have hx : xs.length = q.length := by simpa using k3
 have hpos : (0 : Int) < ((xs.length + 1 : Nat) : Int) := by omega
 have hne : (((xs.length + 1 : Nat) : Int) == 0) = false := by simp; omega
 have HKB := hid kB;have K1 := hid k1;have K2 := hid k2;have K4 := hid k4;have HL := hid hla;have HX := hid hx
 generalize hn : xs.length = n at *
 have HN := hid hn;clear kB k1 k2 k3 k4 hx hla ex hn
 go_enter Tryz.func74, Tryz.ntmps74
 go_wp2_with (first
  | (refine wp_popV rfl _ rfl B g o (n + 1) cap (.slice a l.length c) xs rfl (by rw [HN.out]) (by rw [HN.out]; exact K2.out) ?_; intro v' h1 hq'; obtain ⟨sa, sc, rfl⟩ := hq'.shp)
  | fail)
 go_ret2
 have hset : Chg w (w.setCell ⟨qb, 0, none⟩ (.slice sa xs.length sc)) (· = qb) := Chg.setCell
 have hLk : ∀ {aj : Option Addr} {m : List Int}, LAt w aj m → LAt (w.setCell ⟨qb, 0, none⟩ (.slice sa xs.length sc)) aj m := fun h => h.keep hset (fun g' A hg e => by
  subst e;have k := K1.out
  rw [hg] at k; cases k)
 refine ⟨a, c, rfl, hLk HL.out, ⟨HKB.out, .slice sa xs.length sc, xs, (heap_setCell_same w qb 0 _ _ _ K1.out).trans rfl, hq'.keep hset (fun g' A hg e => by subst e; have k := K1.out; rw [hg] at k; cases k), by rw [HN.out]; exact HX.out, fun j m hj => ?_⟩, hset⟩;obtain ⟨aj, cj, e, hm⟩ := K4.out (j + 1) m hj
 exact ⟨aj, cj, by simpa using e, hLk hm⟩

end Go.Proofs.YtpmignilhoihnaaGreat

namespace Go.Proofs.YtpmignilhoihnaaGreat
open Go.RowKit Go.Shelf

theorem goK_len (F : KeepF) (t : List Int) (s : TS) : ∀ k, (goK F t s k).1.length = t.length
 | 0 => rfl
 | k + 1 => by simp [goK, goK_len F t s k]
theorem goK_le {F : KeepF} {D : Nat} (h : ∀ s i n, (F s i n).2.sp.length ≤ s.sp.length + D) (t : List Int) (s : TS) : ∀ k, (goK F t s k).2.sp.length ≤ s.sp.length + k * D
 | 0 => by simp [goK]
 | k + 1 => by
  have h1 := goK_le h t s k;have h2 := h (goK F t s k).2 k (t.getD k 0)
  simp only [goK]
  rw [Nat.succ_mul]
  omega
theorem ptrs_bd {s : List Int} (hs : IsSec s) (k : Nat) : 0 ≤ (ptrsTo s 32).getD k 0 ∧ (ptrsTo s 32).getD k 0 ≤ 4294967295 := by
 unfold ptrsTo;rw [List.getD_eq_getElem?_getD, List.getElem?_map]
 by_cases h : k < 32
 ·rw [List.getElem?_range h]
  have := numAt_bd hs (4 * k) 4
  simp only [Option.map_some, Option.getD_some, if_pos h]
  omega
 ·rw [List.getElem?_eq_none (by simpa using h)]
  simp
theorem guardP : Tryz.prog.eqGuardType Tryz.prog.depth 103 = false := by kernel_rfl
theorem undP : Tryz.prog.underlying 103 = some (.array 32 3) := by kernel_rfl
theorem Zp_len : Zp.length = 32 := by simp [Zp]
theorem build_ptr (w : World) : (Instr.build 103 #[]).run Tryz.prog w = .ok (.agg (NA Zp)) w := by kernel_rfl
section
variable {ops : Array Oper} {rest : List Oper} {o : Oper} {a : Act} {w : World} {Q : Exit → Act → World → Prop}
theorem load_wtL (hgd : o.guard = none) (x : Operand) (ho : o.op = .load 33 x) (g k : Nat) (hx : a.eval x = .pointer (some ⟨g, k * 128, none⟩)) (im : Img) (hw : WtAt w g im) (hk : k < im.length)
  (h : wpList Tryz.prog ops Q rest (a.put o.dst (.agg (SA (secI im (k : Int))))) w) : wpList Tryz.prog ops Q (o :: rest) a w :=
 wpList_plain hgd fun _ hK => by
  unfold Oper.wp execOp
  simp only [ho, hx, Instr.loadAt, Instr.sureAddr, Sem.run_bind, Sem.run_pure, Result.andThen_ok, load_wt hw hk]
  exact hK _ _ h
end
section
variable {ops : Array Oper} {Q : Exit → Act → World → Prop} {S : World → Prop} {fuel : Nat} {listed : Array Bool} {a : Act} {w : World}
theorem stStoreW (i : Nat) (x y : Operand) (g k : Nat) (c : List Int) (im : Img) {o : Oper} (hop : ops[i]? = some o) (hd : o.dst = none) (hw : Region.wanted o (yielded ops a.tmps) = true) (ho : o.op = .store 33 x y)
  (hx : a.eval x = .pointer (some ⟨g, k * 128, none⟩)) (hy : a.eval y = .agg (SA c)) (hc : IsSec c) (hW : WtAt w g im) (hk : k < im.length)
  (h : ∀ w', WtAt w' g (im.set k c) → Chg w w' (· = g) → w'.heap.size = w.heap.size → S w' ∧ wpAnyH Tryz.prog .any ops Q S fuel (listed.setIfInBounds i true) a w') : St ops Q S fuel listed a w i := by
 refine wpOp_step hop (fun K hK => ?_);rw [if_pos hw];have hr := hW.range hk;have hl : (secI im (k : Int)).length = 128 := (hW.sec _).1;obtain ⟨_, A, hA, _⟩ := id hW;refine wp_store_mid 33 x y ho g (k * 128) (SA c) hx hy (fun j hj => ?_) (by rw [sz26, SA_size, hc.1]) (SA_one c) ?_
 ·rw [SA_size, hc.1] at hj
  rw [hr j (.int .u8 ((secI im (k : Int)).getD j 0)) (by simp [hl, hj])]
  exact ⟨rfl, frozen_of_row w g _ A 33 hA⟩
 ·obtain ⟨h1, h2, h3⟩ := hW.set hk hc
  have := h _ h1 h2 h3;unfold Act.put;rw [hd]
  have e : (SA c).toList = c.map (Value.int .u8) := by simp [SA]
  rw [e]
  exact hK _ _ this
end
structure GT (w0 w : World) (c : LC) (sb : Nat) (X : World → Prop) (g : Nat) (r : List Int × TS) : Prop where
 t : TE w c sb r.2
 x : X w
 g : w.heap[g]? = some (.cells (NA r.1) 103 (0, 0))
 c : Chg w0 w (Kt c sb w0)
theorem TE.aside {w w' : World} {c : LC} {sb g : Nat} {s : TS} {A : Array Value} {t : TypeId} {f : Nat × Nat} (h : TE w c sb s) (hg : w.heap[g]? = some (.cells A t f)) (h0 : t ≠ 61) (h1 : t ≠ 33) (h2 : t ≠ 111) (h3 : t ≠ 116) (hB : c.B ≤ g) (hc : Chg w w' (· = g)) : TE w' c sb s := by
 obtain ⟨v, k1, k2⟩ := h.sp;obtain ⟨es, ck, hm⟩ := h.k.cl.isMap;obtain ⟨B, hb⟩ := h.k.wt.isRow
 have ne : ∀ {j : Nat} {x : Obj}, w.heap[j]? = some x → x ≠ .cells A t f → ¬ j = g := fun hj hn e => by
  subst e;rw [hg] at hj
  exact hn (Option.some.inj hj).symm
 refine ⟨h.p.keep hc (ne h.p.me (by intro e; cases e; exact h0 rfl)) (fun k e => e ▸ hB), h.k.keep hc (ne hb (by intro e; cases e; exact h1 rfl)) (ne hm (by intro e; cases e)), h.bs, v, hc.keep k1 (ne k1 (by intro e; cases e; exact h2 rfl)), k2.1, ?_⟩
 rcases k2.2 with k | ⟨j, cap, cur, rfl, hb, hj, r⟩
 ·exact .inl k
 ·exact .inr ⟨j, cap, cur, rfl, hb, hc.keep hj (ne hj (by intro e; cases e; exact h3 rfl)), r⟩
theorem TE.wants {w w' : World} {c : LC} {sb : Nat} {s : TS} {wt : Img} (h : TE w c sb s) (hw : WtAt w' c.b.wb wt) (hl : wt.length = c.N) (hc : Chg w w' (· = c.b.wb)) : TE w' c sb ⟨wt, s.cl, s.sp⟩ := by
 obtain ⟨v, k1, k2⟩ := h.sp;obtain ⟨es, ck, hm⟩ := h.k.cl.isMap;obtain ⟨B, hb⟩ := h.k.wt.isRow
 refine ⟨h.p.keep hc (obj_ne h.p.me hb (by intro e; cases e)) (fun _ e => e ▸ h.p.b0), ⟨hw, hl, h.k.cl.keep hc (obj_ne hm hb (by intro e; cases e)), h.k.ck⟩, h.bs, v, hc.keep k1 (obj_ne k1 hb (by intro e; cases e)), k2.1, ?_⟩
 rcases k2.2 with k | ⟨j, cap, cur, rfl, hB, hj, r⟩
 ·exact .inl k
 ·exact .inr ⟨j, cap, cur, rfl, hB, hc.keep hj (obj_ne hj hb (by intro e; cases e)), r⟩
theorem kt_new {w w' : World} {g : Nat} {t : TypeId} {A : Array Value} (h : PutR w g A t w') : Chg w w' (· = g) := ⟨h.os, h.tape, h.output, Nat.le_of_eq h.size.symm, fun k _ hk => h.other k hk⟩

set_option maxRecDepth 100000 in
set_option maxHeartbeats 2000000 in
theorem goThrough_any {c : LC} {sb : Nat} {X : World → Prop} {fn : Nat} {caps : Array Value} {D : Nat} {F : KeepF} (h : Keeper c sb X fn caps 31 D F) (s : TS) (k : Nat) (w : World) (ht : TE w c sb s) (hx : X w) (hk1 : c.M < k) (hk2 : k < c.N) (hl : s.sp.length + 32 * D ≤ 1000000) :
  Calls Tryz.prog 81 #[LP c, .int .i64 (k : Int), .func (.func fn) #[] caps] w fun e w' => e = .returned (.bool (goF F (k : Int) s).1) ∧ TE w' c sb (goF F (k : Int) s).2 ∧ Chg w w' (Kt c sb w) := by
 have c3 := ht.p.c3
 have i0 : (0 : Int) ≤ (k : Int) := by omega
 have HkI : Hid (I64 (k : Int)) := hid (by have := ht.p.n2; constructor <;> omega)
 have i1 : (k : Int) < (c.N : Int) := by omega
 have hsec := ht.k.wt.sec (k : Int);have hRP := readPointers_any (secI s.wt (k : Int)) hsec w
 have hwk : k < s.wt.length := by rw [ht.k.wl]; exact hk2
 have HT := hid ht;have HX := hid hx;have HG : Hid (goF F (k : Int) s = if (goK F (ptrsTo (secI s.wt (k : Int)) 32) s 32).1 = Zp then (false, ⟨(goK F (ptrsTo (secI s.wt (k : Int)) 32) s 32).2.wt, delC (goK F (ptrsTo (secI s.wt (k : Int)) 32) s 32).2.cl (k : Int), (goK F (ptrsTo (secI s.wt (k : Int)) 32) s 32).2.sp⟩) else (true, ⟨(goK F (ptrsTo (secI s.wt (k : Int)) 32) s 32).2.wt.set k (ptrS (goK F (ptrsTo (secI s.wt (k : Int)) 32) s 32).1), (goK F (ptrsTo (secI s.wt (k : Int)) 32) s 32).2.cl, (goK F (ptrsTo (secI s.wt (k : Int)) 32) s 32).2.sp⟩)) := hid rfl;have hbd := ptrs_bd hsec;have ht0 := ptrsTo_len (secI s.wt (k : Int)) 32
 generalize htt : ptrsTo (secI s.wt (k : Int)) 32 = t0 at *
 have HW := hid ht.k.wt;have hzp := zero_ptr;have HT0 := hid ht0;have HBD := hid hbd;clear hx ht htt ht0 hbd hsec;unfold LP
 go_enter Tryz.func81, Tryz.ntmps81
 go_upto_region 2 with (first
  | (refine load_wtL rfl _ rfl c.b.wb k rfl s.wt HW.out hwk ?_)
  | (go_at_call 116; go_must (refine hRP.mono ?_; rintro e w1 ⟨rfl, hb1⟩))
  | (refine store_R rfl 103 _ _ rfl w1.heap.size (NA t0) rfl rfl 103 _ (heap_alloc_new _ _) (by rw [szP, NA_size, HT0.out]) (by rw [NA_size, NA_size, Zp_len, HT0.out]) (NA_one _) ?_; intro w2 hw2)
  | fail)
 dsimp only [Act.put]
 have hcw : Chg w w2 No := ((Chg.of_below hb1 No).trans (Chg.alloc w1 (.cells (NA Zp) 103) No) (c := No) (fun _ _ e => e) (fun _ _ e => e)).trans (kt_new hw2) (fun _ _ e => e) (fun j hj e => by have := hb1.size; omega);have G0 : Hid (GT w w2 c sb X w1.heap.size (goK F t0 s 0)) := hid ⟨HT.out.call hcw, h.st _ _ HX.out (stays_no hcw), hw2.here, kt_no hcw⟩;have HP2 := hid hw2.here;have HgB : Hid (w.heap.size ≤ w1.heap.size ∧ c.B ≤ w1.heap.size) := hid ⟨hb1.size, by have := HT.out.p.b0; have := HT.out.k.wt.lt; have := hb1.size; omega⟩
 generalize w1.heap.size = g at *
 clear hcw hw2 hb1 hRP c3 HW hwk
 go_wp2_with (first
  | (refine load_R rfl 103 _ rfl g rfl 103 (NA t0) _ HP2.out undP rfl (by rw [szP, NA_size, HT0.out]) ?_)
  | fail)
 clear HP2 hzp
 go_loopw [19] (fun i wr => ∃ j : Nat, j ≤ 32 ∧ i = .int .i64 j ∧ Hid (GT w wr c sb X g (goK F t0 s j))) (fun i _ => 32 - (intOf i).toNat)
 case atStart => exact ⟨0, by omega, rfl, G0⟩
 case round =>
  clear G0;obtain ⟨j, hj, rfl, HGj⟩ := hrel
  have hlen : (goK F t0 s j).1.length = 32 := by rw [goK_len]; exact HT0.out
  have hle := goK_le h.le t0 s j;have HS : Hid (goK F t0 s (j + 1) = ((goK F t0 s j).1.set j (leftF (F (goK F t0 s j).2 j (t0.getD j 0)).1 (t0.getD j 0)), (F (goK F t0 s j).2 j (t0.getD j 0)).2)) := hid rfl
  by_cases hj32 : j < 32
  ·have a0 : (0 : Int) ≤ (j : Int) := by omega
   have a1 : (j : Int) < 32 := by omega
   have hix := index_ptr t0 j HT0.out hj32
   have hLe : (goK F t0 s j).2.sp.length + D ≤ 1000000 := by
    have : (j + 1) * D ≤ 32 * D := Nat.mul_le_mul_right D (by omega);rw [Nat.succ_mul] at this
    omega
   obtain ⟨n0, n1⟩ := HBD.out j;have hLF := left_any h (goK F t0 s j).2 j (t0.getD j 0) wr HGj.out.t HGj.out.x (by omega) (by omega) n0 n1 hLe
   generalize goK F t0 s j = r at *
   generalize t0.getD j 0 = x at *
   generalize F r.2 j x = q at *
   have HLen := hid hlen;clear hlen hle hLe n0 n1
   go_upto_region 6 with (first
    | (go_at_call 83; go_must (refine hLF.mono ?_; rintro e w4 ⟨rfl, hT4, hc4⟩; have hg4 := HGj.out.t.stay HGj.out.g (by decide) (by decide) (by decide) hc4; have hc := row_cell hg4 j (by rw [HLen.out]; exact hj32); have hf := row_free hg4 j; have HG4 := hid hg4; have HT4 := hid hT4; clear hg4))
    | fail)
   have hp5 := row_setCell HG4.out j (leftF q.1 x);have hc5 : Chg w4 (w4.setCell ⟨g, j, none⟩ (.int .i64 (leftF q.1 x))) (· = g) := Chg.setCell;have hn5 := HgB.out
   have GN : Hid (GT w (w4.setCell ⟨g, j, none⟩ (.int .i64 (leftF q.1 x))) c sb X g (goK F t0 s (j + 1))) := hid (by
    rw [HS.out]
    exact ⟨HT4.out.aside HG4.out (by decide) (by decide) (by decide) (by decide) hn5.2 hc5, h.st _ _ (h.st _ _ HGj.out.x (HGj.out.t.stays hc4)) (stays_at HG4.out (by decide) hc5), hp5.here, (kt_trans HGj.out.c hc4).trans hc5 (fun _ _ e => e) (fun _ hj e => by omega)⟩)
   generalize (w4.setCell ⟨g, j, none⟩ (.int .i64 (leftF q.1 x))) = w5 at *
   clear hc5 hp5 hn5 hc hf HG4 HT4 hT4 hc4 HGj HS hLF
   go_wp2_with fail
   exact ⟨⟨j + 1, by omega, by go_num, GN⟩, by simp [intOf]; omega⟩
  ·have a1 : ¬ ((j : Int) < 32) := by omega
   obtain rfl : j = 32 := by omega
   generalize goK F t0 s 32 = r at *
   have HLen := hid hlen;clear hlen hle HS;have hbp := build_ptr;have c3 := HGj.out.t.p.c3;have c4 := HGj.out.t.p.c4
   by_cases hz : r.1 = Zp
   ·have HGz : Hid (goF F (k : Int) s = (false, ⟨r.2.wt, delC r.2.cl (k : Int), r.2.sp⟩)) := hid (by rw [HG.out, if_pos hz])
    have hq : ∀ W, (Op.equalIn 10000 103 (.agg (NA r.1)) (.agg (NA Zp))).run Tryz.prog W = .ok true W := fun W => by
     have := eq_arr 103 32 undP 9998 r.1 Zp HLen.out Zp_len W;rw [decide_eq_true hz] at this
     exact this
    have HQ := hid hq;have HCl := hid HGj.out.t.k.cl;clear hz hq
    go_upto_if 32 with (first
     | (refine load_R rfl 103 _ rfl g rfl 103 (NA r.1) _ HGj.out.g undP rfl (by rw [szP, NA_size, HLen.out]) ?_)
     | (refine eql_R (by rfl) 103 _ _ rfl (NA r.1) (NA Zp) true rfl rfl HQ.out guardP ?_)
     | fail)
    simp only [Act.put, List.setIfInBounds_toArray, List.set_cons_zero, List.set_cons_succ]
    clear hbp
    go_wp2_with (first
     | (at_delete; go_must (refine wp_delS rfl _ _ rfl c.b.cb _ (k : Int) rfl rfl HCl.out HkI.out ?_; intro w5 hs5 hc5 hz5))
     | fail)
    go_ret
    rw [HGz.out];have hk := HGj.out.t.k;have hp := HGj.out.t.p;refine ⟨rfl, HGj.out.t.claims (hp.cl hk hc5) ⟨hk.wt.keep hc5 (hp.ne_cb hk).2, hk.wl, hs5.cong fun x => ?_, fun x hx => ?_⟩ hc5, kt_trans HGj.out.c (claims_kt HGj.out.t hc5)⟩
    ·simp [delC]
     exact ⟨fun e => ⟨e.2, e.1⟩, fun e => ⟨e.2, e.1⟩⟩
    ·exact hk.ck x (by simp [delC] at hx; exact hx.2)
   ·have HGz : Hid (goF F (k : Int) s = (true, ⟨r.2.wt.set k (ptrS r.1), r.2.cl, r.2.sp⟩)) := hid (by rw [HG.out, if_neg hz])
    have hq : ∀ W, (Op.equalIn 10000 103 (.agg (NA r.1)) (.agg (NA Zp))).run Tryz.prog W = .ok false W := fun W => by
     have := eq_arr 103 32 undP 9998 r.1 Zp HLen.out Zp_len W;rw [decide_eq_false hz] at this
     exact this
    have HQ := hid hq;have HPS := hid (fun W => pointersSector_any r.1 HLen.out W);have HSE := hid (ptrS_sec r.1)
    have HPW : Hid (c.b.p ≠ c.b.wb) := hid (by
     obtain ⟨A, hA⟩ := HGj.out.t.k.wt.isRow
     exact obj_ne HGj.out.t.p.me hA (by intro e; cases e))
    have HGW : Hid (g ≠ c.b.wb) := hid (by
     obtain ⟨A, hA⟩ := HGj.out.t.k.wt.isRow
     exact obj_ne HGj.out.g hA (by intro e; cases e))
    clear hz hq
    go_upto_if 32 with (first
     | (refine load_R rfl 103 _ rfl g rfl 103 (NA r.1) _ HGj.out.g undP rfl (by rw [szP, NA_size, HLen.out]) ?_)
     | (refine eql_R (by rfl) 103 _ _ rfl (NA r.1) (NA Zp) false rfl rfl HQ.out guardP ?_)
     | fail)
    simp only [Act.put, List.setIfInBounds_toArray, List.set_cons_zero, List.set_cons_succ]
    clear hbp
    go_upto_region 10 with fail
    refine wp_region_noPanic ?_;refine wp_region_held_drew (S := fun w' => Chg wr w' (· = c.b.wb)) (by kernel_rfl) (Chg.refl _ _).drew (fun hH => ?_)
    have hP := fun (W : World) (hW : Chg wr W (· = c.b.wb)) => (HGj.out.t.p.keep hW HPW.out (fun _ e => e ▸ HGj.out.t.p.b0)).c3
    refine tV 0 39 (.pointer (some ⟨c.b.p, 0, none⟩)) rfl (by kernel_rfl) rfl (by rfl) hH (fun W' hw' => rfl) ?_;simp only [sS];refine tV 1 40 (.pointer (some ⟨c.b.p, 0, none⟩)) rfl (by kernel_rfl) rfl (by rfl) hH (fun W' hw' => by go_simp) ?_;simp only [sS];refine tV 2 41 (.pointer (some ⟨c.b.p, 3, none⟩)) rfl (by kernel_rfl) rfl (by rfl) hH (fun W' hw' => by go_simp) ?_;simp only [sS];refine tV 3 42 (.slice (some ⟨c.b.wb, 0, none⟩) c.N c.wc) rfl (by kernel_rfl) rfl (by rfl) hH (fun W' hw' => by have hc := hP W' hw'; go_simp) ?_;simp only [sS];refine tV 4 43 (.int .i64 (k : Int)) rfl (by kernel_rfl) rfl (by rfl) hH (fun W' hw' => rfl) ?_;simp only [sS];refine takeR 5 44 103 (.tmp 7) g 103 (NA r.1) _ rfl (by kernel_rfl) (by kernel_rfl) (by kernel_rfl) rfl rfl rfl undP rfl (by rw [szP, NA_size, HLen.out]) (by rfl) (fun _ _ _ h => h) hH (fun W' hw' => hw'.keep HGj.out.g HGW.out) ?_;simp only [sS];refine step1 6 (by kernel_rfl) ?_;refine stCall 6 45 117 #[.agg (NA r.1)] _ rfl rfl (by rfl) (by go_simp) (HPS.out _) ?_
    rintro e w5 ⟨rfl, hb5⟩
    have hc5n : Chg wr w5 No := ((Chg.refl wr No).drew).trans (Chg.of_below hb5 No) (fun _ _ e => e) (fun _ _ e => e)
    have hc5 : Chg wr w5 (· = c.b.wb) := hc5n.mono fun _ _ e => e.elim
    refine ⟨_, rfl, hc5, ?_⟩;simp only [sS];refine tV 7 38 (.tuple #[.agg (SA (ptrS r.1)), .int .i64 (ptrE r.1)]) rfl (by kernel_rfl) rfl (by rfl) hc5 (fun W' hw' => rfl) ?_;simp only [sS];refine tV 8 46 (.agg (SA (ptrS r.1))) rfl (by kernel_rfl) rfl (by rfl) hc5 (fun W' hw' => by go_simp) ?_;simp only [sS];refine tV 9 47 (.int .i64 (ptrE r.1)) rfl (by kernel_rfl) rfl (by rfl) hc5 (fun W' hw' => by go_simp) ?_;simp only [sS];refine tV 10 48 (.pointer (some ⟨c.b.wb, k * 128, none⟩)) rfl (by kernel_rfl) rfl (by rfl) hc5 (fun W' hw' => by go_simp) ?_;simp only [sS];refine step1 11 (by kernel_rfl) ?_;refine stStoreW 11 (.tmp 48) (.tmp 46) c.b.wb k (ptrS r.1) r.2.wt rfl rfl (by rfl) rfl rfl rfl HSE.out (HGj.out.t.k.call hc5n).wt (by rw [HGj.out.t.k.wl]; exact hk2) ?_
    intro w6 hw6 hc6 hz6
    refine ⟨hc5.trans hc6 (fun _ _ e => e) (fun _ _ e => e), ?_⟩;refine wpAnyH_done (by kernel_rfl) ?_ _;refine NoPanic.normal ?_
    go_wp2_with fail
    go_ret
    rw [HGz.out]
    exact ⟨rfl, (HGj.out.t.call hc5n).wants hw6 (by rw [List.length_set]; exact HGj.out.t.k.wl) hc6, kt_trans HGj.out.c ((kt_no hc5n).trans hc6 (fun _ _ e => e) (fun _ _ e => ⟨e ▸ HGj.out.t.p.b0, .inl e⟩))⟩

end Go.Proofs.YtpmignilhoihnaaGreat

namespace Go.Proofs.YtpmignilhoihnaaGreat
open Go.RowKit Go.Shelf

abbrev PV (g : Nat) : Value := .pointer (some ⟨g, 0, none⟩)
set_option maxRecDepth 100000 in
set_option maxHeartbeats 1000000 in
theorem table_make (each : Int) (fn : Nat) (caps : Array Value) (kb lb : Nat) (w : World) :
  Calls Tryz.prog 79 #[.int .i64 each, .func (.func fn) #[] caps, PV kb, PV lb] w fun e w' => ∃ ge gk, e = .returned (.func (.func 80) #[] #[PV kb, PV lb, PV gk, PV ge]) ∧ Box w' ge (.int .i64 each) 3 ∧ Box w' gk (.func (.func fn) #[] caps) 134 ∧ Chg w w' No := by
 have h1 : Box ((w.alloc (.cells #[.int .i64 each] 3)).alloc (.cells #[.func (.func fn) #[] caps] 134)) w.heap.size (.int .i64 each) 3 := (Chg.alloc _ _ No).keep (heap_alloc_new w _) (fun e => e)
 have h2 : Box ((w.alloc (.cells #[.int .i64 each] 3)).alloc (.cells #[.func (.func fn) #[] caps] 134)) (w.heap.size + 1) (.func (.func fn) #[] caps) 134 := by
  have := heap_alloc_new (w.alloc (.cells #[.int .i64 each] 3)) (.cells #[.func (.func fn) #[] caps] 134)
  simp only [World.size_alloc] at this
  exact this
 have HC := hid ((Chg.alloc w (.cells #[.int .i64 each] 3) No).trans (Chg.alloc _ (.cells #[.func (.func fn) #[] caps] 134) No) (c := No) (fun _ _ e => e) (fun _ _ e => e));have H1 := hid h1;have H2 := hid h2;clear h1 h2
 go_enter Tryz.func79, Tryz.ntmps79
 go_wp2_with fail
 go_ret
 exact ⟨w.heap.size, w.heap.size + 1, rfl, H1.out, H2.out, HC.out⟩

def XT (c : LC) (X : World → Prop) (kb lb gk ge : Nat) (fn : Nat) (caps : Array Value) (cnt each : Int) (w : World) : Prop :=
 XB c kb lb cnt w ∧ Box w gk (.func (.func fn) #[] caps) 134 ∧ Box w ge (.int .i64 each) 3 ∧ X w
theorem goF_le {F : KeepF} {D : Nat} (h : ∀ s i n, (F s i n).2.sp.length ≤ s.sp.length + D) (at_ : Int) (s : TS) : (goF F at_ s).2.sp.length ≤ s.sp.length + 32 * D := by
 have := goK_le h (ptrsTo (secI s.wt at_) 32) s 32;unfold goF
 simp only
 split <;> exact this
theorem tableF_le {F : KeepF} {D : Nat} (N M cnt each : Int) (h : ∀ s i n, (F s i n).2.sp.length ≤ s.sp.length + D) (s : TS) (i n : Int) : (tableF N M cnt each F s i n).2.sp.length ≤ s.sp.length + 32 * D := by
 unfold tableF
 split
 ·exact goF_le (F := innerF each i F) (fun s i n => h s _ n) n _
 ·exact Nat.le_add_right _ _

set_option maxRecDepth 100000 in
set_option maxHeartbeats 2000000 in
theorem table_any {c : LC} {sb : Nat} {X : World → Prop} {fn : Nat} {caps : Array Value} {U : Int} {D : Nat} {F : KeepF} {kb lb gk ge : Nat} {cnt each : Int} (h : Keeper c sb X fn caps U D F) (he : each = 1 ∨ each = 32) (hU2 : U ≤ 1000000)
  (s : TS) (f n : Int) (w : World) (ht : TE w c sb s) (hx : XT c X kb lb gk ge fn caps cnt each w) (hf : 0 ≤ f) (hU : f + each * 31 ≤ U) (hn0 : 0 ≤ n) (hn1 : n ≤ 4294967295) (hl : s.sp.length + 32 * D ≤ 1000000) :
  Calls Tryz.prog 80 #[.int .i64 f, .int .i64 n, PV kb, PV lb, PV gk, PV ge] w fun e w' => e = .returned (.bool (tableF c.N c.M cnt each F s f n).1) ∧ TE w' c sb (tableF c.N c.M cnt each F s f n).2 ∧ Chg w w' (Kt c sb w) := by
 obtain ⟨hXB, hgk, hge, hX⟩ := hx;have HA := hid (Chg.alloc w (.cells #[.int .i64 f] 3) No);have hgf : Box (w.alloc (.cells #[.int .i64 f] 3)) w.heap.size (.int .i64 f) 3 := heap_alloc_new w _;have hXI : XI X gk w.heap.size ge fn caps f each (w.alloc (.cells #[.int .i64 f] 3)) := ⟨hgk.call HA.out, hgf, hge.call HA.out, h.st _ _ hX (stays_no HA.out)⟩;have k0 := hgf.cell;have k1 := (hXB.1.call HA.out).cell;have k2 := (hXB.2.call HA.out).cell;have hT0 := ht.call HA.out;have hK := inner_keeper (gk := gk) (gf := w.heap.size) (ge := ge) h he hf hU hU2;unfold LP at k2
 by_cases hfc : f < cnt
 ·have hCL := claim_any n _ hT0.p hT0.k ⟨by omega, by omega⟩
  cases hb : claimB c.N c.M s.cl n
  ·have HF : Hid (tableF c.N c.M cnt each F s f n = (false, s)) := hid (by simp [tableF, hb])
   rw [hb] at hCL;rw [HF.out];have HT0 := hid hT0;clear ht hT0 hXB hgk hge hX hXI hgf hK h
   go_enter Tryz.func80, Tryz.ntmps80
   go_wp2_with (first
    | (go_at_call 78; go_must (refine hCL.mono ?_; rintro e w1 ⟨rfl, hp1, hk1, hc1⟩))
    | fail)
   go_ret
   exact ⟨rfl, HT0.out.claims hp1 hk1 hc1, kt_trans (kt_no HA.out) (claims_kt HT0.out hc1)⟩
  ·have HF : Hid (tableF c.N c.M cnt each F s f n = goF (innerF each f F) n ⟨s.wt, Go.Proofs.YtpmignilhoihnaaGreat.putC s.cl n, s.sp⟩) := hid (by simp [tableF, hb, hfc])
   rw [hb] at hCL;rw [HF.out]
   have hdat : (c.M : Int) < n ∧ n < c.N := by
    have : dataB c.M c.N n = true := by simp [claimB] at hb; exact hb.2
    simpa [dataB] using this
   obtain ⟨k, rfl⟩ : ∃ k : Nat, n = (k : Int) := ⟨n.toNat, by omega⟩;have HGo := hid (fun (W : World) (hT : TE W c sb ⟨s.wt, Go.Proofs.YtpmignilhoihnaaGreat.putC s.cl (k : Int), s.sp⟩) (hxi : XI X gk w.heap.size ge fn caps f each W) => goThrough_any hK ⟨s.wt, Go.Proofs.YtpmignilhoihnaaGreat.putC s.cl (k : Int), s.sp⟩ k W hT hxi (by omega) (by omega) hl);have HT0 := hid hT0;have HXI := hid hXI;have HKst := hid hK.st;have HBL := hid (hXB.2.call HA.out);clear ht hT0 hXB hgk hge hX hXI hgf hK h
   generalize goF (innerF each f F) (k : Int) ⟨s.wt, Go.Proofs.YtpmignilhoihnaaGreat.putC s.cl (k : Int), s.sp⟩ = q at *
   obtain ⟨qb, qs⟩ := q;unfold LP at HGo
   cases qb
   ·go_enter Tryz.func80, Tryz.ntmps80
    go_wp2_with (first
     | (go_at_call 78; go_must (refine hCL.mono ?_; rintro e w1 ⟨rfl, hp1, hk1, hc1⟩; simp only [if_true] at hk1; have hT1 := HT0.out.claims hp1 hk1 hc1; have hG := HGo.out w1 hT1 (HKst.out _ _ HXI.out (HT0.out.stays (claims_kt HT0.out hc1))); have k21 : w1.cell? ⟨lb, 0, none⟩ = some (.pointer (some ⟨c.b.p, 0, none⟩)) := Box.cell (HT0.out.stays (claims_kt HT0.out hc1) _ _ _ HBL.out (.inr (.inl rfl))); have HT1 := hid hT1; have HC1 := hid hc1; clear hp1 hk1 hT1 hc1))
     | (go_at_call 81; go_must (refine hG.mono ?_; rintro e w2 ⟨rfl, hT2, hc2⟩))
     | fail)
    go_ret
    exact ⟨rfl, hT2, kt_trans (kt_no HA.out) (kt_trans (claims_kt HT0.out HC1.out) hc2)⟩
   ·go_enter Tryz.func80, Tryz.ntmps80
    go_wp2_with (first
     | (go_at_call 78; go_must (refine hCL.mono ?_; rintro e w1 ⟨rfl, hp1, hk1, hc1⟩; simp only [if_true] at hk1; have hT1 := HT0.out.claims hp1 hk1 hc1; have hG := HGo.out w1 hT1 (HKst.out _ _ HXI.out (HT0.out.stays (claims_kt HT0.out hc1))); have k21 : w1.cell? ⟨lb, 0, none⟩ = some (.pointer (some ⟨c.b.p, 0, none⟩)) := Box.cell (HT0.out.stays (claims_kt HT0.out hc1) _ _ _ HBL.out (.inr (.inl rfl))); have HT1 := hid hT1; have HC1 := hid hc1; clear hp1 hk1 hT1 hc1))
     | (go_at_call 81; go_must (refine hG.mono ?_; rintro e w2 ⟨rfl, hT2, hc2⟩))
     | fail)
    go_ret
    exact ⟨rfl, hT2, kt_trans (kt_no HA.out) (kt_trans (claims_kt HT0.out HC1.out) hc2)⟩
 ·have HF : Hid (tableF c.N c.M cnt each F s f n = (false, s)) := hid (by simp [tableF, hfc])
  rw [HF.out];have HT0 := hid hT0;clear ht hT0 hXB hgk hge hX hXI hgf hK h
  go_enter Tryz.func80, Tryz.ntmps80
  go_wp2_with fail
  go_ret
  exact ⟨rfl, HT0.out, kt_no HA.out⟩

theorem table_keeper {c : LC} {sb : Nat} {X : World → Prop} {fn : Nat} {caps : Array Value} {U U' : Int} {D : Nat} {F : KeepF} {kb lb gk ge : Nat} {cnt each : Int} (h : Keeper c sb X fn caps U D F) (he : each = 1 ∨ each = 32) (hU2 : U ≤ 1000000) (hU : U' + each * 31 ≤ U) :
  Keeper c sb (XT c X kb lb gk ge fn caps cnt each) 80 #[PV kb, PV lb, PV gk, PV ge] U' (32 * D) (tableF c.N c.M cnt each F) where
 en := enters_of Tryz.func80 (by kernel_rfl) rfl
 st := fun w w' hx hs => ⟨hx.1.stay hs, hs _ _ _ hx.2.1 (.inr (.inr rfl)), hs _ _ _ hx.2.2.1 (.inl rfl), h.st w w' hx.2.2.2 hs⟩
 le := tableF_le _ _ _ _ h.le
 run := fun s i n w ht hx h0 h1 hn0 hn1 hl => table_any h he hU2 s i n w ht hx h0 (by omega) hn0 hn1 hl

end Go.Proofs.YtpmignilhoihnaaGreat

namespace Go.Proofs.YtpmignilhoihnaaGreat
open Go.RowKit Go.Shelf

def IOwn (w : World) (B : Nat) (v : Value) (l : List Int) : Prop := w.ownsRow B 3 1 v l.length (l.map (Value.int .i64))
theorem infoI : ∃ i, Tryz.prog.info? 3 = some i ∧ i.zero = some (.int .i64 0) ∧ i.size = 1 ∧ i.bytes = 8 := by
 have h : (Tryz.prog.info? 3).map (fun i => (i.zero, i.size, i.bytes)) = some (some (.int .i64 0), 1, 8) := by kernel_rfl
 cases hq : Tryz.prog.info? 3 with
 | none => rw [hq] at h; cases h
 | some i =>
  rw [hq] at h
  simp at h
  exact ⟨i, rfl, h.1, h.2.1, h.2.2⟩
theorem IOwn.blk {w : World} {B : Nat} {v : Value} {l : List Int} (h : IOwn w B v l) {k : Nat} (e : v.ownBlock = some k) : B ≤ k ∧ ∃ A, w.heap[k]? = some (.cells A 3 (0, 0)) := by
 rcases h.2 with ⟨rfl, _⟩ | ⟨g, cap, cur, rfl, hb, hg, _⟩
 ·cases e
 ·have : g = k := by simpa [Value.ownBlock] using e
  subst this
  exact ⟨hb, cur, hg⟩
theorem IOwn.keep {w w' : World} {B : Nat} {v : Value} {l : List Int} {ks : Nat → Prop} (h : IOwn w B v l) (hc : Chg w w' ks) (hn : ∀ k, v.ownBlock = some k → ¬ ks k) : IOwn w' B v l := by
 refine ⟨h.1, ?_⟩
 rcases h.2 with k | ⟨g, cap, cur, rfl, hb, hg, r⟩
 ·exact .inl k
 ·exact .inr ⟨g, cap, cur, rfl, hb, hc.keep hg (hn g rfl), r⟩
theorem IOwn.lat {w : World} {B : Nat} {v : Value} {l : List Int} (h : IOwn w B v l) : ∃ a c, v = .slice a l.length c ∧ LAt w a l := by
 obtain ⟨a, c, rfl⟩ := row_shapeP h;refine ⟨a, c, rfl, ?_⟩
 rcases Nat.eq_zero_or_pos l.length with h0 | h0
 ·exact .inl (List.eq_nil_of_length_eq_zero h0)
 ·rcases h.2 with ⟨e, _⟩ | ⟨g, cap, cur, e, hb, hg, r⟩
  ·injection e; omega
  ·cases e
   refine .inr ⟨g, rfl, ⟨cur, hg⟩, fun k hk => ?_⟩;have := World.ownsRow.cells h (g := g) rfl k (.int .i64 (l.getD k 0)) (by simp [hk])
   have hadd : (⟨g, 0, none⟩ : Addr).add k = ⟨g, k, none⟩ := by unfold Addr.add; split <;> simp_all
   rw [hadd] at this
   exact this
section
variable {ops : Array Oper} {rest : List Oper} {o : Oper} {a : Act} {Q : Exit → Act → World → Prop} {w : World}
theorem wp_appI (hg : o.guard = none) (s x : Operand) (hop : o.op = .call { callee := .builtin .append, args := #[s, x], argTypes := #[24, 24] }) (B g c : Nat) (v : Value) (l : List Int) (y : Int) (hs : a.eval s = v) (hx : a.eval x = .slice (some ⟨g, 0, none⟩) 1 c)
  (hown : IOwn w B v l) (hat : w.cell? ⟨g, 0, none⟩ = some (.int .i64 y)) (hl : l.length ≤ 1000000000000) (hB : B ≤ w.heap.size)
  (hK : ∀ v' w', IOwn w' B v' (l ++ [y]) → Chg w w' (fun k => v.ownBlock = some k) → wpList Tryz.prog ops Q rest (a.put o.dst v') w') : wpList Tryz.prog ops Q (o :: rest) a w := by
 obtain ⟨i, hi, hz, hsz, hby⟩ := infoI;refine wpList_append_own_at w hg s x 24 hop B 3 i _ 1 8 Tryz.underlying24 hi hz hsz hby rfl (by decide) v l.length (l.map (Value.int .i64)) hs hown ⟨g, 0, none⟩ 1 c [.int .i64 y] hx rfl (fun j u hj => ?_) (by simp [Value.oneCell']) (by unfold maxLen; omega) (by omega) hB ?_
 ·cases j with
  | zero => simp at hj; subst hj; exact hat
  | succ j => simp at hj
 ·intro v' w' h1 h2 _ _
  refine hK v' w' ?_ ((Chg.grown h2).mono fun j _ e => e.symm);unfold IOwn;rw [List.map_append, List.length_append]
  exact h1
end
def SpAt (w : World) (a : Option Addr) (l : List (Int × Int)) : Prop := l = [] ∨ ∃ g, a = some ⟨g, 0, none⟩ ∧ g < w.heap.size ∧ ∀ (k : Nat) x, l[k]? = some x → w.cell? ⟨g, k * 2, none⟩ = some (.int .i64 x.1) ∧ w.cell? ⟨g, k * 2 + 1, none⟩ = some (.int .i64 x.2)
theorem SpAt.call {w w' : World} {a : Option Addr} {l : List (Int × Int)} (h : SpAt w a l) (hc : Chg w w' No) : SpAt w' a l := by
 rcases h with h | ⟨g, rfl, hg, h⟩
 ·exact .inl h
 ·exact .inr ⟨g, rfl, Nat.lt_of_lt_of_le hg hc.size, fun k x hk => ⟨cell_keep (h k x hk).1 hc hg (fun e => e), cell_keep (h k x hk).2 hc hg (fun e => e)⟩⟩
theorem spAt_of {w : World} {B : Nat} {v : Value} {l : List (Int × Int)} (h : w.ownsRow B 116 2 v l.length (cellsP l)) : ∃ a c, v = .slice a l.length c ∧ SpAt w a l := by
 obtain ⟨a, c, rfl⟩ := row_shapeP h;refine ⟨a, c, rfl, ?_⟩
 rcases Nat.eq_zero_or_pos l.length with h0 | h0
 ·exact .inl (List.eq_nil_of_length_eq_zero h0)
 ·rcases h.2 with ⟨e, _⟩ | ⟨g, cap, cur, e, hb, hg, r⟩
  ·injection e; omega
  ·cases e
   refine .inr ⟨g, rfl, slt hg, fun k x hk => ?_⟩
   have hadd : ∀ k, (⟨g, 0, none⟩ : Addr).add k = ⟨g, k, none⟩ := fun k => by unfold Addr.add; split <;> simp_all
   have c0 := World.ownsRow.cells h (g := g) rfl (2 * k) (.int .i64 x.1) (by rw [(cellsP_get l k).1, hk]; rfl);have c1 := World.ownsRow.cells h (g := g) rfl (2 * k + 1) (.int .i64 x.2) (by rw [(cellsP_get l k).2, hk]; rfl);rw [hadd] at c0 c1;rw [Nat.mul_comm k 2]
   exact ⟨c0, c1⟩

set_option maxRecDepth 100000 in
set_option maxHeartbeats 1000000 in
theorem sectorsOf_any (l : List (Int × Int)) (a : Option Addr) (cap : Nat) (w : World) (h : SpAt w a l) (hl : l.length ≤ 1000000) :
  Calls Tryz.prog 84 #[.slice a l.length cap] w fun e w' => ∃ a' c', e = .returned (.slice a' l.length c') ∧ LAt w' a' (l.map Prod.snd) ∧ Chg w w' No := by
 have HS := hid h
 generalize hm : l.length = m at *
 have HM := hid hm;clear h hm
 go_enter Tryz.func84, Tryz.ntmps84
 go_wp2_with fail
 go_loopw [3, 8] (fun v i wr => ∃ (k : Nat) (vv : Value), vv = v ∧ k ≤ m ∧ i = .int .i64 k ∧ Hid (IOwn wr w.heap.size vv ((l.take k).map Prod.snd)) ∧ Hid (Chg w wr No)) (fun _ i _ => m - (intOf i).toNat)
 case atStart => exact ⟨0, _, rfl, by omega, rfl, hid (by simp; exact World.ownsRow_nil _ _ _ _), hid (Chg.refl _ _)⟩
 case round =>
  obtain ⟨k, vv, rfl, hk, rfl, HI, HC⟩ := hrel
  by_cases hlt : k < m
  ·have i0 : (0 : Int) ≤ (k : Int) := by omega
   have i1 : (k : Int) < (m : Int) := by omega
   obtain ⟨x, hx⟩ : ∃ x, l[k]? = some x := ⟨_, List.getElem?_eq_getElem (by rw [HM.out]; exact hlt)⟩
   rcases HS.out with h0 | ⟨g, rfl, hg, hc⟩
   ·rw [h0] at hx; simp at hx
   obtain ⟨c0, c1⟩ := hc k x hx;have d0 := cell_keep c0 HC.out hg (fun e => e);have d1 := cell_keep c1 HC.out hg (fun e => e)
   have HX : Hid (l.take (k + 1) = l.take k ++ [x]) := hid (by
    rw [List.take_add_one, hx]; rfl)
   clear c0 c1 hc hx
   go_upto_region 5 with fail
   have e1 : (wr.alloc (.cells #[.int .i64 x.1, .int .i64 x.2] 116)).cell? ⟨wr.heap.size, 1, none⟩ = some (.int .i64 x.2) := (cell_of_row _ _ _ _ _ _ (heap_alloc_new wr _)).trans rfl
   have hz : (wr.alloc (.cells #[.int .i64 x.1, .int .i64 x.2] 116)).heap.size = wr.heap.size + 1 := by simp
   have e2 : ((wr.alloc (.cells #[.int .i64 x.1, .int .i64 x.2] 116)).alloc (.cells #[.int .i64 x.2] 3)).cell? ⟨wr.heap.size + 1, 0, none⟩ = some (.int .i64 x.2) := by
    rw [← hz]
    exact (cell_of_row _ _ _ _ _ _ (heap_alloc_new (wr.alloc (.cells #[.int .i64 x.1, .int .i64 x.2] 116)) _)).trans rfl
   have HC2 : Hid (Chg wr ((wr.alloc (.cells #[.int .i64 x.1, .int .i64 x.2] 116)).alloc (.cells #[.int .i64 x.2] 3)) No) := hid ((Chg.alloc wr _ No).trans (Chg.alloc _ _ No) (fun _ _ e => e) (fun _ _ e => e));have HI2 := hid (HI.out.keep HC2.out (fun _ _ e => e));have HB2 : Hid (w.heap.size ≤ ((wr.alloc (.cells #[.int .i64 x.1, .int .i64 x.2] 116)).alloc (.cells #[.int .i64 x.2] 3)).heap.size) := hid (Nat.le_trans HC.out.size HC2.out.size);have HT : Hid (((l.take k).map Prod.snd).length ≤ 1000000000000) := hid (by simp; have := HM.out; omega);clear hz
   go_wp2_with (first
    | (at_builtin; go_must (refine wp_appI rfl _ _ rfl w.heap.size (wr.heap.size + 1) 1 vv _ x.2 rfl rfl HI2.out e2 HT.out HB2.out ?_; intro v' w7 hI7 hc7))
    | fail)
   have hch : Chg w w7 No := (HC.out.trans HC2.out (c := No) (fun _ _ e => e) (fun _ _ e => e)).trans hc7 (fun _ _ e => e) (fun j hj e => by have := (HI2.out.blk e).1; omega)
   exact ⟨⟨k + 1, v', rfl, by omega, by go_num, hid (by rw [HX.out, List.map_append]; exact hI7), hid hch⟩, by simp [intOf]; omega⟩
  ·have i1 : ¬ (k : Int) < (m : Int) := by omega
   obtain rfl : k = m := by omega
   have hI := HI.out;rw [List.take_of_length_le (by rw [HM.out]; exact Nat.le_refl _)] at hI;obtain ⟨a', c', rfl, hL⟩ := hI.lat;have HLL := hid hL;rw [List.length_map, HM.out];clear hL hI
   go_wp2_with fail
   go_ret
   exact ⟨a', ⟨c', rfl⟩, HLL.out, HC.out⟩

end Go.Proofs.YtpmignilhoihnaaGreat
