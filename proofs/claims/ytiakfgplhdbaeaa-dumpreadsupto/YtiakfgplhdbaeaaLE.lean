/-
  What the statements' helper lend leaves: nodes in memory of their own.
-/
import Derived.Test.YtiakfgplhdbaeaaCR
namespace Go.Proofs.Ytiakfgplhdbaeaa
open Go.RowKit

def F5 : List Int := [201, 201, 201, 201, 201]
def lentN (n : Nod) (h : Nat) : Nod := { n with da := some ⟨h, 0, none⟩, dc := n.data.length + 5 }
def markN : Nod := ⟨⟨#[109, 97, 114, 107]⟩, 0, 0, ⟨#[]⟩, none, [], 0⟩
def rowN (n : Nod) : List Value := (nodA n).toList
theorem rowN_len (n : Nod) : (rowN n).length = 5 := rfl
def hv (n : Nod) (h : Nat) : Value := .slice (some ⟨h, 0, none⟩) (n.data.length + 5) (n.data.length + 5)
theorem cne {A B : Array Value} {t u : TypeId} (h : t ≠ u) : (Obj.cells A t (0, 0)) ≠ .cells B u (0, 0) := fun e => by injection e with _ e _; exact h e
/-- The blocks of the bytes. -/
structure LB (w0 w : World) (L : List Nod) (hs : List Nat) : Prop where
  len : hs.length = L.length
  at_ : ∀ i, i < L.length → w.heap[hs.getD i 0]? = some (.cells (SB ((L.getD i Nod.z).data ++ F5)) 5 (0, 0))
  new : ∀ i, i < L.length → w0.heap.size ≤ hs.getD i 0
  ap : ∀ i j, i < L.length → j < L.length → i ≠ j → hs.getD i 0 ≠ hs.getD j 0
section
variable {w0 w w' : World} {L : List Nod} {hs : List Nat} {ks : Nat → Prop}
theorem LB.keep (h : LB w0 w L hs) (hc : Chg w w' ks) (hn : ∀ i, i < L.length → ¬ ks (hs.getD i 0)) : LB w0 w' L hs :=
  ⟨h.len, fun i hi => hc.keep (h.at_ i hi) (hn i hi), h.new, h.ap⟩
theorem LB.nil (w0 w : World) : LB w0 w [] [] := ⟨rfl, fun _ hi => absurd hi (Nat.not_lt_zero _), fun _ hi => absurd hi (Nat.not_lt_zero _), fun _ _ hi => absurd hi (Nat.not_lt_zero _)⟩
theorem getD_left {α : Type} {l m : List α} {i : Nat} {d : α} (h : i < l.length) : (l ++ m).getD i d = l.getD i d := by
  rw [List.getD_eq_getElem?_getD, List.getD_eq_getElem?_getD, List.getElem?_append_left h]
theorem getD_last {α : Type} {l : List α} {x d : α} : (l ++ [x]).getD l.length d = x := by simp
theorem LB.more (h : LB w0 w L hs) (n : Nod) (g : Nat) (hg : w.heap[g]? = some (.cells (SB (n.data ++ F5)) 5 (0, 0))) (h0 : w0.heap.size ≤ g) (hne : ∀ i, i < L.length → hs.getD i 0 ≠ g) : LB w0 w (L ++ [n]) (hs ++ [g]) := by
  have hl : (L ++ [n]).length = L.length + 1 := by simp
  have cases_ : ∀ i, i < (L ++ [n]).length → (i < L.length ∧ (hs ++ [g]).getD i 0 = hs.getD i 0 ∧ (L ++ [n]).getD i Nod.z = L.getD i Nod.z) ∨ (i = L.length ∧ (hs ++ [g]).getD i 0 = g ∧ (L ++ [n]).getD i Nod.z = n) := fun i hi => by
    by_cases e : i < L.length
    · exact .inl ⟨e, getD_left (by rw [h.len]; exact e), getD_left e⟩
    · have e : i = L.length := by omega
      subst e
      exact .inr ⟨rfl, by rw [← h.len]; exact getD_last, getD_last⟩
  refine ⟨by simp [h.len], fun i hi => ?_, fun i hi => ?_, fun i j hi hj hij => ?_⟩
  · rcases cases_ i hi with ⟨e1, e2, e3⟩ | ⟨e1, e2, e3⟩
    · rw [e2, e3]; exact h.at_ i e1
    · rw [e2, e3]; exact hg
  · rcases cases_ i hi with ⟨e1, e2, e3⟩ | ⟨e1, e2, e3⟩
    · rw [e2]; exact h.new i e1
    · rw [e2]; exact h0
  · rcases cases_ i hi with ⟨e1, e2, _⟩ | ⟨e1, e2, _⟩ <;> rcases cases_ j hj with ⟨f1, f2, _⟩ | ⟨f1, f2, _⟩
    · rw [e2, f2]; exact h.ap i j e1 f1 hij
    · rw [e2, f2]; exact hne i e1
    · rw [e2, f2]; exact fun e => hne j f1 e.symm
    · omega
end
/-- While nodes are lent. -/
structure LS (w0 w : World) (g3 gN m : Nat) (L : List Nod) (hs : List Nat) (vb : Value) (R : List (List Value)) : Prop where
  st : w.heap[g3]? = some (.cells #[.slice (some ⟨gN, 0, none⟩) m m, vb] 27 (0, 0))
  nr : NR w gN R
  bb : LB w0 w L hs
  vb : w.ownsRow w0.heap.size 29 1 vb L.length (List.zipWith hv L hs)
  ch : Chg w0 w No
  n3 : w0.heap.size ≤ g3
  nN : w0.heap.size ≤ gN
section
variable {w0 w w' : World} {g3 gN m : Nat} {L : List Nod} {hs : List Nat} {vb : Value} {R : List (List Value)}
theorem rowV_keep {ks : Nat → Prop} {B n : Nat} {v : Value} {xs : List Value} (h : w.ownsRow B 29 1 v n xs) (hc : Chg w w' ks) (hn : ∀ k, v.ownBlock = some k → ¬ ks k) : w'.ownsRow B 29 1 v n xs := by
  refine ⟨h.1, ?_⟩
  rcases h.2 with h | ⟨g, cap, cur, rfl, hg, hk, r⟩
  · exact .inl h
  · exact .inr ⟨g, cap, cur, rfl, hg, hc.keep hk (hn g rfl), r⟩
theorem rowV_blk {B n : Nat} {v : Value} {xs : List Value} (h : w.ownsRow B 29 1 v n xs) {k : Nat} (e : v.ownBlock = some k) : B ≤ k ∧ ∃ A, w.heap[k]? = some (.cells A 29 (0, 0)) := by
  rcases h.2 with ⟨rfl, _⟩ | ⟨g, cap, cur, rfl, hg, hb, _⟩
  · simp [Value.ownBlock] at e
  · have e : g = k := by simpa [Value.ownBlock] using e
    subst e
    exact ⟨hg, cur, hb⟩
theorem LS.call (h : LS w0 w g3 gN m L hs vb R) (hc : Chg w w' No) : LS w0 w' g3 gN m L hs vb R :=
  ⟨hc.keep h.st (fun e => e), h.nr.keep hc (fun e => e), h.bb.keep hc (fun _ _ e => e), rowV_keep h.vb hc (fun _ _ e => e), h.ch.tr hc, h.n3, h.nN⟩
theorem LS.c0 (h : LS w0 w g3 gN m L hs vb R) : w.cell? ⟨g3, 0, none⟩ = some (.slice (some ⟨gN, 0, none⟩) m m) := (cell_of_row _ _ _ _ _ _ h.st).trans rfl
theorem LS.c1 (h : LS w0 w g3 gN m L hs vb R) : w.cell? ⟨g3, 1, none⟩ = some vb := (cell_of_row _ _ _ _ _ _ h.st).trans rfl
/-- The row of nodes is written over. -/
theorem LS.turnN {R' : List (List Value)} (h : LS w0 w g3 gN m L hs vb R) (hr : NR w' gN R') (hc : Chg w w' (· = gN)) : LS w0 w' g3 gN m L hs vb R' := by
  obtain ⟨A, hA⟩ := h.nr.isRow
  exact ⟨hc.keep h.st (obj_ne h.st hA (cne (by decide))), hr, h.bb.keep hc (fun i hi => obj_ne (h.bb.at_ i hi) hA (cne (by decide))),
    rowV_keep h.vb hc (fun k e => by obtain ⟨_, B, hB⟩ := rowV_blk h.vb e; exact obj_ne hB hA (cne (by decide))), h.ch.trans hc (fun _ _ e => e) (fun j hj e => by have := h.nN; omega), h.n3, h.nN⟩
/-- One more is lent. -/
theorem LS.more {vb' : Value} (h : LS w0 w g3 gN m L hs vb R) (n : Nod) (g : Nat) (hg : w.heap[g]? = some (.cells (SB (n.data ++ F5)) 5 (0, 0))) (h0 : w0.heap.size ≤ g) (hne : ∀ i, i < L.length → hs.getD i 0 ≠ g)
    (hv' : w'.ownsRow w0.heap.size 29 1 vb' (L.length + 1) (List.zipWith hv L hs ++ [hv n g])) (hc : Chg w w' (fun k => vb.ownBlock = some k)) : LS w0 (w'.setCell ⟨g3, 1, none⟩ vb') g3 gN m (L ++ [n]) (hs ++ [g]) vb' R := by
  obtain ⟨A, hA⟩ := h.nr.isRow
  have own : ∀ k, vb.ownBlock = some k → ∃ B, w.heap[k]? = some (.cells B 29 (0, 0)) := fun k e => (rowV_blk h.vb e).2
  have st1 := hc.keep h.st (fun e => by obtain ⟨B, hB⟩ := own _ e; rw [h.st] at hB; cases hB)
  have nr1 : NR w' gN R := h.nr.keep hc (fun e => by obtain ⟨B, hB⟩ := own _ e; rw [hA] at hB; cases hB)
  have hA1 := hc.keep hA (fun e => by obtain ⟨B, hB⟩ := own _ e; rw [hA] at hB; cases hB)
  have bb1 : LB w0 w' (L ++ [n]) (hs ++ [g]) := (h.bb.more n g hg h0 hne).keep hc (fun i hi e => by
    obtain ⟨B, hB⟩ := own _ e
    rw [(h.bb.more n g hg h0 hne).at_ i hi] at hB
    cases hB)
  have ch1 : Chg w0 w' No := h.ch.trans hc (fun _ _ e => e) (fun j hj e => by have := (rowV_blk h.vb e).1; omega)
  have c2 : Chg w' (w'.setCell ⟨g3, 1, none⟩ vb') (· = g3) := Chg.setCell
  refine ⟨?_, nr1.keep c2 (obj_ne hA1 st1 (cne (by decide))), bb1.keep c2 (fun i hi => obj_ne (bb1.at_ i hi) st1 (cne (by decide))), ?_, ch1.trans c2 (fun _ _ e => e) (fun j hj e => by have := h.n3; omega), h.n3, h.nN⟩
  · rw [heap_setCell_same w' g3 1 _ _ _ st1]
    rfl
  · have e : List.zipWith hv (L ++ [n]) (hs ++ [g]) = List.zipWith hv L hs ++ [hv n g] := by rw [List.zipWith_append h.bb.len.symm]; rfl
    rw [e, List.length_append]
    exact rowV_keep hv' c2 (fun k e => by obtain ⟨_, B, hB⟩ := rowV_blk hv' e; exact obj_ne hB st1 (cne (by decide)))
end
end Go.Proofs.Ytiakfgplhdbaeaa
