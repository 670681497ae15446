/-
  Two graphs, and the document's two, side by side: what one does to itself the others don't see.
-/
import Derived.Test.YtjnafcogdakbbaaLawI
namespace Go.Proofs.Ytjnafcogdakbbaa
open Go.RowKit

/-- One of several is another. -/
def upd {α : Type} (f : Nat → α) (i : Nat) (x : α) (j : Nat) : α := if j = i then x else f j
theorem upd_same {α : Type} (f : Nat → α) (i : Nat) (x : α) : upd f i x i = x := by simp [upd]
theorem upd_other {α : Type} (f : Nat → α) {i j : Nat} (x : α) (h : j ≠ i) : upd f i x j = f j := by simp [upd, h]

/-- Four that lie side by side, in blocks of their own. -/
structure Four (w : World) (B bg br : Nat) (p r : Nat → Nat) (o q : Nat → Nat → Prop) (E F : Nat → Int → Int → Prop) : Prop where
  g : ∀ i, i < 2 → IsG w (p i) (o i) (E i)
  h : ∀ i, i < 2 → IsR w (r i) (q i) (F i)
  mg : ∀ i k, i < 2 → o i k → B ≤ k ∧ k < w.heap.size ∧ k ≠ bg ∧ k ≠ br
  mr : ∀ i k, i < 2 → q i k → B ≤ k ∧ k < w.heap.size ∧ k ≠ bg ∧ k ≠ br
  dgr : ∀ i j k, i < 2 → j < 2 → o i k → ¬ q j k
  dgg : ∀ i j k, i < 2 → j < 2 → i ≠ j → o i k → ¬ o j k
  drr : ∀ i j k, i < 2 → j < 2 → i ≠ j → q i k → ¬ q j k
  lg : bg < w.heap.size ∧ B ≤ bg
  lr : br < w.heap.size ∧ B ≤ br
  cg : ∀ i, i < 2 → w.cell? ⟨bg, i, none⟩ = some (.pointer (some ⟨p i, 0, none⟩))
  cr : ∀ i, i < 2 → w.cell? ⟨br, i, none⟩ = some (.pointer (some ⟨r i, 0, none⟩))

variable {w w' : World} {B bg br : Nat} {p r : Nat → Nat} {o q : Nat → Nat → Prop} {E F : Nat → Int → Int → Prop}

theorem Four.keep {ks : Nat → Prop} (h : Four w B bg br p r o q E F) (hc : Chg w w' ks) (hn : ∀ k, k < w.heap.size → B ≤ k → ¬ ks k) : Four w' B bg br p r o q E F :=
  ⟨fun i hi => (h.g i hi).keep hc (fun k hk => hn k (h.mg i k hi hk).2.1 (h.mg i k hi hk).1), fun i hi => (h.h i hi).keep hc (fun k hk => hn k (h.mr i k hi hk).2.1 (h.mr i k hi hk).1),
    fun i k hi hk => ⟨(h.mg i k hi hk).1, Nat.lt_of_lt_of_le (h.mg i k hi hk).2.1 hc.size, (h.mg i k hi hk).2.2⟩, fun i k hi hk => ⟨(h.mr i k hi hk).1, Nat.lt_of_lt_of_le (h.mr i k hi hk).2.1 hc.size, (h.mr i k hi hk).2.2⟩,
    h.dgr, h.dgg, h.drr, ⟨Nat.lt_of_lt_of_le h.lg.1 hc.size, h.lg.2⟩, ⟨Nat.lt_of_lt_of_le h.lr.1 hc.size, h.lr.2⟩,
    fun i hi => cell_keep (h.cg i hi) hc h.lg.1 (hn _ h.lg.1 h.lg.2), fun i hi => cell_keep (h.cr i hi) hc h.lr.1 (hn _ h.lr.1 h.lr.2)⟩
theorem Four.call (h : Four w B bg br p r o q E F) (hc : Chg w w' No) : Four w' B bg br p r o q E F := h.keep hc fun _ _ _ e => e

theorem Four.stepG (h : Four w B bg br p r o q E F) {i : Nat} (hi : i < 2) {own' : Nat → Prop} {E' : Int → Int → Prop} (hG : IsG w' (p i) own' E') (hs : ∀ k, own' k → o i k ∨ (w.heap.size ≤ k ∧ k < w'.heap.size)) (hc : Chg w w' (o i)) :
    Four w' B bg br p r (upd o i own') q (upd E i E') F := by
  have hz := hc.size
  have hlg := h.lg
  have hlr := h.lr
  refine ⟨fun j hj => ?_, fun j hj => (h.h j hj).keep hc (fun k hk e => h.dgr i j k hi hj e hk), fun j k hj hk => ?_, fun j k hj hk => ⟨(h.mr j k hj hk).1, Nat.lt_of_lt_of_le (h.mr j k hj hk).2.1 hz, (h.mr j k hj hk).2.2⟩, fun j l k hj hl hk => ?_, fun j l k hj hl hjl hk => ?_, h.drr, ⟨by omega, h.lg.2⟩, ⟨by omega, h.lr.2⟩,
    fun j hj => cell_keep (h.cg j hj) hc h.lg.1 (fun e => (h.mg i _ hi e).2.2.1 rfl), fun j hj => cell_keep (h.cr j hj) hc h.lr.1 (fun e => (h.mg i _ hi e).2.2.2 rfl)⟩
  · by_cases e : j = i
    · subst e; rw [upd_same, upd_same]; exact hG
    · rw [upd_other _ _ e, upd_other _ _ e]; exact (h.g j hj).keep hc (fun k hk k' => h.dgg j i k hj hi e hk k')
  · by_cases e : j = i
    · subst e
      rw [upd_same] at hk
      rcases hs k hk with k1 | k1
      · have := h.mg j k hj k1; exact ⟨this.1, by omega, this.2.2⟩
      · exact ⟨by omega, k1.2, by omega, by omega⟩
    · rw [upd_other _ _ e] at hk
      have := h.mg j k hj hk; exact ⟨this.1, by omega, this.2.2⟩
  · intro k'
    by_cases e : j = i
    · subst e
      rw [upd_same] at hk
      rcases hs k hk with k1 | k1
      · exact h.dgr j l k hj hl k1 k'
      · have := h.mr l k hl k'; omega
    · rw [upd_other _ _ e] at hk
      exact h.dgr j l k hj hl hk k'
  · intro k'
    by_cases e : j = i
    · subst e
      rw [upd_same] at hk
      rw [upd_other _ _ (fun e => hjl e.symm)] at k'
      rcases hs k hk with k1 | k1
      · exact h.dgg j l k hj hl hjl k1 k'
      · have := h.mg l k hl k'; omega
    · rw [upd_other _ _ e] at hk
      by_cases e2 : l = i
      · subst e2
        rw [upd_same] at k'
        rcases hs k k' with k1 | k1
        · exact h.dgg j l k hj hl hjl hk k1
        · have := h.mg j k hj hk; omega
      · rw [upd_other _ _ e2] at k'
        exact h.dgg j l k hj hl hjl hk k'

theorem Four.stepR (h : Four w B bg br p r o q E F) {i : Nat} (hi : i < 2) {own' : Nat → Prop} {F' : Int → Int → Prop} (hG : IsR w' (r i) own' F') (hs : ∀ k, own' k → q i k ∨ (w.heap.size ≤ k ∧ k < w'.heap.size)) (hc : Chg w w' (q i)) :
    Four w' B bg br p r o (upd q i own') E (upd F i F') := by
  have hz := hc.size
  have hlg := h.lg
  have hlr := h.lr
  refine ⟨fun j hj => (h.g j hj).keep hc (fun k hk e => h.dgr j i k hj hi hk e), fun j hj => ?_, fun j k hj hk => ⟨(h.mg j k hj hk).1, Nat.lt_of_lt_of_le (h.mg j k hj hk).2.1 hz, (h.mg j k hj hk).2.2⟩, fun j k hj hk => ?_, fun j l k hj hl hk => ?_, h.dgg, fun j l k hj hl hjl hk => ?_, ⟨by omega, h.lg.2⟩, ⟨by omega, h.lr.2⟩,
    fun j hj => cell_keep (h.cg j hj) hc h.lg.1 (fun e => (h.mr i _ hi e).2.2.1 rfl), fun j hj => cell_keep (h.cr j hj) hc h.lr.1 (fun e => (h.mr i _ hi e).2.2.2 rfl)⟩
  · by_cases e : j = i
    · subst e; rw [upd_same, upd_same]; exact hG
    · rw [upd_other _ _ e, upd_other _ _ e]; exact (h.h j hj).keep hc (fun k hk k' => h.drr j i k hj hi e hk k')
  · by_cases e : j = i
    · subst e
      rw [upd_same] at hk
      rcases hs k hk with k1 | k1
      · have := h.mr j k hj k1; exact ⟨this.1, by omega, this.2.2⟩
      · exact ⟨by omega, k1.2, by omega, by omega⟩
    · rw [upd_other _ _ e] at hk
      have := h.mr j k hj hk; exact ⟨this.1, by omega, this.2.2⟩
  · intro k'
    by_cases e : l = i
    · subst e
      rw [upd_same] at k'
      rcases hs k k' with k1 | k1
      · exact h.dgr j l k hj hl hk k1
      · have := h.mg j k hj hk; omega
    · rw [upd_other _ _ e] at k'
      exact h.dgr j l k hj hl hk k'
  · intro k'
    by_cases e : j = i
    · subst e
      rw [upd_same] at hk
      rw [upd_other _ _ (fun e => hjl e.symm)] at k'
      rcases hs k hk with k1 | k1
      · exact h.drr j l k hj hl hjl k1 k'
      · have := h.mr l k hl k'; omega
    · rw [upd_other _ _ e] at hk
      by_cases e2 : l = i
      · subst e2
        rw [upd_same] at k'
        rcases hs k k' with k1 | k1
        · exact h.drr j l k hj hl hjl hk k1
        · have := h.mr j k hj hk; omega
      · rw [upd_other _ _ e2] at k'
        exact h.drr j l k hj hl hjl hk k'

section
variable {ops : Array Oper} {Q : Exit → Act → World → Prop} {S : World → Prop} {fuel : Nat} {listed : Array Bool} {a : Act}
/-- An answer is written, in a statement whose order of evaluation is left open. -/
theorem stStoreT (i : Nat) {o : Oper} (hop : ops[i]? = some o) (hd : o.dst = none) (hw : Region.wanted o (yielded ops a.tmps) = true) (x y : Operand) (ho : o.op = .store 37 x y) (g : Nat) (c : Int) (b : Bool) (vl ve : Value)
    (hx : a.eval x = .pointer (some ⟨g, 0, none⟩)) (hy : a.eval y = .agg (toldA c b vl ve)) (old : Array Value) (hg : w.heap[g]? = some (.cells old 37 (0, 0))) (hold : old.size = 4) (h1 : vl.oneCell' = true) (h2 : ve.oneCell' = true)
    (h : ∀ w', w'.heap[g]? = some (.cells (toldA c b vl ve) 37 (0, 0)) → Chg w w' (· = g) → w'.heap.size = w.heap.size → S w' ∧ wpAnyH Try.prog .any ops Q S fuel (listed.setIfInBounds i true) a w') : St ops Q S fuel listed a w i := by
  have h' := h (w.setRow g (toldA c b vl ve)) (by simp [World.setRow, Array.getElem?_modify, hg]) ⟨rfl, rfl, rfl, by simp [World.setRow], fun k _ hk => by simp only [World.setRow, Array.getElem?_modify]; rw [if_neg (fun e => hk e.symm)]⟩ (by simp [World.setRow])
  refine wpOp_step hop (fun K hK => ?_)
  rw [if_pos hw]
  refine wp_store_row 37 x y ho g (toldA c b vl ve) hx hy 37 old hg (by rw [szT]; rfl) (by rw [hold]; rfl) (told_one h1 h2) (hK _ _ ⟨h'.1, ?_⟩)
  unfold Act.put
  rw [hd]
  exact h'.2
end

end Go.Proofs.Ytjnafcogdakbbaa
