/-
  A list of lists: one cell of one list is written over.
-/
import Derived.Test.YtfkmpbbemkkdaaaDoorQV
import Derived.Test.YtfkmpbbemkkdaaaDoorDrawn
namespace Go.Proofs.YtfkmpbbemkkdaaaDoor
open Go.RowKit Go.Shelf

theorem Lot.put {B : Nat} {v : Value} {V : List Lst} {w : World} {x : Lst} {j g k : Nat} {t : ByteArray} (h : Lot B v V w) (hj : V[j]? = some x) (hg : x.1 = some g) :
    Lot B v (V.set j (x.1, x.2.set k t)) (w.setCell ⟨g, k, none⟩ (.string t)) := by
  have hc : Chg w (w.setCell ⟨g, k, none⟩ (.string t)) (· = g) := Chg.setCell
  have hjl : j < V.length := by
    rcases Nat.lt_or_ge j V.length with e | e
    · exact e
    · rw [List.getElem?_eq_none e] at hj; cases hj
  have get : ∀ (i : Nat) y, (V.set j (x.1, x.2.set k t))[i]? = some y → (i ≠ j ∧ V[i]? = some y) ∨ (i = j ∧ y = (x.1, x.2.set k t)) := by
    intro i y hy
    rw [List.getElem?_set] at hy
    by_cases e : j = i
    · subst e; rw [if_pos rfl, if_pos hjl] at hy; exact .inr ⟨rfl, (Option.some.inj hy).symm⟩
    · rw [if_neg e] at hy; exact .inl ⟨fun k => e k.symm, hy⟩
  have hx := own_lt (h.own j x hj).1 hg
  have hmap : (V.set j (x.1, x.2.set k t)).map valV = V.map valV := by
    apply List.ext_getElem? 
    intro i
    rw [List.getElem?_map, List.getElem?_map, List.getElem?_set]
    by_cases e : j = i
    · subst e
      rw [if_pos rfl, if_pos hjl, hj]
      simp [valV, adr]
    · rw [if_neg e]
  have first : ∀ (i : Nat) y, (V.set j (x.1, x.2.set k t))[i]? = some y → ∃ y', V[i]? = some y' ∧ y'.1 = y.1 := by
    intro i y hy
    rcases get i y hy with ⟨_, h1⟩ | ⟨rfl, rfl⟩
    · exact ⟨y, h1, rfl⟩
    · exact ⟨x, hj, rfl⟩
  refine ⟨?_, ?_, ?_, ?_⟩
  · show SOwn _ _ _ _
    rw [hmap]
    exact row_keep h.row hc (fun i hi e => h.far j x g hj hg (by rw [← e]; exact hi))
  · intro i y hy
    rcases get i y hy with ⟨hne, h1⟩ | ⟨rfl, rfl⟩
    · exact ⟨own_chg (h.own i y h1).1 hc (fun g' hg' e => hne (h.two i j y x g h1 hj (by rw [hg', e]) hg)), (h.own i y h1).2⟩
    · refine ⟨.inr ⟨g, by simp [adr, hg], hx.1, ?_⟩, by simpa using (h.own _ x hj).2⟩
      rw [heap_setCell_same w g k _ 9 _ hx.2]
      simp
  · intro i y g' hy hg'
    obtain ⟨y', h1, h2⟩ := first i y hy
    exact h.far i y' g' h1 (by rw [h2]; exact hg')
  · intro i i' y z g' hy hz h1 h2
    obtain ⟨y', a1, a2⟩ := first i y hy
    obtain ⟨z', b1, b2⟩ := first i' z hz
    exact h.two i i' y' z' g' a1 b1 (by rw [a2]; exact h1) (by rw [b2]; exact h2)
section
variable {ops : Array Oper} {Q : Exit → Act → World → Prop} {S : World → Prop} {fuel : Nat} {listed : Array Bool} {a : Act} {w : World}
/-- An operation with no slot: a store. -/
theorem stPut (i : Nat) (w' : World) {o : Oper} (hop : ops[i]? = some o) (hd : o.dst = none) (hw : Region.wanted o (yielded ops a.tmps) = true)
    (hrun : (execOp a.eval o).run Tryd.prog w = .ok .skip w')
    (h : S w' ∧ wpAnyH Tryd.prog .any ops Q S fuel (listed.setIfInBounds i true) a w') : St ops Q S fuel listed a w i := by
  refine wpOp_step hop (fun K hK => ?_)
  rw [if_pos hw]
  unfold Oper.wp
  rw [hrun]
  refine hK _ _ ⟨h.1, ?_⟩
  unfold Act.put
  rw [hd]
  exact h.2
end

end Go.Proofs.YtfkmpbbemkkdaaaDoor
