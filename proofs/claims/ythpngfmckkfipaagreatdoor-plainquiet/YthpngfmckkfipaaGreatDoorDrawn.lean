/-
  Steps through a statement whose order of evaluation is left open.
-/
import Derived.Test.YthpngfmckkfipaaGreatDoorBase
import Derived.Deep.RegionHeld3
import Derived.Deep.RegionLaw
namespace Go.Proofs.YthpngfmckkfipaaGreatDoor
open Go.RowKit

section
variable {ops : Array Oper} {Q : Exit → Act → World → Prop} {S : World → Prop} {fuel : Nat} {listed : Array Bool} {a : Act} {w : World}

/-- An operation that yields v in every world that meets S is taken first. -/
theorem takeVal (i d : Nat) (v : Value) {o : Oper} (hop : ops[i]? = some o) (hs : Region.noSelect ops = true) (hf : Region.free .any ops listed i = true) (hr : (Region.ready .any ops listed).contains i = true)
    (hd : o.dst = some d) (hw : Region.wanted o (yielded ops a.tmps) = true) (hQ : ∀ c a w, ¬ Q (.panic c) a w) (hS : S w)
    (hy : ∀ w, S w → (execOp a.eval o).run Tryz.prog w = .ok (.value v) w)
    (h : wpAnyH Tryz.prog .any ops Q S fuel (listed.setIfInBounds i true) { a with tmps := a.tmps.setIfInBounds d v } w) : wpAnyH Tryz.prog .any ops Q S (fuel + 1) listed a w := by
  refine wpAnyH_take (v := v) hop hs hf hr (fun c a w k => absurd k (hQ c _ w)) (.inl ⟨hw, hy⟩) hS ?_
  unfold Act.put
  rw [hd]
  exact h

/-- An operation that is not wanted. -/
theorem takeNot (i d : Nat) {o : Oper} (hop : ops[i]? = some o) (hs : Region.noSelect ops = true) (hf : Region.free .any ops listed i = true) (hr : (Region.ready .any ops listed).contains i = true)
    (hd : o.dst = some d) (hw : Region.wanted o (yielded ops a.tmps) = false) (hQ : ∀ c a w, ¬ Q (.panic c) a w) (hS : S w)
    (h : wpAnyH Tryz.prog .any ops Q S fuel (listed.setIfInBounds i true) { a with tmps := a.tmps.setIfInBounds d undef } w) : wpAnyH Tryz.prog .any ops Q S (fuel + 1) listed a w := by
  refine wpAnyH_take (v := undef) hop hs hf hr (fun c a w k => absurd k (hQ c _ w)) (.inr ⟨hw, rfl⟩) hS ?_
  unfold Act.put
  rw [hd]
  exact h

/-- One of those that may come up: the step, and what follows. -/
abbrev St (ops : Array Oper) (Q : Exit → Act → World → Prop) (S : World → Prop) (fuel : Nat) (listed : Array Bool) (a : Act) (w : World) (i : Nat) : Prop :=
  wpOp Tryz.prog ops Q i (fun a' w' => S w' ∧ wpAnyH Tryz.prog .any ops Q S fuel (listed.setIfInBounds i true) a' w') a w

theorem step1 (i : Nat) (hr : Region.ready .any ops listed = [i]) (h : St ops Q S fuel listed a w i) : wpAnyH Tryz.prog .any ops Q S (fuel + 1) listed a w :=
  wpAnyH_all hr (by simp) fun j hj => by simp at hj; subst hj; exact h
theorem step2 (i j : Nat) (hr : Region.ready .any ops listed = [i, j]) (h : St ops Q S fuel listed a w i) (k : St ops Q S fuel listed a w j) : wpAnyH Tryz.prog .any ops Q S (fuel + 1) listed a w :=
  wpAnyH_all hr (by simp) fun l hl => by
    simp at hl
    rcases hl with rfl | rfl
    · exact h
    · exact k

theorem stCall (i d f : Nat) (args : Array Value) (R : Ending → World → Prop) {o : Oper} (hop : ops[i]? = some o)
    (hd : o.dst = some d) (hw : Region.wanted o (yielded ops a.tmps) = true) (hrun : (execOp a.eval o).run Tryz.prog w = .ok (.enter f args) w) (hc : Calls Tryz.prog f args w R)
    (h : ∀ e w', R e w' → ∃ v, e = .returned v ∧ S w' ∧ wpAnyH Tryz.prog .any ops Q S fuel (listed.setIfInBounds i true) { a with tmps := a.tmps.setIfInBounds d v } w') : St ops Q S fuel listed a w i := by
  refine wpOp_step hop (fun K hK => ?_)
  rw [if_pos hw]
  unfold Oper.wp
  rw [hrun, Oper.upon_enter]
  refine hc.mono ?_
  intro e w' hR
  obtain ⟨v, rfl, hS, hrest⟩ := h e w' hR
  refine hK _ _ ⟨hS, ?_⟩
  unfold Act.put
  rw [hd]
  exact hrest
theorem stVal (i d : Nat) (v : Value) {o : Oper} (hop : ops[i]? = some o) (hd : o.dst = some d) (hw : Region.wanted o (yielded ops a.tmps) = true)
    (hrun : (execOp a.eval o).run Tryz.prog w = .ok (.value v) w) (hS : S w)
    (h : wpAnyH Tryz.prog .any ops Q S fuel (listed.setIfInBounds i true) { a with tmps := a.tmps.setIfInBounds d v } w) : St ops Q S fuel listed a w i := by
  refine wpOp_step hop (fun K hK => ?_)
  rw [if_pos hw]
  unfold Oper.wp
  rw [hrun]
  refine hK _ _ ⟨hS, ?_⟩
  unfold Act.put
  rw [hd]
  exact h
/-- Something new is made. -/
theorem stNew (i d : Nat) (v : Value) (ob : Obj) {o : Oper} (hop : ops[i]? = some o) (hd : o.dst = some d) (hw : Region.wanted o (yielded ops a.tmps) = true)
    (hrun : (execOp a.eval o).run Tryz.prog w = .ok (.value v) (w.alloc ob))
    (h : S (w.alloc ob) ∧ wpAnyH Tryz.prog .any ops Q S fuel (listed.setIfInBounds i true) { a with tmps := a.tmps.setIfInBounds d v } (w.alloc ob)) : St ops Q S fuel listed a w i := by
  refine wpOp_step hop (fun K hK => ?_)
  rw [if_pos hw]
  unfold Oper.wp
  rw [hrun]
  refine hK _ _ ⟨h.1, ?_⟩
  unfold Act.put
  rw [hd]
  exact h.2
end

/-- A fact on memory may be made stronger on the way through a statement whose order is open. -/
theorem wpAnyH_more {ops : Array Oper} {Q : Exit → Act → World → Prop} {S S' : World → Prop} (hS : ∀ w, S' w → S w) : ∀ (fuel : Nat) (listed : Array Bool) (a : Act) (w : World), wpAnyH Tryz.prog .any ops Q S' fuel listed a w → wpAnyH Tryz.prog .any ops Q S fuel listed a w
  | 0, _, _, _, h => h
  | fuel + 1, _, _, _, h => ⟨h.1, fun i hi => wpOp_mono (fun a' w' hh => ⟨hS w' hh.1, wpAnyH_more hS fuel _ a' w' hh.2⟩) (h.2 i hi)⟩

end Go.Proofs.YthpngfmckkfipaaGreatDoor
