/-
  What is known of memory, block by block, and how it stands behind calls, new variables and writes.
-/
import Derived.Test.YtgkanfmkohlmcaaGreatDBase
import Derived.Deep.RegionHeld3
namespace Go.Proofs.YtgkanfmkohlmcaaGreat.D
open Go.RowKit
-- may lack

section
variable {ops : Array Oper} {Q : Exit → Act → World → Prop} {S : World → Prop} {fuel : Nat} {listed : Array Bool} {a : Act} {w : World}

/-- An operation that yields v in every world that meets S is taken first. -/
theorem takeVal (i d : Nat) (v : Value) {o : Oper} (hop : ops[i]? = some o) (hs : Region.noSelect ops = true) (hf : Region.free .any ops listed i = true) (hr : (Region.ready .any ops listed).contains i = true)
    (hd : o.dst = some d) (hw : Region.wanted o (yielded ops a.tmps) = true) (hQ : ∀ c a w, ¬ Q (.panic c) a w) (hS : S w)
    (hy : ∀ w, S w → (execOp a.eval o).run Tryz.prog w = .ok (.value v) w)
    (h : wpAnyH Tryz.prog .any ops Q S fuel (listed.setIfInBounds i true) { a with tmps := a.tmps.setIfInBounds d v } w) : wpAnyH Tryz.prog .any ops Q S (fuel + 1) listed a w := by
  refine wpAnyH_take (v := v) hop hs hf hr (fun c a w k => absurd k (hQ c _ w)) (.inl ⟨hw, hy⟩) hS ?_
  unfold Act.put
  rw [hd]
  exact h

/-- An operation that is not wanted. -/
theorem takeNot (i d : Nat) {o : Oper} (hop : ops[i]? = some o) (hs : Region.noSelect ops = true) (hf : Region.free .any ops listed i = true) (hr : (Region.ready .any ops listed).contains i = true)
    (hd : o.dst = some d) (hw : Region.wanted o (yielded ops a.tmps) = false) (hQ : ∀ c a w, ¬ Q (.panic c) a w) (hS : S w)
    (h : wpAnyH Tryz.prog .any ops Q S fuel (listed.setIfInBounds i true) { a with tmps := a.tmps.setIfInBounds d undef } w) : wpAnyH Tryz.prog .any ops Q S (fuel + 1) listed a w := by
  refine wpAnyH_take (v := undef) hop hs hf hr (fun c a w k => absurd k (hQ c _ w)) (.inr ⟨hw, rfl⟩) hS ?_
  unfold Act.put
  rw [hd]
  exact h

/-- A sector is loaded. -/
theorem takeSec (i d : Nat) (x : Operand) (g : Nat) (c : List Int) (hc : c.length = 128) {o : Oper} (hop : ops[i]? = some o) (hs : Region.noSelect ops = true) (hf : Region.free .any ops listed i = true) (hr : (Region.ready .any ops listed).contains i = true)
    (hd : o.dst = some d) (ho : o.op = .load 46 x) (hx : a.eval x = .pointer (some ⟨g, 0, none⟩)) (hw : Region.wanted o (yielded ops a.tmps) = true) (hQ : ∀ c a w, ¬ Q (.panic c) a w) (hS : S w)
    (hg : ∀ w, S w → w.heap[g]? = some (.cells (SA c) 46 (0, 0)))
    (h : wpAnyH Tryz.prog .any ops Q S fuel (listed.setIfInBounds i true) { a with tmps := a.tmps.setIfInBounds d (.agg (SA c)) } w) : wpAnyH Tryz.prog .any ops Q S (fuel + 1) listed a w := by
  refine takeVal i d (.agg (SA c)) hop hs hf hr hd hw hQ hS (fun w hw' => ?_) h
  unfold execOp
  simp only [ho, hx, Instr.loadAt, Instr.sureAddr, Sem.run_bind, Sem.run_pure, Result.andThen_ok, run_loadVar_row w g 46 46 (SA c) (0, 0) _ (hg w hw') Tryz.underlying46 rfl (by rw [sz26, SA_size, hc])]

/-- The one operation that may come up is a call: its contract. -/
theorem stepCall (i d f : Nat) (args : Array Value) (R : Ending → World → Prop) {o : Oper} (hop : ops[i]? = some o) (hr : Region.ready .any ops listed = [i])
    (hd : o.dst = some d) (hw : Region.wanted o (yielded ops a.tmps) = true) (hrun : (execOp a.eval o).run Tryz.prog w = .ok (.enter f args) w) (hc : Calls Tryz.prog f args w R)
    (h : ∀ e w', R e w' → ∃ v, e = .returned v ∧ S w' ∧ (S w' → wpAnyH Tryz.prog .any ops Q S fuel (listed.setIfInBounds i true) { a with tmps := a.tmps.setIfInBounds d v } w')) : wpAnyH Tryz.prog .any ops Q S (fuel + 1) listed a w := by
  refine wpAnyH_ready (rs := [i]) hr (by simp) ?_
  refine AllReadyH.cons hop (fun K hK => ?_) AllReadyH.nil
  rw [if_pos hw]
  unfold Oper.wp
  rw [hrun, Oper.upon_enter]
  refine hc.mono ?_
  intro e w' hR
  obtain ⟨v, rfl, hS, hrest⟩ := h e w' hR
  refine hK.out _ _ hS ?_
  intro hS'
  have := hrest hS'
  unfold Act.put
  rw [hd]
  exact this
end

end Go.Proofs.YtgkanfmkohlmcaaGreat.D

namespace Go.Proofs.YtgkanfmkohlmcaaGreat.D
open Go.RowKit
-- may lack

/-- The blocks of the list hold what the list says; nothing that was there in w0 has turned. -/
structure HB (w0 : World) (bl : List (Nat × Obj)) (w : World) : Prop where
  at_ : ∀ x, x ∈ bl → w.heap[x.1]? = some x.2
  low : ∀ x, x ∈ bl → x.1 < w.heap.size
  old : Below w0.heap.size w0 w

theorem HB.get {w0 w : World} {bl : List (Nat × Obj)} (h : HB w0 bl w) {g : Nat} {o : Obj} (hm : (g, o) ∈ bl) : w.heap[g]? = some o := h.at_ _ hm
theorem HB.call {w0 w w' : World} {bl : List (Nat × Obj)} (h : HB w0 bl w) (hb : Below w.heap.size w w') : HB w0 bl w' :=
  ⟨fun x hx => by rw [hb.block _ (h.low x hx)]; exact h.at_ x hx, fun x hx => by have := h.low x hx; have := hb.size; omega, h.old.trans (hb.mono h.old.size)⟩
theorem HB.drew {w0 w : World} {bl : List (Nat × Obj)} (h : HB w0 bl w) : HB w0 bl w.drew := ⟨h.at_, h.low, h.old.drew⟩
theorem HB.drewN {w0 w : World} {bl : List (Nat × Obj)} {n : Nat} (h : HB w0 bl w) : HB w0 bl (w.drewN n) := ⟨h.at_, h.low, h.old.os, h.old.tape, h.old.output, h.old.size, h.old.block⟩
theorem HB.alloc {w0 w : World} {bl : List (Nat × Obj)} (h : HB w0 bl w) (o : Obj) : HB w0 ((w.heap.size, o) :: bl) (w.alloc o) := by
  refine ⟨fun x hx => ?_, fun x hx => ?_, h.old.alloc h.old.size o⟩
  · rcases List.mem_cons.1 hx with rfl | hx
    · exact heap_alloc_new w o
    · rw [Below.heap_alloc _ _ _ (h.low x hx)]; exact h.at_ x hx
  · rcases List.mem_cons.1 hx with rfl | hx
    · simp
    · have := h.low x hx; simp; omega
/-- A sector is written at a block that comes behind all others of the list. -/
theorem HB.write {w0 w w' : World} {bl : List (Nat × Obj)} {g : Nat} {o : Obj} {c : List Int} (h : HB w0 ((g, o) :: bl) w) (hw : Wrote w g c w') (hg : w0.heap.size ≤ g) (hne : ∀ x, x ∈ bl → x.1 ≠ g) : HB w0 ((g, .cells (SA c) 46 (0, 0)) :: bl) w' := by
  refine ⟨fun x hx => ?_, fun x hx => ?_, hw.below h.old hg⟩
  · rcases List.mem_cons.1 hx with rfl | hx
    · exact hw.here
    · rw [hw.other _ (hne x hx)]; exact h.at_ x (List.mem_cons_of_mem _ hx)
  · rcases List.mem_cons.1 hx with rfl | hx
    · rw [hw.size]; exact h.low (g, o) (by simp)
    · rw [hw.size]; exact h.low x (List.mem_cons_of_mem _ hx)
theorem HB.tail {w0 w : World} {x : Nat × Obj} {bl : List (Nat × Obj)} (h : HB w0 (x :: bl) w) : HB w0 bl w := ⟨fun y hy => h.at_ y (List.mem_cons_of_mem _ hy), fun y hy => h.low y (List.mem_cons_of_mem _ hy), h.old⟩
/-- A new variable is another block than all of the list. -/
theorem HB.fresh {w0 w : World} {bl : List (Nat × Obj)} (h : HB w0 bl w) : ∀ x, x ∈ bl → x.1 ≠ w.heap.size := fun x hx => Nat.ne_of_lt (h.low x hx)

section
variable {ops : Array Oper} {Q : Exit → Act → World → Prop} {S : World → Prop} {fuel : Nat} {listed : Array Bool} {a : Act} {w : World}

/-- One of those that may come up: the step, and what follows. -/
abbrev St (ops : Array Oper) (Q : Exit → Act → World → Prop) (S : World → Prop) (fuel : Nat) (listed : Array Bool) (a : Act) (w : World) (i : Nat) : Prop :=
  wpOp Tryz.prog ops Q i (fun a' w' => S w' ∧ wpAnyH Tryz.prog .any ops Q S fuel (listed.setIfInBounds i true) a' w') a w

theorem step1 (i : Nat) (hr : Region.ready .any ops listed = [i]) (h : St ops Q S fuel listed a w i) : wpAnyH Tryz.prog .any ops Q S (fuel + 1) listed a w :=
  wpAnyH_all hr (by simp) fun j hj => by simp at hj; subst hj; exact h
theorem step2 (i j : Nat) (hr : Region.ready .any ops listed = [i, j]) (h : St ops Q S fuel listed a w i) (k : St ops Q S fuel listed a w j) : wpAnyH Tryz.prog .any ops Q S (fuel + 1) listed a w :=
  wpAnyH_all hr (by simp) fun l hl => by
    simp at hl
    rcases hl with rfl | rfl
    · exact h
    · exact k

theorem stCall (i d f : Nat) (args : Array Value) (R : Ending → World → Prop) {o : Oper} (hop : ops[i]? = some o)
    (hd : o.dst = some d) (hw : Region.wanted o (yielded ops a.tmps) = true) (hrun : (execOp a.eval o).run Tryz.prog w = .ok (.enter f args) w) (hc : Calls Tryz.prog f args w R)
    (h : ∀ e w', R e w' → ∃ v, e = .returned v ∧ S w' ∧ wpAnyH Tryz.prog .any ops Q S fuel (listed.setIfInBounds i true) { a with tmps := a.tmps.setIfInBounds d v } w') : St ops Q S fuel listed a w i := by
  refine wpOp_step hop (fun K hK => ?_)
  rw [if_pos hw]
  unfold Oper.wp
  rw [hrun, Oper.upon_enter]
  refine hc.mono ?_
  intro e w' hR
  obtain ⟨v, rfl, hS, hrest⟩ := h e w' hR
  refine hK _ _ ⟨hS, ?_⟩
  unfold Act.put
  rw [hd]
  exact hrest
theorem stAlloc (i d : Nat) {o : Oper} (hop : ops[i]? = some o) (hd : o.dst = some d) (hw : Region.wanted o (yielded ops a.tmps) = true)
    (hrun : (execOp a.eval o).run Tryz.prog w = .ok (.value (.pointer (some ⟨w.heap.size, 0, none⟩))) (w.alloc (.cells (SA Zs) 46)))
    (h : S (w.alloc (.cells (SA Zs) 46)) ∧ wpAnyH Tryz.prog .any ops Q S fuel (listed.setIfInBounds i true) { a with tmps := a.tmps.setIfInBounds d (.pointer (some ⟨w.heap.size, 0, none⟩)) } (w.alloc (.cells (SA Zs) 46))) : St ops Q S fuel listed a w i := by
  refine wpOp_step hop (fun K hK => ?_)
  rw [if_pos hw]
  unfold Oper.wp
  rw [hrun]
  refine hK _ _ ⟨h.1, ?_⟩
  unfold Act.put
  rw [hd]
  exact h.2
theorem stStore (i : Nat) {o : Oper} (hop : ops[i]? = some o) (hd : o.dst = none) (hw : Region.wanted o (yielded ops a.tmps) = true) (x y : Operand) (ho : o.op = .store 46 x y)
    (g : Nat) (hx : a.eval x = .pointer (some ⟨g, 0, none⟩)) (c : List Int) (hy : a.eval y = .agg (SA c)) (hc : c.length = 128) (old : List Int) (hold : old.length = 128) (hg : w.heap[g]? = some (.cells (SA old) 46 (0, 0)))
    (h : ∀ w', Wrote w g c w' → S w' ∧ wpAnyH Tryz.prog .any ops Q S fuel (listed.setIfInBounds i true) a w') : St ops Q S fuel listed a w i := by
  refine wpOp_step hop (fun K hK => ?_)
  rw [if_pos hw]
  refine wp_store_row 46 x y ho g (SA c) hx hy 46 (SA old) hg (by rw [sz26, SA_size, hc]) (by rw [SA_size, SA_size, hc, hold]) (SA_one c) ?_
  have := h _ (wrote_setRow c hg)
  refine hK _ _ ⟨this.1, ?_⟩
  unfold Act.put
  rw [hd]
  exact this.2
end

end Go.Proofs.YtgkanfmkohlmcaaGreat.D
