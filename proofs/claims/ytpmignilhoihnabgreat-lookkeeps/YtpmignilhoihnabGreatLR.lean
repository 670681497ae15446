/-
 Rows of cells of any kind in memory: one loaded, stored, built, in plain statements and in those whose order is left open.
-/
import Derived.Test.YtpmignilhoihnabGreatLaws
import Derived.Deep.RegionHeld3
import Derived.Deep.RegionLaw
import Derived.Test.YtpmignilhoihnabGreatL1
namespace Go.Proofs.YtpmignilhoihnabGreat
open Go.RowKit

theorem sS {α : Type} : (∀ (l : List α) (i : Nat) (a : α), l.toArray.setIfInBounds i a = (l.set i a).toArray) ∧ (∀ (x y : α) (l : List α), (x :: l).set 0 y = y :: l) ∧ ∀ (x y : α) (l : List α) (n : Nat), (x :: l).set (n + 1) y = x :: l.set n y := ⟨fun l i a => List.setIfInBounds_toArray l i a, fun _ _ _ => rfl, fun _ _ _ _ => rfl⟩
section
variable {ops : Array Oper} {Q : Exit → Act → World → Prop} {S : World → Prop} {fuel : Nat} {listed : Array Bool} {a : Act} {w : World}

theorem takeVal (i d : Nat) (v : Value) {o : Oper} (hop : ops[i]? = some o) (hs : Region.noSelect ops = true) (hf : Region.free .any ops listed i = true) (hr : (Region.ready .any ops listed).contains i = true)
  (hd : o.dst = some d) (hw : Region.wanted o (yielded ops a.tmps) = true) (hQ : ∀ c a w, ¬ Q (.panic c) a w) (hS : S w)
  (hy : ∀ w, S w → (execOp a.eval o).run Tryz.prog w = .ok (.value v) w)
  (h : wpAnyH Tryz.prog .any ops Q S fuel (listed.setIfInBounds i true) { a with tmps := a.tmps.setIfInBounds d v } w) : wpAnyH Tryz.prog .any ops Q S (fuel + 1) listed a w := by
 refine wpAnyH_take (v := v) hop hs hf hr (fun c a w k => absurd k (hQ c _ w)) (.inl ⟨hw, hy⟩) hS ?_;unfold Act.put;rw [hd]
 exact h

theorem takeNot (i d : Nat) {o : Oper} (hop : ops[i]? = some o) (hs : Region.noSelect ops = true) (hf : Region.free .any ops listed i = true) (hr : (Region.ready .any ops listed).contains i = true)
  (hd : o.dst = some d) (hw : Region.wanted o (yielded ops a.tmps) = false) (hQ : ∀ c a w, ¬ Q (.panic c) a w) (hS : S w)
  (h : wpAnyH Tryz.prog .any ops Q S fuel (listed.setIfInBounds i true) { a with tmps := a.tmps.setIfInBounds d undef } w) : wpAnyH Tryz.prog .any ops Q S (fuel + 1) listed a w := by
 refine wpAnyH_take (v := undef) hop hs hf hr (fun c a w k => absurd k (hQ c _ w)) (.inr ⟨hw, rfl⟩) hS ?_;unfold Act.put;rw [hd]
 exact h

abbrev St (ops : Array Oper) (Q : Exit → Act → World → Prop) (S : World → Prop) (fuel : Nat) (listed : Array Bool) (a : Act) (w : World) (i : Nat) : Prop :=
 wpOp Tryz.prog ops Q i (fun a' w' => S w' ∧ wpAnyH Tryz.prog .any ops Q S fuel (listed.setIfInBounds i true) a' w') a w

theorem tV (i d : Nat) (v : Value) {o : Oper} (hop : ops[i]? = some o) (hq : (Region.noSelect ops && (Region.free .any ops listed i && (Region.ready .any ops listed).contains i)) = true) (hd : o.dst = some d) (hw : Region.wanted o (yielded ops a.tmps) = true) (hS : S w)
 (hy : ∀ w, S w → (execOp a.eval o).run Tryz.prog w = .ok (.value v) w)
 (h : wpAnyH Tryz.prog .any ops Q S fuel (listed.setIfInBounds i true) { a with tmps := a.tmps.setIfInBounds d v } w) (hQ : ∀ c a w, ¬ Q (.panic c) a w := by exact fun _ _ _ h => h) : wpAnyH Tryz.prog .any ops Q S (fuel + 1) listed a w := by
 rw [Bool.and_eq_true, Bool.and_eq_true] at hq
 exact takeVal i d v hop hq.1 hq.2.1 hq.2.2 hd hw hQ hS hy h
theorem step1 (i : Nat) (hr : Region.ready .any ops listed = [i]) (h : St ops Q S fuel listed a w i) : wpAnyH Tryz.prog .any ops Q S (fuel + 1) listed a w :=
 wpAnyH_all hr (by simp) fun j hj => by simp at hj; subst hj; exact h
theorem step2 (i j : Nat) (hr : Region.ready .any ops listed = [i, j]) (h : St ops Q S fuel listed a w i) (k : St ops Q S fuel listed a w j) : wpAnyH Tryz.prog .any ops Q S (fuel + 1) listed a w :=
 wpAnyH_all hr (by simp) fun l hl => by
  simp at hl
  rcases hl with rfl | rfl
  ·exact h
  ·exact k

theorem stCall (i d f : Nat) (args : Array Value) (R : Ending → World → Prop) {o : Oper} (hop : ops[i]? = some o)
  (hd : o.dst = some d) (hw : Region.wanted o (yielded ops a.tmps) = true) (hrun : (execOp a.eval o).run Tryz.prog w = .ok (.enter f args) w) (hc : Calls Tryz.prog f args w R)
  (h : ∀ e w', R e w' → ∃ v, e = .returned v ∧ S w' ∧ wpAnyH Tryz.prog .any ops Q S fuel (listed.setIfInBounds i true) { a with tmps := a.tmps.setIfInBounds d v } w') : St ops Q S fuel listed a w i := by
 refine wpOp_step hop (fun K hK => ?_);rw [if_pos hw];unfold Oper.wp;rw [hrun, Oper.upon_enter];refine hc.mono ?_
 intro e w' hR
 obtain ⟨v, rfl, hS, hrest⟩ := h e w' hR;refine hK _ _ ⟨hS, ?_⟩;unfold Act.put;rw [hd]
 exact hrest
theorem stVal (i d : Nat) (v : Value) {o : Oper} (hop : ops[i]? = some o) (hd : o.dst = some d) (hw : Region.wanted o (yielded ops a.tmps) = true)
  (hrun : (execOp a.eval o).run Tryz.prog w = .ok (.value v) w) (hS : S w)
  (h : wpAnyH Tryz.prog .any ops Q S fuel (listed.setIfInBounds i true) { a with tmps := a.tmps.setIfInBounds d v } w) : St ops Q S fuel listed a w i := by
 refine wpOp_step hop (fun K hK => ?_);rw [if_pos hw];unfold Oper.wp;rw [hrun];refine hK _ _ ⟨hS, ?_⟩;unfold Act.put;rw [hd]
 exact h
theorem stNew (i d : Nat) (v : Value) (ob : Obj) {o : Oper} (hop : ops[i]? = some o) (hd : o.dst = some d) (hw : Region.wanted o (yielded ops a.tmps) = true)
  (hrun : (execOp a.eval o).run Tryz.prog w = .ok (.value v) (w.alloc ob))
  (h : S (w.alloc ob) ∧ wpAnyH Tryz.prog .any ops Q S fuel (listed.setIfInBounds i true) { a with tmps := a.tmps.setIfInBounds d v } (w.alloc ob)) : St ops Q S fuel listed a w i := by
 refine wpOp_step hop (fun K hK => ?_);rw [if_pos hw];unfold Oper.wp;rw [hrun];refine hK _ _ ⟨h.1, ?_⟩;unfold Act.put;rw [hd]
 exact h.2
end

end Go.Proofs.YtpmignilhoihnabGreat

namespace Go.Proofs.YtpmignilhoihnabGreat
open Go.RowKit

structure PutR (w : World) (g : Nat) (c : Array Value) (t : TypeId) (w' : World) : Prop where
 here : w'.heap[g]? = some (.cells c t (0, 0))
 other : ∀ k, k ≠ g → w'.heap[k]? = w.heap[k]?
 size : w'.heap.size = w.heap.size
 os : w'.os = w.os
 tape : w'.tape = w.tape
 output : w'.output = w.output
theorem putR_setRow {w : World} {g : Nat} {t : TypeId} {old : Array Value} (c : Array Value) (hg : w.heap[g]? = some (.cells old t (0, 0))) : PutR w g c t (w.setRow g c) := by
 refine ⟨?_, ?_, ?_, rfl, rfl, rfl⟩
 ·simp [World.setRow, Array.getElem?_modify, hg]
 ·intro k hk
  simp only [World.setRow, Array.getElem?_modify]
  rw [if_neg (fun e => hk e.symm)]
 ·simp [World.setRow]
theorem PutR.below {B g : Nat} {t : TypeId} {w0 w w' : World} {c : Array Value} (h : PutR w g c t w') (hb : Below B w0 w) (hB : B ≤ g) : Below B w0 w' :=
 hb.trans ⟨h.os, h.tape, h.output, Nat.le_of_eq h.size.symm, fun k hk => h.other k (by omega)⟩
theorem below_drew {B : Nat} {w0 w : World} (h : Below B w0 w) : Below B w0 w.drew := ⟨h.os, h.tape, h.output, h.size, h.block⟩
theorem btr {B C : Nat} {w0 w w' : World} (h : Below B w0 w) (k : Below C w w') (hBC : B ≤ C) : Below B w0 w' := h.trans (k.mono hBC)

theorem run_loadR (w : World) (g : Nat) (t tb : TypeId) (c : Array Value) (d : TypeDesc) (hg : w.heap[g]? = some (.cells c tb (0, 0))) (hu : Tryz.prog.underlying t = some d) (hd : d.isRow = true) (hi : (Tryz.prog.info? t).map (·.size) = some c.size) :
  (loadVar t ⟨g, 0, none⟩).run Tryz.prog w = .ok (.agg c) w := by
 have h := run_loadVar_mid (P := Tryz.prog) w g 0 t c.toList d (fun j v hv => by rw [Nat.zero_add, cell_of_row _ _ _ _ tb (0, 0) hg]; simpa using hv) hu hd (by simpa using hi)
 simpa using h

section
variable {ops : Array Oper} {rest : List Oper} {o : Oper} {a : Act} {w : World} {Q : Exit → Act → World → Prop}
theorem store_R (hgd : o.guard = none) (t : TypeId) (x y : Operand) (ho : o.op = .store t x y) (g : Nat) (c : Array Value) (hx : a.eval x = .pointer (some ⟨g, 0, none⟩)) (hy : a.eval y = .agg c)
  (tb : TypeId) (old : Array Value) (hg : w.heap[g]? = some (.cells old tb (0, 0))) (hi : (Tryz.prog.info? t).map (·.size) = some c.size) (hs : old.size = c.size) (h1 : c.all (·.oneCell') = true)
  (h : ∀ w', PutR w g c tb w' → wpList Tryz.prog ops Q rest (a.put o.dst undef) w') : wpList Tryz.prog ops Q (o :: rest) a w :=
 wpList_store_row hgd t x y ho g c hx hy tb old hg hi hs h1 (h _ (putR_setRow c hg))
theorem load_R (hgd : o.guard = none) (t : TypeId) (x : Operand) (ho : o.op = .load t x) (g : Nat) (hx : a.eval x = .pointer (some ⟨g, 0, none⟩)) (tb : TypeId) (c : Array Value) (d : TypeDesc) (hg : w.heap[g]? = some (.cells c tb (0, 0)))
  (hu : Tryz.prog.underlying t = some d) (hd : d.isRow = true) (hi : (Tryz.prog.info? t).map (·.size) = some c.size)
  (h : wpList Tryz.prog ops Q rest (a.put o.dst (.agg c)) w) : wpList Tryz.prog ops Q (o :: rest) a w :=
 wpList_plain hgd fun _ hK => by
  unfold Oper.wp execOp
  simp only [ho, hx, Instr.loadAt, Instr.sureAddr, Sem.run_bind, Sem.run_pure, Result.andThen_ok, run_loadR w g t tb c d hg hu hd hi]
  exact hK _ _ h
end

section
variable {ops : Array Oper} {rest : List Oper} {o : Oper} {a : Act} {w : World} {Q : Exit → Act → World → Prop}
theorem eql_R (hw : Region.wanted o (yielded ops a.tmps) = true) (t : TypeId) (x y : Operand) (ho : o.op = .binOp .eql t x y t) (c c' : Array Value) (b : Bool) (hx : a.eval x = .agg c) (hy : a.eval y = .agg c')
  (hq : ∀ w, (Op.equalIn 10000 t (.agg c) (.agg c')).run Tryz.prog w = .ok b w) (hg : Tryz.prog.eqGuardType Tryz.prog.depth t = false)
  (h : wpList Tryz.prog ops Q rest (a.put o.dst (.bool b)) w) : wpList Tryz.prog ops Q (o :: rest) a w :=
 wpList_want hw fun _ hK => by
  unfold Oper.wp execOp
  simp only [ho, hx, hy, Sem.run_bind, run_eqGuard_agg _ _ _ _ _ _ _ hg, run_eql_struct, hq, Result.andThen_ok, Sem.run_pure]
  exact hK _ _ h
theorem neq_R (hw : Region.wanted o (yielded ops a.tmps) = true) (t : TypeId) (x y : Operand) (ho : o.op = .binOp .neq t x y t) (c c' : Array Value) (b : Bool) (hx : a.eval x = .agg c) (hy : a.eval y = .agg c')
  (hq : ∀ w, (Op.equalIn 10000 t (.agg c) (.agg c')).run Tryz.prog w = .ok b w) (hg : Tryz.prog.eqGuardType Tryz.prog.depth t = false)
  (h : wpList Tryz.prog ops Q rest (a.put o.dst (.bool (!b))) w) : wpList Tryz.prog ops Q (o :: rest) a w :=
 wpList_want hw fun _ hK => by
  unfold Oper.wp execOp
  simp only [ho, hx, hy, Sem.run_bind, run_eqGuard_agg _ _ _ _ _ _ _ hg, run_neq_struct, hq, Result.andThen_ok, Sem.run_pure]
  exact hK _ _ h
end

section
variable {ops : Array Oper} {Q : Exit → Act → World → Prop} {S : World → Prop} {fuel : Nat} {listed : Array Bool} {a : Act} {w : World}
theorem stStoreR (i : Nat) (t : TypeId) (x y : Operand) (g : Nat) (c : Array Value) (tb : TypeId) (old : Array Value) {o : Oper} (hop : ops[i]? = some o) (hd : o.dst = none) (hw : Region.wanted o (yielded ops a.tmps) = true) (ho : o.op = .store t x y)
  (hx : a.eval x = .pointer (some ⟨g, 0, none⟩)) (hy : a.eval y = .agg c) (hg : w.heap[g]? = some (.cells old tb (0, 0))) (hi : (Tryz.prog.info? t).map (·.size) = some c.size) (hs : old.size = c.size) (h1 : c.all (·.oneCell') = true)
  (h : ∀ w', PutR w g c tb w' → S w' ∧ wpAnyH Tryz.prog .any ops Q S fuel (listed.setIfInBounds i true) a w') : St ops Q S fuel listed a w i := by
 refine wpOp_step hop (fun K hK => ?_);rw [if_pos hw];refine wp_store_row t x y ho g c hx hy tb old hg hi hs h1 ?_;have := h _ (putR_setRow c hg);unfold Act.put;rw [hd]
 exact hK _ _ this
theorem takeR (i d : Nat) (t : TypeId) (x : Operand) (g : Nat) (tb : TypeId) (c : Array Value) (td : TypeDesc) {o : Oper} (hop : ops[i]? = some o) (hs : Region.noSelect ops = true) (hf : Region.free .any ops listed i = true) (hr : (Region.ready .any ops listed).contains i = true)
  (hd : o.dst = some d) (ho : o.op = .load t x) (hx : a.eval x = .pointer (some ⟨g, 0, none⟩)) (hu : Tryz.prog.underlying t = some td) (htd : td.isRow = true) (hi : (Tryz.prog.info? t).map (·.size) = some c.size)
  (hw : Region.wanted o (yielded ops a.tmps) = true) (hQ : ∀ c a w, ¬ Q (.panic c) a w) (hS : S w)
  (hg : ∀ w, S w → w.heap[g]? = some (.cells c tb (0, 0)))
  (h : wpAnyH Tryz.prog .any ops Q S fuel (listed.setIfInBounds i true) { a with tmps := a.tmps.setIfInBounds d (.agg c) } w) : wpAnyH Tryz.prog .any ops Q S (fuel + 1) listed a w := by
 refine takeVal i d _ hop hs hf hr hd hw hQ hS (fun w hw' => ?_) h;unfold execOp
 simp only [ho, hx, Instr.loadAt, Instr.sureAddr, Sem.run_bind, Sem.run_pure, Result.andThen_ok, run_loadR w g t tb c td (hg w hw') hu htd hi]
theorem takeSec (i d : Nat) (x : Operand) (g : Nat) (c : List Int) (hc : c.length = 128) {o : Oper} (hop : ops[i]? = some o) (hs : Region.noSelect ops = true) (hf : Region.free .any ops listed i = true) (hr : (Region.ready .any ops listed).contains i = true)
  (hd : o.dst = some d) (ho : o.op = .load 36 x) (hx : a.eval x = .pointer (some ⟨g, 0, none⟩)) (hw : Region.wanted o (yielded ops a.tmps) = true) (hQ : ∀ c a w, ¬ Q (.panic c) a w) (hS : S w)
  (hg : ∀ w, S w → w.heap[g]? = some (.cells (SA c) 36 (0, 0)))
  (h : wpAnyH Tryz.prog .any ops Q S fuel (listed.setIfInBounds i true) { a with tmps := a.tmps.setIfInBounds d (.agg (SA c)) } w) : wpAnyH Tryz.prog .any ops Q S (fuel + 1) listed a w :=
 takeR i d 36 x g 36 (SA c) _ hop hs hf hr hd ho hx Tryz.underlying36 rfl (by rw [sz26, SA_size, hc]) hw hQ hS hg h
end

theorem results_R {fn : Func} {p u : Tmp} {t : TypeId} (h : fn.results = #[.cell p t, .tmp u]) (tmps : Array Value) (w : World) (g : Nat) (c : Array Value) (tb : TypeId) (d : TypeDesc) (v : Value)
  (hu : Tryz.prog.underlying t = some d) (hd : d.isRow = true) (hi : (Tryz.prog.info? t).map (·.size) = some c.size)
  (hp : tmps.getD p undef = .pointer (some ⟨g, 0, none⟩)) (hv : tmps.getD u undef = v) (hg : w.heap[g]? = some (.cells c tb (0, 0))) :
  (results fn tmps).run Tryz.prog w = .ok (.tuple #[.agg c, v]) w := by
 rw [results_cell_tmp h, hp, hv]
 simp [asAddr, run_loadR w g t tb c d hg hu hd hi]
theorem results_R1 {fn : Func} {p : Tmp} {t : TypeId} (h : fn.results = #[.cell p t]) (tmps : Array Value) (w : World) (g : Nat) (c : Array Value) (tb : TypeId) (d : TypeDesc)
  (hu : Tryz.prog.underlying t = some d) (hd : d.isRow = true) (hi : (Tryz.prog.info? t).map (·.size) = some c.size)
  (hp : tmps.getD p undef = .pointer (some ⟨g, 0, none⟩)) (hg : w.heap[g]? = some (.cells c tb (0, 0))) :
  (results fn tmps).run Tryz.prog w = .ok (.agg c) w := by
 have hp' : tmps[p]?.getD undef = .pointer (some ⟨g, 0, none⟩) := by simpa using hp
 simp [results, h, hp', asAddr, run_loadR w g t tb c d hg hu hd hi]

end Go.Proofs.YtpmignilhoihnabGreat
