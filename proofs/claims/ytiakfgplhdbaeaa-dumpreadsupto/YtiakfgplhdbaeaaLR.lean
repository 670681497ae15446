/-
  Rows of cells of any kind in memory: one loaded, stored, built, in plain statements and in those whose order is left open.
-/
import Derived.Test.YtiakfgplhdbaeaaDrawn
import Derived.Deep.MidRow
import Derived.Deep.CutRange
import Derived.Deep.DeepCutAuto
import Derived.Maps.AppendAt
import Derived.Deep.WholeRow
import Derived.Lib.SmallJoins
import Derived.Laws.EntriesVeiled
namespace Go.Proofs.Ytiakfgplhdbaeaa
open Go.RowKit

/-- w' is w with the row c at block g. -/
structure PutR (w : World) (g : Nat) (c : Array Value) (t : TypeId) (w' : World) : Prop where
  here : w'.heap[g]? = some (.cells c t (0, 0))
  other : ∀ k, k ≠ g → w'.heap[k]? = w.heap[k]?
  size : w'.heap.size = w.heap.size
  os : w'.os = w.os
  tape : w'.tape = w.tape
  output : w'.output = w.output
theorem putR_setRow {w : World} {g : Nat} {t : TypeId} {old : Array Value} (c : Array Value) (hg : w.heap[g]? = some (.cells old t (0, 0))) : PutR w g c t (w.setRow g c) := by
  refine ⟨?_, ?_, ?_, rfl, rfl, rfl⟩
  · simp [World.setRow, Array.getElem?_modify, hg]
  · intro k hk
    simp only [World.setRow, Array.getElem?_modify]
    rw [if_neg (fun e => hk e.symm)]
  · simp [World.setRow]
theorem PutR.below {B g : Nat} {t : TypeId} {w0 w w' : World} {c : Array Value} (h : PutR w g c t w') (hb : Below B w0 w) (hB : B ≤ g) : Below B w0 w' :=
  hb.trans ⟨h.os, h.tape, h.output, Nat.le_of_eq h.size.symm, fun k hk => h.other k (by omega)⟩
theorem below_drew {B : Nat} {w0 w : World} (h : Below B w0 w) : Below B w0 w.drew := ⟨h.os, h.tape, h.output, h.size, h.block⟩
theorem btrR {B C : Nat} {w0 w w' : World} (h : Below B w0 w) (k : Below C w w') (hBC : B ≤ C) : Below B w0 w' := h.trans (k.mono hBC)

theorem run_loadR (w : World) (g : Nat) (t tb : TypeId) (c : Array Value) (d : TypeDesc) (hg : w.heap[g]? = some (.cells c tb (0, 0))) (hu : Try.prog.underlying t = some d) (hd : d.isRow = true) (hi : (Try.prog.info? t).map (·.size) = some c.size) :
    (loadVar t ⟨g, 0, none⟩).run Try.prog w = .ok (.agg c) w := by
  have h := run_loadVar_mid (P := Try.prog) w g 0 t c.toList d (fun j v hv => by rw [Nat.zero_add, cell_of_row _ _ _ _ tb (0, 0) hg]; simpa using hv) hu hd (by simpa using hi)
  simpa using h

section
variable {ops : Array Oper} {rest : List Oper} {o : Oper} {a : Act} {w : World} {Q : Exit → Act → World → Prop}
theorem store_R (hgd : o.guard = none) (t : TypeId) (x y : Operand) (ho : o.op = .store t x y) (g : Nat) (c : Array Value) (hx : a.eval x = .pointer (some ⟨g, 0, none⟩)) (hy : a.eval y = .agg c)
    (tb : TypeId) (old : Array Value) (hg : w.heap[g]? = some (.cells old tb (0, 0))) (hi : (Try.prog.info? t).map (·.size) = some c.size) (hs : old.size = c.size) (h1 : c.all (·.oneCell') = true)
    (h : ∀ w', PutR w g c tb w' → wpList Try.prog ops Q rest (a.put o.dst undef) w') : wpList Try.prog ops Q (o :: rest) a w :=
  wpList_store_row hgd t x y ho g c hx hy tb old hg hi hs h1 (h _ (putR_setRow c hg))
theorem load_R (hgd : o.guard = none) (t : TypeId) (x : Operand) (ho : o.op = .load t x) (g : Nat) (hx : a.eval x = .pointer (some ⟨g, 0, none⟩)) (tb : TypeId) (c : Array Value) (d : TypeDesc) (hg : w.heap[g]? = some (.cells c tb (0, 0)))
    (hu : Try.prog.underlying t = some d) (hd : d.isRow = true) (hi : (Try.prog.info? t).map (·.size) = some c.size)
    (h : wpList Try.prog ops Q rest (a.put o.dst (.agg c)) w) : wpList Try.prog ops Q (o :: rest) a w :=
  wpList_plain hgd fun _ hK => by
    unfold Oper.wp execOp
    simp only [ho, hx, Instr.loadAt, Instr.sureAddr, Sem.run_bind, Sem.run_pure, Result.andThen_ok, run_loadR w g t tb c d hg hu hd hi]
    exact hK _ _ h
end

section
variable {ops : Array Oper} {rest : List Oper} {o : Oper} {a : Act} {w : World} {Q : Exit → Act → World → Prop}
theorem wpList_want {ops : Array Oper} {rest : List Oper} {o : Oper} {a : Act} {w : World} {Q : Exit → Act → World → Prop} (hw : Region.wanted o (yielded ops a.tmps) = true)
    (h : ∀ K : Act → World → Prop, (∀ a w, wpList Try.prog ops Q rest a w → K a w) → o.wp Try.prog a w K Q) : wpList Try.prog ops Q (o :: rest) a w :=
  wpList_step fun K hK => by rw [if_pos hw]; exact h K hK
/-- load, where the operation stands behind a guard that says yes. -/
theorem eql_R (hw : Region.wanted o (yielded ops a.tmps) = true) (t : TypeId) (x y : Operand) (ho : o.op = .binOp .eql t x y t) (c c' : Array Value) (b : Bool) (hx : a.eval x = .agg c) (hy : a.eval y = .agg c')
    (hq : ∀ w, (Op.equalIn 10000 t (.agg c) (.agg c')).run Try.prog w = .ok b w) (hg : Try.prog.eqGuardType Try.prog.depth t = false)
    (h : wpList Try.prog ops Q rest (a.put o.dst (.bool b)) w) : wpList Try.prog ops Q (o :: rest) a w :=
  wpList_want hw fun _ hK => by
    unfold Oper.wp execOp
    simp only [ho, hx, hy, Sem.run_bind, run_eqGuard_agg _ _ _ _ _ _ _ hg, run_eql_struct, hq, Result.andThen_ok, Sem.run_pure]
    exact hK _ _ h
theorem neq_R (hw : Region.wanted o (yielded ops a.tmps) = true) (t : TypeId) (x y : Operand) (ho : o.op = .binOp .neq t x y t) (c c' : Array Value) (b : Bool) (hx : a.eval x = .agg c) (hy : a.eval y = .agg c')
    (hq : ∀ w, (Op.equalIn 10000 t (.agg c) (.agg c')).run Try.prog w = .ok b w) (hg : Try.prog.eqGuardType Try.prog.depth t = false)
    (h : wpList Try.prog ops Q rest (a.put o.dst (.bool (!b))) w) : wpList Try.prog ops Q (o :: rest) a w :=
  wpList_want hw fun _ hK => by
    unfold Oper.wp execOp
    simp only [ho, hx, hy, Sem.run_bind, run_eqGuard_agg _ _ _ _ _ _ _ hg, run_neq_struct, hq, Result.andThen_ok, Sem.run_pure]
    exact hK _ _ h
end

section
variable {ops : Array Oper} {Q : Exit → Act → World → Prop} {S : World → Prop} {fuel : Nat} {listed : Array Bool} {a : Act} {w : World}
theorem stStoreR (i : Nat) (t : TypeId) (x y : Operand) (g : Nat) (c : Array Value) (tb : TypeId) (old : Array Value) {o : Oper} (hop : ops[i]? = some o) (hd : o.dst = none) (hw : Region.wanted o (yielded ops a.tmps) = true) (ho : o.op = .store t x y)
    (hx : a.eval x = .pointer (some ⟨g, 0, none⟩)) (hy : a.eval y = .agg c) (hg : w.heap[g]? = some (.cells old tb (0, 0))) (hi : (Try.prog.info? t).map (·.size) = some c.size) (hs : old.size = c.size) (h1 : c.all (·.oneCell') = true)
    (h : ∀ w', PutR w g c tb w' → S w' ∧ wpAnyH Try.prog .any ops Q S fuel (listed.setIfInBounds i true) a w') : St ops Q S fuel listed a w i := by
  refine wpOp_step hop (fun K hK => ?_)
  rw [if_pos hw]
  refine wp_store_row t x y ho g c hx hy tb old hg hi hs h1 ?_
  have := h _ (putR_setRow c hg)
  unfold Act.put
  rw [hd]
  exact hK _ _ this
theorem takeR (i d : Nat) (t : TypeId) (x : Operand) (g : Nat) (tb : TypeId) (c : Array Value) (td : TypeDesc) {o : Oper} (hop : ops[i]? = some o) (hs : Region.noSelect ops = true) (hf : Region.free .any ops listed i = true) (hr : (Region.ready .any ops listed).contains i = true)
    (hd : o.dst = some d) (ho : o.op = .load t x) (hx : a.eval x = .pointer (some ⟨g, 0, none⟩)) (hu : Try.prog.underlying t = some td) (htd : td.isRow = true) (hi : (Try.prog.info? t).map (·.size) = some c.size)
    (hw : Region.wanted o (yielded ops a.tmps) = true) (hQ : ∀ c a w, ¬ Q (.panic c) a w) (hS : S w)
    (hg : ∀ w, S w → w.heap[g]? = some (.cells c tb (0, 0)))
    (h : wpAnyH Try.prog .any ops Q S fuel (listed.setIfInBounds i true) { a with tmps := a.tmps.setIfInBounds d (.agg c) } w) : wpAnyH Try.prog .any ops Q S (fuel + 1) listed a w := by
  refine takeVal i d _ hop hs hf hr hd hw hQ hS (fun w hw' => ?_) h
  unfold execOp
  simp only [ho, hx, Instr.loadAt, Instr.sureAddr, Sem.run_bind, Sem.run_pure, Result.andThen_ok, run_loadR w g t tb c td (hg w hw') hu htd hi]
end

theorem kt_new {w w' : World} {g : Nat} {c : Array Value} {t : TypeId} (h : PutR w g c t w') : Chg w w' (· = g) := ⟨h.os, h.tape, h.output, Nat.le_of_eq h.size.symm, fun k _ hk => h.other k hk⟩
theorem Chg.tr {w w1 w2 : World} (h : Chg w w1 No) (k : Chg w1 w2 No) : Chg w w2 No := h.trans k (fun _ _ e => e) (fun _ _ e => e)
theorem chg_drewN (w : World) (n : Nat) : Chg w (w.drewN n) No := ⟨rfl, rfl, rfl, Nat.le_refl _, fun _ _ _ => rfl⟩
theorem obj_ne {w : World} {i j : Nat} {x y : Obj} (h : w.heap[i]? = some x) (k : w.heap[j]? = some y) (hn : x ≠ y) : i ≠ j := fun e => by
  subst e
  rw [h] at k
  exact hn (Option.some.inj k)
/-- Two results, the first a row in memory. -/
theorem results_R {fn : Func} {p u : Tmp} {t : TypeId} (h : fn.results = #[.cell p t, .tmp u]) (tmps : Array Value) (w : World) (g : Nat) (c : Array Value) (tb : TypeId) (d : TypeDesc) (v : Value)
    (hu : Try.prog.underlying t = some d) (hd : d.isRow = true) (hi : (Try.prog.info? t).map (·.size) = some c.size)
    (hp : tmps.getD p undef = .pointer (some ⟨g, 0, none⟩)) (hv : tmps.getD u undef = v) (hg : w.heap[g]? = some (.cells c tb (0, 0))) :
    (results fn tmps).run Try.prog w = .ok (.tuple #[.agg c, v]) w := by
  rw [results_cell_tmp h, hp, hv]
  simp [asAddr, run_loadR w g t tb c d hg hu hd hi]
theorem results_R1 {fn : Func} {p : Tmp} {t : TypeId} (h : fn.results = #[.cell p t]) (tmps : Array Value) (w : World) (g : Nat) (c : Array Value) (tb : TypeId) (d : TypeDesc)
    (hu : Try.prog.underlying t = some d) (hd : d.isRow = true) (hi : (Try.prog.info? t).map (·.size) = some c.size)
    (hp : tmps.getD p undef = .pointer (some ⟨g, 0, none⟩)) (hg : w.heap[g]? = some (.cells c tb (0, 0))) :
    (results fn tmps).run Try.prog w = .ok (.agg c) w := by
  have hp' : tmps[p]?.getD undef = .pointer (some ⟨g, 0, none⟩) := by simpa using hp
  simp [results, h, hp', asAddr, run_loadR w g t tb c d hg hu hd hi]

end Go.Proofs.Ytiakfgplhdbaeaa
