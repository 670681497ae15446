/-
  Steps within a fence: rows that are loaded and stored; statements whose order is left open.
-/
import Derived.Test.YtjlhmojofjkkdabB1
namespace Go.Proofs.Ytjlhmojofjkkdab
open Go.RowKit Go.Shelf

section
variable {F : Fence} {n : Nat} {ops : Array Oper} {rest : List Oper} {o : Oper} {a : Act} {w : World} {Q : Exit → Act → World → Prop}
theorem li_val (hF : ∀ f, F.fn f) (hgd : o.guard = none) (hnd : ∀ c, o.op ≠ .defer c) {v : Value} {w' : World} (hrun : (execOp a.eval o).run Try.prog w = .ok (.value v) w') (h : wpListIn F n Try.prog ops Q rest (a.put o.dst v) w') : wpListIn F n Try.prog ops Q (o :: rest) a w :=
  wpListIn_plain hgd fun K hK => by
    refine ⟨fun f _ => hF f, ?_⟩
    rw [Oper.semAt_eq _ _ _ hnd, hrun]
    exact hK _ _ h
theorem li_skip (hF : ∀ f, F.fn f) (hgd : o.guard = none) (hnd : ∀ c, o.op ≠ .defer c) {w' : World} (hrun : (execOp a.eval o).run Try.prog w = .ok .skip w') (h : wpListIn F n Try.prog ops Q rest (a.put o.dst undef) w') : wpListIn F n Try.prog ops Q (o :: rest) a w :=
  wpListIn_plain hgd fun K hK => by
    refine ⟨fun f _ => hF f, ?_⟩
    rw [Oper.semAt_eq _ _ _ hnd, hrun]
    exact hK _ _ h
theorem li_load (hF : ∀ f, F.fn f) (hgd : o.guard = none) (t : TypeId) (x : Operand) (ho : o.op = .load t x) (g : Nat) (hx : a.eval x = .pointer (some ⟨g, 0, none⟩)) (tb : TypeId) (c : Array Value) (d : TypeDesc) (hg : w.heap[g]? = some (.cells c tb (0, 0)))
    (hu : Try.prog.underlying t = some d) (hd : d.isRow = true) (hi : (Try.prog.info? t).map (·.size) = some c.size)
    (h : wpListIn F n Try.prog ops Q rest (a.put o.dst (.agg c)) w) : wpListIn F n Try.prog ops Q (o :: rest) a w :=
  li_val hF hgd (fun _ e => by rw [ho] at e; cases e) (by
    unfold execOp
    simp only [ho, hx, Instr.loadAt, Instr.sureAddr, Sem.run_bind, Sem.run_pure, Result.andThen_ok, run_loadR w g t tb c d hg hu hd hi]) h
theorem li_store (hF : ∀ f, F.fn f) (hgd : o.guard = none) (t : TypeId) (x y : Operand) (ho : o.op = .store t x y) (g : Nat) (c : Array Value) (hx : a.eval x = .pointer (some ⟨g, 0, none⟩)) (hy : a.eval y = .agg c)
    (tb : TypeId) (old : Array Value) (hg : w.heap[g]? = some (.cells old tb (0, 0))) (hi : (Try.prog.info? t).map (·.size) = some c.size) (hs : old.size = c.size) (h1 : c.all (·.oneCell') = true)
    (h : ∀ w', PutR w g c tb w' → wpListIn F n Try.prog ops Q rest (a.put o.dst undef) w') : wpListIn F n Try.prog ops Q (o :: rest) a w :=
  li_skip hF hgd (fun _ e => by rw [ho] at e; cases e) (by
    unfold execOp
    simp only [ho, hx, hy, Instr.storeAt, Instr.sureAddr, Sem.run_bind, Sem.run_pure, Result.andThen_ok, run_storeVar_row w g tb t old c hg hi hs h1]) (h _ (putR_setRow c hg))
end

def NoP (Q : Exit → Act → World → Prop) : Exit → Act → World → Prop := fun e a w => e = .normal ∧ Q .normal a w
/-- A statement whose order is open: nothing panics in it. -/
theorem openI {n id : Nat} {ops : Array Oper} {Q : Exit → Act → World → Prop} {a : Act} {w : World} (hm : Try.prog.follows .mixedOrders = true)
    (h : wpAnyIn WF n Try.prog .any ops (NoP Q) ops.size (Array.replicate ops.size false) a w.drew) : (Code.region id ops true).wpIn WF n Try.prog Q a w :=
  wpIn_mono (wpIn_region_any hm h) fun e a w h => by obtain ⟨rfl, h⟩ := h; exact h
theorem noP {Q : Exit → Act → World → Prop} (c : List PanicEntry) (a a' : Act) (w : World) (h : NoP Q (.panic c) a w) : NoP Q (.panic c) a' w := by cases h.1
section
variable {n : Nat} {ops : Array Oper} {Q : Exit → Act → World → Prop} {fuel : Nat} {listed : Array Bool} {a : Act} {w : World}
/-- An operation that yields v in every world is taken first. -/
theorem takeI (i d : Nat) (v : Value) {o : Oper} (hop : ops[i]? = some o) (hs : Region.noSelect ops = true) (hf : Region.free .any ops listed i = true) (hr : (Region.ready .any ops listed).contains i = true)
    (hd : o.dst = some d) (hw : Region.wanted o (yielded ops a.tmps) = true) (hQ : ∀ c a a' w, Q (.panic c) a w → Q (.panic c) a' w)
    (hy : ∀ w, (execOp a.eval o).run Try.prog w = .ok (.value v) w) (hab : ∀ w, o.about Try.prog w a.eval = none)
    (h : wpAnyIn WF n Try.prog .any ops Q fuel (listed.setIfInBounds i true) { a with tmps := a.tmps.setIfInBounds d v } w) : wpAnyIn WF n Try.prog .any ops Q (fuel + 1) listed a w := by
  refine wpAnyIn_take (v := v) rfl hop hs hf hr (fun c a w k => hQ c _ _ w k) ⟨.inl ⟨hw, hy⟩, hab⟩ ?_
  unfold Act.put
  rw [hd]
  exact h
/-- The one that may come up yields v here. -/
theorem oneI (i d : Nat) (v : Value) {o : Oper} (hr : Region.ready .any ops listed = [i]) (hop : ops[i]? = some o) (hd : o.dst = some d) (hnd : ∀ c, o.op ≠ .defer c) (hw : Region.wanted o (yielded ops a.tmps) = true)
    (hy : (execOp a.eval o).run Try.prog w = .ok (.value v) w)
    (h : wpAnyIn WF n Try.prog .any ops Q fuel (listed.setIfInBounds i true) { a with tmps := a.tmps.setIfInBounds d v } w) : wpAnyIn WF n Try.prog .any ops Q (fuel + 1) listed a w := by
  refine wpAnyIn_all hr (by simp) fun j hj => ?_
  simp at hj
  subst hj
  refine wpOpIn_step hop (fun K hK => ?_)
  rw [if_pos hw]
  refine ⟨fun _ _ => trivial, ?_⟩
  rw [Oper.semAt_eq _ _ _ hnd, hy]
  refine hK _ _ ?_
  unfold Act.put
  rw [hd]
  exact h
/-- The one that may come up is a call of yield. -/
theorem roundI (i d l : Nat) (gs : Array Value) {o : Oper} {R : Ending → World → Prop} (hr : Region.ready .any ops listed = [i]) (hop : ops[i]? = some o) (hd : o.dst = some d) (hnd : ∀ c, o.op ≠ .defer c) (hw : Region.wanted o (yielded ops a.tmps) = true)
    (hrun : (execOp a.eval o).run Try.prog w = (Instr.yield l gs).run Try.prog w) (hY : ∀ m, YieldAt WF m Try.prog l gs w R)
    (h : ∀ e w', R e w' → ∃ v, e = .returned v ∧ wpAnyIn WF n Try.prog .any ops Q fuel (listed.setIfInBounds i true) { a with tmps := a.tmps.setIfInBounds d v } w') : wpAnyIn WF n Try.prog .any ops Q (fuel + 1) listed a w := by
  obtain ⟨fn, tmps, assign, body, hy, hR⟩ := hY (n - 1)
  refine wpAnyIn_all hr (by simp) fun j hj => ?_
  simp at hj
  subst hj
  refine wpOpIn_step hop (fun K hK => ?_)
  rw [if_pos hw]
  refine ⟨fun _ _ => trivial, ?_⟩
  rw [Oper.semAt_eq _ _ _ hnd, hrun, hy, Oper.uponIn_round]
  refine ⟨wdep, hR.mono ?_⟩
  intro e w' h1
  obtain ⟨v, rfl, h2⟩ := h e w' h1
  refine hK _ _ ?_
  unfold Act.put
  rw [hd]
  exact h2
end

end Go.Proofs.Ytjlhmojofjkkdab
