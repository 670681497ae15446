/-
  A node that is built; a list of one node.
-/
import Derived.Test.YtiakfgplhdbaeaaZK
namespace Go.Proofs.Ytiakfgplhdbaeaa
open Go.RowKit
section
variable {ops : Array Oper} {rest : List Oper} {o : Oper} {a : Act} {w : World} {Q : Exit → Act → World → Prop}
theorem wp_buildN (hg : o.guard = none) (y : Operand) (ho : o.op = .build 47 #[(1, y)]) (z : Int) (hy : a.eval y = .int .i64 z) (c : Array Value) (hr : ∀ W, (Instr.build 47 #[(1, .int .i64 z)]).run Try.prog W = .ok (.agg c) W)
    (h : wpList Try.prog ops Q rest (a.put o.dst (.agg c)) w) : wpList Try.prog ops Q (o :: rest) a w :=
  wpList_plain hg fun _ hK => by
    unfold Oper.wp execOp
    simp only [ho, List.map_toArray, List.map_cons, List.map_nil, hy, Sem.run_bind, hr, Result.andThen_ok, Sem.run_pure]
    exact hK _ _ h
theorem wp_listN (hg : o.guard = none) (y : Operand) (ho : o.op = .buildSlice 22 1 #[(0, y)]) (c : Array Value) (hy : a.eval y = .agg c) (hr : ∀ W, (Instr.buildSlice 22 1 #[(0, .agg c)]).run Try.prog W = .ok (.slice (some ⟨W.heap.size, 0, none⟩) 1 1) (W.alloc (.cells c 47)))
    (h : wpList Try.prog ops Q rest (a.put o.dst (.slice (some ⟨w.heap.size, 0, none⟩) 1 1)) (w.alloc (.cells c 47))) : wpList Try.prog ops Q (o :: rest) a w :=
  wpList_plain hg fun _ hK => by
    unfold Oper.wp execOp
    simp only [ho, List.map_toArray, List.map_cons, List.map_nil, hy, Sem.run_bind, hr, Result.andThen_ok, Sem.run_pure]
    exact hK _ _ h
end
end Go.Proofs.Ytiakfgplhdbaeaa
