/-
  A list of one sector, made of a sector: it lies in new memory, byte by byte.
-/
import Derived.Test.YtibneoajkbblaaaWJoin
namespace Go.Proofs.Ytibneoajkbblaaa
open Go.RowKit

theorem fold_all (cs : List Value) : ∀ (z : List Value) (o : Nat), z.length = o + cs.length →
    (cs.zipIdx o).foldl (fun (a : Array Value) (x : Value × Nat) => a.setIfInBounds x.2 x.1) z.toArray = (z.take o ++ cs).toArray := by
  induction cs with
  | nil => intro z o h; simp at h; simp [List.take_of_length_le (Nat.le_of_eq h)]
  | cons c cs ih =>
    intro z o h
    simp only [List.length_cons] at h
    have ho : o < z.length := by omega
    rw [List.zipIdx_cons, List.foldl_cons]
    have e : z.toArray.setIfInBounds o c = (z.set o c).toArray := by simp
    show List.foldl _ (z.toArray.setIfInBounds o c) _ = _
    rw [e, ih (z.set o c) (o + 1) (by simp; omega)]
    congr 1
    rw [List.set_eq_take_append_cons_drop, if_pos ho, List.take_append, List.take_of_length_le (by simp; omega)]
    simp [Nat.min_eq_left (Nat.le_of_lt ho)]

theorem fold_arr (cs z : Array Value) (n : Nat) (hz : z.size = cs.size) (hn : cs.zipIdx.size = n) : Array.foldl (fun (a : Array Value) (x : Value × Nat) => a.setIfInBounds x.2 x.1) z cs.zipIdx 0 n = cs := by
  subst hn
  rw [← Array.foldl_toList, Array.toList_zipIdx]
  have := fold_all cs.toList z.toList 0 (by simp [hz])
  simpa using this

theorem build_one (s : List Int) (hs : s.length = 128) (w : World) :
    (Instr.buildSlice 32 1 #[(0, .agg (SA s))]).run Try.prog w = .ok (.slice (some ⟨w.heap.size, 0, none⟩) 1 1) (w.alloc (.cells (SA s) 26)) := by
  obtain ⟨i, hi, hz, hsz, hb⟩ := infoS
  have hlen : (SA s).size = 128 := by rw [SA_size, hs]
  simp only [Instr.buildSlice, Sem.run_bind, run_underlying Try.underlying32, Result.andThen_ok]
  simp [sizeOf, typeInfo, hi, hsz, zeroValue, hz, Instr.fill, Value.cells, hlen, newRow]
  rw [fold_arr (SA s) _ 128 (by simp [hlen]) (by simp [hlen])]

theorem slice_one {ops : Array Oper} {rest : List Oper} {o : Oper} {a : Act} {w : World} {Q : Exit → Act → World → Prop} (hgd : o.guard = none) (x : Operand) (ho : o.op = .buildSlice 32 1 #[(0, x)])
    (s : List Int) (hs : s.length = 128) (hx : a.eval x = .agg (SA s)) (h : wpList Try.prog ops Q rest (a.put o.dst (.slice (some ⟨w.heap.size, 0, none⟩) 1 1)) (w.alloc (.cells (SA s) 26))) :
    wpList Try.prog ops Q (o :: rest) a w :=
  wpList_plain hgd fun K hK => by
    have e : (#[(0, x)] : Array (Nat × Operand)).map (fun (i, x) => (i, a.eval x)) = #[(0, .agg (SA s))] := by simp [hx]
    unfold Oper.wp execOp
    simp only [ho]
    rw [e]
    simp only [Sem.run_bind, build_one s hs, Result.andThen_ok, Sem.run_pure]
    exact hK _ _ h

end Go.Proofs.Ytibneoajkbblaaa
