/-
  Tables: the sectors of pointers.
-/
import Derived.Test.YtjlhmojofjkkdabB5
namespace Go.Proofs.Ytjlhmojofjkkdab
open Go.RowKit Go.Shelf

attribute [local go_sem] Oper.semAt_some

/-- The tables' sectors, and the error. -/
def tblR (s : Src) (z : List Int) : List Int × Int :=
  if z.getD 17 0 = 0 then ((if z.getD 16 0 = 0 then [] else [z.getD 16 0]), 0)
  else if (tabS s (z.getD 17 0)).2 = 0 then ((if z.getD 16 0 = 0 then [] else [z.getD 16 0]) ++ [z.getD 17 0] ++ (thereL (tabS s (z.getD 17 0)).1).map (·.2), 0)
  else ([], (tabS s (z.getD 17 0)).2)
theorem infoI : ∃ i, Try.prog.info? 3 = some i ∧ i.zero = some (.int .i64 0) ∧ i.size = 1 ∧ i.bytes = 8 := by
  have h : (Try.prog.info? 3).map (fun i => (i.zero, i.size, i.bytes)) = some (some (.int .i64 0), 1, 8) := by kernel_rfl
  cases hq : Try.prog.info? 3 with
  | none => rw [hq] at h; cases h
  | some i =>
    rw [hq] at h
    simp at h
    exact ⟨i, rfl, h.1, h.2.1, h.2.2⟩
/-- A list of numbers of the call's own. -/
def IOwn (w : World) (B : Nat) (v : Value) (l : List Int) : Prop := w.ownsRow B 3 1 v l.length (l.map (Value.int .i64))
theorem new_one (w : World) (x : Value) (j : Nat) (u : Value) (h : [x][j]? = some u) : (w.alloc (.cells #[x] 3)).cell? ((⟨w.heap.size, 0, none⟩ : Addr).add j) = some u := by
  rw [addr_add, Nat.zero_add, cell_of_row _ _ _ _ _ _ (heap_alloc_new _ _)]
  simpa using h
section
variable {F : Fence} {n : Nat} {ops : Array Oper} {rest : List Oper} {o : Oper} {a : Act} {w : World} {Q : Exit → Act → World → Prop}
/-- append of one number, onto a list in a box: the box's store comes later. -/
theorem li_appI (hg : o.guard = none) (s x : Operand) (hop : o.op = .call { callee := .builtin .append, args := #[s, x], argTypes := #[39, 39] }) (B bx : Nat) (v : Value) (l : List Int) (y : Int) (hs : a.eval s = v) (hx : a.eval x = .slice (some ⟨w.heap.size, 0, none⟩) 1 1)
    (hown : IOwn w B v l) (hbox : w.heap[bx]? = some (.cells #[v] 39 (0, 0))) (hl : l.length ≤ 1000000) (hB : B ≤ w.heap.size) (hBx : B ≤ bx)
    (hK : ∀ a' c' w1, w1.cell? ⟨bx, 0, none⟩ = some v → w1.frozen? ⟨bx, 0, none⟩ = false → (w1.setCell ⟨bx, 0, none⟩ (.slice a' (l.length + 1) c')).heap[bx]? = some (.cells #[.slice a' (l.length + 1) c'] 39 (0, 0)) → IOwn (w1.setCell ⟨bx, 0, none⟩ (.slice a' (l.length + 1) c')) B (.slice a' (l.length + 1) c') (l ++ [y]) → KeepsOthers w (w1.setCell ⟨bx, 0, none⟩ (.slice a' (l.length + 1) c')) → Below B w (w1.setCell ⟨bx, 0, none⟩ (.slice a' (l.length + 1) c')) →
      (∀ (k : Nat) cs t f, w.heap[k]? = some (.cells cs t f) → t ≠ 3 → k ≠ bx → (w1.setCell ⟨bx, 0, none⟩ (.slice a' (l.length + 1) c')).heap[k]? = some (.cells cs t f)) →
      wpListIn F n Try.prog ops Q rest (a.put o.dst (.slice a' (l.length + 1) c')) w1) : wpListIn F n Try.prog ops Q (o :: rest) a (w.alloc (.cells #[.int .i64 y] 3)) := by
  obtain ⟨i, hi, hz, hsz, hby⟩ := infoI
  refine wpListIn_append_own _ hg s x 39 hop B 3 i _ 1 8 Try.underlying39 hi hz hsz hby rfl (by decide) v l.length (l.map (Value.int .i64)) hs (ownsRow_alloc9 hown _) ⟨w.heap.size, 0, none⟩ 1 1 [.int .i64 y] hx rfl (fun j u hj => new_one _ _ j u hj) (by simp [Value.oneCell']) (by unfold maxLen; omega) (by omega) (by simp; omega) ?_
  intro v' w1 h1 h2 _
  obtain ⟨a', c', rfl, _, _⟩ := row_shape9 h1
  have hbx : Boxed w bx 39 v := hbox
  obtain ⟨e1, e2, e3, e4, e5⟩ := hbx.appended (by decide) hown hB hBx h1 h2
  refine hK a' c' w1 e1.cell e1.frozen e2 ?_ e4 e5 (fun k cs t f hk ht hne => ?_)
  · unfold IOwn
    rw [List.length_append, List.map_append]
    exact e3
  · rw [heap_setCell_other _ _ _ _ hne, h2.block k (by have := slt hk; simp; omega) (fun e => ?_), Below.heap_alloc _ _ _ (slt hk)]
    · exact hk
    · rcases hown.2 with ⟨rfl, _⟩ | ⟨g, cap, cur, rfl, _, hgb, _⟩
      · cases e
      · have e2 : k = g := by simpa [Value.ownBlock] using e
        rw [e2, hgb] at hk
        cases hk
        exact ht rfl
end

end Go.Proofs.Ytjlhmojofjkkdab
