/-
  A list of lists that grows, of the call's own.
-/
import Derived.Test.YtfkmpbbemkkdaaaDoorQT
namespace Go.Proofs.YtfkmpbbemkkdaaaDoor
open Go.RowKit Go.Shelf

def SOwn (w : World) (B : Nat) (v : Value) (l : List Value) : Prop := w.ownsRow B 22 1 v l.length l
theorem infoS : ∃ i, Tryd.prog.info? 22 = some i ∧ i.zero = some (.slice none 0 0) ∧ i.size = 1 ∧ i.bytes = 24 := by
  have h : (Tryd.prog.info? 22).map (fun i => (i.zero, i.size, i.bytes)) = some (some (.slice none 0 0), 1, 24) := by kernel_rfl
  cases hq : Tryd.prog.info? 22 with
  | none => rw [hq] at h; cases h
  | some i =>
    rw [hq] at h
    simp at h
    exact ⟨i, rfl, h.1, h.2.1, h.2.2⟩
section
variable {ops : Array Oper} {rest : List Oper} {o : Oper} {a : Act} {Q : Exit → Act → World → Prop} {w : World}
/-- append of one list. -/
theorem wp_appS (hg : o.guard = none) (s x : Operand) (hop : o.op = .call { callee := .builtin .append, args := #[s, x], argTypes := #[28, 28] }) (base g c : Nat) (v : Value) (l : List Value) (y : Value) (hy : y.oneCell' = true) (hs : a.eval s = v) (hx : a.eval x = .slice (some ⟨g, 0, none⟩) 1 c)
    (hown : SOwn w base v l) (hat : w.cell? ⟨g, 0, none⟩ = some y) (hl : l.length ≤ 1000000000) (hbase : base ≤ w.heap.size)
    (hK : ∀ v' w', SOwn w' base v' (l ++ [y]) → Chg w w' (fun k => v.ownBlock = some k) → (v'.ownBlock = v.ownBlock ∨ v'.ownBlock = some w.heap.size) → wpList Tryd.prog ops Q rest (a.put o.dst v') w') : wpList Tryd.prog ops Q (o :: rest) a w := by
  obtain ⟨i, hi, hz, hsz, hby⟩ := infoS
  refine wpList_append_own_at w hg s x 28 hop base 22 i _ 1 24 Tryd.underlying28 hi hz hsz hby rfl (by decide) v l.length l hs hown ⟨g, 0, none⟩ 1 c [y] hx rfl (fun j u hj => ?_) (by simp [hy]) (by unfold maxLen; omega) (by omega) hbase ?_
  · cases j with
    | zero => simp at hj; subst hj; exact hat
    | succ j => simp at hj
  · intro v' w' h1 h2 _ h4
    refine hK v' w' ?_ ((Chg.grown h2).mono fun j _ e => e.symm) h4
    unfold SOwn
    rw [List.length_append]
    exact h1
end

end Go.Proofs.YtfkmpbbemkkdaaaDoor
