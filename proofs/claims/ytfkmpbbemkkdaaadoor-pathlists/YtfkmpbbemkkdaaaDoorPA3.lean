/-
  append of nothing; append of texts, whichever list they lie in.
-/
import Derived.Test.YtfkmpbbemkkdaaaDoorPA
namespace Go.Proofs.YtfkmpbbemkkdaaaDoor
open Go.RowKit Go.Shelf

theorem run_appZ (w : World) (ty : TypeId) (a : Option Addr) (n c c0 : Nat) (h : n ≤ c) : (Builtin.append_ #[22, 22] ty #[.slice a n c, .slice none 0 c0]).run Tryd.prog w = .ok (.slice a n c) w := by
  have hf : (Builtin.firstCells 1 0 (.slice none 0 c0)).run Tryd.prog w = .ok #[] w := by
    simp [Builtin.firstCells]
  cases a with
  | none => simp [Builtin.append_, run_underlying Tryd.underlying22, Tryd.sizeOf9, Builtin.lenOf, h, hf]
  | some x => simp [Builtin.append_, run_underlying Tryd.underlying22, Tryd.sizeOf9, Builtin.lenOf, h, hf, storeCells]

section
variable {ops : Array Oper} {rest : List Oper} {o : Oper} {a : Act} {Q : Exit → Act → World → Prop} {w : World}
/-- append of a list of texts, whichever. -/
theorem wp_appL (hg : o.guard = none) (s x : Operand) (hop : o.op = .call { callee := .builtin .append, args := #[s, x], argTypes := #[22, 22] }) (base m c : Nat) (ad : Option Addr) (v : Value) (l ys : List ByteArray) (hm : m = ys.length) (hs : a.eval s = v) (hx : a.eval x = .slice ad m c)
    (hown : TOwn w base v l) (hat : TAt w ad ys) (hl : (l.length + ys.length) * 16 ≤ 140737488355328) (hbase : base ≤ w.heap.size)
    (hK : ∀ v' w', TOwn w' base v' (l ++ ys) → Chg w w' (fun k => v.ownBlock = some k) → (v'.ownBlock = v.ownBlock ∨ v'.ownBlock = some w.heap.size) → wpList Tryd.prog ops Q rest (a.put o.dst v') w') : wpList Tryd.prog ops Q (o :: rest) a w := by
  rcases hat with h | ⟨a2, rfl, -, h⟩
  · subst h
    cases ad with
    | none =>
      obtain ⟨b, d, rfl, hd, -⟩ := row_shape hown
      subst hm
      refine wpList_plain hg fun K' hK' => ?_
      unfold Oper.wp execOp
      simp only [hop, resolve, invoke, builtin, Sem.run_bind, Sem.run_pure, Result.andThen_ok, List.map_toArray, List.map_cons, List.map_nil, hs, hx, List.length_nil, run_appZ w o.type b _ d c hd]
      exact hK' _ _ (hK _ _ (by rw [List.append_nil]; exact hown) (Chg.refl _ _) (.inl rfl))
    | some a2 => exact wp_appT hg s x hop base m c a2 v l [] hm hs hx hown (fun j y hy => by cases hy) hl hbase hK
  · exact wp_appT hg s x hop base m c a2 v l ys hm hs hx hown h hl hbase hK
end

end Go.Proofs.YtfkmpbbemkkdaaaDoor
