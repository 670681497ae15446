/-
  Lists of edges: copied, and edges stored into them.
-/
import Derived.Test.YtfkommjpofpmbaaLaw1
namespace Go.Proofs.Ytfkommjpofpmbaa
open Go.RowKit

theorem cellsE_set : ∀ (l : List (Int × Int)) (j : Nat) (y : Int × Int), ((cellsE l).set (j * 2) (.int .i64 y.1)).set (j * 2 + 1) (.int .i64 y.2) = cellsE (l.set j y)
  | [], j, y => by simp [cellsE]
  | x :: l, 0, y => by simp [cellsE]
  | x :: l, j + 1, y => by
    have := cellsE_set l j y
    rw [show (j + 1) * 2 = j * 2 + 1 + 1 by omega]
    simp only [cellsE, List.set_cons_succ]
    rw [this]

/-- An edge is written into a list. -/
theorem Edgs.set {w : World} {base g cap : Nat} {l : List (Int × Int)} (h : Edgs w base (.slice (some ⟨g, 0, none⟩) l.length cap) l) (j : Nat) (y : Int × Int) :
    Edgs (w.setCells g (j * 2) [.int .i64 y.1, .int .i64 y.2]) base (.slice (some ⟨g, 0, none⟩) l.length cap) (l.set j y) ∧ Chg w (w.setCells g (j * 2) [.int .i64 y.1, .int .i64 y.2]) (· = g) := by
  rcases h.2 with ⟨h0, _⟩ | ⟨g', cap', cur, he, hg, hb, k1, k2, k3, k4⟩
  · cases h0
  · cases he
    have e1 := heap_setCell_same w g (j * 2) cur 48 (.int .i64 y.1) hb
    have e2 := heap_setCell_same (w.setCell ⟨g, j * 2, none⟩ (.int .i64 y.1)) g (j * 2 + 1) _ 48 (.int .i64 y.2) e1
    refine ⟨⟨by rw [cellsE_len, List.length_set], .inr ⟨g, cap, _, by simp, hg, e2, by simpa using k1, k2, by simp [k3], ?_⟩⟩, ?_⟩
    · rw [List.length_set, Array.toList_setIfInBounds, Array.toList_setIfInBounds, List.take_set, List.take_set, k4]
      exact cellsE_set l j y
    · have c1 : Chg w (w.setCell ⟨g, j * 2, none⟩ (.int .i64 y.1)) (· = g) := Chg.setCell
      have c2 : Chg (w.setCell ⟨g, j * 2, none⟩ (.int .i64 y.1)) ((w.setCell ⟨g, j * 2, none⟩ (.int .i64 y.1)).setCell ⟨g, j * 2 + 1, none⟩ (.int .i64 y.2)) (· = g) := Chg.setCell
      exact c1.trans c2 (fun _ _ e => e) (fun _ _ e => e)

section
variable {ops : Array Oper} {rest : List Oper} {o : Oper} {a : Act} {Q : Exit → Act → World → Prop} {w : World}
theorem wp_storeE (hg : o.guard = none) (x y : Operand) (hop : o.op = .store 48 x y) (base g cap j : Nat) (l : List (Int × Int)) (z : Int × Int) (hx : a.eval x = .pointer (some ⟨g, j * 2, none⟩)) (hy : a.eval y = .agg #[.int .i64 z.1, .int .i64 z.2])
    (hE : Edgs w base (.slice (some ⟨g, 0, none⟩) l.length cap) l) (hj : j < l.length)
    (hK : ∀ w', Edgs w' base (.slice (some ⟨g, 0, none⟩) l.length cap) (l.set j z) → Chg w w' (· = g) → wpList Try.prog ops Q rest (a.put o.dst undef) w') : wpList Try.prog ops Q (o :: rest) a w := by
  have hs := hE.set j z
  refine wpList_store_mid hg 48 x y hop g (j * 2) #[.int .i64 z.1, .int .i64 z.2] hx hy (fun i hi => ?_) (by rw [szE]; rfl) (by simp [Value.oneCell']) (hK _ hs.1 hs.2)
  rcases hE.2 with ⟨h0, _⟩ | ⟨g', cap', cur, he, hg', hb, k1, k2, k3, k4⟩
  · cases h0
  · cases he
    have hi' : i < 2 := hi
    refine ⟨?_, frozen_of_row w g _ cur 48 hb⟩
    rw [cell_of_row _ _ _ _ _ _ hb, Array.getElem?_eq_getElem (by omega)]
    rfl
/-- A list is copied behind an empty one. -/
theorem wp_copyE (hg : o.guard = none) (s x : Operand) (hop : o.op = .call { callee := .builtin .append, args := #[s, x], argTypes := #[30, 30] }) (base c : Nat) (v : Value) (l : List (Int × Int)) (ad : Option Addr) (hs : a.eval s = v) (hx : a.eval x = .slice ad l.length c)
    (hown : Edgs w base v []) (hat : EAt w ad l) (hl : l.length ≤ 1000000000) (hbase : base ≤ w.heap.size)
    (hK : ∀ v' w', Edgs w' base v' l → Chg w w' (fun k => v.ownBlock = some k) → wpList Try.prog ops Q rest (a.put o.dst v') w') : wpList Try.prog ops Q (o :: rest) a w := by
  obtain ⟨i, hi, hz, hsz, hby⟩ := infoE
  cases ad with
  | some ad =>
    refine wpList_append_own_at w hg s x 30 hop base 48 i _ 2 16 Try.underlying30 hi hz hsz hby rfl (by decide) v 0 [] hs hown ad l.length c (cellsE l) hx (cellsE_len l) (fun j u hj => ?_) (cellsE_one l) (by unfold maxLen; omega) (by omega) hbase ?_
    · rcases hat with h0 | ⟨g, e, _, hc⟩
      · subst h0; simp [cellsE] at hj
      · cases e
        have := hc j u hj
        rw [show (⟨g, 0, none⟩ : Addr).add j = ⟨g, j, none⟩ by unfold Addr.add; split <;> simp_all]
        exact this
    · intro v' w' h1 h2 _ _
      refine hK v' w' ?_ ((Chg.grown h2).mono fun j _ e => e.symm)
      unfold Edgs
      simpa using h1
  | none =>
    have hn : l = [] := by
      rcases hat with h0 | ⟨_, h0, _⟩
      · exact h0
      · cases h0
    subst hn
    obtain ⟨a1, c1, rfl⟩ := row_shape hown
    refine wpList_plain hg fun K hK' => ?_
    unfold Oper.wp execOp
    have hr : (Builtin.append_ #[30, 30] o.type #[.slice a1 0 c1, .slice none 0 c]).run Try.prog w = .ok (.slice a1 0 c1) w := by
      simp [Builtin.append_, run_underlying Try.underlying30, sizeOf, typeInfo, hi, Builtin.lenOf, Builtin.firstCells]
      cases a1 <;> simp [storeCells]
    simp only [hop, resolve, invoke, builtin, Sem.run_bind, Sem.run_pure, Result.andThen_ok, List.map_toArray, List.map_cons, List.map_nil, hs, hx, List.length_nil, hr]
    exact hK' _ _ (hK _ _ hown (Chg.refl _ _))
end

end Go.Proofs.Ytfkommjpofpmbaa
