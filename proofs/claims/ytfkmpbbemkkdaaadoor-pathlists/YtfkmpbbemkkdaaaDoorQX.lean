/-
  A list of lists: its cells; append of one text onto a full list, which stays.
-/
import Derived.Test.YtfkmpbbemkkdaaaDoorQW
import Derived.ArgAppend
namespace Go.Proofs.YtfkmpbbemkkdaaaDoor
open Go.RowKit Go.Shelf

theorem below_drewX {B : Nat} {w w' : World} (h : Below B w w') : Below B w w'.drew := ⟨h.os, h.tape, h.output, h.size, h.block⟩
theorem Lot.cell {B g n d : Nat} {V : List Lst} {w : World} (h : Lot B (.slice (some ⟨g, 0, none⟩) n d) V w) (j : Nat) (x : Lst) (hx : V[j]? = some x) : w.cell? ⟨g, j, none⟩ = some (valV x) ∧ g < w.heap.size := by
  have hj : j < V.length := by
    rcases Nat.lt_or_ge j V.length with e | e
    · exact e
    · rw [List.getElem?_eq_none e] at hx; cases hx
  obtain ⟨g', d', e, _, h3, _, h5⟩ := row_cells h.row (by simp; omega)
  cases e
  exact ⟨h5 j _ (by rw [List.getElem?_map, hx]; rfl), h3⟩
theorem Lot.text {B : Nat} {v : Value} {V : List Lst} {w : World} (h : Lot B v V w) {j : Nat} {x : Lst} (hx : V[j]? = some x) {q : Nat} {t : ByteArray} (ht : x.2[q]? = some t) : ∃ g, x.1 = some g ∧ g < w.heap.size ∧ w.cell? ⟨g, q, none⟩ = some (.string t) ∧ w.frozen? ⟨g, q, none⟩ = false := by
  cases e : x.1 with
  | none =>
    rcases (h.own j x hx).1 with ⟨_, h2⟩ | ⟨g, h2, _⟩
    · rw [h2] at ht; cases ht
    · simp [adr, e] at h2
  | some g =>
    have h1 := (own_lt (h.own j x hx).1 e).2
    exact ⟨g, rfl, slt h1, by rw [cell_of_row _ _ _ _ _ _ h1]; simp [ht], frozen_of_row w g q _ _ h1⟩
theorem all_tags {l : List ByteArray} {t : ByteArray} (h : ∀ (q : Nat) u, l[q]? = some u → u = t) : l = List.replicate l.length t :=
  List.eq_replicate_iff.2 ⟨rfl, fun u hu => by obtain ⟨q, hq⟩ := List.getElem?_of_mem hu; exact h q u hq⟩
/-- Lists that have grown: each holds one text, again and again. -/
structure Grown (B : Nat) (v : Value) (G : List Value) (V : List Lst) (w : World) : Prop where
  row : SOwn w B v G
  each : ∀ (j : Nat) y, G[j]? = some y → ∃ m, m ≤ 500 ∧ (∀ x, V[j]? = some x → x.2.length ≤ m) ∧ TOwn w B y (List.replicate m (tagB j)) ∧ ∀ g, y.ownBlock = some g → v.ownBlock ≠ some g
theorem Grown.nil (B : Nat) (V : List Lst) (w : World) : Grown B (.slice none 0 0) [] V w := ⟨row_nil _ _ _ _, fun j y h => (by cases h)⟩
theorem Grown.below {B : Nat} {v : Value} {G : List Value} {V : List Lst} {w w' : World} (h : Grown B v G V w) (hb : Below w.heap.size w w') : Grown B v G V w' :=
  ⟨row_below h.row hb, fun j y hy => by
    obtain ⟨m, h1, h2, h3, h4⟩ := h.each j y hy
    exact ⟨m, h1, h2, row_below h3 hb, h4⟩⟩
theorem Grown.more {B D m : Nat} {v v' y : Value} {G : List Value} {V : List Lst} {w w' : World} (h : Grown B v G V w) (hm : m ≤ 500) (hx : ∀ x, V[G.length]? = some x → x.2.length ≤ m) (hy : TOwn w D y (List.replicate m (tagB G.length))) (hD : ∀ g, v.ownBlock = some g → g < D) (hB : B ≤ D)
    (hr : SOwn w' B v' (G ++ [y])) (hc : Chg w w' (fun k => v.ownBlock = some k)) (hv : v'.ownBlock = v.ownBlock ∨ v'.ownBlock = some w.heap.size) : Grown B v' (G ++ [y]) V w' := by
  have one : ∀ (j : Nat) z m, TOwn w B z (List.replicate m (tagB j)) → (∀ g, z.ownBlock = some g → v.ownBlock ≠ some g) → TOwn w' B z (List.replicate m (tagB j)) ∧ ∀ g, z.ownBlock = some g → v'.ownBlock ≠ some g := by
    intro j z m h3 h4
    refine ⟨row_keep h3 hc (fun i hi e => h4 i hi e), fun g hg e => ?_⟩
    rcases hv with k | k
    · exact h4 g hg (by rw [← k]; exact e)
    · rw [k] at e
      have h5 := Option.some.inj e
      have h6 := (row_ge h3 hg).2
      omega
  refine ⟨hr, fun j z hz => ?_⟩
  rcases Nat.lt_or_ge j G.length with e | e
  · rw [List.getElem?_append_left e] at hz
    obtain ⟨m, h1, h2, h3, h4⟩ := h.each j z hz
    exact ⟨m, h1, h2, one j z m h3 h4⟩
  · rw [List.getElem?_append_right e] at hz
    obtain rfl : j = G.length := by
      have := (List.getElem?_eq_some_iff.1 hz).1
      simp at this
      omega
    simp at hz
    subst hz
    have hy' : TOwn w B y (List.replicate m (tagB G.length)) := by
      obtain ⟨h1, h2⟩ := hy
      refine ⟨h1, ?_⟩
      rcases h2 with h2 | ⟨g, cap, cur, a1, a2, a3⟩
      · exact .inl h2
      · exact .inr ⟨g, cap, cur, a1, Nat.le_trans hB a2, a3⟩
    exact ⟨m, hm, hx, one _ y m hy' (fun g hg e => by have h1 := hD g e; have h2 := (row_ge hy hg).1; omega)⟩
theorem Grown.cell {B g n d : Nat} {V : List Lst} {G : List Value} {w : World} (h : Grown B (.slice (some ⟨g, 0, none⟩) n d) G V w) (j : Nat) (y : Value) (hx : G[j]? = some y) : w.cell? ⟨g, j, none⟩ = some y ∧ g < w.heap.size := by
  have hj : j < G.length := (List.getElem?_eq_some_iff.1 hx).1
  obtain ⟨g', d', e, _, h3, _, h5⟩ := row_cells h.row (by omega)
  cases e
  exact ⟨h5 j _ hx, h3⟩
section
variable {ops : Array Oper} {rest : List Oper} {o : Oper} {a : Act} {Q : Exit → Act → World → Prop} {w : World}
/-- append of one text onto a full list. -/
theorem wp_appF (hg : o.guard = none) (s x : Operand) (hop : o.op = .call { callee := .builtin .append, args := #[s, x], argTypes := #[22, 22] }) (B g c : Nat) (z : Lst) (y : ByteArray) (hs : a.eval s = valV z) (hx : a.eval x = .slice (some ⟨g, 0, none⟩) 1 c)
    (hown : Own B w (adr z) z.2) (hat : w.cell? ⟨g, 0, none⟩ = some (.string y)) (hl : z.2.length ≤ 1000000)
    (hK : ∀ v' w', TOwn w' w.heap.size v' (z.2 ++ [y]) → Below w.heap.size w w' → wpList Tryd.prog ops Q rest (a.put o.dst v') w') : wpList Tryd.prog ops Q (o :: rest) a w := by
  obtain ⟨i, hi, hz, hsz, hby⟩ := infoT
  refine wpList_append_grows w hg s x 22 hop 9 i _ 1 16 Tryd.underlying22 hi hz hsz hby rfl (by decide) (adr z) z.2.length z.2.length (z.2.map Value.string) hs (fun h => ?_) (by simp) (fun b hb j u hj => ?_) ⟨g, 0, none⟩ 1 c [.string y] hx rfl (fun j u hj => ?_) (by simp [Value.oneCell']) (by omega) (by unfold maxLen; omega) (by omega) ?_
  · rcases hown with ⟨_, h2⟩ | ⟨g, h2, _⟩
    · rw [h2]; exact ⟨rfl, rfl⟩
    · rw [h2] at h; cases h
  · rcases hown with ⟨h1, _⟩ | ⟨g, h2, _, h3⟩
    · rw [h1] at hb; cases hb
    · rw [h2] at hb
      cases hb
      rw [addr_add, Nat.zero_add, cell_of_row _ _ _ _ _ _ h3]
      simpa using hj
  · cases j with
    | zero => simp at hj; subst hj; exact hat
    | succ j => simp at hj
  · intro v' w' h1 h2
    refine hK v' w' ?_ ((Below.refl _ w).grown h2 (Nat.le_refl _) (fun k e => by cases e))
    unfold TOwn
    rw [List.map_append, List.length_append]
    exact h1
end

end Go.Proofs.YtfkmpbbemkkdaaaDoor
