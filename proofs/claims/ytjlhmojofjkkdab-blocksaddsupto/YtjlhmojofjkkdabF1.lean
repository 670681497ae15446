/-
  The statements' own comparisons of lists.
-/
import Derived.Test.YtjlhmojofjkkdabE2
-- may lack
namespace Go.Proofs.Ytjlhmojofjkkdab
open Go.RowKit Go.Shelf

/-- Blocks at a slice. -/
def PI (w : World) (a : Option Addr) (l : List Spt) : Prop := ∀ (j : Nat) x, l[j]? = some x → ∃ g o, a = some ⟨g, o, none⟩ ∧ w.cell? ⟨g, o + j * 2, none⟩ = some (.int .i64 x.idx) ∧ w.cell? ⟨g, o + j * 2 + 1, none⟩ = some (.int .i64 x.sec)
theorem flatS_get (l : List Spt) : ∀ (j : Nat) (x : Spt), l[j]? = some x → (flatS l)[j * 2]? = some (.int .i64 x.idx) ∧ (flatS l)[j * 2 + 1]? = some (.int .i64 x.sec) := by
  induction l with
  | nil => intro j x h; simp at h
  | cons y l ih =>
    intro j x h
    have e : flatS (y :: l) = [.int .i64 y.idx, .int .i64 y.sec] ++ flatS l := rfl
    rw [e]
    cases j with
    | zero => simp at h; subst h; simp
    | succ j =>
      have := ih j x (by simpa using h)
      rw [List.getElem?_append_right (by simp; omega), List.getElem?_append_right (by simp; omega)]
      simpa [show (j + 1) * 2 - 2 = j * 2 by omega, show (j + 1) * 2 + 1 - 2 = j * 2 + 1 by omega] using this
theorem SOwn.pi {w : World} {B : Nat} {v : Value} {l : List Spt} (h : SOwn w B v l) : ∃ a c, v = .slice a l.length c ∧ PI w a l := by
  rcases h.2 with ⟨rfl, h0⟩ | ⟨g, cap, cur, rfl, hb, hg, hc, _⟩
  · obtain rfl : l = [] := List.eq_nil_of_length_eq_zero h0
    exact ⟨none, 0, rfl, fun j x hj => by simp at hj⟩
  · refine ⟨_, cap, rfl, fun j x hj => ⟨g, 0, rfl, ?_, ?_⟩⟩
    · have := World.ownsRow.cells h (g := g) rfl (j * 2) _ (flatS_get l j x hj).1
      rw [addr_add] at this; exact this
    · have := World.ownsRow.cells h (g := g) rfl (j * 2 + 1) _ (flatS_get l j x hj).2
      rw [addr_add] at this; exact this
theorem IOwn.li {w : World} {B : Nat} {v : Value} {l : List Int} (h : IOwn w B v l) : ∃ a c, v = .slice a l.length c ∧ LI w a l := by
  rcases h.2 with ⟨rfl, h0⟩ | ⟨g, cap, cur, rfl, hb, hg, hc, _⟩
  · obtain rfl : l = [] := List.eq_nil_of_length_eq_zero h0
    exact ⟨none, 0, rfl, fun j x hj => by simp at hj⟩
  · refine ⟨_, cap, rfl, fun j x hj => ⟨g, 0, rfl, ?_⟩⟩
    have := World.ownsRow.cells h (g := g) rfl j (.int .i64 x) (by rw [List.getElem?_map, hj]; rfl)
    rw [addr_add] at this; exact this
theorem PI.below {w w' : World} {a : Option Addr} {l : List Spt} (h : PI w a l) (hb : Below w.heap.size w w') : PI w' a l := fun j x hj => by
  obtain ⟨g, o, h1, h2, h3⟩ := h j x hj
  exact ⟨g, o, h1, by rw [hb.cell (p := ⟨g, o + j * 2, none⟩) (World.block_lt_of_cell? _ _ h2)]; exact h2, by rw [hb.cell (p := ⟨g, o + j * 2 + 1, none⟩) (World.block_lt_of_cell? _ _ h3)]; exact h3⟩

end Go.Proofs.Ytjlhmojofjkkdab
