/-
  BlocksOwns: what the grown lists hold.
-/
import Derived.Test.YtjlhmojofjkkdaaJ2
namespace Go.Proofs.Ytjlhmojofjkkdaa
open Go.RowKit Go.Shelf

/-- The mark at place q of a list whose first N were marked, and which grew. -/
def mkV (N k q : Nat) : Value := .int .i64 (if q < N then -(k : Int) - 1 else (k : Int) + 1)
def GC (st N k : Nat) (A : Lst) : Prop := A.xs.length = A.n * st ∧ ∀ q, q < A.n → A.xs[q * st]? = some (mkV N k q)
theorem GC.grow2 {N k : Nat} {A : Lst} (h : GC 2 N k A) (hn : N ≤ A.n) (v : Value) : GC 2 N k ⟨v, A.n + 1, A.xs ++ [.int .i64 ((k : Int) + 1), .int .i64 0]⟩ := by
  refine ⟨by rw [List.length_append, h.1]; simp; omega, fun q hq => ?_⟩
  have hq' : q < A.n + 1 := hq
  have hl := h.1
  by_cases e : q < A.n
  · show (A.xs ++ _)[q * 2]? = _
    rw [List.getElem?_append_left (by omega)]
    exact h.2 q e
  · have e2 : q = A.n := by omega
    subst e2
    show (A.xs ++ _)[A.n * 2]? = _
    rw [List.getElem?_append_right (by omega), hl, Nat.sub_self]
    unfold mkV
    rw [if_neg (by omega)]
    rfl
theorem GC.grow1 {N k : Nat} {A : Lst} (h : GC 1 N k A) (hn : N ≤ A.n) (v : Value) : GC 1 N k ⟨v, A.n + 1, A.xs ++ [.int .i64 ((k : Int) + 1)]⟩ := by
  refine ⟨by rw [List.length_append, h.1]; simp, fun q hq => ?_⟩
  have hq' : q < A.n + 1 := hq
  have hl := h.1
  by_cases e : q < A.n
  · show (A.xs ++ _)[q * 1]? = _
    rw [List.getElem?_append_left (by omega)]
    exact h.2 q e
  · have e2 : q = A.n := by omega
    subst e2
    show (A.xs ++ _)[A.n * 1]? = _
    rw [List.getElem?_append_right (by omega), hl, Nat.sub_self]
    unfold mkV
    rw [if_neg (by omega)]
    rfl
/-- The second lists are the first ones, and twenty marks each. -/
def GM (st : Nat) (V M : List Lst) : Prop := ∀ (j : Nat) x y, V[j]? = some x → M[j]? = some y → y.n = x.n + 20 ∧ GC st x.n j y
theorem GM.nil (st : Nat) (V : List Lst) : GM st V [] := fun j x y _ h => by simp at h
theorem GM.more {st : Nat} {V M : List Lst} {x y : Lst} {k : Nat} (h : GM st V M) (hk : M.length = k) (hx : V[k]? = some x) (hn : y.n = x.n + 20) (hc : GC st x.n k y) : GM st V (M ++ [y]) := by
  intro j u v hu hv
  rcases get_more hv with ⟨h1, _⟩ | ⟨rfl, rfl⟩
  · exact h j u v hu h1
  · rw [hk] at hu ⊢
    rw [hx] at hu
    cases hu
    exact ⟨hn, hc⟩
theorem SM.gc {m k : Nat} {V : List Lst} {x : Lst} (h : SM m V) (hx : V[k]? = some x) (hk : k < m) (hl : x.xs.length = x.n * 2) : GC 2 x.n k x :=
  ⟨hl, fun q hq => by rw [(h k x hx).2 hk q hq]; unfold mkV; rw [if_pos hq]⟩
theorem IM.gc {m k : Nat} {V : List Lst} {x : Lst} (h : IM m V) (hx : V[k]? = some x) (hk : k < m) (hl : x.xs.length = x.n * 1) : GC 1 x.n k x :=
  ⟨hl, fun q hq => by rw [Nat.mul_one, (h k x hx).2 hk q hq]; unfold mkV; rw [if_pos hq]⟩
theorem Cur.grow {B B' e k t : Nat} {V M : List Lst} {x a : Lst} {w w' : World} (h : Cur B e k V M x a w) (hg : Grow t B' w w') (h1 : e ≠ t) : Cur B e k V M x a w' :=
  h.types (fun _ _ _ hb => hg.keep _ _ _ _ hb h1)
/-- What a list of a list of lists has at a place. -/
theorem own_cell {w : World} {B e k n g c : Nat} {xs : List Value} (h : w.ownsRow B e k (.slice (some ⟨g, 0, none⟩) n c) n xs) {q : Nat} {v : Value} (hq : xs[q]? = some v) : w.cell? ⟨g, q, none⟩ = some v := by
  have := World.ownsRow.cells h (g := g) rfl q v hq
  rwa [addr_add, Nat.zero_add] at this
/-- What is read of two lists of lists at one place. -/
theorem Duo.reads {B eo e st gl cl gm cm k : Nat} {V M : List Lst} {w : World} (h : Duo B eo e st (.slice (some ⟨gl, 0, none⟩) 4 cl) (.slice (some ⟨gm, 0, none⟩) 4 cm) V M w) (hm : GM st V M)
    (hs : ∀ x, V[k]? = some x → x.n ≤ 2000 ∧ GC st x.n k x) (hV : V.length = 4) (hM : M.length = 4) (hk : k < 4) :
    ∃ ax cx N gA cA NA, N ≤ 2000 ∧ NA = N + 20 ∧ w.cell? ⟨gl, k, none⟩ = some (.slice ax N cx) ∧ w.cell? ⟨gm, k, none⟩ = some (.slice (some ⟨gA, 0, none⟩) NA cA) ∧
      (∀ q, q < N → w.cell? ⟨gA, q * st, none⟩ = some (.int .i64 (-(k : Int) - 1))) ∧ (∀ q, N ≤ q → q < NA → w.cell? ⟨gA, q * st, none⟩ = some (.int .i64 ((k : Int) + 1))) ∧
      (∀ q, q < N → ∃ g, ax = some ⟨g, 0, none⟩ ∧ w.cell? ⟨g, q * st, none⟩ = some (.int .i64 (-(k : Int) - 1))) := by
  obtain ⟨x, hx⟩ : ∃ x, V[k]? = some x := ⟨_, List.getElem?_eq_getElem (by omega)⟩
  obtain ⟨y, hy⟩ : ∃ x, M[k]? = some x := ⟨_, List.getElem?_eq_getElem (by omega)⟩
  obtain ⟨h1, h2⟩ := hm k x y hx hy
  obtain ⟨h3, h4⟩ := hs x hx
  have ox := h.l.own k x hx
  have oy := h.r.own k y hy
  have fx := h.l.at hx
  have fy := h.r.at hy
  obtain ⟨ax, cx, vx, _, _⟩ := row_shape9 ox
  obtain ⟨gA, cA, vy, _⟩ := oy.form (by rw [h1]; omega)
  rw [vy] at oy fy
  rw [vx] at fx
  refine ⟨ax, cx, x.n, gA, cA, y.n, h3, h1, fx, fy, fun q hq => ?_, fun q h5 h6 => ?_, fun q hq => ?_⟩
  · have := own_cell oy (h2.2 q (by rw [h1]; omega))
    unfold mkV at this
    rwa [if_pos hq] at this
  · have := own_cell oy (h2.2 q h6)
    unfold mkV at this
    rwa [if_neg (by omega)] at this
  · obtain ⟨g, c, e1, _⟩ := ox.form (by omega)
    have e2 := e1
    rw [vx] at e2
    injection e2 with e3 _ _
    rw [e1] at ox
    refine ⟨g, e3, ?_⟩
    have := own_cell ox (h4.2 q hq)
    unfold mkV at this
    rwa [if_pos hq] at this

end Go.Proofs.Ytjlhmojofjkkdaa
