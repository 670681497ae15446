/-
  Lists of lists that are marked, and grow.
-/
import Derived.Test.YtfkommjpofpmbaaJ1
namespace Go.Proofs.Ytfkommjpofpmbaa
open Go.RowKit

theorem ownr_mono {w : World} {B B' e k n : Nat} {v : Value} {xs : List Value} (h : w.ownsRow B e k v n xs) (hB : B' ≤ B) : w.ownsRow B' e k v n xs := by
  refine ⟨h.1, ?_⟩
  rcases h.2 with h | ⟨g, cap, cur, hv, hb, r⟩
  · exact .inl h
  · exact .inr ⟨g, cap, cur, hv, Nat.le_trans hB hb, r⟩
theorem ownr_below {w w' : World} {B e k n : Nat} {v : Value} {xs : List Value} (h : w.ownsRow B e k v n xs) (hb : Below w.heap.size w w') : w'.ownsRow B e k v n xs :=
  own_keepJ h (fun _ hg => hb.block _ (slt (own_block h hg).2.choose_spec))
theorem ownr_grow {w w' : World} {B B' e k n t : Nat} {v : Value} {xs : List Value} (h : w.ownsRow B e k v n xs) (hg : Grow t B' w w') (ht : e ≠ t) : w'.ownsRow B e k v n xs :=
  own_keepJ h (fun _ hv => by obtain ⟨_, cur, hc⟩ := own_block h hv; rw [hc]; exact hg.keep _ _ _ _ hc ht)
theorem Lot.grow {B B' eo e k t : Nat} {v : Value} {V : List Lst} {w w' : World} (h : Lot B eo e k v V w) (hg : Grow t B' w w') (h1 : eo ≠ t) (h2 : e ≠ t) : Lot B eo e k v V w' :=
  h.types (fun _ _ _ _ hb ht => hg.keep _ _ _ _ hb (by rcases ht with e | e <;> rw [e] <;> assumption))
theorem Duo.grow {B B' eo e k t : Nat} {v m : Value} {V M : List Lst} {w w' : World} (h : Duo B eo e k v m V M w) (hg : Grow t B' w w') (h1 : eo ≠ t) (h2 : e ≠ t) : Duo B eo e k v m V M w' :=
  h.types (fun _ _ _ _ hb ht => hg.keep _ _ _ _ hb (by rcases ht with e | e <;> rw [e] <;> assumption))
theorem below_alloc (w : World) (o : Obj) : Below w.heap.size w (w.alloc o) := (Below.refl _ _).alloc (Nat.le_refl _) _
/-- The lists ahead of m hold marks alone. -/
def MS (st m : Nat) (V : List Lst) : Prop := ∀ (j : Nat) x, V[j]? = some x → x.n ≤ 100000000 ∧ (j < m → ∀ q, q < x.n → x.xs[q * st]? = some (.int .i64 (-(j : Int) - 1)))
theorem below_put {w w' : World} {B g : Nat} {U : World} (hb : Below B U w) (hBU : B ≤ U.heap.size) (hg : w.grownBy w' (some g)) (hB : B ≤ g) : Below B U w' :=
  hb.trans ((Below.refl B w).grown hg (Nat.le_trans hBU hb.size) (fun j hj => by have := Option.some.inj hj; omega))
theorem Lot.other {B eo e k g t : Nat} {v : Value} {V : List Lst} {w w' : World} {cur : Array Value} {f : Nat × Nat} (h : Lot B eo e k v V w) (hg : w.grownBy w' (some g)) (hc : w.heap[g]? = some (.cells cur t f)) (h1 : eo ≠ t) (h2 : e ≠ t) : Lot B eo e k v V w' := by
  refine h.types (fun i cs t' f' hb ht => ?_)
  rw [hg.block i (slt hb) (fun e' => ?_)]
  · exact hb
  · have := Option.some.inj e'
    subst this
    rw [hc] at hb
    cases hb
    rcases ht with e | e
    · exact h1 e.symm
    · exact h2 e.symm
theorem set_at {V : List Lst} {k : Nat} {x y : Lst} (hx : V[k]? = some x) : (V.set k y)[k]? = some y := by
  rw [List.getElem?_set, if_pos rfl, if_pos (List.getElem?_eq_some_iff.1 hx).1]
theorem MS.put {st k : Nat} {V : List Lst} {x : Lst} {ys : List Value} (h : MS st k V) (hx : V[k]? = some x) : MS st k (V.set k ⟨x.v, x.n, ys⟩) := by
  intro j y hy
  by_cases e : j = k
  · subst e
    rw [set_at hx] at hy
    cases hy
    exact ⟨(h _ x hx).1, fun e => absurd e (Nat.lt_irrefl _)⟩
  · rw [List.getElem?_set, if_neg (fun e' => e e'.symm)] at hy
    exact h j y hy
theorem MS.next {st k : Nat} {V : List Lst} {x : Lst} (h : MS st k V) (hx : V[k]? = some x) (hm : ∀ p, p < x.n → x.xs[p * st]? = some (.int .i64 (-(k : Int) - 1))) : MS st (k + 1) V := by
  intro j y hy
  refine ⟨(h j y hy).1, fun hj => ?_⟩
  by_cases e : j = k
  · subst e
    rw [hx] at hy
    cases hy
    exact hm
  · exact (h j y hy).2 (by omega)
theorem mark_put {xs : List Value} {q : Nat} {m z : Value} (h : ∀ p, p < q → xs[p * 2]? = some m) (hl : q * 2 + 1 < xs.length) : ∀ p, p < q + 1 → ((xs.set (q * 2) m).set (q * 2 + 1) z)[p * 2]? = some m := by
  intro p hp
  rw [List.getElem?_set, if_neg (by omega), List.getElem?_set]
  by_cases e : q * 2 = p * 2
  · rw [if_pos e, if_pos (by omega)]
  · rw [if_neg e]; exact h p (by omega)
theorem mark_put1 {xs : List Value} {q : Nat} {m : Value} (h : ∀ p, p < q → xs[p * 1]? = some m) (hl : q < xs.length) : ∀ p, p < q + 1 → (xs.set q m)[p * 1]? = some m := by
  intro p hp
  rw [Nat.mul_one]
  rw [List.getElem?_set]
  by_cases e : q = p
  · rw [if_pos e, if_pos hl]
  · rw [if_neg e]; have := h p (by omega); rwa [Nat.mul_one] at this

/-- The mark at place q of a list whose first N were marked, and which grew. -/
def mkV (N k q : Nat) : Value := .int .i64 (if q < N then -(k : Int) - 1 else (k : Int) + 1)
def GC (st N k : Nat) (A : Lst) : Prop := A.xs.length = A.n * st ∧ ∀ q, q < A.n → A.xs[q * st]? = some (mkV N k q)
theorem GC.grow2 {N k : Nat} {A : Lst} (h : GC 2 N k A) (hn : N ≤ A.n) (v : Value) : GC 2 N k ⟨v, A.n + 1, A.xs ++ [.int .i64 ((k : Int) + 1), .int .i64 0]⟩ := by
  refine ⟨by rw [List.length_append, h.1]; simp; omega, fun q hq => ?_⟩
  have hq' : q < A.n + 1 := hq
  have hl := h.1
  by_cases e : q < A.n
  · show (A.xs ++ _)[q * 2]? = _
    rw [List.getElem?_append_left (by omega)]
    exact h.2 q e
  · have e2 : q = A.n := by omega
    subst e2
    show (A.xs ++ _)[A.n * 2]? = _
    rw [List.getElem?_append_right (by omega), hl, Nat.sub_self]
    unfold mkV
    rw [if_neg (by omega)]
    rfl
theorem GC.grow1 {N k : Nat} {A : Lst} (h : GC 1 N k A) (hn : N ≤ A.n) (v : Value) : GC 1 N k ⟨v, A.n + 1, A.xs ++ [.int .i64 ((k : Int) + 1)]⟩ := by
  refine ⟨by rw [List.length_append, h.1]; simp, fun q hq => ?_⟩
  have hq' : q < A.n + 1 := hq
  have hl := h.1
  by_cases e : q < A.n
  · show (A.xs ++ _)[q * 1]? = _
    rw [List.getElem?_append_left (by omega)]
    exact h.2 q e
  · have e2 : q = A.n := by omega
    subst e2
    show (A.xs ++ _)[A.n * 1]? = _
    rw [List.getElem?_append_right (by omega), hl, Nat.sub_self]
    unfold mkV
    rw [if_neg (by omega)]
    rfl
/-- The second lists are the first ones, and twenty marks each. -/
def GM (st : Nat) (V M : List Lst) : Prop := ∀ (j : Nat) x y, V[j]? = some x → M[j]? = some y → y.n = x.n + 20 ∧ GC st x.n j y
theorem GM.nil (st : Nat) (V : List Lst) : GM st V [] := fun j x y _ h => by simp at h
theorem GM.more {st : Nat} {V M : List Lst} {x y : Lst} {k : Nat} (h : GM st V M) (hk : M.length = k) (hx : V[k]? = some x) (hn : y.n = x.n + 20) (hc : GC st x.n k y) : GM st V (M ++ [y]) := by
  intro j u v hu hv
  rcases get_more hv with ⟨h1, _⟩ | ⟨rfl, rfl⟩
  · exact h j u v hu h1
  · rw [hk] at hu ⊢
    rw [hx] at hu
    cases hu
    exact ⟨hn, hc⟩
theorem MS.gc {st m k : Nat} {V : List Lst} {x : Lst} (h : MS st m V) (hx : V[k]? = some x) (hk : k < m) (hl : x.xs.length = x.n * st) : GC st x.n k x :=
  ⟨hl, fun q hq => by rw [(h k x hx).2 hk q hq]; unfold mkV; rw [if_pos hq]⟩
theorem Cur.grow {B B' e k t : Nat} {V M : List Lst} {x a : Lst} {w w' : World} (h : Cur B e k V M x a w) (hg : Grow t B' w w') (h1 : e ≠ t) : Cur B e k V M x a w' :=
  h.types (fun _ _ _ hb => hg.keep _ _ _ _ hb h1)
/-- What a list of a list of lists has at a place. -/
theorem own_cell {w : World} {B e k n g c : Nat} {xs : List Value} (h : w.ownsRow B e k (.slice (some ⟨g, 0, none⟩) n c) n xs) {q : Nat} {v : Value} (hq : xs[q]? = some v) : w.cell? ⟨g, q, none⟩ = some v := by
  have := World.ownsRow.cells h (g := g) rfl q v hq
  rwa [addr_addJ, Nat.zero_add] at this
/-- What is read of two lists of lists at one place. -/
theorem Duo.reads {B eo e st gl cl gm cm k n : Nat} {V M : List Lst} {w : World} (h : Duo B eo e st (.slice (some ⟨gl, 0, none⟩) n cl) (.slice (some ⟨gm, 0, none⟩) n cm) V M w) (hm : GM st V M)
    (hs : ∀ x, V[k]? = some x → x.n ≤ 100000000 ∧ GC st x.n k x) (hV : V.length = n) (hM : M.length = n) (hk : k < n) :
    ∃ ax cx N gA cA NA, N ≤ 100000000 ∧ NA = N + 20 ∧ w.cell? ⟨gl, k, none⟩ = some (.slice ax N cx) ∧ w.cell? ⟨gm, k, none⟩ = some (.slice (some ⟨gA, 0, none⟩) NA cA) ∧
      (∀ q, q < N → w.cell? ⟨gA, q * st, none⟩ = some (.int .i64 (-(k : Int) - 1))) ∧ (∀ q, N ≤ q → q < NA → w.cell? ⟨gA, q * st, none⟩ = some (.int .i64 ((k : Int) + 1))) ∧
      (∀ q, q < N → ∃ g, ax = some ⟨g, 0, none⟩ ∧ w.cell? ⟨g, q * st, none⟩ = some (.int .i64 (-(k : Int) - 1))) := by
  obtain ⟨x, hx⟩ : ∃ x, V[k]? = some x := ⟨_, List.getElem?_eq_getElem (by omega)⟩
  obtain ⟨y, hy⟩ : ∃ x, M[k]? = some x := ⟨_, List.getElem?_eq_getElem (by omega)⟩
  obtain ⟨h1, h2⟩ := hm k x y hx hy
  obtain ⟨h3, h4⟩ := hs x hx
  have ox := h.l.own k x hx
  have oy := h.r.own k y hy
  have fx := h.l.at hx
  have fy := h.r.at hy
  obtain ⟨ax, cx, vx, _, _⟩ := row_shape9 ox
  obtain ⟨gA, cA, vy, _⟩ := oy.form (by rw [h1]; omega)
  rw [vy] at oy fy
  rw [vx] at fx
  refine ⟨ax, cx, x.n, gA, cA, y.n, h3, h1, fx, fy, fun q hq => ?_, fun q h5 h6 => ?_, fun q hq => ?_⟩
  · have := own_cell oy (h2.2 q (by rw [h1]; omega))
    unfold mkV at this
    rwa [if_pos hq] at this
  · have := own_cell oy (h2.2 q h6)
    unfold mkV at this
    rwa [if_neg (by omega)] at this
  · obtain ⟨g, c, e1, _⟩ := ox.form (by omega)
    have e2 := e1
    rw [vx] at e2
    injection e2 with e3 _ _
    rw [e1] at ox
    refine ⟨g, e3, ?_⟩
    have := own_cell ox (h4.2 q hq)
    unfold mkV at this
    rwa [if_pos hq] at this
/-- What listsOwn and rowsOwn leave: blocks of other types, and all ahead of B. -/
structure Kps (e eo B : Nat) (w w' : World) : Prop where
  low : Below B w w'
  keep : ∀ (k : Nat) cs t f, w.heap[k]? = some (.cells cs t f) → t ≠ e → t ≠ eo → w'.heap[k]? = some (.cells cs t f)
theorem Kps.refl (e eo B : Nat) (w : World) : Kps e eo B w w := ⟨Below.refl _ _, fun _ _ _ _ h _ _ => h⟩
theorem Kps.alloc {e eo B : Nat} {w w' : World} (h : Kps e eo B w w') (hB : B ≤ w.heap.size) (o : Obj) : Kps e eo B w (w'.alloc o) :=
  ⟨h.low.alloc (Nat.le_trans hB h.low.size) _, fun k cs t f hk h1 h2 => by have := h.keep k cs t f hk h1 h2; rw [Below.heap_alloc _ _ _ (slt this)]; exact this⟩
theorem Kps.grow {e eo B t : Nat} {w w1 w2 : World} (h : Kps e eo B w w1) (hg : Grow t B w1 w2) (ht : t = e ∨ t = eo) : Kps e eo B w w2 :=
  ⟨h.low.trans hg.low, fun k cs t' f hk h1 h2 => hg.keep k cs t' f (h.keep k cs t' f hk h1 h2) (fun e1 => by rcases ht with r | r <;> rw [r] at e1 <;> contradiction)⟩
theorem Kps.put {e eo B g t : Nat} {w w1 w2 : World} {cur : Array Value} {f : Nat × Nat} (h : Kps e eo B w w1) (hB : B ≤ w.heap.size) (hg : w1.grownBy w2 (some g)) (hc : w1.heap[g]? = some (.cells cur t f)) (hb : B ≤ g) (ht : t = e ∨ t = eo) : Kps e eo B w w2 :=
  ⟨below_put h.low hB hg hb, fun k cs t' f' hk h1 h2 => by
    have h3 := h.keep k cs t' f' hk h1 h2
    rw [hg.block k (slt h3) (fun e' => ?_)]
    · exact h3
    · have := Option.some.inj e'
      subst this
      rw [hc] at h3
      cases h3
      rcases ht with r | r <;> contradiction⟩
theorem Kps.lot {e eo B e' eo' k : Nat} {v : Value} {V : List Lst} {w w' : World} (h : Lot B eo' e' k v V w) (hk : Kps e eo B w w') (h1 : e' ≠ e) (h2 : e' ≠ eo) (h3 : eo' ≠ e) (h4 : eo' ≠ eo) : Lot B eo' e' k v V w' :=
  h.types (fun _ _ _ _ hb ht => hk.keep _ _ _ _ hb (by rcases ht with r | r <;> rw [r] <;> assumption) (by rcases ht with r | r <;> rw [r] <;> assumption))

end Go.Proofs.Ytfkommjpofpmbaa
