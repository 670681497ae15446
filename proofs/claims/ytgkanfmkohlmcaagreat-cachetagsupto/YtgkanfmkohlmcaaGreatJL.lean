/-
  A list of lists of numbers in memory, each in a block of its own; one of them grows.
-/
import Derived.Test.YtgkanfmkohlmcaaGreatCache2
import Derived.Laws.OwnMore
namespace Go.Proofs.YtgkanfmkohlmcaaGreat
open Go.RowKit

theorem row_shape9 {w : World} {base e k n : Nat} {v : Value} {xs : List Value} (h : w.ownsRow base e k v n xs) : ∃ a cap, v = .slice a n cap ∧ n ≤ cap ∧ (∀ ad, a = some ad → ∃ g, ad = ⟨g, 0, none⟩ ∧ base ≤ g) := by
  obtain ⟨_, h2⟩ := h
  rcases h2 with ⟨rfl, rfl⟩ | ⟨g, cap, cur, rfl, hb, _, hc, _⟩
  · exact ⟨none, 0, rfl, Nat.le_refl _, fun _ h => by cases h⟩
  · exact ⟨_, cap, rfl, hc, fun ad h => by cases h; exact ⟨g, rfl, hb⟩⟩

/-- A list: its slice, how many, their cells. -/
structure Lst where
  v : Value
  n : Nat
  xs : List Value
theorem own_block {w : World} {B e k n g : Nat} {v : Value} {xs : List Value} (h : w.ownsRow B e k v n xs) (hg : v.ownBlock = some g) : B ≤ g ∧ ∃ cur, w.heap[g]? = some (.cells cur e (0, 0)) := by
  rcases h.2 with ⟨rfl, _⟩ | ⟨g', cap, cur, rfl, hb, hgb, _⟩
  · cases hg
  · have : g' = g := by simpa [Value.ownBlock] using hg
    subst this
    exact ⟨hb, cur, hgb⟩
theorem own_keepJ {w w' : World} {B e k n : Nat} {v : Value} {xs : List Value} (h : w.ownsRow B e k v n xs) (hk : ∀ g, v.ownBlock = some g → w'.heap[g]? = w.heap[g]?) : w'.ownsRow B e k v n xs := by
  refine ⟨h.1, ?_⟩
  rcases h.2 with h | ⟨g, cap, cur, rfl, hb, hgb, h1⟩
  · exact .inl h
  · exact .inr ⟨g, cap, cur, rfl, hb, by rw [hk g rfl]; exact hgb, h1⟩
/-- A list of lists: eo is the type of the outer list's elements, e and k the inner lists' elements' type and cells. -/
structure Lot (B eo e k : Nat) (v : Value) (V : List Lst) (w : World) : Prop where
  row : w.ownsRow B eo 1 v V.length (V.map Lst.v)
  own : ∀ (j : Nat) x, V[j]? = some x → w.ownsRow B e k x.v x.n x.xs
  two : ∀ (i j : Nat) x y g, V[i]? = some x → V[j]? = some y → x.v.ownBlock = some g → y.v.ownBlock = some g → i = j
theorem Lot.nil (B eo e k : Nat) (w : World) : Lot B eo e k (.slice none 0 0) [] w :=
  ⟨World.ownsRow_nil _ _ _ _, fun j x h => (by cases h), fun i j x y g h => (by cases h)⟩
theorem Lot.keep {B eo e k : Nat} {v : Value} {V : List Lst} {w w' : World} (h : Lot B eo e k v V w) (hv : ∀ g, v.ownBlock = some g → w'.heap[g]? = w.heap[g]?)
    (hk : ∀ (j : Nat) x g, V[j]? = some x → x.v.ownBlock = some g → w'.heap[g]? = w.heap[g]?) : Lot B eo e k v V w' :=
  ⟨own_keepJ h.row hv, fun j x hx => own_keepJ (h.own j x hx) (fun g hg => hk j x g hx hg), h.two⟩
theorem Lot.below {B eo e k : Nat} {v : Value} {V : List Lst} {w w' : World} (h : Lot B eo e k v V w) (hb : Below w.heap.size w w') : Lot B eo e k v V w' :=
  h.keep (fun g hg => hb.block g (slt (own_block h.row hg).2.choose_spec)) (fun j x g hx hg => hb.block g (slt (own_block (h.own j x hx) hg).2.choose_spec))
/-- What writes blocks of other types alone leaves it. -/
theorem Lot.types {B eo e k : Nat} {v : Value} {V : List Lst} {w w' : World} (h : Lot B eo e k v V w) (ht : ∀ (g : Nat) cs t f, w.heap[g]? = some (.cells cs t f) → t = eo ∨ t = e → w'.heap[g]? = some (.cells cs t f)) : Lot B eo e k v V w' := by
  refine h.keep (fun g hg => ?_) (fun j x g hx hg => ?_)
  · obtain ⟨_, cur, hc⟩ := own_block h.row hg
    rw [hc]; exact ht g _ _ _ hc (.inl rfl)
  · obtain ⟨_, cur, hc⟩ := own_block (h.own j x hx) hg
    rw [hc]; exact ht g _ _ _ hc (.inr rfl)
/-- The slice of one list, read. -/
theorem Lot.at {B eo e k g c n : Nat} {V : List Lst} {w : World} {x : Lst} {j : Nat} (h : Lot B eo e k (.slice (some ⟨g, 0, none⟩) n c) V w) (hj : V[j]? = some x) : w.cell? ⟨g, j, none⟩ = some x.v := by
  have := World.ownsRow.cells h.row (g := g) rfl j x.v (by rw [List.getElem?_map, hj]; rfl)
  have hadd : (⟨g, 0, none⟩ : Addr).add j = ⟨g, j, none⟩ := by unfold Addr.add; split <;> simp_all
  rw [hadd] at this
  exact this
/-- What the outer list's slice looks like. -/
theorem Lot.form {B eo e k : Nat} {v : Value} {V : List Lst} {w : World} (h : Lot B eo e k v V w) (h0 : 0 < V.length) : ∃ g c, v = .slice (some ⟨g, 0, none⟩) V.length c := by
  obtain ⟨g, c, hv, _⟩ := h.row.form h0
  exact ⟨g, c, hv⟩


/-- The blocks of a list of lists. -/
def LotB (v : Value) (V : List Lst) (k : Nat) : Prop := v.ownBlock = some k ∨ ∃ (j : Nat) (x : Lst), V[j]? = some x ∧ x.v.ownBlock = some k
theorem Lot.blk_lt {B eo e k : Nat} {v : Value} {V : List Lst} {w : World} (h : Lot B eo e k v V w) {g : Nat} (hg : LotB v V g) : g < w.heap.size := by
  rcases hg with hg | ⟨j, x, hx, hg⟩
  · exact slt (own_block h.row hg).2.choose_spec
  · exact slt (own_block (h.own j x hx) hg).2.choose_spec
theorem Lot.kept {B eo e k : Nat} {v : Value} {V : List Lst} {w w' : World} {ks : Nat → Prop} (h : Lot B eo e k v V w) (hc : Chg w w' ks) (hn : ∀ g, LotB v V g → ¬ ks g) : Lot B eo e k v V w' :=
  h.keep (fun g hg => hc.block g (h.blk_lt (.inl hg)) (hn g (.inl hg))) (fun j x g hx hg => hc.block g (h.blk_lt (.inr ⟨j, x, hx, hg⟩)) (hn g (.inr ⟨j, x, hx, hg⟩)))
/-- One list has grown, and its slice is written back. -/
theorem Lot.regrow {B eo e k g c n : Nat} {V : List Lst} {w w' : World} {x : Lst} {j m : Nat} {v5 : Value} {ys : List Value} (h : Lot B eo e k (.slice (some ⟨g, 0, none⟩) n c) V w) (hne : eo ≠ e) (hj : V[j]? = some x)
    (ho : w'.ownsRow B e k v5 m ys) (hw : w.grownBy w' x.v.ownBlock) (h5 : v5.ownBlock = x.v.ownBlock ∨ v5.ownBlock = some w.heap.size) :
    Lot B eo e k (.slice (some ⟨g, 0, none⟩) n c) (V.set j ⟨v5, m, ys⟩) (w'.setCell ⟨g, j, none⟩ v5) ∧ ∀ i, LotB (.slice (some ⟨g, 0, none⟩) n c) (V.set j ⟨v5, m, ys⟩) i → LotB (.slice (some ⟨g, 0, none⟩) n c) V i ∨ i = w.heap.size := by
  have hjl : j < V.length := (List.getElem?_eq_some_iff.1 hj).1
  obtain ⟨_, co, hco⟩ := own_block h.row (show Value.ownBlock (.slice (some ⟨g, 0, none⟩) n c) = some g from rfl)
  have get : ∀ (i : Nat) y, (V.set j ⟨v5, m, ys⟩)[i]? = some y → (i ≠ j ∧ V[i]? = some y) ∨ (i = j ∧ y = ⟨v5, m, ys⟩) := by
    intro i y hy
    rw [List.getElem?_set] at hy
    by_cases e : j = i
    · subst e; rw [if_pos rfl, if_pos hjl] at hy; exact .inr ⟨rfl, (Option.some.inj hy).symm⟩
    · rw [if_neg e] at hy; exact .inl ⟨fun k => e k.symm, hy⟩
  have xg : ¬ some g = x.v.ownBlock := fun e1 => by
    obtain ⟨_, c1, h1⟩ := own_block (h.own j x hj) e1.symm
    rw [hco] at h1
    cases h1
    exact hne rfl
  have hrow' : w'.ownsRow B eo 1 (.slice (some ⟨g, 0, none⟩) n c) V.length (V.map Lst.v) := own_keepJ h.row (fun g' hg' => by
    have e : g = g' := by simpa [Value.ownBlock] using hg'
    subst e
    exact hw.block g (slt hco) xg)
  have n5 : ∀ i, v5.ownBlock = some i → i ≠ g := fun i hi e => by
    subst e
    rcases h5 with e | e
    · exact xg (by rw [← e]; exact hi.symm)
    · rw [e] at hi
      have := Option.some.inj hi
      have := slt hco
      omega
  have hsc := hrow'
  have hn : n = V.length := by
    obtain ⟨a, cc, e1, _⟩ := row_shape9 h.row
    injection e1
  subst hn
  have st := hsc.stored j v5
  have fst : ∀ (i : Nat) y i2, (V.set j ⟨v5, m, ys⟩)[i]? = some y → y.v.ownBlock = some i2 → (i ≠ j ∧ V[i]? = some y) ∨ (i = j ∧ v5.ownBlock = some i2) := by
    intro i y i2 hy hi
    rcases get i y hy with e | ⟨rfl, rfl⟩
    · exact .inl e
    · exact .inr ⟨rfl, hi⟩
  have apart : ∀ (i : Nat) y i2, i ≠ j → V[i]? = some y → y.v.ownBlock = some i2 → ¬ v5.ownBlock = some i2 := by
    intro i y i2 hij hy hi e
    rcases h5 with e1 | e1
    · exact hij (h.two i j y x i2 hy hj hi (by rw [← e1]; exact e))
    · rw [e1] at e
      have := Option.some.inj e
      have := slt (own_block (h.own i y hy) hi).2.choose_spec
      omega
  refine ⟨⟨?_, ?_, ?_⟩, ?_⟩
  · rw [List.length_set, show (V.set j ⟨v5, m, ys⟩).map Lst.v = (V.map Lst.v).set j v5 by rw [List.map_set]]
    exact st.1
  · intro i y hy
    rcases get i y hy with ⟨hij, h1⟩ | ⟨rfl, rfl⟩
    · have o1 := h.own i y h1
      refine own_keepJ o1 (fun g' hg' => ?_)
      have hl := slt (own_block o1 hg').2.choose_spec
      have ne1 : ¬ some g' = x.v.ownBlock := fun e1 => hij (h.two i j y x g' h1 hj hg' e1.symm)
      have ne2 : g' ≠ g := fun e => by
        subst e
        obtain ⟨_, c1, k1⟩ := own_block o1 hg'
        rw [hco] at k1
        cases k1
        exact hne rfl
      rw [st.2.block g' (by have := hw.size; omega) (fun e => ne2 (Option.some.inj e)), hw.block g' hl ne1]
    · refine own_keepJ ho (fun g' hg' => ?_)
      rw [st.2.block g' (slt (own_block ho hg').2.choose_spec) (fun e => n5 g' hg' (Option.some.inj e))]
  · intro i i' y y' g' hy hy' hg hg'
    rcases fst i y g' hy hg with ⟨e1, e2⟩ | ⟨rfl, e2⟩
    · rcases fst i' y' g' hy' hg' with ⟨f1, f2⟩ | ⟨rfl, f2⟩
      · exact h.two i i' y y' g' e2 f2 hg hg'
      · exact absurd f2 (apart i y g' e1 e2 hg)
    · rcases fst i' y' g' hy' hg' with ⟨f1, f2⟩ | ⟨rfl, f2⟩
      · exact absurd e2 (apart i' y' g' f1 f2 hg')
      · rfl
  · rintro i (hi | ⟨i', y, hy, hi⟩)
    · exact .inl (.inl hi)
    · rcases fst i' y i hy hi with ⟨_, e2⟩ | ⟨rfl, e2⟩
      · exact .inl (.inr ⟨i', y, e2, hi⟩)
      · rcases h5 with e1 | e1
        · exact .inl (.inr ⟨i', x, hj, by rw [← e1]; exact e2⟩)
        · rw [e1] at e2
          exact .inr (Option.some.inj e2).symm

end Go.Proofs.YtgkanfmkohlmcaaGreat
