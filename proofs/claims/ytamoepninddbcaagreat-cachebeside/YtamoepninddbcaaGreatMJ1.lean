/-
  Lists of lists: append and store.
-/
import Derived.Test.YtamoepninddbcaaGreatMQ
import Derived.Maps.AppendAt
import Derived.Deep.DeepMust
import Derived.Deep.AppendLies
import Derived.Laws.OwnMore
import Derived.Deep.MidRow
namespace Go.Proofs.YtamoepninddbcaaGreat
open Go.RowKit

theorem addr_addJ (b o j : Nat) : (⟨b, o, none⟩ : Addr).add j = ⟨b, o + j, none⟩ := by unfold Addr.add; split <;> simp_all
/-- What a list's growth leaves: blocks of other types, and all ahead of B. -/
structure Grow (e : TypeId) (B : Nat) (w w' : World) : Prop where
  low : Below B w w'
  keep : ∀ (k : Nat) cs t f, w.heap[k]? = some (.cells cs t f) → t ≠ e → w'.heap[k]? = some (.cells cs t f)
  size : w.heap.size ≤ w'.heap.size
theorem grow_of {w w' : World} {B e k n : Nat} {v : Value} {xs : List Value} (h : w.ownsRow B e k v n xs) (hB : B ≤ w.heap.size) (hg : w.grownBy w' v.ownBlock) : Grow e B w w' := by
  have hne : ∀ (j : Nat), some j = v.ownBlock → B ≤ j ∧ ∃ cur, w.heap[j]? = some (.cells cur e (0, 0)) := by
    intro j hj
    rcases h.2 with ⟨rfl, _⟩ | ⟨g, cap, cur, rfl, hb, hgb, _⟩
    · cases hj
    · have : j = g := by simpa [Value.ownBlock] using hj
      subst this
      exact ⟨hb, cur, hgb⟩
  refine ⟨(Below.refl B w).grown hg hB (fun j hj => (hne j hj.symm).1), fun j cs t f hj ht => ?_, hg.size⟩
  rw [hg.block j (slt hj) (fun e' => ?_)]
  · exact hj
  · obtain ⟨_, cur, hc⟩ := hne j e'
    rw [hj] at hc
    cases hc
    exact ht rfl
theorem row_shape9 {w : World} {base e k n : Nat} {v : Value} {xs : List Value} (h : w.ownsRow base e k v n xs) : ∃ a cap, v = .slice a n cap ∧ n ≤ cap ∧ (∀ ad, a = some ad → ∃ g, ad = ⟨g, 0, none⟩ ∧ base ≤ g) := by
  obtain ⟨_, h2⟩ := h
  rcases h2 with ⟨rfl, rfl⟩ | ⟨g, cap, cur, rfl, hb, _, hc, _⟩
  · exact ⟨none, 0, rfl, Nat.le_refl _, fun _ h => by cases h⟩
  · exact ⟨_, cap, rfl, hc, fun ad h => by cases h; exact ⟨g, rfl, hb⟩⟩

/-- A list: its slice, how many, their cells. -/
structure Lst where
  v : Value
  n : Nat
  xs : List Value
theorem own_block {w : World} {B e k n g : Nat} {v : Value} {xs : List Value} (h : w.ownsRow B e k v n xs) (hg : v.ownBlock = some g) : B ≤ g ∧ ∃ cur, w.heap[g]? = some (.cells cur e (0, 0)) := by
  rcases h.2 with ⟨rfl, _⟩ | ⟨g', cap, cur, rfl, hb, hgb, _⟩
  · cases hg
  · have : g' = g := by simpa [Value.ownBlock] using hg
    subst this
    exact ⟨hb, cur, hgb⟩
theorem own_keepJ {w w' : World} {B e k n : Nat} {v : Value} {xs : List Value} (h : w.ownsRow B e k v n xs) (hk : ∀ g, v.ownBlock = some g → w'.heap[g]? = w.heap[g]?) : w'.ownsRow B e k v n xs := by
  refine ⟨h.1, ?_⟩
  rcases h.2 with h | ⟨g, cap, cur, rfl, hb, hgb, h1⟩
  · exact .inl h
  · exact .inr ⟨g, cap, cur, rfl, hb, by rw [hk g rfl]; exact hgb, h1⟩
/-- The first of a list are a list. -/
theorem own_prefix {w : World} {B e k n n' g cap : Nat} {xs : List Value} (h : w.ownsRow B e k (.slice (some ⟨g, 0, none⟩) n' cap) n' xs) (hn : n ≤ n') : w.ownsRow B e k (.slice (some ⟨g, 0, none⟩) n cap) n (xs.take (n * k)) := by
  have hm : n * k ≤ n' * k := Nat.mul_le_mul_right _ hn
  refine ⟨by rw [List.length_take, h.1]; omega, ?_⟩
  rcases h.2 with ⟨h', _⟩ | ⟨g', cap', cur, h', hb, hg, hnc, hcm, hcs, ht⟩
  · cases h'
  · simp only [Value.slice.injEq, Option.some.injEq, Addr.mk.injEq, and_true, true_and] at h'
    obtain ⟨rfl, rfl⟩ := h'
    exact .inr ⟨g, cap, cur, rfl, hb, hg, by omega, hcm, hcs, by rw [← ht, List.take_take, Nat.min_eq_left hm]⟩

/-- A list of lists: eo is the type of the outer list's elements, e and k the inner lists' elements' type and cells. -/
structure Lot (B eo e k : Nat) (v : Value) (V : List Lst) (w : World) : Prop where
  row : w.ownsRow B eo 1 v V.length (V.map Lst.v)
  own : ∀ (j : Nat) x, V[j]? = some x → w.ownsRow B e k x.v x.n x.xs
  two : ∀ (i j : Nat) x y g, V[i]? = some x → V[j]? = some y → x.v.ownBlock = some g → y.v.ownBlock = some g → i = j
theorem Lot.nil (B eo e k : Nat) (w : World) : Lot B eo e k (.slice none 0 0) [] w :=
  ⟨World.ownsRow_nil _ _ _ _, fun j x h => (by cases h), fun i j x y g h => (by cases h)⟩
theorem Lot.keep {B eo e k : Nat} {v : Value} {V : List Lst} {w w' : World} (h : Lot B eo e k v V w) (hv : ∀ g, v.ownBlock = some g → w'.heap[g]? = w.heap[g]?)
    (hk : ∀ (j : Nat) x g, V[j]? = some x → x.v.ownBlock = some g → w'.heap[g]? = w.heap[g]?) : Lot B eo e k v V w' :=
  ⟨own_keepJ h.row hv, fun j x hx => own_keepJ (h.own j x hx) (fun g hg => hk j x g hx hg), h.two⟩
theorem Lot.below {B eo e k : Nat} {v : Value} {V : List Lst} {w w' : World} (h : Lot B eo e k v V w) (hb : Below w.heap.size w w') : Lot B eo e k v V w' :=
  h.keep (fun g hg => hb.block g (slt (own_block h.row hg).2.choose_spec)) (fun j x g hx hg => hb.block g (slt (own_block (h.own j x hx) hg).2.choose_spec))
/-- What writes blocks of other types alone leaves it. -/
theorem Lot.types {B eo e k : Nat} {v : Value} {V : List Lst} {w w' : World} (h : Lot B eo e k v V w) (ht : ∀ (g : Nat) cs t f, w.heap[g]? = some (.cells cs t f) → t = eo ∨ t = e → w'.heap[g]? = some (.cells cs t f)) : Lot B eo e k v V w' := by
  refine h.keep (fun g hg => ?_) (fun j x g hx hg => ?_)
  · obtain ⟨_, cur, hc⟩ := own_block h.row hg
    rw [hc]; exact ht g _ _ _ hc (.inl rfl)
  · obtain ⟨_, cur, hc⟩ := own_block (h.own j x hx) hg
    rw [hc]; exact ht g _ _ _ hc (.inr rfl)
theorem get_more {α : Type} {V : List α} {x : α} {j : Nat} {y : α} (hy : (V ++ [x])[j]? = some y) : (V[j]? = some y ∧ j < V.length) ∨ (y = x ∧ j = V.length) := by
  rcases Nat.lt_or_ge j V.length with g | g
  · rw [List.getElem?_append_left g] at hy; exact .inl ⟨hy, g⟩
  · rw [List.getElem?_append_right g] at hy
    cases e : j - V.length with
    | zero => rw [e] at hy; simp at hy; exact .inr ⟨hy.symm, by omega⟩
    | succ n => rw [e] at hy; simp at hy
/-- One list more. -/
theorem Lot.more {B eo e k : Nat} {v v' : Value} {V : List Lst} {w w' : World} {x : Lst} (h : Lot B eo e k v V w) (hne : eo ≠ e) (ho : w.ownsRow B e k x.v x.n x.xs) (hx : ∀ (j : Nat) y g, V[j]? = some y → x.v.ownBlock = some g → y.v.ownBlock ≠ some g)
    (hr : w'.ownsRow B eo 1 v' (V.length + 1) (V.map Lst.v ++ [x.v])) (hg : w.grownBy w' v.ownBlock) : Lot B eo e k v' (V ++ [x]) w' := by
  have far : ∀ y : Lst, w.ownsRow B e k y.v y.n y.xs → w'.ownsRow B e k y.v y.n y.xs := by
    intro y hy
    refine own_keepJ hy (fun g hgy => hg.block g ?_ ?_)
    · exact slt (own_block hy hgy).2.choose_spec
    · intro e1
      obtain ⟨_, c1, h1⟩ := own_block hy hgy
      obtain ⟨_, c2, h2⟩ := own_block h.row e1.symm
      rw [h1] at h2
      cases h2
      exact hne rfl
  refine ⟨by rw [List.map_append, List.length_append]; exact hr, ?_, ?_⟩
  · intro j y hy
    rcases get_more hy with ⟨h1, _⟩ | ⟨rfl, _⟩
    · exact far y (h.own j y h1)
    · exact far _ ho
  · intro i j y z g hy hz hgy hgz
    rcases get_more hy with ⟨h1, l1⟩ | ⟨rfl, l1⟩
    · rcases get_more hz with ⟨h2, l2⟩ | ⟨rfl, l2⟩
      · exact h.two i j y z g h1 h2 hgy hgz
      · exact absurd hgy (hx i y g h1 hgz)
    · rcases get_more hz with ⟨h2, l2⟩ | ⟨rfl, l2⟩
      · exact absurd hgz (hx j z g h2 hgy)
      · omega
/-- What one list's block is written with. -/
theorem Lot.put {B eo e k : Nat} {v : Value} {V : List Lst} {w w' : World} {x : Lst} {j g : Nat} {ys : List Value} (h : Lot B eo e k v V w) (hne : eo ≠ e) (hj : V[j]? = some x) (hg : x.v.ownBlock = some g) (hw : w.grownBy w' (some g)) (ho : w'.ownsRow B e k x.v x.n ys) :
    Lot B eo e k v (V.set j ⟨x.v, x.n, ys⟩) w' := by
  have hjl : j < V.length := (List.getElem?_eq_some_iff.1 hj).1
  have get : ∀ (i : Nat) y, (V.set j ⟨x.v, x.n, ys⟩)[i]? = some y → (i ≠ j ∧ V[i]? = some y) ∨ (i = j ∧ y = ⟨x.v, x.n, ys⟩) := by
    intro i y hy
    rw [List.getElem?_set] at hy
    by_cases e : j = i
    · subst e; rw [if_pos rfl, if_pos hjl] at hy; exact .inr ⟨rfl, (Option.some.inj hy).symm⟩
    · rw [if_neg e] at hy; exact .inl ⟨fun k => e k.symm, hy⟩
  have first : ∀ (i : Nat) y, (V.set j ⟨x.v, x.n, ys⟩)[i]? = some y → ∃ y', V[i]? = some y' ∧ y'.v = y.v := by
    intro i y hy
    rcases get i y hy with ⟨_, h1⟩ | ⟨rfl, rfl⟩
    · exact ⟨y, h1, rfl⟩
    · exact ⟨x, hj, rfl⟩
  have hmap : (V.set j ⟨x.v, x.n, ys⟩).map Lst.v = V.map Lst.v := by
    apply List.ext_getElem?
    intro i
    rw [List.getElem?_map, List.getElem?_map, List.getElem?_set]
    by_cases e : j = i
    · subst e; rw [if_pos rfl, if_pos hjl, hj]; rfl
    · rw [if_neg e]
  refine ⟨?_, ?_, ?_⟩
  · rw [hmap, List.length_set]
    refine own_keepJ h.row (fun g' hg' => hw.block g' (slt (own_block h.row hg').2.choose_spec) ?_)
    intro e1
    obtain rfl := Option.some.inj e1
    obtain ⟨_, c1, h1⟩ := own_block h.row hg'
    obtain ⟨_, c2, h2⟩ := own_block (h.own j x hj) hg
    rw [h1] at h2
    cases h2
    exact hne rfl
  · intro i y hy
    rcases get i y hy with ⟨hij, h1⟩ | ⟨rfl, rfl⟩
    · refine own_keepJ (h.own i y h1) (fun g' hg' => hw.block g' (slt (own_block (h.own i y h1) hg').2.choose_spec) ?_)
      intro e1
      obtain rfl := Option.some.inj e1
      exact hij (h.two i j y x _ h1 hj hg' hg)
    · exact ho
  · intro i i' y z g' hy hz h1 h2
    obtain ⟨y', a1, a2⟩ := first i y hy
    obtain ⟨z', b1, b2⟩ := first i' z hz
    exact h.two i i' y' z' g' a1 b1 (by rw [a2]; exact h1) (by rw [b2]; exact h2)
/-- The slice of one list, read. -/
theorem Lot.at {B eo e k g c n : Nat} {V : List Lst} {w : World} {x : Lst} {j : Nat} (h : Lot B eo e k (.slice (some ⟨g, 0, none⟩) n c) V w) (hj : V[j]? = some x) : w.cell? ⟨g, j, none⟩ = some x.v := by
  have := World.ownsRow.cells h.row (g := g) rfl j x.v (by rw [List.getElem?_map, hj]; rfl)
  have hadd : (⟨g, 0, none⟩ : Addr).add j = ⟨g, j, none⟩ := by unfold Addr.add; split <;> simp_all
  rw [hadd] at this
  exact this
/-- What the outer list's slice looks like. -/
theorem Lot.form {B eo e k : Nat} {v : Value} {V : List Lst} {w : World} (h : Lot B eo e k v V w) (h0 : 0 < V.length) : ∃ g c, v = .slice (some ⟨g, 0, none⟩) V.length c := by
  obtain ⟨g, c, hv, _⟩ := h.row.form h0
  exact ⟨g, c, hv⟩

/-- Two lists of lists; the second one's lists have grown out of the first one's. -/
structure Duo (B eo e k : Nat) (v m : Value) (V M : List Lst) (w : World) : Prop where
  l : Lot B eo e k v V w
  r : Lot B eo e k m M w
  outer : ∀ g, v.ownBlock = some g → m.ownBlock ≠ some g
  cross : ∀ (i j : Nat) x y g, V[i]? = some x → M[j]? = some y → x.v.ownBlock = some g → y.v.ownBlock = some g → i = j
/-- A list that is growing out of the first one's list x. -/
structure Cur (B e k : Nat) (V M : List Lst) (x a : Lst) (w : World) : Prop where
  own : w.ownsRow B e k a.v a.n a.xs
  pre : (∃ g c, x.v = .slice (some ⟨g, 0, none⟩) x.n c ∧ a.v = .slice (some ⟨g, 0, none⟩) a.n c ∧ x.n ≤ a.n ∧ a.xs.take (x.n * k) = x.xs) ∨
    (∀ g, a.v.ownBlock = some g → (∀ (j : Nat) y, V[j]? = some y → y.v.ownBlock ≠ some g) ∧ (∀ (j : Nat) y, M[j]? = some y → y.v.ownBlock ≠ some g))
theorem Duo.below {B eo e k : Nat} {v m : Value} {V M : List Lst} {w w' : World} (h : Duo B eo e k v m V M w) (hb : Below w.heap.size w w') : Duo B eo e k v m V M w' :=
  ⟨h.l.below hb, h.r.below hb, h.outer, h.cross⟩
theorem Duo.types {B eo e k : Nat} {v m : Value} {V M : List Lst} {w w' : World} (h : Duo B eo e k v m V M w) (ht : ∀ (g : Nat) cs t f, w.heap[g]? = some (.cells cs t f) → t = eo ∨ t = e → w'.heap[g]? = some (.cells cs t f)) : Duo B eo e k v m V M w' :=
  ⟨h.l.types ht, h.r.types ht, h.outer, h.cross⟩
theorem Cur.below {B e k : Nat} {V M : List Lst} {x a : Lst} {w w' : World} (h : Cur B e k V M x a w) (hb : Below w.heap.size w w') : Cur B e k V M x a w' :=
  ⟨own_keepJ h.own (fun g hg => hb.block g (slt (own_block h.own hg).2.choose_spec)), h.pre⟩
theorem Cur.types {B e k : Nat} {V M : List Lst} {x a : Lst} {w w' : World} (h : Cur B e k V M x a w) (ht : ∀ (g : Nat) cs f, w.heap[g]? = some (.cells cs e f) → w'.heap[g]? = some (.cells cs e f)) : Cur B e k V M x a w' :=
  ⟨own_keepJ h.own (fun g hg => by obtain ⟨_, cur, hc⟩ := own_block h.own hg; rw [hc]; exact ht g _ _ hc), h.pre⟩
theorem Duo.start {B eo e k : Nat} {v : Value} {V : List Lst} {w : World} (h : Lot B eo e k v V w) : Duo B eo e k v (.slice none 0 0) V [] w :=
  ⟨h, Lot.nil _ _ _ _ _, fun _ _ h => (by cases h), fun _ _ _ _ _ _ h => (by cases h)⟩
theorem Duo.cur {B eo e k : Nat} {v m : Value} {V M : List Lst} {w : World} {x : Lst} {i : Nat} (h : Duo B eo e k v m V M w) (hx : V[i]? = some x) : Cur B e k V M x x w := by
  refine ⟨h.l.own i x hx, ?_⟩
  rcases (h.l.own i x hx).2 with ⟨h1, _⟩ | ⟨g, cap, cur, h1, _⟩
  · right
    intro g hg
    rw [h1] at hg
    cases hg
  · left
    refine ⟨g, cap, h1, h1, Nat.le_refl _, ?_⟩
    rw [List.take_of_length_le (by rw [(h.l.own i x hx).1]; exact Nat.le_refl _)]
/-- Behind an append onto the growing list: it grew in its place, or moved. -/
theorem Duo.app {B eo e k : Nat} {v m : Value} {V M : List Lst} {w w' : World} {x a : Lst} {g c n : Nat} {xs : List Value} (h : Duo B eo e k v m V M w) (hne : eo ≠ e) (hx : V[M.length]? = some x) (hc : Cur B e k V M x a w)
    (ho : w'.ownsRow B e k (.slice (some ⟨g, 0, none⟩) (a.n + n) c) (a.n + n) (a.xs ++ xs))
    (hw : (a.v = .slice (some ⟨g, 0, none⟩) a.n c ∧ w.grownBy w' (some g)) ∨ (g = w.heap.size ∧ w.grownBy w' none)) :
    Duo B eo e k v m V M w' ∧ Cur B e k V M x ⟨.slice (some ⟨g, 0, none⟩) (a.n + n) c, a.n + n, a.xs ++ xs⟩ w' := by
  have alen := hc.own.1
  rcases hw with ⟨hv, hw⟩ | ⟨rfl, hw⟩
  · have hga : a.v.ownBlock = some g := by rw [hv]; rfl
    obtain ⟨_, ca, hca⟩ := own_block hc.own hga
    have out : ∀ {B' : Nat} {u : Value} {k' n' : Nat} {ys : List Value}, w.ownsRow B' eo k' u n' ys → ∀ g', u.ownBlock = some g' → w'.heap[g']? = w.heap[g']? := by
      intro B' u k' n' ys hu g' hg'
      refine hw.block g' (slt (own_block hu hg').2.choose_spec) (fun e1 => ?_)
      obtain rfl := Option.some.inj e1
      obtain ⟨_, c1, h1⟩ := own_block hu hg'
      rw [hca] at h1
      cases h1
      exact hne rfl
    have inn : ∀ y : Lst, w.ownsRow B e k y.v y.n y.xs → y.v.ownBlock ≠ some g → w'.ownsRow B e k y.v y.n y.xs := by
      intro y hy hn
      refine own_keepJ hy (fun g' hg' => hw.block g' (slt (own_block hy hg').2.choose_spec) (fun e1 => ?_))
      obtain rfl := Option.some.inj e1
      exact hn hg'
    rcases hc.pre with ⟨g1, c1, x1, x2, x3, x4⟩ | hf
    · rw [hv] at x2
      simp only [Value.slice.injEq, Option.some.injEq, Addr.mk.injEq, and_true, true_and] at x2
      obtain ⟨rfl, rfl⟩ := x2
      have hgx : x.v.ownBlock = some g := by rw [x1]; rfl
      have hlen : x.n * k ≤ a.xs.length := by rw [alen]; exact Nat.mul_le_mul_right _ x3
      have htk : (a.xs ++ xs).take (x.n * k) = x.xs := by rw [List.take_append_of_le_length hlen]; exact x4
      refine ⟨⟨⟨own_keepJ h.l.row (out h.l.row), fun j y hy => ?_, h.l.two⟩, ⟨own_keepJ h.r.row (out h.r.row), fun j y hy => ?_, h.r.two⟩, h.outer, h.cross⟩, ho, .inl ⟨g, c, x1, rfl, by show x.n ≤ a.n + n; omega, htk⟩⟩
      · by_cases hj : j = M.length
        · subst hj
          rw [hx] at hy
          cases hy
          have := own_prefix (n := x.n) ho (by omega)
          rw [htk] at this
          rw [x1]
          exact this
        · exact inn y (h.l.own j y hy) (fun e1 => hj (h.l.two j _ y x g hy hx e1 hgx))
      · refine inn y (h.r.own j y hy) (fun e1 => ?_)
        have := h.cross _ j x y g hx hy hgx e1
        have := (List.getElem?_eq_some_iff.1 hy).1
        omega
    · have hf' := hf g hga
      refine ⟨⟨⟨own_keepJ h.l.row (out h.l.row), fun j y hy => inn y (h.l.own j y hy) (hf'.1 j y hy), h.l.two⟩, ⟨own_keepJ h.r.row (out h.r.row), fun j y hy => inn y (h.r.own j y hy) (hf'.2 j y hy), h.r.two⟩, h.outer, h.cross⟩, ho, .inr fun g' hg' => ?_⟩
      have : g = g' := by simpa [Value.ownBlock] using hg'
      subst this
      exact hf'
  · have hall : ∀ {B' e' : Nat} {u : Value} {k' n' : Nat} {ys : List Value}, w.ownsRow B' e' k' u n' ys → ∀ g', u.ownBlock = some g' → w'.heap[g']? = w.heap[g']? := by
      intro B' e' u k' n' ys hu g' hg'
      exact hw.block g' (slt (own_block hu hg').2.choose_spec) (fun e1 => by cases e1)
    refine ⟨⟨h.l.keep (hall h.l.row) (fun j y g hy hg => hall (h.l.own j y hy) g hg), h.r.keep (hall h.r.row) (fun j y g hy hg => hall (h.r.own j y hy) g hg), h.outer, h.cross⟩, ho, .inr fun g' hg' => ?_⟩
    have : w.heap.size = g' := by simpa [Value.ownBlock] using hg'
    subst this
    refine ⟨fun j y hy e1 => ?_, fun j y hy e1 => ?_⟩
    · have := slt (own_block (h.l.own j y hy) e1).2.choose_spec; omega
    · have := slt (own_block (h.r.own j y hy) e1).2.choose_spec; omega
/-- The grown list is put behind the second one's lists. -/
theorem Duo.push {B eo e k : Nat} {v m m' : Value} {V M : List Lst} {w w' : World} {x a : Lst} (h : Duo B eo e k v m V M w) (hne : eo ≠ e) (hx : V[M.length]? = some x) (hc : Cur B e k V M x a w)
    (hr : w'.ownsRow B eo 1 m' (M.length + 1) (M.map Lst.v ++ [a.v])) (hg : w.grownBy w' m.ownBlock) (hm : m'.ownBlock = m.ownBlock ∨ m'.ownBlock = some w.heap.size) : Duo B eo e k v m' V (M ++ [a]) w' := by
  have apart : ∀ (j : Nat) y g, M[j]? = some y → a.v.ownBlock = some g → y.v.ownBlock ≠ some g := by
    intro j y g hy hga e1
    rcases hc.pre with ⟨g1, c1, x1, x2, _⟩ | hf
    · have e2 : g1 = g := by rw [x2] at hga; simpa [Value.ownBlock] using hga
      subst e2
      have := h.cross _ j x y g1 hx hy (by rw [x1]; rfl) e1
      have := (List.getElem?_eq_some_iff.1 hy).1
      omega
    · exact (hf g hga).2 j y hy e1
  refine ⟨?_, h.r.more hne hc.own apart hr hg, fun g hgv => ?_, fun i j y z g hy hz hgy hgz => ?_⟩
  · refine h.l.keep (fun g hgv => hg.block g (slt (own_block h.l.row hgv).2.choose_spec) (fun e1 => h.outer g hgv e1.symm)) (fun j y g hy hgy => hg.block g (slt (own_block (h.l.own j y hy) hgy).2.choose_spec) (fun e1 => ?_))
    obtain ⟨_, c1, h1⟩ := own_block (h.l.own j y hy) hgy
    obtain ⟨_, c2, h2⟩ := own_block h.r.row e1.symm
    rw [h1] at h2
    cases h2
    exact hne rfl
  · rcases hm with e1 | e1
    · rw [e1]; exact h.outer g hgv
    · rw [e1]
      intro e2
      have := Option.some.inj e2
      have := slt (own_block h.l.row hgv).2.choose_spec
      omega
  · rcases get_more hz with ⟨h1, _⟩ | ⟨rfl, hl⟩
    · exact h.cross i j y z g hy h1 hgy hgz
    · subst hl
      rcases hc.pre with ⟨g1, c1, x1, x2, _⟩ | hf
      · have e2 : g1 = g := by rw [x2] at hgz; simpa [Value.ownBlock] using hgz
        subst e2
        exact h.l.two i _ y x g1 hy hx hgy (by rw [x1]; rfl)
      · exact absurd hgy ((hf g hgz).1 i y hy)

end Go.Proofs.YtamoepninddbcaaGreat

namespace Go.Proofs.YtamoepninddbcaaGreat
open Go.RowKit

/-- What is known of a type whose values are slices. -/
def InfoL (eo : TypeId) : Prop := ∃ i, Tryz.prog.info? eo = some i ∧ i.zero = some (.slice none 0 0) ∧ i.size = 1 ∧ i.bytes = 24
theorem infoLs : InfoL 64 := by
  have h : (Tryz.prog.info? 64).map (fun i => (i.zero, i.size, i.bytes)) = some (some (.slice none 0 0), 1, 24) := by kernel_rfl
  unfold InfoL
  cases hq : Tryz.prog.info? 64 with
  | none => rw [hq] at h; cases h
  | some i =>
    rw [hq] at h
    simp at h
    exact ⟨i, rfl, h.1, h.2.1, h.2.2⟩
theorem infoLi : InfoL 27 := by
  have h : (Tryz.prog.info? 27).map (fun i => (i.zero, i.size, i.bytes)) = some (some (.slice none 0 0), 1, 24) := by kernel_rfl
  unfold InfoL
  cases hq : Tryz.prog.info? 27 with
  | none => rw [hq] at h; cases h
  | some i =>
    rw [hq] at h
    simp at h
    exact ⟨i, rfl, h.1, h.2.1, h.2.2⟩
theorem own_one {w : World} {B e k n : Nat} {v : Value} {xs : List Value} (h : w.ownsRow B e k v n xs) : v.oneCell' = true := by
  obtain ⟨a, c, rfl, _⟩ := row_shape9 h
  rfl
/-- append: it grows in its place, or it moves and the old block stays as it was. -/
theorem run_append_keep {P : Program} (w : World) (base : Nat) (t ty e : TypeId) (i : TypeInfo) (z : Value) (size bytes : Nat) (ht : P.underlying t = some (.slice e)) (hi : P.info? e = some i) (hz : i.zero = some z)
    (hsize : i.size = size) (hby : i.bytes = bytes) (hzs : z.cells.size = size) (hsz : 0 < size)
    (v : Value) (n : Nat) (xs : List Value) (hown : w.ownsRow base e size v n xs)
    (a : Addr) (m c : Nat) (news : List Value) (hl : news.length = m * size) (hnews : ∀ j u, news[j]? = some u → w.cell? (a.add j) = some u) (h1 : ∀ u ∈ news, u.oneCell' = true)
    (hm : 0 < m) (h63 : n + m ≤ maxLen) (hbytes : (n + m) * bytes ≤ 140737488355328) (hbase : base ≤ w.heap.size) :
    ∃ g cap w', (Builtin.append_ #[t, t] ty #[v, .slice (some a) m c]).run P w = .ok (.slice (some ⟨g, 0, none⟩) (n + m) cap) w' ∧ w'.ownsRow base e size (.slice (some ⟨g, 0, none⟩) (n + m) cap) (n + m) (xs ++ news) ∧
      ((v = .slice (some ⟨g, 0, none⟩) n cap ∧ w.grownBy w' (some g)) ∨ (g = w.heap.size ∧ w.grownBy w' none)) ∧ w.grownBy w' v.ownBlock := by
  obtain ⟨v', w', hr, h2, h3, _, h5⟩ := run_append_own_at (P := P) w base t ty e i z size bytes ht hi hz hsize hby hzs hsz v n xs hown a m c news hl hnews h1 h63 hbytes hbase
  obtain ⟨g', cap', rfl, _, _⟩ := h2.form (by omega)
  rcases hown.2 with ⟨hv, hn⟩ | ⟨g, cap, cur, rfl, hbg, hg, hnc, hcm, hcs, htake⟩
  · refine ⟨g', cap', w', hr, h2, .inr ⟨?_, ?_⟩, h3⟩
    · rw [hv] at h5
      rcases h5 with h5 | h5
      · cases h5
      · simpa [Value.ownBlock] using h5
    · rw [hv] at h3; exact h3
  · by_cases hroom : n + m ≤ cap
    · obtain ⟨w2, hr2, h4, h6⟩ := run_append_fits (P := P) w base t ty e i size ht hi hsize g n cap xs hown a m c news hl hnews h1 hroom
      exact ⟨g, cap, w2, hr2, h4, .inl ⟨rfl, h6⟩, h6⟩
    · subst hsize
      subst hby
      have hsmall : n + m ≤ 9223372036854775807 := by simp only [maxLen] at h63; omega
      have holds : ∀ j u, xs[j]? = some u → w.cell? ((⟨g, 0, none⟩ : Addr).add j) = some u := hown.cells (g := g) rfl
      have hr2 := run_append_grow (P := P) w t ty e i z ht hi hz ⟨g, 0, none⟩ n cap xs hown.1 holds a m c news hl hnews (by omega) (by omega) (growslice_fits (by omega) hbytes)
      rw [hr2] at hr
      have e1 := (Result.ok.inj hr).1
      have e2 := (Result.ok.inj hr).2
      subst e2
      rw [← e1] at h2
      exact ⟨_, _, _, hr2, h2, .inr ⟨rfl, ⟨rfl, rfl, rfl, by simp, fun k hk _ => heap_alloc_old w.drew _ hk⟩⟩, h3⟩
theorem infoIJ : ∃ i, Tryz.prog.info? 3 = some i ∧ i.zero = some (.int .i64 0) ∧ i.size = 1 ∧ i.bytes = 8 := by
  have h : (Tryz.prog.info? 3).map (fun i => (i.zero, i.size, i.bytes)) = some (some (.int .i64 0), 1, 8) := by kernel_rfl
  cases hq : Tryz.prog.info? 3 with
  | none => rw [hq] at h; cases h
  | some i =>
    rw [hq] at h
    simp at h
    exact ⟨i, rfl, h.1, h.2.1, h.2.2⟩
theorem infoEJ : ∃ i, Tryz.prog.info? 73 = some i ∧ i.zero = some (.agg #[.int .i64 0, .int .i64 0]) ∧ i.size = 2 ∧ i.bytes = 16 := by
  have h : (Tryz.prog.info? 73).map (fun i => (i.zero, i.size, i.bytes)) = some (some (.agg #[.int .i64 0, .int .i64 0]), 2, 16) := by kernel_rfl
  cases hq : Tryz.prog.info? 73 with
  | none => rw [hq] at h; cases h
  | some i =>
    rw [hq] at h
    simp at h
    exact ⟨i, rfl, h.1, h.2.1, h.2.2⟩
theorem szEJ : (Tryz.prog.info? 73).map (·.size) = some 2 := by kernel_rfl
section
variable {ops : Array Oper} {rest : List Oper} {o : Oper} {a : Act} {Q : Exit → Act → World → Prop} {w : World}
/-- append of one list. -/
theorem wp_more (hg : o.guard = none) (s x : Operand) (t eo : TypeId) (hop : o.op = .call { callee := .builtin .append, args := #[s, x], argTypes := #[t, t] }) (ht : Tryz.prog.underlying t = some (.slice eo)) (hinf : InfoL eo) (B e k g c : Nat) (v : Value) (V : List Lst) (y : Lst) (hne : eo ≠ e)
    (hs : a.eval s = v) (hx : a.eval x = .slice (some ⟨g, 0, none⟩) 1 c) (hl : Lot B eo e k v V w) (hat : w.cell? ⟨g, 0, none⟩ = some y.v) (ho : w.ownsRow B e k y.v y.n y.xs) (hap : ∀ (j : Nat) u g, V[j]? = some u → y.v.ownBlock = some g → u.v.ownBlock ≠ some g)
    (hn : V.length ≤ 10000) (hB : B ≤ w.heap.size)
    (hK : ∀ v' w', Lot B eo e k v' (V ++ [y]) w' → Chg w w' (fun j => v.ownBlock = some j) → (v'.ownBlock = v.ownBlock ∨ v'.ownBlock = some w.heap.size) → wpList Tryz.prog ops Q rest (a.put o.dst v') w') : wpList Tryz.prog ops Q (o :: rest) a w := by
  obtain ⟨i, hi, hz, hsz, hby⟩ := hinf
  refine wpList_append_own_at w hg s x t hop B eo i _ 1 24 ht hi hz hsz hby rfl (by decide) v V.length (V.map Lst.v) hs hl.row ⟨g, 0, none⟩ 1 c [y.v] hx rfl (fun j u hj => ?_) (by simpa using own_one ho) (by unfold maxLen; omega) (by omega) hB ?_
  · cases j with
    | zero => simp at hj; subst hj; exact hat
    | succ j => simp at hj
  · intro v' w' h1 h2 _ h4
    exact hK v' w' (hl.more hne ho hap h1 h2) ((Chg.grown h2).mono fun j _ e => e.symm) h4
/-- append of a grown list. -/
theorem wp_pushJ (hg : o.guard = none) (s x : Operand) (t eo : TypeId) (hop : o.op = .call { callee := .builtin .append, args := #[s, x], argTypes := #[t, t] }) (ht : Tryz.prog.underlying t = some (.slice eo)) (hinf : InfoL eo) (B e k g c : Nat) (v m : Value) (V M : List Lst) (u y : Lst) (hne : eo ≠ e)
    (hs : a.eval s = m) (hx : a.eval x = .slice (some ⟨g, 0, none⟩) 1 c) (hl : Duo B eo e k v m V M w) (hat : w.cell? ⟨g, 0, none⟩ = some y.v) (hu : V[M.length]? = some u) (ho : Cur B e k V M u y w)
    (hn : M.length ≤ 10000) (hB : B ≤ w.heap.size)
    (hK : ∀ m' w', Duo B eo e k v m' V (M ++ [y]) w' → Chg w w' (fun j => m.ownBlock = some j) → (m'.ownBlock = m.ownBlock ∨ m'.ownBlock = some w.heap.size) → wpList Tryz.prog ops Q rest (a.put o.dst m') w') : wpList Tryz.prog ops Q (o :: rest) a w := by
  obtain ⟨i, hi, hz, hsz, hby⟩ := hinf
  refine wpList_append_own_at w hg s x t hop B eo i _ 1 24 ht hi hz hsz hby rfl (by decide) m M.length (M.map Lst.v) hs hl.r.row ⟨g, 0, none⟩ 1 c [y.v] hx rfl (fun j u hj => ?_) (by simpa using own_one ho.own) (by unfold maxLen; omega) (by omega) hB ?_
  · cases j with
    | zero => simp at hj; subst hj; exact hat
    | succ j => simp at hj
  · intro v' w' h1 h2 _ h4
    exact hK v' w' (hl.push hne hu ho h1 h2 h4) ((Chg.grown h2).mono fun j _ e => e.symm) h4
/-- append of one block onto a growing list. -/
theorem wp_growE (hg : o.guard = none) (s x : Operand) (hop : o.op = .call { callee := .builtin .append, args := #[s, x], argTypes := #[64, 64] }) (B g c : Nat) (v m : Value) (V M : List Lst) (u y : Lst) (i1 i2 : Int)
    (hs : a.eval s = y.v) (hx : a.eval x = .slice (some ⟨g, 0, none⟩) 1 c) (hl : Duo B 64 73 2 v m V M w) (hat : w.heap[g]? = some (.cells #[.int .i64 i1, .int .i64 i2] 73 (0, 0))) (hu : V[M.length]? = some u) (ho : Cur B 73 2 V M u y w)
    (hn : y.n ≤ 1000000000) (hB : B ≤ w.heap.size)
    (hK : ∀ g' c' w', Duo B 64 73 2 v m V M w' → Cur B 73 2 V M u ⟨.slice (some ⟨g', 0, none⟩) (y.n + 1) c', y.n + 1, y.xs ++ [.int .i64 i1, .int .i64 i2]⟩ w' → Chg w w' (fun j => y.v.ownBlock = some j) → (y.v.ownBlock = some g' ∨ g' = w.heap.size) → wpList Tryz.prog ops Q rest (a.put o.dst (.slice (some ⟨g', 0, none⟩) (y.n + 1) c')) w') : wpList Tryz.prog ops Q (o :: rest) a w := by
  obtain ⟨i, hi, hz, hsz, hby⟩ := infoEJ
  obtain ⟨g', c', w', hr, h2, h3, h4⟩ := run_append_keep (P := Tryz.prog) w B 64 o.type 73 i _ 2 16 Tryz.underlying64 hi hz hsz hby rfl (by decide) y.v y.n y.xs ho.own ⟨g, 0, none⟩ 1 c [.int .i64 i1, .int .i64 i2] rfl (fun j u hj => by
      rw [addr_addJ, Nat.zero_add, cell_of_row _ _ _ _ _ _ hat]
      simpa using hj) (by simp [Value.oneCell']) (by decide) (by unfold maxLen; omega) (by omega) hB
  obtain ⟨k1, k2⟩ := hl.app (by decide) hu ho h2 h3
  refine wpList_plain hg fun K hK' => ?_
  unfold Oper.wp execOp
  simp only [hop, resolve, invoke, builtin, Sem.run_bind, Sem.run_pure, Result.andThen_ok, List.map_toArray, List.map_cons, List.map_nil, hs, hx, hr]
  exact hK' _ _ (hK g' c' w' k1 k2 ((Chg.grown h4).mono fun j _ e => e.symm) (h3.imp (fun h => by rw [h.1]; rfl) (fun h => h.1)))
/-- append of one number onto a growing list. -/
theorem wp_growI (hg : o.guard = none) (s x : Operand) (hop : o.op = .call { callee := .builtin .append, args := #[s, x], argTypes := #[27, 27] }) (B g c : Nat) (v m : Value) (V M : List Lst) (u y : Lst) (i1 : Int)
    (hs : a.eval s = y.v) (hx : a.eval x = .slice (some ⟨g, 0, none⟩) 1 c) (hl : Duo B 27 3 1 v m V M w) (hat : w.heap[g]? = some (.cells #[.int .i64 i1] 3 (0, 0))) (hu : V[M.length]? = some u) (ho : Cur B 3 1 V M u y w)
    (hn : y.n ≤ 17592186044400) (hB : B ≤ w.heap.size)
    (hK : ∀ g' c' w', Duo B 27 3 1 v m V M w' → Cur B 3 1 V M u ⟨.slice (some ⟨g', 0, none⟩) (y.n + 1) c', y.n + 1, y.xs ++ [.int .i64 i1]⟩ w' → Chg w w' (fun j => y.v.ownBlock = some j) → (y.v.ownBlock = some g' ∨ g' = w.heap.size) → wpList Tryz.prog ops Q rest (a.put o.dst (.slice (some ⟨g', 0, none⟩) (y.n + 1) c')) w') : wpList Tryz.prog ops Q (o :: rest) a w := by
  obtain ⟨i, hi, hz, hsz, hby⟩ := infoIJ
  obtain ⟨g', c', w', hr, h2, h3, h4⟩ := run_append_keep (P := Tryz.prog) w B 27 o.type 3 i _ 1 8 Tryz.underlying27 hi hz hsz hby rfl (by decide) y.v y.n y.xs ho.own ⟨g, 0, none⟩ 1 c [.int .i64 i1] rfl (fun j u hj => by
      rw [addr_addJ, Nat.zero_add, cell_of_row _ _ _ _ _ _ hat]
      simpa using hj) (by simp [Value.oneCell']) (by decide) (by unfold maxLen; omega) (by omega) hB
  obtain ⟨k1, k2⟩ := hl.app (by decide) hu ho h2 h3
  refine wpList_plain hg fun K hK' => ?_
  unfold Oper.wp execOp
  simp only [hop, resolve, invoke, builtin, Sem.run_bind, Sem.run_pure, Result.andThen_ok, List.map_toArray, List.map_cons, List.map_nil, hs, hx, hr]
  exact hK' _ _ (hK g' c' w' k1 k2 ((Chg.grown h4).mono fun j _ e => e.symm) (h3.imp (fun h => by rw [h.1]; rfl) (fun h => h.1)))
/-- A block is written over in one list. -/
theorem wp_putE (hgd : o.guard = none) (x y : Operand) (ho : o.op = .store 73 x y) (B g c j i : Nat) (v : Value) (V : List Lst) (u : Lst) (i1 i2 : Int) (hx : a.eval x = .pointer (some ⟨g, i * 2, none⟩)) (hy : a.eval y = .agg #[.int .i64 i1, .int .i64 i2])
    (hl : Lot B 64 73 2 v V w) (hj : V[j]? = some u) (hu : u.v = .slice (some ⟨g, 0, none⟩) u.n c) (hi : i < u.n)
    (hK : ∀ w', Lot B 64 73 2 v (V.set j ⟨u.v, u.n, (u.xs.set (i * 2) (.int .i64 i1)).set (i * 2 + 1) (.int .i64 i2)⟩) w' → w.grownBy w' (some g) → wpList Tryz.prog ops Q rest (a.put o.dst undef) w') : wpList Tryz.prog ops Q (o :: rest) a w := by
  have h0 := hl.own j u hj
  have hlen := h0.1
  rw [hu] at h0
  refine wpList_store_mid hgd 73 x y ho g (i * 2) #[.int .i64 i1, .int .i64 i2] hx hy (fun q hq => ?_) (by rw [szEJ]; rfl) (by simp [Value.oneCell']) ?_
  · have hq2 : q < 2 := hq
    exact ⟨by rw [h0.cellAt (i * 2 + q) (by omega), List.getElem?_eq_getElem (by omega)]; rfl, h0.frozenAt _⟩
  · have s1 := h0.stored (i * 2) (.int .i64 i1)
    have s2 := s1.1.stored (i * 2 + 1) (.int .i64 i2)
    have hg2 := s1.2.trans s2.2
    rw [← hu] at s2
    exact hK _ (hl.put (by decide) hj (by rw [hu]; rfl) hg2 s2.1) hg2
end

end Go.Proofs.YtamoepninddbcaaGreat
