/-
  A list of lists of texts in memory, each in a block of its own.
-/
import Derived.Test.YtfkmpbbemkkdaaaDoorQA
namespace Go.Proofs.YtfkmpbbemkkdaaaDoor
open Go.RowKit Go.Shelf

/-- A list's address and what stands in it. -/
abbrev Lst := Option Nat × List ByteArray
def adr (x : Lst) : Option Addr := x.1.map fun g => ⟨g, 0, none⟩
def valV (x : Lst) : Value := .slice (adr x) x.2.length x.2.length
structure Lot (B : Nat) (v : Value) (V : List Lst) (w : World) : Prop where
  row : SOwn w B v (V.map valV)
  own : ∀ (j : Nat) x, V[j]? = some x → Own B w (adr x) x.2 ∧ x.2.length ≤ 401
  far : ∀ (j : Nat) x g, V[j]? = some x → x.1 = some g → v.ownBlock ≠ some g
  two : ∀ (i j : Nat) x y g, V[i]? = some x → V[j]? = some y → x.1 = some g → y.1 = some g → i = j
theorem Lot.nil (B : Nat) (w : World) : Lot B (.slice none 0 0) [] w :=
  ⟨row_nil _ _ _ _, fun j x h => (by cases h), fun j x g h => (by cases h), fun i j x y g h => (by cases h)⟩
theorem own_lt {B : Nat} {w : World} {x : Lst} {g : Nat} (h : Own B w (adr x) x.2) (hg : x.1 = some g) : B ≤ g ∧ w.heap[g]? = some (.cells (x.2.map Value.string).toArray 9) := by
  rcases h with ⟨h, _⟩ | ⟨g', h, h2, h3⟩
  · simp [adr, hg] at h
  · simp [adr, hg] at h
    subst h
    exact ⟨h2, h3⟩
theorem own_chg {B : Nat} {w w' : World} {x : Lst} {ks : Nat → Prop} (h : Own B w (adr x) x.2) (hc : Chg w w' ks) (hn : ∀ g, x.1 = some g → ¬ ks g) : Own B w' (adr x) x.2 := by
  rcases h with h | ⟨g, h, h2, h3⟩
  · exact .inl h
  · have e : x.1 = some g := by
      cases e : x.1 with
      | none => simp [adr, e] at h
      | some k => simp [adr, e] at h; rw [h]
    exact .inr ⟨g, h, h2, hc.keep h3 (hn g e)⟩
theorem Lot.below {B : Nat} {v : Value} {V : List Lst} {w w' : World} (h : Lot B v V w) (hb : Below w.heap.size w w') : Lot B v V w' :=
  ⟨row_below h.row hb, fun j x hx => ⟨(h.own j x hx).1.below hb, (h.own j x hx).2⟩, h.far, h.two⟩
/-- One list more. -/
theorem Lot.more {B : Nat} {v v' : Value} {V : List Lst} {w w' : World} {x : Lst} (h : Lot B v V w) (ho : Own B w (adr x) x.2) (hl : x.2.length ≤ 401) (hx : ∀ g, x.1 = some g → v.ownBlock ≠ some g ∧ ∀ (j : Nat) y, V[j]? = some y → y.1 ≠ some g)
    (hr : SOwn w' B v' ((V ++ [x]).map valV)) (hc : Chg w w' (fun k => v.ownBlock = some k)) (hv : v'.ownBlock = v.ownBlock ∨ v'.ownBlock = some w.heap.size) : Lot B v' (V ++ [x]) w' := by
  have get : ∀ (j : Nat) y, (V ++ [x])[j]? = some y → (V[j]? = some y ∧ j < V.length) ∨ (y = x ∧ j = V.length) := by
    intro j y hy
    rcases Nat.lt_or_ge j V.length with g | g
    · rw [List.getElem?_append_left g] at hy; exact .inl ⟨hy, g⟩
    · rw [List.getElem?_append_right g] at hy
      cases e : j - V.length with
      | zero => rw [e] at hy; simp at hy; exact .inr ⟨hy.symm, by omega⟩
      | succ n => rw [e] at hy; simp at hy
  have farv : ∀ (j : Nat) y g, (V ++ [x])[j]? = some y → y.1 = some g → v.ownBlock ≠ some g ∧ g < w.heap.size := by
    intro j y g hy hg
    rcases get j y hy with ⟨h1, _⟩ | ⟨rfl, _⟩
    · exact ⟨h.far j y g h1 hg, slt (own_lt (h.own j y h1).1 hg).2⟩
    · exact ⟨(hx g hg).1, slt (own_lt ho hg).2⟩
  refine ⟨hr, ?_, ?_, ?_⟩
  · intro j y hy
    have hf := fun g => (fun hg => (farv j y g hy hg).1 : y.1 = some g → v.ownBlock ≠ some g)
    rcases get j y hy with ⟨h1, _⟩ | ⟨rfl, _⟩
    · exact ⟨own_chg (h.own j y h1).1 hc hf, (h.own j y h1).2⟩
    · exact ⟨own_chg ho hc hf, hl⟩
  · intro j y g hy hg
    have hf := farv j y g hy hg
    rcases hv with e | e
    · rw [e]; exact hf.1
    · rw [e]; intro k; have := Option.some.inj k; omega
  · intro i j y z g hy hz hg hg'
    rcases get i y hy with ⟨h1, l1⟩ | ⟨rfl, l1⟩
    · rcases get j z hz with ⟨h2, l2⟩ | ⟨rfl, l2⟩
      · exact h.two i j y z g h1 h2 hg hg'
      · exact absurd hg ((hx g hg').2 i y h1)
    · rcases get j z hz with ⟨h2, l2⟩ | ⟨rfl, l2⟩
      · exact absurd hg' ((hx g hg).2 j z h2)
      · omega
theorem split_few (s : ByteArray) : (splitR s.data.toList).1.length ≤ 401 := by
  rcases split_err (l := s.data.toList) with ⟨xs, h⟩ | h | h
  · have h1 := (split_ok h).2.1
    have h2 := sizes_len xs
    rw [h]; show xs.length ≤ _; omega
  · rw [h]; simp
  · rw [h]; simp
theorem own_lst {B : Nat} {w : World} {a : Option Addr} {ls : List ByteArray} (h : Own B w a ls) : ∃ x : Lst, adr x = a ∧ x.2 = ls ∧ ∀ g, x.1 = some g → B ≤ g := by
  rcases h with ⟨rfl, rfl⟩ | ⟨g, rfl, hg, _⟩
  · exact ⟨(none, []), rfl, rfl, fun g h => (by cases h)⟩
  · exact ⟨(some g, ls), rfl, rfl, fun g' h => (by cases h; exact hg)⟩
theorem own_to {B B' : Nat} {w : World} {a : Option Addr} {ls : List ByteArray} (h : Own B w a ls) (hB : B' ≤ B) : Own B' w a ls := by
  rcases h with h | ⟨g, rfl, hg, h⟩
  · exact .inl h
  · exact .inr ⟨g, rfl, Nat.le_trans hB hg, h⟩

end Go.Proofs.YtfkmpbbemkkdaaaDoor
