/-
  package plain: what is counted in the example.
-/
import Derived.Test.YtbkddnibcpjkgaaDoorQD
namespace Go.Proofs.YtbkddnibcpjkgaaDoor
open Go.RowKit

theorem sumN_false (s : PSt) : ∀ n, sumN s (fun _ => False) n = 0
  | 0 => rfl
  | n + 1 => by unfold sumN; rw [sumN_false s n, if_neg (fun e => e)]
/-- One node. -/
theorem taken_one {s : PSt} {i : Nat} {x : Nd} (hi : i < 513) (hx : s.nd (i : Int) = some x) (ho : ∀ j : Nat, j < 513 → j ≠ i → s.nd (j : Int) = none) : takenN s = cardN x := by
  unfold takenN
  rw [sumN_congr (Q := fun k => False ∨ k = (i : Int)) 513 (fun j hj => ⟨fun e => ?_, fun e => ?_⟩), sumN_put hx (fun e => e) 513 hi, sumN_false]
  · omega
  · by_cases h : j = i
    · exact .inr (by rw [h])
    · exact absurd (ho j hj h) e
  · have : j = i := by rcases e with e | e; exact e.elim; omega
    rw [this, hx]
    intro e
    cases e
/-- Two nodes. -/
theorem taken_two {s : PSt} {i k : Nat} {x y : Nd} (hi : i < 513) (hk : k < 513) (hne : i ≠ k) (hx : s.nd (i : Int) = some x) (hy : s.nd (k : Int) = some y) (ho : ∀ j : Nat, j < 513 → j ≠ i → j ≠ k → s.nd (j : Int) = none) : takenN s = cardN x + cardN y := by
  unfold takenN
  rw [sumN_congr (Q := fun z => (False ∨ z = (i : Int)) ∨ z = (k : Int)) 513 (fun j hj => ⟨fun e => ?_, fun e => ?_⟩), sumN_put (P := fun z => False ∨ z = (i : Int)) hy (fun e => by rcases e with e | e; exact e; omega) 513 hk, sumN_put (P := fun _ => False) hx (fun e => e) 513 hi, sumN_false]
  · omega
  · by_cases h : j = i
    · exact .inl (.inr (by rw [h]))
    · by_cases h2 : j = k
      · exact .inr (by rw [h2])
      · exact absurd (ho j hj h h2) e
  · rcases e with (e | e) | e
    · exact e.elim
    · rw [show j = i by omega, hx]; intro e; cases e
    · rw [show j = k by omega, hy]; intro e; cases e
theorem cardT_none : cardT (fun _ => false) = 0 := by simp [cardT]
theorem cardT_is {k : Nat} (hk : k < 1102) : cardT (fun i => decide (i = k)) = 1 := by
  have h := count_put (fun _ => false) k 1102 hk
  have e : (fun i => decide (i = k)) = (fun x => if x = k then true else false) := by
    funext i
    by_cases e : i = k
    · rw [decide_eq_true e, if_pos e]
    · rw [decide_eq_false e, if_neg e]
  unfold cardT
  rw [e, h]
  simp
theorem cardN_none {x : Nd} (hb : ∀ k : Nat, x.blk (k : Int) = none) (hs : x.sl = []) : cardN x = 0 := by
  rw [← cardN_of (F := fun _ => false) (x := x) (fun i => Iff.intro (fun e => nomatch e) (fun e => ?_)), cardT_none]
  rcases e with ⟨k, k1, _⟩ | ⟨k, k1, _⟩
  · exact absurd (hb k) k1
  · rw [hs] at k1
    exact absurd k1 (Nat.not_lt_zero _)
theorem cardN_is {x : Nd} {k : Nat} (hk : k < 1102) (h : ∀ i, TalP x i ↔ i = k) : cardN x = 1 := by
  rw [← cardN_of (F := fun i => decide (i = k)) (x := x) (fun i => ⟨fun e => (h i).2 (of_decide_eq_true e), fun e => decide_eq_true ((h i).1 e)⟩), cardT_is hk]
theorem cardQ_is {x : Nd} {a b k : Nat} (hk : k < 1102) (h : ∀ i, TalQ x a b i ↔ i = k) : cardQ x a b = 1 := by
  rw [← cardQ_of (F := fun i => decide (i = k)) (x := x) (fun i => ⟨fun e => (h i).2 (of_decide_eq_true e), fun e => decide_eq_true ((h i).1 e)⟩), cardT_is hk]
theorem nums_low {k : Nat} (hk : k < 12) : numsOf k = [k] := by
  unfold numsOf
  rw [if_neg (by omega), if_neg (by omega)]
/-- A directory of one slot has one sector. -/
theorem card_dir {x : Nd} (hb : ∀ k : Nat, x.blk (k : Int) = none) (hs : x.sl.length = 1) : cardN x = 1 :=
  cardN_is (k := 0) (by omega) fun i => by
    constructor
    · rintro (⟨k, k1, _⟩ | ⟨k, k1, k2⟩)
      · exact absurd (hb k) k1
      · obtain rfl : k = 0 := by omega
        rw [nums_low (by omega)] at k2
        simpa using k2
    · rintro rfl
      exact .inr ⟨0, by omega, by rw [nums_low (by omega)]; simp⟩
/-- A file of one block, a low one, has one sector. -/
theorem card_file {x : Nd} {b : Nat} (hb12 : b < 12) (hb : ∀ k : Nat, x.blk (k : Int) ≠ none ↔ k = b) (hs : x.sl = []) : cardN x = 1 :=
  cardN_is (k := b) (by omega) fun i => by
    constructor
    · rintro (⟨k, k1, k2⟩ | ⟨k, k1, _⟩)
      · have := (hb k).1 k1
        subst this
        rw [nums_low hb12] at k2
        simpa using k2
      · rw [hs] at k1
        exact absurd k1 (Nat.not_lt_zero _)
    · rintro rfl
      exact .inl ⟨i, (hb i).2 rfl, by rw [nums_low hb12]; simp⟩
/-- A first block, a low one. -/
theorem cardQ_first {x : Nd} {b : Nat} (hb12 : b < 12) (hb : ∀ k : Nat, x.blk (k : Int) = none) (hs : x.sl = []) : cardQ x b (b + 1) = 1 :=
  cardQ_is (k := b) (by omega) fun i => by
    constructor
    · rintro ((⟨k, k1, _⟩ | ⟨k, k1, _⟩) | ⟨k, k1, k2, k3⟩)
      · exact absurd (hb k) k1
      · rw [hs] at k1
        exact absurd k1 (Nat.not_lt_zero _)
      · obtain rfl : k = b := by omega
        rw [nums_low hb12] at k3
        simpa using k3
    · rintro rfl
      exact .inr ⟨i, Nat.le_refl _, by omega, by rw [nums_low hb12]; simp⟩
end Go.Proofs.YtbkddnibcpjkgaaDoor
