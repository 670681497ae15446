/-
  package plain: tallies.
-/
import Derived.Test.YtbkddnibcpjkgaaDoorLR
import Derived.Test.YtbkddnibcpjkgaaDoorMI
namespace Go.Proofs.YtbkddnibcpjkgaaDoor
open Go.RowKit

/-- How many numbers are counted. -/
def cardT (f : Nat → Bool) : Nat := (List.range 1102).countP f
theorem count_put (f : Nat → Bool) (m : Nat) : ∀ N, m < N → (List.range N).countP (fun x => if x = m then true else f x) = (List.range N).countP f + (if f m then 0 else 1)
  | 0, h => absurd h (Nat.not_lt_zero _)
  | N + 1, h => by
    rw [List.range_succ, List.countP_append, List.countP_append]
    by_cases e : m = N
    · subst e
      have hs : (List.range m).countP (fun x => if x = m then true else f x) = (List.range m).countP f := by
        refine List.countP_congr fun x hx => ?_
        have : x ≠ m := by have := List.mem_range.1 hx; omega
        rw [if_neg this]
      rw [hs]
      simp only [List.countP_singleton]
      cases f m <;> simp
    · have ih := count_put f m N (by omega)
      have h1 : (if N = m then true else f N) = f N := if_neg (fun e2 => e e2.symm)
      rw [ih]
      simp only [List.countP_singleton, h1]
      omega
def putB (f : Nat → Bool) (m : Nat) : Nat → Bool := fun x => if x = m then true else f x
theorem card_put (f : Nat → Bool) {m : Nat} (h : m < 1102) : cardT (putB f m) = cardT f + (if f m then 0 else 1) := count_put f m 1102 h
theorem card_le (f : Nat → Bool) : cardT f ≤ 1102 := by
  have := List.countP_le_length (p := f) (l := List.range 1102)
  unfold cardT
  simpa using this
theorem putB_same {f : Nat → Bool} {m : Nat} (h : f m = true) : putB f m = f := by
  funext x
  unfold putB
  by_cases e : x = m
  · rw [if_pos e, e, h]
  · rw [if_neg e]
/-- The cells of a tally. -/
def TalA (A : Array Value) (f : Nat → Bool) : Prop := A.size = 1103 ∧ (∀ i, i < 1102 → A[i]? = some (.bool (f i))) ∧ A[1102]? = some (.int .i64 (cardT f : Nat))
def TalAt (w : World) (g : Nat) (f : Nat → Bool) : Prop := ∃ A, w.heap[g]? = some (.cells A 96 (0, 0)) ∧ TalA A f
theorem TalAt.keep {w w' : World} {g : Nat} {f : Nat → Bool} {ks : Nat → Prop} (h : TalAt w g f) (hc : Chg w w' ks) (hn : ¬ ks g) : TalAt w' g f := by
  obtain ⟨A, h1, h2⟩ := h
  exact ⟨A, hc.keep h1 hn, h2⟩
theorem TalAt.cell {w : World} {g : Nat} {f : Nat → Bool} (h : TalAt w g f) {i : Nat} (hi : i < 1102) : w.cell? ⟨g, i, none⟩ = some (.bool (f i)) ∧ w.frozen? ⟨g, i, none⟩ = false := by
  obtain ⟨A, h1, h2⟩ := h
  exact ⟨(cell_of_row _ _ _ _ _ _ h1).trans (h2.2.1 i hi), frozen_of_row _ _ _ _ _ h1⟩
theorem TalAt.card {w : World} {g : Nat} {f : Nat → Bool} (h : TalAt w g f) : w.cell? ⟨g, 1102, none⟩ = some (.int .i64 (cardT f : Nat)) ∧ w.frozen? ⟨g, 1102, none⟩ = false := by
  obtain ⟨A, h1, h2⟩ := h
  exact ⟨(cell_of_row _ _ _ _ _ _ h1).trans h2.2.2, frozen_of_row _ _ _ _ _ h1⟩
/-- One more number is counted. -/
theorem TalAt.put {w : World} {g : Nat} {f : Nat → Bool} (h : TalAt w g f) {m : Nat} (hm : m < 1102) (hf : f m = false) : TalAt ((w.setCell ⟨g, m, none⟩ (.bool true)).setCell ⟨g, 1102, none⟩ (.int .i64 ((cardT f : Nat) + 1))) g (putB f m) := by
  obtain ⟨A, h1, h2, h3, h4⟩ := h
  refine ⟨_, heap_setCell_same _ g 1102 _ _ _ (heap_setCell_same w g m A _ _ h1), ?_, fun i hi => ?_, ?_⟩
  · rw [Array.size_setIfInBounds, Array.size_setIfInBounds, h2]
  · rw [Array.getElem?_setIfInBounds_ne (by omega), Array.getElem?_setIfInBounds]
    unfold putB
    by_cases e : m = i
    · subst e
      rw [if_pos rfl, if_pos (by omega), if_pos rfl]
    · rw [if_neg e, if_neg (fun e2 => e e2.symm)]
      exact h3 i hi
  · rw [Array.getElem?_setIfInBounds_self_of_lt (by rw [Array.size_setIfInBounds, h2]; omega), card_put f hm, hf]
    rfl

set_option maxHeartbeats 1000000 in
set_option maxRecDepth 100000 in
theorem count_any {g : Nat} {f : Nat → Bool} (m : Nat) (w : World) (h : TalAt w g f) (hm : m < 1102) :
    Calls Tryd.prog 62 #[.pointer (some ⟨g, 0, none⟩), .int .i64 (m : Int)] w fun e w' => e = .returned (.tuple #[]) ∧ TalAt w' g (putB f m) ∧ Chg w w' (· = g) := by
  obtain ⟨c1, c2⟩ := h.cell hm
  obtain ⟨c3, c4⟩ := h.card
  have k0 : (0 : Int) ≤ (m : Int) := by omega
  have k1 : (m : Int) < 1102 := by omega
  have kc := card_le f
  have HH := hid h
  cases hf : f m with
  | true =>
    rw [hf] at c1
    have HP : Hid (putB f m = f) := hid (putB_same hf)
    clear h hf kc
    go_enter Tryd.func62, Tryd.ntmps62
    go_wp2_with fail
    go_end0
    exact ⟨rfl, by rw [HP.out]; exact HH.out, Chg.refl _ _⟩
  | false =>
    rw [hf] at c1
    have HP := hid (h.put hm hf)
    obtain ⟨n, hn⟩ : ∃ y : Nat, y = cardT f := ⟨_, rfl⟩
    rw [← hn] at c3 kc HP
    have q1 : (w.setCell ⟨g, m, none⟩ (.bool true)).cell? ⟨g, 1102, none⟩ = some (.int .i64 (n : Int)) := by
      obtain ⟨A, h1, h2, h3, h4⟩ := HH.out
      rw [cell_of_row _ _ _ _ _ _ (heap_setCell_same w g m A _ _ h1), Array.getElem?_setIfInBounds_ne (by omega), h4, ← hn]
    have q2 : (w.setCell ⟨g, m, none⟩ (.bool true)).frozen? ⟨g, 1102, none⟩ = false := by
      obtain ⟨A, h1, _⟩ := HH.out
      exact frozen_of_row _ _ _ _ _ (heap_setCell_same w g m A _ _ h1)
    have kc2 : (n : Int) ≤ 1102 := by omega
    clear h hf hn c3 c4
    go_enter Tryd.func62, Tryd.ntmps62
    go_wp2_with fail
    go_end0
    exact ⟨rfl, HP.out, Chg.setCell.trans Chg.setCell (fun _ _ e => e) (fun _ _ e => e)⟩
/-- A block, and its tables, are counted. -/
def addB (f : Nat → Bool) (k : Nat) : Nat → Bool := if 44 ≤ k then putB (putB (putB f k) 1069) (1070 + (k - 44) / 32) else if 12 ≤ k then putB (putB f k) 1068 else putB f k

set_option maxHeartbeats 1000000 in
set_option maxRecDepth 100000 in
theorem add_any {g : Nat} {f : Nat → Bool} (k : Nat) (w : World) (h : TalAt w g f) (hk : k < 1068) :
    Calls Tryd.prog 54 #[.pointer (some ⟨g, 0, none⟩), .int .i64 (k : Int)] w fun e w' => e = .returned (.tuple #[]) ∧ TalAt w' g (addB f k) ∧ Chg w w' (· = g) := by
  have hC := count_any k w h (by omega)
  obtain ⟨F, hF⟩ : ∃ y, y = addB f k := ⟨_, rfl⟩
  rw [← hF]
  have HF := hid hF
  clear hF
  by_cases h44 : 44 ≤ k
  · have HFe : Hid (F = putB (putB (putB f k) 1069) (1070 + (k - 44) / 32)) := hid (by rw [HF.out]; unfold addB; rw [if_pos h44])
    have i1 : ¬ (k : Int) < 44 := by omega
    have i2 : (44 : Int) ≤ (k : Int) := by omega
    have i3 : (k : Int) < 1068 := by omega
    obtain ⟨m, hm⟩ : ∃ y : Nat, y = 1070 + (k - 44) / 32 := ⟨_, rfl⟩
    have hm1 : m < 1102 := by omega
    have hq : ((k : Int) - 44).tdiv 32 = ((k - 44) / 32 : Nat) := by
      rw [Int.tdiv_eq_ediv_of_nonneg (by omega)]
      omega
    have hq2 : (1070 : Int) + ((k - 44) / 32 : Nat) = (m : Int) := by omega
    have HH : Hid (∀ W, TalAt W g (putB (putB f k) 1069) → Calls Tryd.prog 62 #[.pointer (some ⟨g, 0, none⟩), .int .i64 (1070 + ((k : Int) - 44).tdiv 32)] W fun e w' => e = .returned (.tuple #[]) ∧ TalAt w' g F ∧ Chg W w' (· = g)) := hid (fun W hW => by
      rw [hq, hq2, HFe.out, ← hm]
      exact count_any m W hW hm1)
    have hb : ((k : Int) - 44).tdiv 32 ≤ 1068 ∧ 0 ≤ ((k : Int) - 44).tdiv 32 := by rw [hq]; omega
    obtain ⟨t, ht⟩ : ∃ y, y = ((k : Int) - 44).tdiv 32 := ⟨_, rfl⟩
    clear hq hq2 hm hm1 h44 h
    go_enter Tryd.func54, Tryd.ntmps54
    go_upto_region 1 with (first
      | (go_at_call 62; go_must (refine hC.mono ?_; rintro e w1 ⟨rfl, h1, hc1⟩))
      | fail)
    have hC2 := count_any 1069 w1 h1 (by omega)
    rw [show ((1069 : Nat) : Int) = 1069 from rfl] at hC2
    have HC1 := hid hc1
    clear hC h1 hc1
    go_upto_region 3 with (first
      | (go_at_call 62; go_must (refine hC2.mono ?_; rintro e w2 ⟨rfl, h2, hc2⟩))
      | fail)
    have hC3 := HH.out w2 h2
    have HC2 := hid hc2
    clear hC2 h2 hc2
    go_wp2_with (first
      | (go_at_call 62; go_must (refine hC3.mono ?_; rintro e w3 ⟨rfl, h3, hc3⟩))
      | fail)
    go_end0
    exact ⟨rfl, h3, (HC1.out.trans HC2.out (c := (· = g)) (fun _ _ e => e) (fun _ _ e => e)).trans hc3 (fun _ _ e => e) (fun _ _ e => e)⟩
  · have i1 : ¬ (44 : Int) ≤ (k : Int) := by omega
    by_cases h12 : 12 ≤ k
    · have HFe : Hid (F = putB (putB f k) 1068) := hid (by rw [HF.out]; unfold addB; rw [if_neg h44, if_pos h12])
      have i2 : (12 : Int) ≤ (k : Int) := by omega
      clear h h44
      go_enter Tryd.func54, Tryd.ntmps54
      go_upto_region 1 with (first
        | (go_at_call 62; go_must (refine hC.mono ?_; rintro e w1 ⟨rfl, h1, hc1⟩))
        | fail)
      have hC2 := count_any 1068 w1 h1 (by omega)
      rw [show ((1068 : Nat) : Int) = 1068 from rfl, ← HFe.out] at hC2
      have HC1 := hid hc1
      clear hC h1 hc1
      go_wp2_with (first
        | (go_at_call 62; go_must (refine hC2.mono ?_; rintro e w2 ⟨rfl, h2, hc2⟩))
        | fail)
      go_end0
      exact ⟨rfl, h2, HC1.out.trans hc2 (fun _ _ e => e) (fun _ _ e => e)⟩
    · have i2 : ¬ (12 : Int) ≤ (k : Int) := by omega
      have HFe : Hid (F = putB f k) := hid (by rw [HF.out]; unfold addB; rw [if_neg h44, if_neg h12])
      rw [← HFe.out] at hC
      clear h h44 h12
      go_enter Tryd.func54, Tryd.ntmps54
      go_wp2_with (first
        | (go_at_call 62; go_must (refine hC.mono ?_; rintro e w1 ⟨rfl, h1, hc1⟩))
        | fail)
      go_end0
      exact ⟨rfl, h1, hc1⟩
end Go.Proofs.YtbkddnibcpjkgaaDoor
