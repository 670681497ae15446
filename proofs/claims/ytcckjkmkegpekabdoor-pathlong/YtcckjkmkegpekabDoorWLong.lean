/-
  The walk of PathLong.
-/
import Derived.Test.YtcckjkmkegpekabDoorWApart
import Derived.Test.YtcckjkmkegpekabDoorWPick
import Derived.Test.YtcckjkmkegpekabDoorPA2
namespace Go.Proofs.YtcckjkmkegpekabDoor
open Go.RowKit Go.Shelf

/-- Numbers that lie in memory, from some place on. -/
def NAt (w : World) (a : Option Addr) (l : List Int) : Prop := l = [] ∨ ∃ ad, a = some ad ∧ ad.block < w.heap.size ∧ ∀ (j : Nat) x, l[j]? = some x → w.cell? (ad.add j) = some (.int .i64 x)
def nameA (k : Nat) : List UInt8 := List.replicate k 97
theorem nameA_ok (k : Nat) (h1 : 1 ≤ k) : okName (nameA k) = decide (k ≤ 40) := by
  by_cases h : k ≤ 40
  · rw [decide_eq_true h]
    refine okName_of (by simp [nameA]; exact h1) (by simp [nameA]; exact h) ?_ ?_ ?_
    · intro e
      have := congrArg List.head? e
      cases k with
      | zero => omega
      | succ k => simp [nameA, List.replicate_succ] at this
    · intro e
      have := congrArg List.head? e
      cases k with
      | zero => omega
      | succ k => simp [nameA, List.replicate_succ] at this
    · intro b hb
      have := List.eq_of_mem_replicate hb
      subst this; decide
  · rw [decide_eq_false h]
    cases e : okName (nameA k)
    · rfl
    · have := (ok_parts e).2.1
      simp [nameA] at this; omega
theorem nameA_fine (k : Nat) (h1 : 1 ≤ k) : nameA k ≠ [] ∧ ∀ b ∈ nameA k, b ≠ 47 := by
  refine ⟨fun e => ?_, fun b hb => ?_⟩
  · have := congrArg List.length e; simp [nameA] at this; omega
  · have := List.eq_of_mem_replicate hb
    subst this; decide
/-- Split of names that have no stroke, whether they may be or not. -/
theorem split_path {xs : List (List UInt8)} (hne : xs ≠ []) (h : ∀ x ∈ xs, x ≠ [] ∧ ∀ b ∈ x, b ≠ 47) (hs : sizes xs ≤ 400) : splitR (pathOf xs) = if xs.all okName then (xs, 0) else ([], 71) := by
  obtain ⟨r, h1, h2⟩ := pieces_join xs hne (fun x hx => (h x hx).2)
  have hlen := flat_length xs
  have hn := noTwo_flat xs hne h
  have hp : pathOf xs = 47 :: r := by rw [pathOf, if_neg hne, h1]
  have hr : r ≠ [] := by
    intro er
    rw [er] at h2
    exact (h [] (by rw [← h2]; simp [pieces])).1 rfl
  rw [h1] at hlen hn
  have hf : formed (47 :: r) = true := by
    simp only [formed, hn, Bool.or_true, Bool.and_true, Bool.and_eq_true, decide_eq_true_eq]
    exact ⟨by omega, rfl⟩
  rw [hp, splitR, if_pos hf, if_neg (by simp [hr]), List.tail_cons, h2]
theorem split_big {l : List UInt8} (h : 400 < l.length) : splitR l = ([], 70) := by
  apply split_not; unfold formed; rw [decide_eq_false (by omega)]; rfl

/-- A block that is being filled. -/
def fillA (j k : Nat) : Array Value := (List.replicate j (Value.int .u8 97) ++ List.replicate (k - j) (Value.int .u8 0)).toArray
theorem fill_size {j k : Nat} (h : j ≤ k) : (fillA j k).size = k := by simp [fillA]; omega
theorem fill_get {j k : Nat} (h : j < k) : (fillA j k)[j]? = some (.int .u8 0) := by
  unfold fillA
  rw [List.getElem?_toArray, List.getElem?_append_right (by simp), List.length_replicate, Nat.sub_self, List.getElem?_replicate, if_pos (by omega)]
theorem fill_set {j k : Nat} (h : j < k) : (fillA j k).setIfInBounds j (.int .u8 97) = fillA (j + 1) k := by
  unfold fillA
  obtain ⟨d, rfl⟩ : ∃ d, k = j + 1 + d := ⟨k - j - 1, by omega⟩
  rw [show j + 1 + d - j = d + 1 by omega, show j + 1 + d - (j + 1) = d by omega, List.replicate_succ, List.setIfInBounds_toArray, List.set_append_right _ _ (by simp), List.length_replicate, Nat.sub_self, List.set_cons_zero, List.replicate_succ' (n := j)]
  simp
theorem fill_own {w : World} {g k B : Nat} (h : w.heap[g]? = some (.cells (fillA k k) 5)) (hB : B ≤ g) (hk : k ≤ 100) : BOwn w B (.slice (some ⟨g, 0, none⟩) k k) (nameA k) := by
  have e : (nameA k).length = k := by simp [nameA]
  refine ⟨by simp, .inr ⟨g, k, fillA k k, by rw [e], hB, h, by rw [e]; exact Nat.le_refl _, by unfold maxLen; omega, by rw [fill_size (Nat.le_refl _)]; omega, ?_⟩⟩
  rw [e, List.take_of_length_le (by rw [Array.length_toList, fill_size (Nat.le_refl _)]; omega)]
  simp [fillA, nameA, byteV]
theorem make_bytes (k : Nat) (w : World) (hk : k ≤ 100) : (Instr.makeSlice 34 (.int .i64 (k : Int)) (.int .i64 (k : Int))).run Tryd.prog w = .ok (.slice (some ⟨w.heap.size, 0, none⟩) k k) (w.alloc (.cells (fillA 0 k) 5)) := by
  obtain ⟨i, hi, hz, hs, hb⟩ := infoB
  rw [run_make w 34 5 i _ Tryd.underlying34 hi hz .i64 .i64 k k (by omega) (Int.le_refl _) (by rw [hb]; omega) (by omega), hs, Nat.mul_one]
  simp only [Int.toNat_natCast]
  congr 3
  have e : (Value.int .u8 0).cells = #[Value.int .u8 0] := rfl
  rw [e]
  apply Array.ext
  · simp [fillA, madeCells]
  · intro i h1 h2
    simp [fillA, madeCells, Nat.mod_one]

end Go.Proofs.YtcckjkmkegpekabDoor
