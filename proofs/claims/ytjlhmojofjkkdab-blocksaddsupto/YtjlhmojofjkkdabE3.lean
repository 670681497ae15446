/-
  The document's row, Tables.
-/
import Derived.Test.YtjlhmojofjkkdabE2
-- may lack
namespace Go.Proofs.Ytjlhmojofjkkdab
open Go.RowKit Go.Shelf

def spK (fr : Int) (T : List Int) (k : Nat) : List Spt := (plc T k).map fun (j : Nat) => (⟨fr + (j : Int), T.getD j 0, 0⟩ : Spt)
theorem spK_zero {fr : Int} {T : List Int} {k : Nat} (h : T.getD k 0 = 0) : spK fr T (k + 1) = spK fr T k := by
  unfold spK
  rw [plc_succ]
  have : nz T k = false := by simp only [nz, h]; decide
  simp [this]
theorem spK_some {fr : Int} {T : List Int} {k : Nat} (h : T.getD k 0 ≠ 0) : spK fr T (k + 1) = spK fr T k ++ [⟨fr + (k : Int), T.getD k 0, 0⟩] := by
  unfold spK
  rw [plc_succ]
  have : nz T k = true := by simp only [nz]; exact decide_eq_true h
  simp [this]
theorem spK_le (fr : Int) (T : List Int) (k : Nat) : (spK fr T k).length ≤ k := by unfold spK; rw [List.length_map]; exact plc_le T k
theorem spK_row (fr : Int) (T : List Int) (e : Int) : spK fr T T.length = spotRow ⟨fr, T, e⟩ := by
  unfold spK spotRow thereL
  rw [List.map_map]
  rfl

def nzK (T : List Int) (k : Nat) : List Int := (plc T k).map fun (j : Nat) => T.getD j 0
theorem nzK_zero {T : List Int} {k : Nat} (h : T.getD k 0 = 0) : nzK T (k + 1) = nzK T k := by
  unfold nzK
  rw [plc_succ]
  have : nz T k = false := by simp only [nz, h]; decide
  simp [this]
theorem nzK_some {T : List Int} {k : Nat} (h : T.getD k 0 ≠ 0) : nzK T (k + 1) = nzK T k ++ [T.getD k 0] := by
  unfold nzK
  rw [plc_succ]
  have : nz T k = true := by simp only [nz]; exact decide_eq_true h
  simp [this]
theorem nzK_le (T : List Int) (k : Nat) : (nzK T k).length ≤ k := by unfold nzK; rw [List.length_map]; exact plc_le T k
theorem nzK_row (T : List Int) : nzK T T.length = (thereL T).map (fun y : Nat × Int => y.2) := by
  unfold nzK thereL
  rw [List.map_map]
  rfl

end Go.Proofs.Ytjlhmojofjkkdab
