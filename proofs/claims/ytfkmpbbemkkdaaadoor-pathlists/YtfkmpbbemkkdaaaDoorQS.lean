/-
  The document's Split.
-/
import Derived.Test.YtfkmpbbemkkdaaaDoorQF
import Derived.Test.YtfkmpbbemkkdaaaDoorPA
import Derived.RegionTactic
import Derived.BigRegion
namespace Go.Proofs.YtfkmpbbemkkdaaaDoor
open Go.RowKit Go.Shelf

theorem pieces_snoc47 (t : List UInt8) : pieces (t ++ [47]) = pieces t ++ [[]] := by
  induction t with
  | nil => rfl
  | cons b r ih =>
    rw [List.cons_append, pieces, pieces]
    split
    · rw [ih]; rfl
    · rw [ih]
      cases e : pieces r with
      | nil => exact absurd e (pieces_ne r)
      | cons x xs => rfl
theorem pieces_snoc (t : List UInt8) (x : UInt8) (hx : x ≠ 47) : ∃ ini u, pieces t = ini ++ [u] ∧ pieces (t ++ [x]) = ini ++ [u ++ [x]] := by
  induction t with
  | nil => exact ⟨[], [], rfl, by simp [pieces, hx]⟩
  | cons b r ih =>
    obtain ⟨ini, u, h1, h2⟩ := ih
    rw [List.cons_append, pieces, pieces]
    split
    · exact ⟨[] :: ini, u, by rw [h1]; rfl, by rw [h2]; rfl⟩
    · rw [h1, h2]
      cases ini with
      | nil => exact ⟨[], b :: u, rfl, rfl⟩
      | cons y ys => exact ⟨(b :: y) :: ys, u, rfl, rfl⟩

/-- What stands in the list when the first j + 1 bytes have been gone through. -/
def Got (l : List UInt8) (j : Nat) (out : List (List UInt8)) : Prop :=
  (l[j]? = some 47 → pieces ((l.drop 1).take j) = out ++ [[]]) ∧ (l[j]? ≠ some 47 → pieces ((l.drop 1).take j) = out)
theorem Got.zero {l : List UInt8} (h : l[0]? = some 47) : Got l 0 [] := ⟨fun _ => rfl, fun h' => absurd h h'⟩
theorem drop_take {l : List UInt8} {j : Nat} {x : UInt8} (hx : l[j + 1]? = some x) : (l.drop 1).take (j + 1) = (l.drop 1).take j ++ [x] := by
  rw [List.take_add_one, List.getElem?_drop, Nat.add_comm 1 j, hx]; rfl
theorem Got.next47 {l : List UInt8} {j : Nat} {o1 : List (List UInt8)} (h : pieces ((l.drop 1).take j) = o1) (hx : l[j + 1]? = some 47) : Got l (j + 1) o1 :=
  ⟨fun _ => by rw [drop_take hx, pieces_snoc47, h], fun h' => absurd hx h'⟩
theorem Got.next {l : List UInt8} {j : Nat} {x : UInt8} {ini : List (List UInt8)} {u : List UInt8} (h : pieces ((l.drop 1).take j) = ini ++ [u]) (hx : l[j + 1]? = some x) (hn : x ≠ 47) : Got l (j + 1) (ini ++ [u ++ [x]]) := by
  refine ⟨fun h' => by rw [hx] at h'; cases h'; exact absurd rfl hn, fun _ => ?_⟩
  obtain ⟨i2, u2, h1, h2⟩ := pieces_snoc ((l.drop 1).take j) x hn
  rw [h] at h1
  obtain ⟨rfl, e⟩ := List.append_inj' h1 rfl
  cases e
  rw [drop_take hx, h2]

/-- A text of a list of its own is written over: the last one. -/
theorem TOwn.last {w : World} {B g N cap : Nat} {ini : List ByteArray} {u v : ByteArray} (h : TOwn w B (.slice (some ⟨g, 0, none⟩) N cap) (ini ++ [u])) : TOwn (w.setCell ⟨g, ini.length, none⟩ (.string v)) B (.slice (some ⟨g, 0, none⟩) N cap) (ini ++ [v]) ∧ Chg w (w.setCell ⟨g, ini.length, none⟩ (.string v)) (· = g) ∧ w.frozen? ⟨g, ini.length, none⟩ = false ∧ B ≤ g ∧ w.cell? ⟨g, ini.length, none⟩ = some (.string u) ∧ N = ini.length + 1 := by
  rcases h.2 with ⟨e, _⟩ | ⟨g', cap', cur, e, hg, hb, hc, hm, hs, ht⟩
  · cases e
  · cases e
    have hN : (ini ++ [u]).length = ini.length + 1 := by simp
    have hlt : ini.length < cur.size := by rw [hs]; omega
    have hcell : w.cell? ⟨g, ini.length, none⟩ = some (.string u) := by
      rw [cell_of_row _ _ _ _ _ _ hb]
      have h1 : (cur.toList.take ((ini ++ [u]).length * 1))[ini.length]? = some (.string u) := by rw [ht]; simp
      rw [List.getElem?_take, if_pos (by omega)] at h1
      rw [← Array.getElem?_toList]; exact h1
    refine ⟨⟨by simp, .inr ⟨g, cap, cur.setIfInBounds ini.length (.string v), by simp, hg, heap_setCell_same w g ini.length cur 9 _ hb, by simpa using hc, hm, by simpa using hs, ?_⟩⟩, Chg.setCell, frozen_of_row w g ini.length _ _ hb, hg, hcell, by simp⟩
    have e1 : (ini ++ [v]).length * 1 = ini.length + 1 := by simp
    have e2 : (ini ++ [u]).length * 1 = ini.length + 1 := by simp
    rw [e1]
    rw [e2] at ht
    rw [Array.toList_setIfInBounds, List.take_set, ht, List.map_append, List.map_append]
    simp

end Go.Proofs.YtfkmpbbemkkdaaaDoor
