/-
  Nodes that are lent, as they are read: the row of nodes; what stays while other things are done.
-/
import Derived.Test.YtiakfgplhdbaeaaLD
import Derived.Test.YtiakfgplhdbaeaaSM
namespace Go.Proofs.Ytiakfgplhdbaeaa
open Go.RowKit

theorem lentL_len {L : List Nod} {hs : List Nat} (h : hs.length = L.length) : (List.zipWith lentN L hs).length = L.length := by simp [h]
theorem lentL_get {L : List Nod} {hs : List Nat} (h : hs.length = L.length) {i : Nat} (hi : i < L.length) : (List.zipWith lentN L hs).getD i Nod.z = lentN (L.getD i Nod.z) (hs.getD i 0) := by
  rw [List.getD_eq_getElem?_getD, List.getElem?_zipWith, List.getD_eq_getElem?_getD, List.getD_eq_getElem?_getD, List.getElem?_eq_getElem hi, List.getElem?_eq_getElem (by omega)]
  rfl
theorem rowsM_get {L : List Nod} {hs : List Nat} {k z : Nat} (h : hs.length = L.length) {i : Nat} (hi : i < L.length) : (rowsM L hs k z)[i]? = some (rowN (lentN (L.getD i Nod.z) (hs.getD i 0))) := by
  unfold rowsM
  rw [List.getElem?_append_left (by rw [zip_len h]; exact hi), List.getElem?_map, List.getElem?_zipWith, List.getD_eq_getElem?_getD, List.getD_eq_getElem?_getD, List.getElem?_eq_getElem hi, List.getElem?_eq_getElem (by omega)]
  rfl
theorem rowsM_mark {L : List Nod} {hs : List Nat} {k z : Nat} (h : hs.length = L.length) {i : Nat} (hi : i < k) : (rowsM L hs k z)[L.length + i]? = some (rowN markN) := by
  unfold rowsM
  rw [List.getElem?_append_right (by rw [zip_len h]; omega), zip_len h, show L.length + i - L.length = i by omega, List.getElem?_append_left (by simpa using hi), List.getElem?_replicate, if_pos hi]
/-- The row of nodes and their bytes, turned or not. -/
structure LR (w0 w : World) (gN : Nat) (L : List Nod) (hs : List Nat) : Prop where
  nr : NR w gN (rowsM L hs 3 0)
  bb : LB w0 w L hs
  nN : w0.heap.size ≤ gN
section
variable {w0 w w' : World} {gN : Nat} {L : List Nod} {hs : List Nat}
theorem LR.call (h : LR w0 w gN L hs) (hc : Chg w w' No) : LR w0 w' gN L hs := ⟨h.nr.keep hc (fun e => e), h.bb.keep hc (fun _ _ e => e), h.nN⟩
theorem LR.nat (h : LR w0 w gN L hs) : NAt w (some ⟨gN, 0, none⟩) (List.zipWith lentN L hs) := by
  refine ⟨.inr ⟨gN, 0, rfl, h.nr.lt, fun i hi j v hv => ?_⟩, fun i hi => ?_⟩
  · rw [lentL_len h.bb.len] at hi
    rw [lentL_get h.bb.len hi] at hv
    have := h.nr.range (rowsM_get h.bb.len hi) j v hv
    rw [Nat.zero_add]
    exact this
  · rw [lentL_len h.bb.len] at hi
    rw [lentL_get h.bb.len hi]
    exact SB_at (h.bb.at_ i hi) _ F5 rfl
theorem Lent.lr {vb : Value} (h : Lent w0 w gN L hs vb) : LR w0 w gN L hs := ⟨h.nr, h.bb, h.nN⟩
theorem lent_fits {L : List Nod} {hs : List Nat} (h : hs.length = L.length) : (List.zipWith lentN L hs).all fitsB = L.all fitsB := by
  induction L generalizing hs with
  | nil => rfl
  | cons x L ih =>
    match hs, h with
    | g :: hs, h =>
      simp only [List.zipWith_cons_cons, List.all_cons]
      rw [ih (by simpa using h)]
      rfl
theorem lent_flat {L : List Nod} {hs : List Nat} (h : hs.length = L.length) : flatB (List.zipWith lentN L hs) = flatB L := by
  induction L generalizing hs with
  | nil => rfl
  | cons x L ih =>
    match hs, h with
    | g :: hs, h =>
      have := ih (hs := hs) (by simpa using h)
      unfold flatB at this ⊢
      simp only [List.zipWith_cons_cons, List.flatMap_cons]
      rw [this]
      rfl
end
end Go.Proofs.Ytiakfgplhdbaeaa
