/-
  What a list of bytes that is handed in looks like, where all that is handed in is of a bounded bulk.
-/
import Derived.Test.YtibneoajkbblaaaOpenB
namespace Go.Proofs.Ytibneoajkbblaaa
open Go.ChangeShapes Go.WideShapes Go.ChangeAt Go.RowKit Go.Joins

theorem bulk_one {H : Type} (d : DataW H) : 1 ≤ Rows.uptoBulk d := by
  cases d with
  | lit l => cases l <;> simp [Rows.uptoBulk]
  | _ => simp [Rows.uptoBulk]
theorem bulk_all {H : Type} : ∀ l : List (DataW H), l.length ≤ Rows.uptoBulkAll l
  | [] => Nat.zero_le _
  | d :: r => by
    have h1 := bulk_one d
    have h2 := bulk_all r
    simp only [Rows.uptoBulkAll, List.length_cons]
    omega

theorem open_bytes_upto {H : Type} {enc : TypeId × Value → H} {W : World} {r : Reach} {b0 : Nat} {v : Value} {d : DataW H} {p : List MemPlace}
    (hv : Value.okWide Try.prog W r b0 27 v) (h : DataW.Trod enc Try.prog W 0 (fun _ => true) true 27 v d p) (hw : Rows.uptoBulk d ≤ 1048576) :
    ∃ (zs : List Int) (ad : Option Addr) (cap : Nat), v = .slice ad zs.length cap ∧ zs.length ≤ cap ∧ cap ≤ 1048576 ∧ BytesAt W ad zs := by
  obtain ⟨a0, len0, cap0, rfl⟩ := okWide_slice Try.underlying27 hv
  obtain ⟨fuel, hf⟩ := h
  rcases open_ints Try.underlying27 Try.underlying5 (by kernel_rfl) hf with ⟨hcs, _⟩ | ⟨x, l, c, zs, hcs, _, hl, hm, hz, hy, hcell, hwz⟩
  · simp [Value.cells] at hcs
    obtain ⟨rfl, rfl, rfl⟩ := hcs
    exact ⟨[], none, 0, rfl, by simp, by decide, .inl rfl⟩
  · simp [Value.cells] at hcs
    obtain ⟨rfl, rfl, rfl⟩ := hcs
    have hz' : zs.length = cap0 := by simpa using hz
    have e : (zs.take len0).length = len0 := by rw [List.length_take]; omega
    have hwt : zs.length ≤ 1048576 := by
      have h2 : d = .slice (lits .u8 (zs.take len0)) (lits .u8 (zs.drop len0)) := congrArg Prod.fst hy
      rw [h2] at hw
      simp only [Rows.uptoBulk] at hw
      have h3 := bulk_all (lits (H := H) .u8 (zs.take len0))
      have h4 := bulk_all (lits (H := H) .u8 (zs.drop len0))
      have h5 : (lits (H := H) .u8 (zs.take len0)).length = (zs.take len0).length := by simp [lits]
      have h6 : (lits (H := H) .u8 (zs.drop len0)).length = zs.length - len0 := by simp [lits]
      omega
    exact ⟨zs.take len0, some x, cap0, by rw [e], by omega, by omega, bytes_of_ints hl hz' hcell⟩

end Go.Proofs.Ytibneoajkbblaaa
