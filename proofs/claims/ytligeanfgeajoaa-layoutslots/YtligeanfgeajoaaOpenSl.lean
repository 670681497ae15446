/-
  What a slot that is handed in looks like: a number and a text.
-/
import Derived.Test.YtligeanfgeajoaaOpens
import Derived.ChangeMaps5
namespace Go.Proofs.Ytligeanfgeajoaa
open Go.ChangeShapes Go.WideShapes Go.ChangeAt Go.RowKit Go.Joins

theorem open_slot {H : Type} {enc : TypeId × Value → H} {W : World} {r : Reach} {b0 base : Nat} {spare : Nat → Bool} {held : Bool} {v : Value} {d : DataW H} {p : List MemPlace}
    (hv : Value.okWide Try.prog W r b0 47 v) (h : DataW.Trod enc Try.prog W base spare held 47 v d p) : ∃ (n : Int) (s : ByteArray), v = .agg #[.int .i64 n, .string s] ∧ s.size ≤ 9223372036854775807 := by
  obtain ⟨c0, c1, y0, y1, m, rfl, _, _, h0, h1⟩ := open_agg2 Try.underlying47 (by kernel_rfl) (by kernel_rfl) hv h
  obtain ⟨a, e0, _, wa⟩ := DataW.trod_int Try.underlying3 h0
  obtain ⟨s, e1, _, ws⟩ := DataW.trod_string Try.underlying9 h1
  simp at e0 e1
  subst e0 e1
  exact ⟨a, s, rfl, by unfold maxLen at ws; omega⟩

end Go.Proofs.Ytligeanfgeajoaa
