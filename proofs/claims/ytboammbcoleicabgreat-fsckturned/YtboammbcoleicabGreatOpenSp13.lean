/-
 What a spot that is handed in looks like.
-/
import Derived.Test.YtboammbcoleicabGreatOpenP
namespace Go.Proofs.YtboammbcoleicabGreat
open Go.ChangeShapes Go.WideShapes Go.ChangeAt Go.RowKit Go.Joins

set_option maxRecDepth 100000
theorem open_spot {H : Type} {enc : TypeId × Value → H} {W : World} {r : Reach} {b0 : Nat} {v : Value} {d : DataW H} {p : List MemPlace}
  (hval : Value.okWide Tryz.prog W r b0 43 v) (hd : DataW.Trod enc Tryz.prog W 0 (fun _ => true) true 43 v d p) :
  ∃ (x1 x2 : Int) (l : List Int) (a : Option Addr) (c : Nat), v = .agg #[.int .i64 x1, .int .i64 x2, .slice a l.length c] ∧ I64 x1 ∧ I64 x2 ∧ (∀ b ∈ l, 0 ≤ b ∧ b ≤ 255) ∧ l.length ≤ 9223372036854775807 ∧ D.BytesAt W a l := by
 obtain ⟨cs, rfl⟩ := okWide_struct2 Tryz.underlying43 hval;obtain ⟨m, hm⟩ := hd;obtain ⟨⟨x1, x2, l⟩, a, c, hcs, h1, h2⟩ := spot_of_trod hm;refine ⟨x1, x2, l, a, c, ?_, h1.1, h1.2.1, h1.2.2.1, h1.2.2.2, h2⟩
 simp [Value.cells] at hcs
 rw [← hcs]
end Go.Proofs.YtboammbcoleicabGreat
