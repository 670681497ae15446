/-
  The walk of PathApart.
-/
import Derived.Test.YtcckjkmkegpekabDoorPF
-- may lack
namespace Go.Proofs.YtcckjkmkegpekabDoor
open Go.RowKit Go.Shelf

/-- Join of names that may be. -/
theorem join_few (ls : List ByteArray) (a : Option Addr) (n c : Nat) (w : World) (h : LAt w a ls) (hn : n = ls.length) (hc : ls.length ≤ c) (h1 : (datas ls).all okName = true) (h2 : sizes (datas ls) ≤ 400) :
    Calls Tryd.prog 6 #[.slice a n c] w fun e w' => ∃ p : ByteArray, e = .returned (.tuple #[.string p, .int .i64 0]) ∧ p.data.toList = pathOf (datas ls) ∧ Below w.heap.size w w' := by
  subst hn
  have hl := sizes_len (datas ls)
  rw [datas_len] at hl
  refine (join_any ls a c w h hc (by omega)).mono ?_
  rintro e w' ⟨p, rfl, hp, hb⟩
  rw [join_ok h1 h2] at hp ⊢
  exact ⟨p, rfl, hp, hb⟩
/-- few, with all that is known of it. -/
theorem few_is (ls : List ByteArray) (a : Option Addr) (c : Nat) (w : World) (hN : ls.length ≤ 9223372036854775807) (h : TAt w a ls) :
    Calls Tryd.prog 5 #[.slice a ls.length c] w fun e w' => ∃ (b : Option Addr) (d : Nat) (xs : List ByteArray), e = .returned (.slice b xs.length d) ∧ datas xs = fewL (datas ls) ∧ (datas xs).all okName = true ∧ sizes (datas xs) ≤ 400 ∧ xs.length ≤ 400 ∧ xs.length ≤ d ∧ LAt w' b xs ∧ Below w.heap.size w w' := by
  refine (few_any ls a c w hN h).mono ?_
  rintro e w' ⟨v, xs, rfl, hx, ho, hb⟩
  obtain ⟨b, d, rfl, hd, hl⟩ := ho.at
  have h2 := few_size (datas ls)
  rw [← hx] at h2
  have h3 := sizes_len (datas xs)
  rw [datas_len] at h3
  exact ⟨b, d, xs, rfl, hx, by rw [hx]; exact few_ok _, h2, by omega, hd, hl, hb⟩

end Go.Proofs.YtcckjkmkegpekabDoor
