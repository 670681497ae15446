/-
  What is handed in: a list of numbers.
-/
import Derived.Test.YtcckjkmkegpekabDoorWLong
import Derived.Test.YtcckjkmkegpekabDoorOpens
namespace Go.Proofs.YtcckjkmkegpekabDoor
open Go.ChangeShapes Go.WideShapes Go.ChangeAt Go.RowKit Go.Joins Go.ChangeMaps

theorem cells3 : Tryd.prog.cellsOf 3 = 1 := by kernel_rfl
section
variable {H : Type} {enc : TypeId × Value → H} {W : World} {base b0 : Nat} {sp : Nat → Bool} {held : Bool} {r : Reach}

theorem open_nums {v : Value} {d : DataW H} {ps : List MemPlace} (hval : Value.okWide Tryd.prog W r b0 33 v) (hd : DataW.Trod enc Tryd.prog W base sp held 33 v d ps) :
    ∃ (ls : List Int) (a : Option Addr) (c : Nat), v = .slice a ls.length c ∧ ls.length ≤ c ∧ c ≤ maxLen ∧ (∀ x ∈ ls, I64 x) ∧ NAt W a ls := by
  obtain ⟨a0, len, cap, rfl⟩ := okWide_slice Tryd.underlying33 hval
  obtain ⟨fuel, hf⟩ := hd
  rcases open_ints Tryd.underlying33 Tryd.underlying3 cells3 hf with ⟨hcs, hx⟩ | ⟨a, len', cap', ss, hcs, _, hl, hm, hz, hx, hcell, hsz⟩
  · have e : (Value.slice a0 len cap) = .slice none 0 0 := by simpa [Value.cells] using hcs
    cases e
    exact ⟨[], none, 0, rfl, Nat.le_refl _, Nat.zero_le _, (fun x hx => by cases hx), .inl rfl⟩
  · have e : (Value.slice a0 len cap) = .slice (some a) len' cap' := by simpa [Value.cells] using hcs
    cases e
    have hle : len ≤ ss.length := by rw [hz]; split <;> omega
    refine ⟨ss.take len, some a, cap, by rw [List.length_take, Nat.min_eq_left hle], by rw [List.length_take, Nat.min_eq_left hle]; exact hl, hm, (fun x hx => bounds_i64 (hsz x (List.mem_of_mem_take hx))), ?_⟩
    by_cases h0 : len = 0
    · left; rw [h0]; rfl
    refine .inr ⟨a, rfl, ?_, fun j x hx => ?_⟩
    · have := World.block_lt_of_cell? _ _ (hcell 0 (by omega))
      simpa [Addr.add] using this
    · have hj : j < (ss.take len).length := by
        rcases Nat.lt_or_ge j (ss.take len).length with g | g
        · exact g
        · rw [List.getElem?_eq_none g] at hx; cases hx
      rw [List.length_take] at hj
      rw [hcell j (by omega)]
      rw [List.getElem?_take, if_pos (by omega)] at hx
      rw [List.getD, hx]; rfl
end

end Go.Proofs.YtcckjkmkegpekabDoor
