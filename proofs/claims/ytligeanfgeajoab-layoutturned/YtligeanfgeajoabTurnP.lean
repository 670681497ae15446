/-
  Plain facts: a sector with one byte turned is another sector; what is read of it is another thing, or none.
-/
import Derived.Test.YtligeanfgeajoabWOneP
import Derived.Test.YtligeanfgeajoabLN2
import Derived.Test.YtligeanfgeajoabL3
namespace Go.Proofs.Ytligeanfgeajoab
open Go.RowKit

/-- One byte turned. -/
def turnB (x m : Int) : Int := ((x.toNat ^^^ m.toNat : Nat) : Int)
def turnS (s : List Int) (k : Nat) (m : Int) : List Int := s.set k (turnB (s.getD k 0) m)
theorem turnB_bd {x m : Int} (hx : 0 ≤ x ∧ x ≤ 255) (hm : 0 ≤ m ∧ m ≤ 255) : 0 ≤ turnB x m ∧ turnB x m ≤ 255 := by
  have : x.toNat ^^^ m.toNat < 2 ^ 8 := Nat.xor_lt_two_pow (by omega) (by omega)
  unfold turnB; omega
theorem turnB_ne {x m : Int} (hx : 0 ≤ x ∧ x ≤ 255) (hm : 1 ≤ m ∧ m ≤ 255) : turnB x m ≠ x := by
  intro h
  unfold turnB at h
  have h1 : x.toNat ^^^ m.toNat = x.toNat := by omega
  have h2 : m.toNat = 0 := by
    have h3 := congrArg (fun y => x.toNat ^^^ y) h1
    simp only [← Nat.xor_assoc, Nat.xor_self, Nat.zero_xor] at h3
    exact h3
  omega
theorem turnS_sec {s : List Int} (hs : IsSec s) (k : Nat) {m : Int} (hm : 0 ≤ m ∧ m ≤ 255) : IsSec (turnS s k m) := by
  refine ⟨by unfold turnS; rw [List.length_set]; exact hs.1, fun x hx => ?_⟩
  unfold turnS at hx
  rcases List.mem_or_eq_of_mem_set hx with h | h
  · exact hs.2 x h
  · rw [h]; exact turnB_bd (hs.at k) hm
theorem turnS_ne {s : List Int} (hs : IsSec s) {k : Nat} (hk : k < 128) {m : Int} (hm : 1 ≤ m ∧ m ≤ 255) : turnS s k m ≠ s := by
  intro h
  have h1 : (turnS s k m).getD k 0 = turnB (s.getD k 0) m := by
    unfold turnS
    rw [List.getD_eq_getElem?_getD, List.getElem?_set, if_pos rfl, if_pos (by rw [hs.1]; exact hk)]; rfl
  rw [h] at h1
  exact turnB_ne (hs.at k) hm h1.symm
theorem rdSup_of {p q : Int} {t : List Int} (h : (rdSup p q t).2.2 = 0) : supS (rdSup p q t).1 (rdSup p q t).2.1 = t := by
  unfold rdSup at h ⊢
  split at h
  · rename_i c; rw [if_pos c]; exact c.2
  · simp at h
theorem rdIno_of {z : List Int} {t : List Int} (h : (rdIno z t).2 = 0) : inoS (rdIno z t).1 = t := by
  unfold rdIno at h ⊢
  split at h
  · rename_i c; rw [if_pos c]; exact c.2
  · simp at h
theorem rdSlot_of {n : Int} {t : List Int} (h : (rdSlot n t).2.2 = 0) : slotS (rdSlot n t).1 (rdSlot n t).2.1 = t := by
  unfold rdSlot at h ⊢
  split at h
  · rename_i c; rw [if_pos c]; exact c.2.2
  · simp at h

end Go.Proofs.Ytligeanfgeajoab
