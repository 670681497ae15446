/-
  sector.Set returns, for every sector, place, width and number, the sector with the number's bytes there, or the error.
-/
import Derived.Test.YtjlhmojofjkkdabLaws
-- may lack
namespace Go.Proofs.Ytjlhmojofjkkdab
open Go.RowKit

def putN (s : List Int) (p : Nat) (v : Int) : Nat → List Int
  | 0 => s
  | k + 1 => (putN s p v k).set (p + k) (v / 256 ^ k % 256)
theorem putN_len (s : List Int) (p : Nat) (v : Int) : ∀ k, (putN s p v k).length = s.length
  | 0 => rfl
  | k + 1 => by simp [putN, putN_len s p v k]

def setS (s : List Int) (p n v : Int) : List Int := if inB p n = true ∧ fitB v n = true then putN s p.toNat v n.toNat else Zs
def setE (p n v : Int) : Int := if inB p n = true then (if fitB v n = true then 0 else 11) else 10
theorem setS_len (s : List Int) (p n v : Int) (h : s.length = 128) : (setS s p n v).length = 128 := by
  unfold setS; split
  · rw [putN_len, h]
  · exact Zs_len

theorem putN_sec {s : List Int} (hs : IsSec s) (p : Nat) (v : Int) : ∀ k, IsSec (putN s p v k)
  | 0 => hs
  | k + 1 => by
    have ih := putN_sec hs p v k
    refine ⟨by rw [putN_len]; exact hs.1, fun x hx => ?_⟩
    simp only [putN] at hx
    rcases List.mem_or_eq_of_mem_set hx with h | h
    · exact ih.2 x h
    · subst h
      exact ⟨Int.emod_nonneg _ (by decide), by have := Int.emod_lt_of_pos (v / 256 ^ k) (show (0 : Int) < 256 by decide); omega⟩
theorem setS_sec {s : List Int} (hs : IsSec s) (p n v : Int) : IsSec (setS s p n v) := by
  unfold setS; split
  · exact putN_sec hs _ _ _
  · exact Zs_sec

end Go.Proofs.Ytjlhmojofjkkdab
