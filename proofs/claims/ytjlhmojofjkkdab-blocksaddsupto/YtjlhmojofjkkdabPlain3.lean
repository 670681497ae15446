/-
  Plain facts on a number and bytes that are put into a sector: apart in either order, else the later one stands.
-/
import Derived.Test.YtjlhmojofjkkdabPlain2
import Derived.Test.YtjlhmojofjkkdabWSplice
-- may lack
namespace Go.Proofs.Ytjlhmojofjkkdab
open Go.RowKit

theorem spl_get (s : List Int) (p : Nat) (zs : List Int) (h : p + zs.length ≤ s.length) (i : Nat) : (spl s p zs).getD i 0 = if p ≤ i ∧ i < p + zs.length then zs.getD (i - p) 0 else s.getD i 0 := by
  unfold spl
  simp only [List.getD_eq_getElem?_getD, List.getElem?_append, List.length_take, List.getElem?_take, List.getElem?_drop]
  rw [Nat.min_eq_left (by omega)]
  by_cases c1 : i < p
  · rw [if_pos c1, if_pos c1, if_neg (by omega)]
  · rw [if_neg c1]
    by_cases c2 : i < p + zs.length
    · rw [if_pos (by omega), if_pos (by omega)]
    · rw [if_neg (by omega), if_neg (by omega), show p + zs.length + (i - p - zs.length) = i by omega]

theorem spl_sec {s : List Int} (hs : IsSec s) (p : Nat) (zs : List Int) (h : p + zs.length ≤ 128) (hz : ∀ x ∈ zs, 0 ≤ x ∧ x ≤ 255) : IsSec (spl s p zs) := by
  refine ⟨by rw [spl_len _ _ _ (by rw [hs.1]; exact h), hs.1], fun x hx => ?_⟩
  unfold spl at hx
  rw [List.mem_append, List.mem_append] at hx
  rcases hx with hx | hx | hx
  · exact hs.2 x (List.mem_of_mem_take hx)
  · exact hz x hx
  · exact hs.2 x (List.mem_of_mem_drop hx)

theorem spl_twice (s : List Int) (p : Nat) (zs : List Int) (h : p + zs.length ≤ s.length) : spl (spl s p zs) p zs = spl s p zs := by
  have hl := spl_len s p zs h
  apply ext_getD (by rw [spl_len _ _ _ (by omega)])
  intro i _
  rw [spl_get _ _ _ (by omega), spl_get _ _ _ h]
  by_cases c : p ≤ i ∧ i < p + zs.length
  · simp only [if_pos c]
  · simp only [if_neg c]

/-- At places that have no byte in common the order is not seen. -/
theorem apart_swap {s : List Int} (hs : s.length = 128) (p : Nat) (v : Int) (k t : Nat) (zs : List Int) (h1 : p + k ≤ 128) (h2 : t + zs.length ≤ 128) (h : p + k ≤ t ∨ t + zs.length ≤ p) :
    spl (putN s p v k) t zs = putN (spl s t zs) p v k := by
  have l1 := putN_len s p v k
  have l2 := spl_len s t zs (by omega)
  apply ext_getD (by rw [spl_len _ _ _ (by omega), putN_len, putN_len, l2])
  intro i _
  rw [spl_get _ _ _ (by omega), putN_get _ _ _ _ (by omega), putN_get _ _ _ _ (by omega), spl_get _ _ _ (by omega)]
  by_cases c1 : t ≤ i ∧ i < t + zs.length
  · rw [if_pos c1, if_pos c1, if_neg (by omega)]
  · rw [if_neg c1, if_neg c1]

theorem splS_in (s : List Int) {T : Nat} {zs : List Int} (h : T + zs.length ≤ 128) : splS s (T : Int) zs = spl s T zs ∧ splE (T : Int) zs = 0 := by
  have hl : liesB (T : Int) zs.length = true := liesB_true (by omega)
  exact ⟨by rw [splS, if_pos hl, Int.toNat_natCast], by rw [splE, if_pos hl]⟩

theorem bytes_below {w w' : World} {ad : Option Addr} {zs : List Int} (h : BytesAt w ad zs) (hb : Below w.heap.size w w') : BytesAt w' ad zs := by
  rcases h with h | ⟨b, o, rfl, hlt, hc⟩
  · exact .inl h
  · exact .inr ⟨b, o, rfl, by have := hb.size; omega, fun j hj => by rw [hb.cell (p := ⟨b, o + j, none⟩) hlt]; exact hc j hj⟩

theorem bytes_take {w : World} {ad : Option Addr} {zs : List Int} (h : BytesAt w ad zs) (n : Nat) : BytesAt w ad (zs.take n) := by
  rcases h with rfl | ⟨b, o, rfl, hlt, hc⟩
  · exact .inl (by simp)
  · refine .inr ⟨b, o, rfl, hlt, fun j hj => ?_⟩
    rw [List.length_take] at hj
    rw [hc j (by omega)]
    simp [List.getD_eq_getElem?_getD, show j < n by omega]

end Go.Proofs.Ytjlhmojofjkkdab
