/-
  Plain facts on numbers in a sector: what was put is got, byte by byte; put twice is put once.
-/
import Derived.Test.YtjlhmojofjkkdabWSet
import Derived.Test.YtjlhmojofjkkdabWGet
-- may lack
namespace Go.Proofs.Ytjlhmojofjkkdab
open Go.RowKit

theorem getD_set (l : List Int) (i j : Nat) (x : Int) (h : i < l.length) : (l.set i x).getD j 0 = if i = j then x else l.getD j 0 := by
  simp only [List.getD_eq_getElem?_getD, List.getElem?_set]
  by_cases e : i = j
  · subst e; simp [h]
  · simp [e]

theorem putN_get (s : List Int) (p : Nat) (v : Int) : ∀ k : Nat, p + k ≤ s.length → ∀ i : Nat,
    (putN s p v k).getD i 0 = if p ≤ i ∧ i < p + k then v / 256 ^ (i - p) % 256 else s.getD i 0
  | 0, _, i => by rw [if_neg (by omega)]; rfl
  | k + 1, h, i => by
    have ih := putN_get s p v k (by omega) i
    simp only [putN]
    rw [getD_set _ _ _ _ (by rw [putN_len]; omega), ih]
    by_cases e : p + k = i
    · subst e
      rw [if_pos rfl, if_pos (by omega), show p + k - p = k by omega]
    · rw [if_neg e]
      by_cases c : p ≤ i ∧ i < p + k
      · rw [if_pos c, if_pos (by omega)]
      · rw [if_neg c, if_neg (by omega)]

theorem ext_getD {a b : List Int} (h : a.length = b.length) (k : ∀ i, i < a.length → a.getD i 0 = b.getD i 0) : a = b := by
  apply List.ext_getElem h
  intro i h1 h2
  have := k i h1
  simpa [h1, h2] using this

theorem putN_twice (s : List Int) (p : Nat) (v : Int) (k : Nat) (h : p + k ≤ s.length) : putN (putN s p v k) p v k = putN s p v k := by
  apply ext_getD (by rw [putN_len])
  intro i _
  rw [putN_get _ _ _ _ (by rw [putN_len]; exact h), putN_get _ _ _ _ h]
  by_cases c : p ≤ i ∧ i < p + k
  · simp only [if_pos c]
  · simp only [if_neg c]

theorem mod_pow_succ (v : Int) (hv : 0 ≤ v) (k : Nat) : v % 256 ^ (k + 1) = v % 256 ^ k + v / 256 ^ k % 256 * 256 ^ k := by
  obtain ⟨V, rfl⟩ := Int.eq_ofNat_of_zero_le hv
  have := Nat.mod_pow_succ (b := 256) (x := V) (k := k)
  have e : ((V % 256 ^ (k + 1) : Nat) : Int) = ((V % 256 ^ k + 256 ^ k * (V / 256 ^ k % 256) : Nat) : Int) := by rw [this]
  simp only [Int.natCast_emod, Int.natCast_add, Int.natCast_mul, Int.natCast_pow, Int.natCast_ediv] at e
  rw [Int.mul_comm (((256 : Nat) : Int) ^ k)] at e
  exact e

theorem numAt_of (t : List Int) (p : Nat) (v : Int) (hv : 0 ≤ v) : ∀ k : Nat, (∀ j, j < k → t.getD (p + j) 0 = v / 256 ^ j % 256) → numAt t p k = v % 256 ^ k
  | 0, _ => by simp [numAt, Int.emod_one]
  | k + 1, h => by
    simp only [numAt]
    rw [numAt_of t p v hv k (fun j hj => h j (by omega)), h k (by omega), mod_pow_succ v hv k]

theorem numAt_put (s : List Int) (p : Nat) (v : Int) (k : Nat) (h : p + k ≤ s.length) (hv : 0 ≤ v) (hk : v < 256 ^ k) : numAt (putN s p v k) p k = v := by
  rw [numAt_of _ p v hv k (fun j hj => by rw [putN_get _ _ _ _ h, if_pos (by omega), show p + j - p = j by omega])]
  exact Int.emod_eq_of_lt hv hk

theorem setS_in (s : List Int) {p n v : Int} (h : inB p n = true) (hv : fitB v n = true) : setS s p n v = putN s p.toNat v n.toNat := by
  unfold setS; rw [if_pos ⟨h, hv⟩]
theorem setE_in {p n v : Int} (h : inB p n = true) (hv : fitB v n = true) : setE p n v = 0 := by
  unfold setE; rw [if_pos h, if_pos hv]

/-- What was set is got; set twice is set once; byte by byte. -/
theorem back {s : List Int} (hs : IsSec s) {p n v : Int} (h : inB p n = true) (hv : fitB v n = true) :
    setE p n v = 0 ∧ setS (setS s p n v) p n v = setS s p n v ∧ getN (setS s p n v) p n = v ∧ getE (setS s p n v) p n = 0 ∧
      ∀ i : Nat, (setS s p n v).getD i 0 = if p.toNat ≤ i ∧ i < p.toNat + n.toNat then v / 256 ^ (i - p.toNat) % 256 else s.getD i 0 := by
  have h' := of_decide_eq_true h
  have hv' := of_decide_eq_true hv
  have hl : p.toNat + n.toNat ≤ s.length := by rw [hs.1]; omega
  have hpw : v < 256 ^ n.toNat := hv'.2.2
  have e := numAt_put s p.toNat v n.toNat hl hv'.1 hpw
  refine ⟨setE_in h hv, ?_, ?_, ?_, ?_⟩
  · rw [setS_in _ h hv, setS_in _ h hv, putN_twice _ _ _ _ hl]
  · rw [setS_in _ h hv, getN, e, if_pos ⟨h, hv'.2.1⟩]
  · rw [setS_in _ h hv, getE, e, if_pos h, if_pos hv'.2.1]
  · intro i
    rw [setS_in _ h hv, putN_get _ _ _ _ hl]

end Go.Proofs.Ytjlhmojofjkkdab
