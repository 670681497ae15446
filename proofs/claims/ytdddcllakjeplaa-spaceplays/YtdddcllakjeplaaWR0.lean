/-
  What a space tells of which one sector was taken and is free later: no program.
-/
import Derived.Test.YtdddcllakjeplaaW0
namespace Go.Proofs.Ytdddcllakjeplaa
open Go.RowKit

theorem nil_first (a b : Nat) (h5 : b + 2 ≤ a) : FirstIs (bt (nil0 a b).T) (((nil0 a b).ni : Int) + 1) ((b : Int) + 1) true := by
  refine ⟨fun _ => ⟨Int.le_refl _, by omega, ?_, ?_, fun j h1 h2 h3 => ?_⟩, fun e => Bool.noConfusion e⟩
  · rw [bt_len]; simp [nil0]; omega
  · rw [bt_has]
    show (!(atT (List.replicate a 0) _ == 0)) = false
    rw [zero_at]; rfl
  · have h1 : (b : Int) + 1 ≤ j := h1
    omega
/-- One sector is free later. -/
def one2 (a b : Nat) : SS := ((nil0 a b).setT ((b : Int) + 1) 1).setT ((b : Int) + 1) 2
section
variable {a b : Nat} (h : 8 ≤ a ∧ a ≤ 4096 ∧ 1 ≤ b ∧ b ≤ 512 ∧ b + 2 ≤ a)
include h
theorem nil_ok : (nil0 a b).Ok := nil0_ok a b h.1 h.2.1 h.2.2.1 h.2.2.2.1 h.2.2.2.2
theorem one_dat : (nil0 a b).dat ((b : Int) + 1) := ⟨by show (b : Int) < _; omega, by show _ < (a : Int); have := h.2.2.2.2; omega⟩
theorem one1_at (i : Int) : atT ((nil0 a b).setT ((b : Int) + 1) 1).T i = if i = (b : Int) + 1 then 1 else 0 := by
  show atT (putT (List.replicate a 0) _ 1) i = _
  rw [atT_put _ _ _ _ ⟨by omega, by simp; have := h.2.2.2.2; omega⟩, zero_at]
theorem one2_at (i : Int) : atT (one2 a b).T i = if i = (b : Int) + 1 then 2 else 0 := by
  show atT (putT ((nil0 a b).setT ((b : Int) + 1) 1).T _ 2) i = _
  rw [atT_put _ _ _ _ ⟨by omega, by show _ < ((putT (List.replicate a 0) _ 1).length : Int); rw [putT_len]; simp; have := h.2.2.2.2; omega⟩, one1_at h]
  split <;> rfl
theorem one_later : ((nil0 a b).setT ((b : Int) + 1) 1).laterE ((b : Int) + 1) = 0 ∧ ((nil0 a b).setT ((b : Int) + 1) 1).laterS ((b : Int) + 1) = one2 a b := by
  have e : atT ((nil0 a b).setT ((b : Int) + 1) 1).T ((b : Int) + 1) = 1 := by rw [one1_at h, if_pos rfl]
  exact ⟨if_pos e, if_pos e⟩
theorem two_later (i : Int) : (one2 a b).laterE i = 82 ∧ (one2 a b).laterS i = one2 a b := by
  have e : atT (one2 a b).T i ≠ 1 := by rw [one2_at h]; split <;> decide
  exact ⟨if_neg e, if_neg e⟩
omit h in
theorem two_land (x i : Int) (hi : i ≤ b ∨ a ≤ i) : (one2 a b).landE [x, i] = 82 ∧ (one2 a b).landS [x, i] = one2 a b := by
  have e : (one2 a b).landOk [x, i] = false := landOk_no (k := 1) (by simp) (by
    show isB (((b : Nat) : Int) + 1) a i = false
    exact decide_eq_false (by omega))
  unfold SS.landE SS.landS
  rw [e]
  exact ⟨rfl, rfl⟩
theorem two_used : hasL (one2 a b).I 1 = true := (nil_ok h).I1
theorem two_free (i : Int) (hi : i ≤ 0 ∨ (b : Int) < i) : hasL (one2 a b).I i = false := by
  cases e : hasL (one2 a b).I i
  · rfl
  · have hk : (b : Int) = ((nil0 a b).ni : Int) := rfl
    have := (nil_ok h).ino_of (i := i) e
    omega
theorem two_rl : (one2 a b).rl = 1 := by
  have hl : ((nil0 a b).setT ((b : Int) + 1) 1).T.length = a := by show (putT (List.replicate a 0) _ 1).length = a; rw [putT_len]; simp
  have e := count_putT ((nil0 a b).setT ((b : Int) + 1) 1).T ((b : Int) + 1) 2 2 ⟨by omega, by rw [hl]; have := h.2.2.2.2; omega⟩
  have e2 := count_putT (List.replicate a 0) ((b : Int) + 1) 1 2 ⟨by omega, by simp; have := h.2.2.2.2; omega⟩
  rw [one1_at h, if_pos rfl] at e
  rw [zero_at] at e2
  have e3 : (List.replicate a 0).count 2 = 0 := by rw [List.count_replicate]; rfl
  have e4 : ((nil0 a b).setT ((b : Int) + 1) 1).T = putT (List.replicate a 0) ((b : Int) + 1) 1 := rfl
  have e5 : (one2 a b).T = putT ((nil0 a b).setT ((b : Int) + 1) 1).T ((b : Int) + 1) 2 := rfl
  unfold SS.rl
  rw [e5]
  rw [e4] at e ⊢
  simp at e e2
  rw [e3] at e2
  omega
end

end Go.Proofs.Ytdddcllakjeplaa
