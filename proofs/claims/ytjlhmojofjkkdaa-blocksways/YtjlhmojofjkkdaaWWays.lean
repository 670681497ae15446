/-
  BlocksWays: the way of any index; no other index has its place.
-/
import Derived.Test.YtjlhmojofjkkdaaD2
namespace Go.Proofs.Ytjlhmojofjkkdaa
open Go.RowKit Go.Shelf

theorem way_inj {a b w i j : Int} (ha : wayR a = (w, i, j, 0)) (hb : wayR b = (w, i, j, 0)) : a = b := by
  unfold wayR at ha hb
  by_cases a1 : a < 0 ∨ 1068 ≤ a
  · rw [if_pos a1] at ha; simp at ha
  · by_cases b1 : b < 0 ∨ 1068 ≤ b
    · rw [if_pos b1] at hb; simp at hb
    · rw [if_neg a1] at ha
      rw [if_neg b1] at hb
      by_cases a2 : a < 12
      · rw [if_pos a2] at ha
        by_cases b2 : b < 12
        · rw [if_pos b2] at hb; simp at ha hb; omega
        · rw [if_neg b2] at hb
          by_cases b3 : b < 44
          · rw [if_pos b3] at hb; simp at ha hb; omega
          · rw [if_neg b3] at hb; simp at ha hb; omega
      · rw [if_neg a2] at ha
        by_cases a3 : a < 44
        · rw [if_pos a3] at ha
          by_cases b2 : b < 12
          · rw [if_pos b2] at hb; simp at ha hb; omega
          · rw [if_neg b2] at hb
            by_cases b3 : b < 44
            · rw [if_pos b3] at hb; simp at ha hb; omega
            · rw [if_neg b3] at hb; simp at ha hb; omega
        · rw [if_neg a3, Int.tdiv_eq_ediv_of_nonneg (by omega)] at ha
          by_cases b2 : b < 12
          · rw [if_pos b2] at hb; simp at ha hb; omega
          · rw [if_neg b2] at hb
            by_cases b3 : b < 44
            · rw [if_pos b3] at hb; simp at ha hb; omega
            · rw [if_neg b3, Int.tdiv_eq_ediv_of_nonneg (by omega)] at hb; simp at ha hb; omega

set_option maxRecDepth 100000 in
set_option maxHeartbeats 1000000 in
theorem ways_walk (a b : Int) (w : World) : Calls Try.prog 3 #[.int .i64 a, .int .i64 b] w fun e w' => e = .returned (.bool true) ∧ Below w.heap.size w w' := by
  obtain ⟨w1, i1, j1, e1, h1⟩ : ∃ w i j e, wayR a = (w, i, j, e) := ⟨_, _, _, _, rfl⟩
  obtain ⟨w2, i2, j2, e2, h2⟩ : ∃ w i j e, wayR b = (w, i, j, e) := ⟨_, _, _, _, rfl⟩
  have hA := fun w => way_any a w
  have hR := fun w => rway_any a w
  have hB := fun w => way_any b w
  rw [h1] at hA hR
  rw [h2] at hB
  unfold wayV at hA hR hB
  have H1 := hid h1
  have H2 := hid h2
  clear h1 h2
  go_enter Try.func3, Try.ntmps3
  go_upto_region 4 with (first | (go_at_call 9; go_must (refine (known_any w).mono ?_; rintro e x ⟨rfl, hb⟩; have HB := hid hb; clear hb)))
  go_upto_region 5 with (first | (go_at_call 10; go_must (refine (hA _).mono ?_; rintro e x5 ⟨rfl, hx5⟩; subst hx5)))
  go_upto_region 6 with (first | (go_at_call 11; go_must (refine (hR _).mono ?_; rintro e x6 ⟨rfl, hx6⟩; subst hx6)))
  go_upto_region 7 with (first | (go_at_call 10; go_must (refine (hB _).mono ?_; rintro e x7 ⟨rfl, hx7⟩; subst hx7)))
  clear hA hR hB
  by_cases k1 : a = b
  · subst k1
    go_wp2_with fail
    go_ret
    exact ⟨rfl, HB.out⟩
  by_cases k2n : ¬ e1 = 0
  · go_wp2_with fail
    go_ret
    exact ⟨rfl, HB.out⟩
  have k2 : e1 = 0 := Decidable.not_not.1 k2n
  clear k2n
  by_cases k3n : ¬ e2 = 0
  · go_wp2_with fail
    go_ret
    exact ⟨rfl, HB.out⟩
  have k3 : e2 = 0 := Decidable.not_not.1 k3n
  clear k3n
  by_cases k4n : ¬ w1 = w2
  · go_wp2_with fail
    go_ret
    exact ⟨rfl, HB.out⟩
  have k4 : w1 = w2 := Decidable.not_not.1 k4n
  clear k4n
  by_cases k5n : ¬ i1 = i2
  · go_wp2_with fail
    go_ret
    exact ⟨rfl, HB.out⟩
  have k5 : i1 = i2 := Decidable.not_not.1 k5n
  clear k5n
  have k6 : ¬ j1 = j2 := fun k6 => by
    subst k2 k3 k4 k5 k6
    exact k1 (way_inj H1.out H2.out)
  subst k2 k3 k4 k5
  go_wp2_with fail
  go_ret
  exact ⟨congrArg (fun b => Ending.returned (.bool b)) (show (a == b || j1 != j2) = true by simp [k6]), HB.out⟩

end Go.Proofs.Ytjlhmojofjkkdaa
