/-
  The statements' own helpers spot and value come to what is named here, for every number of an int.
-/
import Derived.Test.YtibneoajkbblaaaWPick
namespace Go.Proofs.Ytibneoajkbblaaa
open Go.RowKit

/-- The place and the width that spot tells. -/
def spW (b : Int) : Int := 1 + pickN b 8
def spP (a b : Int) : Int := pickN a (129 - spW b)
theorem spW_bd (b : Int) : 1 ≤ spW b ∧ spW b ≤ 8 := by
  have := pickN_bd b (show (1 : Int) ≤ 8 by decide)
  unfold spW
  omega
theorem spP_bd (a b : Int) : 0 ≤ spP a b ∧ spP a b ≤ 128 - spW b := by
  have h := spW_bd b
  have := pickN_bd a (show (1 : Int) ≤ 129 - spW b by omega)
  unfold spP
  omega

set_option maxHeartbeats 400000 in
theorem spot_any (a b : Int) (w : World) (ha : I64 a) (hb : I64 b) :
    Calls Try.prog 20 #[.int .i64 a, .int .i64 b] w fun e w' => e = .returned (.tuple #[.int .i64 (spP a b), .int .i64 (spW b)]) ∧ w' = w := by
  have hbd := spW_bd b
  have HP : Hid (1 + pickN b 8 = spW b) := rfl
  have HQ : Hid (pickN a (129 - spW b) = spP a b) := rfl
  have hp8 := pickN_bd b (show (1 : Int) ≤ 8 by decide)
  go_enter Try.func20, Try.ntmps20
  go_wp2_with fail
  refine (pick_any b 8 _ hb (by decide) (by decide)).mono ?_
  rintro e w1 ⟨rfl, rfl⟩
  go_wp2_with fail
  rw [HP.out]
  refine (pick_any a (129 - spW b) _ ha (by omega) (by omega)).mono ?_
  rintro e w1 ⟨rfl, rfl⟩
  rw [HQ.out]
  go_wp2_with fail
  go_ret2
  exact ⟨rfl, rfl⟩

def valN (v n : Int) : Int := if n = 8 then pickN v top else pickN v (pw n)
theorem valN_bd (v : Int) {n : Int} (h1 : 1 ≤ n) (h8 : n ≤ 8) : 0 ≤ valN v n ∧ valN v n < top ∧ valN v n < pw n := by
  have ht := pickN_bd v (show (1 : Int) ≤ top by decide)
  rw [top_eq] at *
  have c : n = 1 ∨ n = 2 ∨ n = 3 ∨ n = 4 ∨ n = 5 ∨ n = 6 ∨ n = 7 ∨ n = 8 := by omega
  unfold valN
  rw [top_eq]
  rcases c with rfl | rfl | rfl | rfl | rfl | rfl | rfl | rfl
  · have := pickN_bd v (show (1 : Int) ≤ pw 1 by decide); rw [if_neg (by decide), pw1] at *; omega
  · have := pickN_bd v (show (1 : Int) ≤ pw 2 by decide); rw [if_neg (by decide), pw2] at *; omega
  · have := pickN_bd v (show (1 : Int) ≤ pw 3 by decide); rw [if_neg (by decide), pw3] at *; omega
  · have := pickN_bd v (show (1 : Int) ≤ pw 4 by decide); rw [if_neg (by decide), pw4] at *; omega
  · have := pickN_bd v (show (1 : Int) ≤ pw 5 by decide); rw [if_neg (by decide), pw5] at *; omega
  · have := pickN_bd v (show (1 : Int) ≤ pw 6 by decide); rw [if_neg (by decide), pw6] at *; omega
  · have := pickN_bd v (show (1 : Int) ≤ pw 7 by decide); rw [if_neg (by decide), pw7] at *; omega
  · rw [if_pos rfl, pw8]; omega
theorem valN_fit (v : Int) {n : Int} (h1 : 1 ≤ n) (h8 : n ≤ 8) : fitB (valN v n) n = true := by
  have := valN_bd v h1 h8
  exact fitB_true (by omega)

set_option maxHeartbeats 400000 in
theorem value_1 (v : Int) (w : World) (hv : I64 v) :
    Calls Try.prog 21 #[.int .i64 v, .int .i64 1] w fun e w' => e = .returned (.int .i64 (valN v 1)) ∧ w' = w := by
  have HP : Hid (pickN v 256 = valN v 1) := rfl
  go_enter Try.func21, Try.ntmps21
  go_wp2_with fail
  refine (pick_any v 256 _ hv (by decide) (by decide)).mono ?_
  rintro e w1 ⟨rfl, rfl⟩
  rw [HP.out]
  go_wp2_with fail
  go_ret
  exact ⟨rfl, rfl⟩
set_option maxHeartbeats 400000 in
theorem value_2 (v : Int) (w : World) (hv : I64 v) :
    Calls Try.prog 21 #[.int .i64 v, .int .i64 2] w fun e w' => e = .returned (.int .i64 (valN v 2)) ∧ w' = w := by
  have HP : Hid (pickN v 65536 = valN v 2) := rfl
  go_enter Try.func21, Try.ntmps21
  go_wp2_with fail
  refine (pick_any v 65536 _ hv (by decide) (by decide)).mono ?_
  rintro e w1 ⟨rfl, rfl⟩
  rw [HP.out]
  go_wp2_with fail
  go_ret
  exact ⟨rfl, rfl⟩
set_option maxHeartbeats 400000 in
theorem value_3 (v : Int) (w : World) (hv : I64 v) :
    Calls Try.prog 21 #[.int .i64 v, .int .i64 3] w fun e w' => e = .returned (.int .i64 (valN v 3)) ∧ w' = w := by
  have HP : Hid (pickN v 16777216 = valN v 3) := rfl
  go_enter Try.func21, Try.ntmps21
  go_wp2_with fail
  refine (pick_any v 16777216 _ hv (by decide) (by decide)).mono ?_
  rintro e w1 ⟨rfl, rfl⟩
  rw [HP.out]
  go_wp2_with fail
  go_ret
  exact ⟨rfl, rfl⟩
set_option maxHeartbeats 400000 in
theorem value_4 (v : Int) (w : World) (hv : I64 v) :
    Calls Try.prog 21 #[.int .i64 v, .int .i64 4] w fun e w' => e = .returned (.int .i64 (valN v 4)) ∧ w' = w := by
  have HP : Hid (pickN v 4294967296 = valN v 4) := rfl
  go_enter Try.func21, Try.ntmps21
  go_wp2_with fail
  refine (pick_any v 4294967296 _ hv (by decide) (by decide)).mono ?_
  rintro e w1 ⟨rfl, rfl⟩
  rw [HP.out]
  go_wp2_with fail
  go_ret
  exact ⟨rfl, rfl⟩
set_option maxHeartbeats 400000 in
theorem value_5 (v : Int) (w : World) (hv : I64 v) :
    Calls Try.prog 21 #[.int .i64 v, .int .i64 5] w fun e w' => e = .returned (.int .i64 (valN v 5)) ∧ w' = w := by
  have HP : Hid (pickN v 1099511627776 = valN v 5) := rfl
  go_enter Try.func21, Try.ntmps21
  go_wp2_with fail
  refine (pick_any v 1099511627776 _ hv (by decide) (by decide)).mono ?_
  rintro e w1 ⟨rfl, rfl⟩
  rw [HP.out]
  go_wp2_with fail
  go_ret
  exact ⟨rfl, rfl⟩
set_option maxHeartbeats 400000 in
theorem value_6 (v : Int) (w : World) (hv : I64 v) :
    Calls Try.prog 21 #[.int .i64 v, .int .i64 6] w fun e w' => e = .returned (.int .i64 (valN v 6)) ∧ w' = w := by
  have HP : Hid (pickN v 281474976710656 = valN v 6) := rfl
  go_enter Try.func21, Try.ntmps21
  go_wp2_with fail
  refine (pick_any v 281474976710656 _ hv (by decide) (by decide)).mono ?_
  rintro e w1 ⟨rfl, rfl⟩
  rw [HP.out]
  go_wp2_with fail
  go_ret
  exact ⟨rfl, rfl⟩
set_option maxHeartbeats 400000 in
theorem value_7 (v : Int) (w : World) (hv : I64 v) :
    Calls Try.prog 21 #[.int .i64 v, .int .i64 7] w fun e w' => e = .returned (.int .i64 (valN v 7)) ∧ w' = w := by
  have HP : Hid (pickN v 72057594037927936 = valN v 7) := rfl
  go_enter Try.func21, Try.ntmps21
  go_wp2_with fail
  refine (pick_any v 72057594037927936 _ hv (by decide) (by decide)).mono ?_
  rintro e w1 ⟨rfl, rfl⟩
  rw [HP.out]
  go_wp2_with fail
  go_ret
  exact ⟨rfl, rfl⟩
set_option maxHeartbeats 400000 in
theorem value_8 (v : Int) (w : World) (hv : I64 v) :
    Calls Try.prog 21 #[.int .i64 v, .int .i64 8] w fun e w' => e = .returned (.int .i64 (valN v 8)) ∧ w' = w := by
  have HP : Hid (pickN v 4611686018427387904 = valN v 8) := rfl
  go_enter Try.func21, Try.ntmps21
  go_wp2_with fail
  refine (pick_any v 4611686018427387904 _ hv (by decide) (by decide)).mono ?_
  rintro e w1 ⟨rfl, rfl⟩
  rw [HP.out]
  go_wp2_with fail
  go_ret
  exact ⟨rfl, rfl⟩
theorem value_any (v n : Int) (w : World) (hv : I64 v) (h1 : 1 ≤ n) (h8 : n ≤ 8) :
    Calls Try.prog 21 #[.int .i64 v, .int .i64 n] w fun e w' => e = .returned (.int .i64 (valN v n)) ∧ w' = w := by
  have c : n = 1 ∨ n = 2 ∨ n = 3 ∨ n = 4 ∨ n = 5 ∨ n = 6 ∨ n = 7 ∨ n = 8 := by omega
  rcases c with rfl | rfl | rfl | rfl | rfl | rfl | rfl | rfl
  · exact value_1 v w hv
  · exact value_2 v w hv
  · exact value_3 v w hv
  · exact value_4 v w hv
  · exact value_5 v w hv
  · exact value_6 v w hv
  · exact value_7 v w hv
  · exact value_8 v w hv

end Go.Proofs.Ytibneoajkbblaaa
