/-
 The statements' own helper pick comes to what is named here, for every number of an int.
-/
import Derived.Test.YtboammbcoleicabGreatPlain
namespace Go.Proofs.YtboammbcoleicabGreat
open Go.RowKit
-- may lack

def pickN (c n : Int) : Int := (if c < 0 then -(c + 1) else c) % n
theorem pickN_bd (c : Int) {n : Int} (hn : 1 ≤ n) : 0 ≤ pickN c n ∧ pickN c n < n :=
 ⟨Int.emod_nonneg _ (by omega), Int.emod_lt_of_pos _ (by omega)⟩
def I64 (c : Int) : Prop := -9223372036854775808 ≤ c ∧ c ≤ 9223372036854775807
theorem ret_int {k : IntKind} {a b : Int} (h : a = b) : Ending.returned (.int k a) = .returned (.int k b) := by rw [h]

set_option maxHeartbeats 400000 in
theorem pick_any (c n : Int) (w : World) (hc : I64 c) (hn : 1 ≤ n) (hn2 : n ≤ 4611686018427387904) :
  Calls Tryz.prog 13 #[.int .i64 c, .int .i64 n] w fun e w' => e = .returned (.int .i64 (pickN c n)) ∧ w' = w := by
 obtain ⟨h0, h1⟩ := hc
 have hn0 : (n == 0) = false := by simp; omega
 by_cases h : c < 0
 ·have HP : Hid (pickN c n = (-(c + 1)) % n) := by show _ = _; rw [pickN, if_pos h]
  go_enter Tryz.func13, Tryz.ntmps13
  go_wp2
  go_ret
  exact ⟨ret_int (by rw [HP.out, ← Int.tmod_eq_emod_of_nonneg (by omega), Int.neg_tmod]), rfl⟩
 ·have HP : Hid (pickN c n = c % n) := by show _ = _; rw [pickN, if_neg h]
  have h' : 0 ≤ c := by omega
  go_enter Tryz.func13, Tryz.ntmps13
  go_wp2
  go_ret
  exact ⟨ret_int (by rw [HP.out]), rfl⟩

end Go.Proofs.YtboammbcoleicabGreat
