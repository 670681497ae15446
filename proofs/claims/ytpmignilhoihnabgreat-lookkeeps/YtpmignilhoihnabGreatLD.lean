/-
 IsData, the program's and the document's.
-/
import Derived.Test.YtpmignilhoihnabGreatLI4
import Derived.Test.YtpmignilhoihnabGreatLH4
import Derived.Test.YtpmignilhoihnabGreatLP2
namespace Go.Proofs.YtpmignilhoihnabGreat
open Go.RowKit Go.Shelf
-- may lack

def dataB (b a n : Int) : Bool := decide (b < n) && decide (n < a)

set_option maxHeartbeats 400000 in
theorem isData_any (a b n : Int) (w : World) : Calls Tryz.prog 93 #[.agg #[.int .i64 a, .int .i64 b], .int .i64 n] w fun e w' => e = .returned (.bool (dataB b a n)) ∧ Below w.heap.size w w' := by
 have hb : Below w.heap.size w (w.alloc (.cells #[.int .i64 a, .int .i64 b] 32)) := (Below.refl _ _).alloc (Nat.le_refl _) _
 by_cases h1 : b < n
 ·by_cases h2 : n < a
  ·go_enter Tryz.func93, Tryz.ntmps93
   go_wp2
   go_ret
   exact ⟨ret_bool (by simp [dataB, h1, h2]), hb⟩
  ·go_enter Tryz.func93, Tryz.ntmps93
   go_wp2
   go_ret
   exact ⟨ret_bool (by simp [dataB]; omega), hb⟩
 ·go_enter Tryz.func93, Tryz.ntmps93
  go_wp2
  go_ret
  exact ⟨ret_bool (by simp [dataB]; omega), hb⟩

set_option maxHeartbeats 400000 in
theorem risData_any (a b n : Int) (w : World) : Calls Tryz.prog 75 #[.agg #[.int .i64 a, .int .i64 b], .int .i64 n] w fun e w' => e = .returned (.bool (dataB b a n)) ∧ Below w.heap.size w w' := by
 have hb : Below w.heap.size w (w.alloc (.cells #[.int .i64 a, .int .i64 b] 32)) := (Below.refl _ _).alloc (Nat.le_refl _) _
 by_cases h1 : b < n
 ·by_cases h2 : n < a
  ·go_enter Tryz.func75, Tryz.ntmps75
   go_wp2
   go_ret
   exact ⟨ret_bool (by simp [dataB, h1, h2]), hb⟩
  ·go_enter Tryz.func75, Tryz.ntmps75
   go_wp2
   go_ret
   exact ⟨ret_bool (by simp [dataB]; omega), hb⟩
 ·go_enter Tryz.func75, Tryz.ntmps75
  go_wp2
  go_ret
  exact ⟨ret_bool (by simp [dataB]; omega), hb⟩

end Go.Proofs.YtpmignilhoihnabGreat
