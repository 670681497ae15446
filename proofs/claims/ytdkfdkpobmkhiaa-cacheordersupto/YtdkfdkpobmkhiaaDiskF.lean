/-
  From of package disk: what it answers, for every input.
-/
import Derived.Test.YtdkfdkpobmkhiaaDisk2
namespace Go.Proofs.Ytdkfdkpobmkhiaa.D
open Go.RowKit
-- may lack

set_option maxHeartbeats 400000 in
theorem len_any {p g n : Nat} {d : St8} (w : World) (h : IsD w p g n d) : Calls Try.prog 104 #[.pointer (some ⟨p, 0, none⟩)] w fun e w' => e = .returned (.int .i64 n) ∧ w' = w := by
  have h0 := h.c0
  go_enter Try.func104, Try.ntmps104
  go_wp2
  go_ret
  exact ⟨rfl, rfl⟩
end Go.Proofs.Ytdkfdkpobmkhiaa.D
