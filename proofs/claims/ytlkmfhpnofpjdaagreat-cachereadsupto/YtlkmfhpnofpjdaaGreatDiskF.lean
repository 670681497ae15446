/-
  From of package disk: what it answers, for every input.
-/
import Derived.Test.YtlkmfhpnofpjdaaGreatDisk2
namespace Go.Proofs.YtlkmfhpnofpjdaaGreat.D
open Go.RowKit
-- may lack

set_option maxHeartbeats 400000 in
theorem restart_any {p g n : Nat} {d : St8} (w : World) (h : IsD w p g n d) : Calls Tryz.prog 56 #[.pointer (some ⟨p, 0, none⟩)] w fun e w' => e = .returned (.tuple #[]) ∧ IsD w' p g n ⟨d.S, d.wr, false, false, 0⟩ ∧ Mod w w' [p] := by
  have h2 := h.c2
  have h3 := h.c3
  have h4 := h.c4
  have f2 := h.fz 2
  have f3 := h.fz 3
  have f4 := h.fz 4
  go_enter Tryz.func56, Tryz.ntmps56
  go_wp2
  go_end0
  have a1 : IsD (w.setCell ⟨p, 2, none⟩ (.bool false)) p g n ⟨d.S, d.wr, false, d.ar, d.lf⟩ := h.put 2 _ rfl rfl
  have a2 : IsD ((w.setCell ⟨p, 2, none⟩ (.bool false)).setCell ⟨p, 3, none⟩ (.bool false)) p g n ⟨d.S, d.wr, false, false, d.lf⟩ := a1.put 3 _ rfl rfl
  exact ⟨rfl, a2.put 4 _ rfl rfl, ((Mod.set.trans Mod.set).trans Mod.set).mono (by simp)⟩

set_option maxHeartbeats 400000 in
theorem len_any {p g n : Nat} {d : St8} (w : World) (h : IsD w p g n d) : Calls Tryz.prog 110 #[.pointer (some ⟨p, 0, none⟩)] w fun e w' => e = .returned (.int .i64 n) ∧ w' = w := by
  have h0 := h.c0
  go_enter Tryz.func110, Tryz.ntmps110
  go_wp2
  go_ret
  exact ⟨rfl, rfl⟩
end Go.Proofs.YtlkmfhpnofpjdaaGreat.D
