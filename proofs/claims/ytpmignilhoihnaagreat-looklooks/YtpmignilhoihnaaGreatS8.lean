/-
 The document's sight: the sector of a block, behind the double table.
-/
import Derived.Test.YtpmignilhoihnaaGreatHE4
namespace Go.Proofs.YtpmignilhoihnaaGreat
open Go.RowKit Go.Shelf

structure SC where
 p : Nat
 sb : Nat
 ib : Nat
 N : Nat
 M : Nat
 ia : Option Addr
 ic : Nat
 sc : Nat
 jc : Nat
 im : Img
def BAt (w : World) (g n : Nat) (f : Int → Bool) : Prop := ∃ A, w.heap[g]? = some (.cells A 4 (0, 0)) ∧ ∀ k, k < n → A[k]? = some (.bool (f (k : Int)))
theorem BAt.keep {w w' : World} {g n : Nat} {f : Int → Bool} {ks : Nat → Prop} (h : BAt w g n f) (hc : Chg w w' ks) (hn : ¬ ks g) : BAt w' g n f := by
 obtain ⟨A, h1, h2⟩ := h
 exact ⟨A, hc.keep h1 hn, h2⟩
theorem BAt.cell {w : World} {g n : Nat} {f : Int → Bool} (h : BAt w g n f) {k : Nat} (hk : k < n) : w.cell? ⟨g, k, none⟩ = some (.bool (f (k : Int))) ∧ w.frozen? ⟨g, k, none⟩ = false := by
 obtain ⟨A, h1, h2⟩ := h
 exact ⟨(cell_of_row _ _ _ _ _ _ h1).trans (h2 k hk), frozen_of_row _ _ _ _ _ h1⟩
section
variable {w w' : World} {c : SC} {sn : Int → Bool}
end
end Go.Proofs.YtpmignilhoihnaaGreat

namespace Go.Proofs.YtpmignilhoihnaaGreat
open Go.RowKit Go.Shelf

theorem putR_chg {w w' : World} {g : Nat} {t : TypeId} {A : Array Value} (h : PutR w g A t w') : Chg w w' (· = g) := ⟨h.os, h.tape, h.output, Nat.le_of_eq h.size.symm, fun k _ hk => h.other k hk⟩
theorem zero_ptrs (w : World) : (zeroValue 103).run Tryz.prog w = .ok (.agg (NA Zp)) w := by kernel_rfl
end Go.Proofs.YtpmignilhoihnaaGreat

namespace Go.Proofs.YtpmignilhoihnaaGreat
open Go.RowKit Go.Shelf

set_option maxHeartbeats 1000000 in
set_option maxRecDepth 100000 in
theorem rcount_any (z : List Int) (hz : z.length = 18) (h0 : 0 ≤ z.getD 2 0) (h1 : z.getD 2 0 ≤ 1000000) (w : World) : Calls Tryz.prog 52 #[.agg (NA z)] w fun e w' => e = .returned (.int .i64 (cntZ z)) ∧ Chg w w' No := by
 have hA := Chg.alloc w (.cells (NA z) 51) No;have HA := hid hA;have q := row_cell (heap_alloc_new w (.cells (NA z) 51)) 2 (by omega);have HC : Hid (cntZ z = (z.getD 2 0 + 127) / 128) := hid rfl
 generalize z.getD 2 0 = y at *
 have hd : (y + 127).tdiv 128 = (y + 127) / 128 := Int.tdiv_eq_ediv_of_nonneg (by omega);clear hA
 go_enter Tryz.func52, Tryz.ntmps52
 go_wp2_with fail
 go_ret
 exact ⟨by rw [HC.out]; rfl, HA.out⟩

end Go.Proofs.YtpmignilhoihnaaGreat

namespace Go.Proofs.YtpmignilhoihnaaGreat
open Go.RowKit Go.Shelf

end Go.Proofs.YtpmignilhoihnaaGreat

namespace Go.Proofs.YtpmignilhoihnaaGreat
open Go.RowKit Go.Shelf

theorem rptrs_c (s : List Int) (hs : IsSec s) (w : World) : Calls Tryz.prog 55 #[.agg (SA s)] w fun e w' => e = .returned (.agg (NA (ptrsTo s 32))) ∧ Chg w w' No := by
 refine (rreadPointers_any s hs w).mono ?_
 rintro e w' ⟨rfl, hb⟩
 exact ⟨rfl, Chg.of_below hb No⟩
end Go.Proofs.YtpmignilhoihnaaGreat

namespace Go.Proofs.YtpmignilhoihnaaGreat
open Go.RowKit Go.Shelf

end Go.Proofs.YtpmignilhoihnaaGreat

namespace Go.Proofs.YtpmignilhoihnaaGreat
open Go.RowKit Go.Shelf

end Go.Proofs.YtpmignilhoihnaaGreat
