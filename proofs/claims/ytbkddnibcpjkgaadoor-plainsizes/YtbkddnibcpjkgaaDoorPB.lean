/-
  package plain: may an operation be?
-/
import Derived.Test.YtbkddnibcpjkgaaDoorPG
namespace Go.Proofs.YtbkddnibcpjkgaaDoor
open Go.RowKit

/-- The fields that each kind uses. -/
def usedL : List Int := [0, 33, 33, 3, 1, 1, 3, 21, 5, 13, 1, 1, 0, 1, 64]
/-- The variable usedBy lies in memory. -/
def UB (w : World) : Prop := 0 < w.heap.size ∧ ∀ k : Nat, k < 15 → w.cell? ⟨0, k, none⟩ = some (.int .i64 (usedL.getD k 0))
theorem UB.keep {w w' : World} {ks : Nat → Prop} (h : UB w) (hc : Chg w w' ks) (hn : ¬ ks 0) : UB w' := by
  refine ⟨Nat.lt_of_lt_of_le h.1 hc.size, fun k hk => ?_⟩
  have := h.2 k hk
  unfold World.cell? at this ⊢
  rw [hc.block _ h.1 hn]
  exact this
theorem szOp : (Tryd.prog.info? 40).map (·.size) = some 8 := by kernel_rfl

set_option maxHeartbeats 2000000 in
set_option maxRecDepth 100000 in
theorem mayBe_ok (kk : Nat) (path tto : ByteArray) (off len : Int) (da : Option Addr) (dl dc : Nat) (made pick : Int) (w : World) (hu : UB w) (h1 : 1 ≤ kk) (h2 : kk ≤ 14) (hz : bits .andNot .i64 (givF path tto off len dl made pick) (usedL.getD kk 0) = 0) (hm0 : 0 ≤ made) (hm1 : made ≤ 1099511627776) :
    Calls Tryd.prog 11 #[.agg (opA (kk : Nat) path tto off len da dl dc made pick)] w fun e w' => e = .returned (.bool true) ∧ Chg w w' No := by
  obtain ⟨w1, hw1⟩ : ∃ y, y = w.alloc (.cells (opA (kk : Nat) path tto off len da dl dc made pick) 40) := ⟨_, rfl⟩
  have hc1 : Chg w w1 No := by rw [hw1]; exact Chg.alloc w _ No
  have hop : w1.heap[w.heap.size]? = some (.cells (opA (kk : Nat) path tto off len da dl dc made pick) 40 (0, 0)) := by rw [hw1]; exact heap_alloc_new w _
  have HOp : Hid (∀ W, Chg w1 W No → W.heap[w.heap.size]? = some (.cells #[.int .i64 (kk : Nat), .string path, .string tto, .int .i64 off, .int .i64 len, .slice da dl dc, .int .i64 made, .int .i64 pick] 40 (0, 0))) := hid (fun W hW => hW.keep hop (fun e => e))
  have HQ0 : Hid (∀ W, Chg w1 W No → W.cell? ⟨w.heap.size, 0, none⟩ = some (.int .i64 (kk : Nat))) := hid (fun W hW => (cell_of_row _ _ _ _ _ _ (HOp.out W hW)).trans rfl)
  have HQ6 : Hid (∀ W, Chg w1 W No → W.cell? ⟨w.heap.size, 6, none⟩ = some (.int .i64 made)) := hid (fun W hW => (cell_of_row _ _ _ _ _ _ (HOp.out W hW)).trans rfl)
  have HU : Hid (∀ W, Chg w1 W No → W.cell? ⟨0, kk, none⟩ = some (.int .i64 (usedL.getD kk 0))) := hid (fun W hW => ((hu.keep hc1 (fun e => e)).keep hW (fun e => e)).2 kk (by omega))
  have HGv : Hid (∀ W, Calls Tryd.prog 21 #[.agg #[.int .i64 (kk : Nat), .string path, .string tto, .int .i64 off, .int .i64 len, .slice da dl dc, .int .i64 made, .int .i64 pick]] W fun e w' => e = .returned (.int .i64 (givF path tto off len dl made pick)) ∧ Chg W w' No) := hid (fun W => given_any _ _ _ _ _ _ _ _ _ _ W)
  have q0 := HQ0.out w1 (Chg.refl _ _)
  obtain ⟨gf, hgf⟩ : ∃ y, y = givF path tto off len dl made pick := ⟨_, rfl⟩
  rw [← hgf] at hz HGv
  obtain ⟨uk, huk⟩ : ∃ y, y = usedL.getD kk 0 := ⟨_, rfl⟩
  rw [← huk] at hz HU
  have HC1 := hid hc1
  have k1 : ¬ (kk : Int) < 1 := by omega
  have k2 : ¬ 14 < (kk : Int) := by omega
  have k3 : (kk : Int) ≤ 14 := by omega
  unfold opA at hw1 ⊢
  rw [hw1] at HOp HQ0 HQ6 HU q0 HC1
  clear hop hc1 hw1 hu hgf huk
  go_enter Tryd.func11, Tryd.ntmps11
  go_upto_region 3 with fail
  refine wp_region_noPanic ?_
  refine wp_region_held_drew (S := fun w' => Chg (w.alloc (.cells #[.int .i64 (kk : Nat), .string path, .string tto, .int .i64 off, .int .i64 len, .slice da dl dc, .int .i64 made, .int .i64 pick] 40)) w' No) (by kernel_rfl) (Chg.refl _ _).drew (fun hHeld => ?_)
  refine takeR 0 11 40 (.tmp 1) w.heap.size 40 #[.int .i64 (kk : Nat), .string path, .string tto, .int .i64 off, .int .i64 len, .slice da dl dc, .int .i64 made, .int .i64 pick] _ rfl (by kernel_rfl) (by kernel_rfl) (by kernel_rfl) rfl rfl rfl Tryd.underlying40 rfl (by rw [szOp]; rfl) (by rfl) (fun _ _ _ h => h) hHeld (fun W' hw' => HOp.out W' hw') ?_
  simp only [List.setIfInBounds_toArray, List.set_cons_zero, List.set_cons_succ]
  refine takeVal 2 13 (.pointer (some ⟨w.heap.size, 0, none⟩)) rfl (by kernel_rfl) (by kernel_rfl) (by kernel_rfl) rfl (by rfl) (fun _ _ _ h => h) hHeld (fun W' hw' => by go_simp) ?_
  simp only [List.setIfInBounds_toArray, List.set_cons_zero, List.set_cons_succ]
  refine takeVal 3 14 (.int .i64 (kk : Nat)) rfl (by kernel_rfl) (by kernel_rfl) (by kernel_rfl) rfl (by rfl) (fun _ _ _ h => h) hHeld (fun W' hw' => by have hc := HQ0.out W' hw'; go_simp) ?_
  simp only [List.setIfInBounds_toArray, List.set_cons_zero, List.set_cons_succ]
  refine takeVal 4 15 (.pointer (some ⟨0, kk, none⟩)) rfl (by kernel_rfl) (by kernel_rfl) (by kernel_rfl) rfl (by rfl) (fun _ _ _ h => h) hHeld (fun W' hw' => by go_simp; intro hbad; omega) ?_
  simp only [List.setIfInBounds_toArray, List.set_cons_zero, List.set_cons_succ]
  refine takeVal 5 16 (.int .i64 uk) rfl (by kernel_rfl) (by kernel_rfl) (by kernel_rfl) rfl (by rfl) (fun _ _ _ h => h) hHeld (fun W' hw' => by have hc := HU.out W' hw'; go_simp) ?_
  simp only [List.setIfInBounds_toArray, List.set_cons_zero, List.set_cons_succ]
  refine step1 1 (by kernel_rfl) ?_
  refine stCall 1 12 21 #[.agg #[.int .i64 (kk : Nat), .string path, .string tto, .int .i64 off, .int .i64 len, .slice da dl dc, .int .i64 made, .int .i64 pick]] _ rfl rfl (by rfl) (by go_simp) (HGv.out _) ?_
  rintro e w5 ⟨rfl, hc5⟩
  have hH5 : Chg (w.alloc (.cells #[.int .i64 (kk : Nat), .string path, .string tto, .int .i64 off, .int .i64 len, .slice da dl dc, .int .i64 made, .int .i64 pick] 40)) w5 No := hHeld.tr hc5
  refine ⟨_, rfl, hH5, ?_⟩
  simp only [List.setIfInBounds_toArray, List.set_cons_zero, List.set_cons_succ]
  refine takeVal 6 17 (.int .i64 0) rfl (by kernel_rfl) (by kernel_rfl) (by kernel_rfl) rfl (by rfl) (fun _ _ _ h => h) hH5 (fun W' hw' => by go_simp <;> exact hz) ?_
  simp only [List.setIfInBounds_toArray, List.set_cons_zero, List.set_cons_succ]
  refine takeVal 7 18 (.bool true) rfl (by kernel_rfl) (by kernel_rfl) (by kernel_rfl) rfl (by rfl) (fun _ _ _ h => h) hH5 (fun W' hw' => by go_simp) ?_
  simp only [List.setIfInBounds_toArray, List.set_cons_zero, List.set_cons_succ]
  refine takeVal 8 19 (.bool true) rfl (by kernel_rfl) (by kernel_rfl) (by kernel_rfl) rfl (by rfl) (fun _ _ _ h => h) hH5 (fun W' hw' => rfl) ?_
  simp only [List.setIfInBounds_toArray, List.set_cons_zero, List.set_cons_succ]
  refine takeVal 9 20 (.pointer (some ⟨w.heap.size, 6, none⟩)) rfl (by kernel_rfl) (by kernel_rfl) (by kernel_rfl) rfl (by rfl) (fun _ _ _ h => h) hH5 (fun W' hw' => by go_simp) ?_
  simp only [List.setIfInBounds_toArray, List.set_cons_zero, List.set_cons_succ]
  refine takeVal 10 21 (.int .i64 made) rfl (by kernel_rfl) (by kernel_rfl) (by kernel_rfl) rfl (by rfl) (fun _ _ _ h => h) hH5 (fun W' hw' => by have hc := HQ6.out W' hw'; go_simp) ?_
  simp only [List.setIfInBounds_toArray, List.set_cons_zero, List.set_cons_succ]
  refine takeVal 11 22 (.bool true) rfl (by kernel_rfl) (by kernel_rfl) (by kernel_rfl) rfl (by rfl) (fun _ _ _ h => h) hH5 (fun W' hw' => by go_simp) ?_
  simp only [List.setIfInBounds_toArray, List.set_cons_zero, List.set_cons_succ]
  refine takeVal 12 23 (.bool true) rfl (by kernel_rfl) (by kernel_rfl) (by kernel_rfl) rfl (by rfl) (fun _ _ _ h => h) hH5 (fun W' hw' => by go_simp) ?_
  simp only [List.setIfInBounds_toArray, List.set_cons_zero, List.set_cons_succ]
  refine takeVal 13 24 (.bool true) rfl (by kernel_rfl) (by kernel_rfl) (by kernel_rfl) rfl (by rfl) (fun _ _ _ h => h) hH5 (fun W' hw' => rfl) ?_
  simp only [List.setIfInBounds_toArray, List.set_cons_zero, List.set_cons_succ]
  refine takeVal 14 25 (.pointer (some ⟨w.heap.size, 6, none⟩)) rfl (by kernel_rfl) (by kernel_rfl) (by kernel_rfl) rfl (by rfl) (fun _ _ _ h => h) hH5 (fun W' hw' => by go_simp) ?_
  simp only [List.setIfInBounds_toArray, List.set_cons_zero, List.set_cons_succ]
  refine takeVal 15 26 (.int .i64 made) rfl (by kernel_rfl) (by kernel_rfl) (by kernel_rfl) rfl (by rfl) (fun _ _ _ h => h) hH5 (fun W' hw' => by have hc := HQ6.out W' hw'; go_simp) ?_
  simp only [List.setIfInBounds_toArray, List.set_cons_zero, List.set_cons_succ]
  refine takeVal 16 27 (.bool true) rfl (by kernel_rfl) (by kernel_rfl) (by kernel_rfl) rfl (by rfl) (fun _ _ _ h => h) hH5 (fun W' hw' => by go_simp) ?_
  simp only [List.setIfInBounds_toArray, List.set_cons_zero, List.set_cons_succ]
  refine takeVal 17 28 (.bool true) rfl (by kernel_rfl) (by kernel_rfl) (by kernel_rfl) rfl (by rfl) (fun _ _ _ h => h) hH5 (fun W' hw' => by go_simp) ?_
  simp only [List.setIfInBounds_toArray, List.set_cons_zero, List.set_cons_succ]
  refine takeVal 18 2 (.bool true) rfl (by kernel_rfl) (by kernel_rfl) (by kernel_rfl) rfl (by rfl) (fun _ _ _ h => h) hH5 (fun W' hw' => rfl) ?_
  simp only [List.setIfInBounds_toArray, List.set_cons_zero, List.set_cons_succ]
  refine wpAnyH_done (by kernel_rfl) ?_ _
  refine NoPanic.normal ?_
  have HFin : Hid (Chg w w5 No) := hid (HC1.out.tr hH5)
  clear hHeld hc5 hH5
  go_wp2_with fail
  go_ret
  exact ⟨rfl, HFin.out⟩
end Go.Proofs.YtbkddnibcpjkgaaDoor
