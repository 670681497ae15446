/-
 package plain: may an operation be?
-/
import Derived.Test.YtmgfilacepnjlaaGreatDoorPV
namespace Go.Proofs.YtmgfilacepnjlaaGreatDoor
open Go.RowKit

def markV (b : Bool) (f one : Int) : Int := if b then bits .or .i64 f one else f

set_option maxHeartbeats 1000000 in
set_option maxRecDepth 100000 in
theorem mark_any (b : Bool) (g : Nat) (one f : Int) (w : World) (h : w.heap[g]? = some (.cells #[.int .i64 f] 89 (0, 0))) : Calls Tryz.prog 60 #[.int .i64 one, .bool b, .pointer (some ⟨g, 0, none⟩)] w fun e w' => e = .returned (.tuple #[]) ∧ w'.heap[g]? = some (.cells #[.int .i64 (markV b f one)] 89 (0, 0)) ∧ Chg w w' (· = g) := by
 cases b with
 | false =>
  have H := hid h
  clear h
  go_enter Tryz.func60, Tryz.ntmps60
  go_wp2_with fail
  go_end0
  exact ⟨rfl, H.out, Chg.refl _ _⟩
 | true =>
  have hc : w.cell? ⟨g, 0, none⟩ = some (.int .i64 f) := (cell_of_row _ _ _ _ _ _ h).trans rfl
  have hf : w.frozen? ⟨g, 0, none⟩ = false := frozen_of_row _ _ _ _ _ h
  have H := hid h
  clear h
  go_enter Tryz.func60, Tryz.ntmps60
  go_wp2_with fail
  go_end0
  exact ⟨rfl, heap_setCell_same _ _ _ _ _ _ H.out, Chg.setCell⟩
def opA (kind : Int) (path tto : ByteArray) (off len : Int) (da : Option Addr) (dl dc : Nat) (made pick : Int) : Array Value := #[.int .i64 kind, .string path, .string tto, .int .i64 off, .int .i64 len, .slice da dl dc, .int .i64 made, .int .i64 pick]
def givF (path tto : ByteArray) (off len : Int) (dl : Nat) (made pick : Int) : Int :=
 markV (!decide (pick = 0)) (markV (!decide (made = 0)) (markV (decide (0 < dl)) (markV (!decide (len = 0)) (markV (!decide (off = 0)) (markV (!tto.toList.isEmpty) (markV (!path.toList.isEmpty) 0 1) 2) 4) 8) 16) 32) 64

structure GV (w W : World) (A : Array Value) (f : Int) : Prop where
 op : W.heap[w.heap.size]? = some (.cells A 34 (0, 0))
 f : W.heap[w.heap.size + 1]? = some (.cells #[.int .i64 f] 89 (0, 0))
 c : Chg w W No
theorem GV.mark {w W W' : World} {A : Array Value} {f f' : Int} (h : GV w W A f) (h1 : W'.heap[w.heap.size + 1]? = some (.cells #[.int .i64 f'] 89 (0, 0))) (hc : Chg W W' (· = w.heap.size + 1)) : GV w W' A f' :=
 ⟨hc.keep h.op (by omega), h1, h.c.trans hc (fun _ _ e => e) (fun j hj e => by omega)⟩
theorem GV.cell {w W : World} {A : Array Value} {f : Int} (h : GV w W A f) {k : Nat} {v : Value} (hv : A[k]? = some v) : W.cell? ⟨w.heap.size, k, none⟩ = some v := by rw [cell_of_row _ _ _ _ _ _ h.op]; exact hv

set_option maxHeartbeats 2000000 in
set_option maxRecDepth 100000 in
theorem given_any (kind : Int) (path tto : ByteArray) (off len : Int) (da : Option Addr) (dl dc : Nat) (made pick : Int) (w : World) :
  Calls Tryz.prog 40 #[.agg (opA kind path tto off len da dl dc made pick)] w fun e w' => e = .returned (.int .i64 (givF path tto off len dl made pick)) ∧ Chg w w' No := by
 have hmf : ∀ (fn : Fn) (first cap : Array Value) (w : World), (Instr.makeFunc fn first cap).run Tryz.prog w = .ok (.func fn first cap) w := fun _ _ _ _ => rfl
 obtain ⟨R, hR⟩ : ∃ y, y = givF path tto off len dl made pick := ⟨_, rfl⟩
 rw [← hR]
 have HR := hid hR
 clear hR
 unfold opA
 obtain ⟨W0, hW0⟩ : ∃ y, y = (w.alloc (.cells #[.int .i64 kind, .string path, .string tto, .int .i64 off, .int .i64 len, .slice da dl dc, .int .i64 made, .int .i64 pick] 34)).alloc (.cells #[.int .i64 0] 89) := ⟨_, rfl⟩
 have HG3 : Hid (GV w W0 #[.int .i64 kind, .string path, .string tto, .int .i64 off, .int .i64 len, .slice da dl dc, .int .i64 made, .int .i64 pick] 0) := hid (by
  rw [hW0]
  refine ⟨(Chg.alloc _ _ No).keep (heap_alloc_new w _) (fun e => e), ?_, (Chg.alloc w _ No).tr (Chg.alloc _ _ No)⟩
  have := heap_alloc_new (w.alloc (.cells #[.int .i64 kind, .string path, .string tto, .int .i64 off, .int .i64 len, .slice da dl dc, .int .i64 made, .int .i64 pick] 34)) (.cells #[.int .i64 0] 89)
  rw [show (w.alloc (.cells #[.int .i64 kind, .string path, .string tto, .int .i64 off, .int .i64 len, .slice da dl dc, .int .i64 made, .int .i64 pick] 34)).heap.size = w.heap.size + 1 by simp] at this
  exact this)
 go_enter Tryz.func40, Tryz.ntmps40
 go_upto_region 3 with fail
 rw [← hW0]
 clear hW0 hmf
 have q3 : W0.cell? ⟨w.heap.size, 1, none⟩ = some (.string path) := HG3.out.cell rfl
 have m3 := mark_any (!path.toList.isEmpty) (w.heap.size + 1) 1 0 W0 HG3.out.f
 obtain ⟨f4, hf4⟩ : ∃ y, y = markV (!path.toList.isEmpty) 0 1 := ⟨_, rfl⟩
 rw [← hf4] at m3
 have HF4 := hid hf4
 clear hf4
 go_upto_region 4 with (first
  | (go_at_call 60; go_must (refine (m3).mono ?_; rintro e W4 ⟨rfl, k1, k2⟩; have HG4 := hid (HG3.out.mark k1 k2); clear k1 k2))
  | fail)
 clear q3 m3 HG3
 have q4 : W4.cell? ⟨w.heap.size, 2, none⟩ = some (.string tto) := HG4.out.cell rfl
 have m4 := mark_any (!tto.toList.isEmpty) (w.heap.size + 1) 2 f4 W4 HG4.out.f
 obtain ⟨f5, hf5⟩ : ∃ y, y = markV (!tto.toList.isEmpty) f4 2 := ⟨_, rfl⟩
 rw [← hf5] at m4
 have HF5 := hid hf5
 clear hf5
 go_upto_region 5 with (first
  | (go_at_call 60; go_must (refine (m4).mono ?_; rintro e W5 ⟨rfl, k1, k2⟩; have HG5 := hid (HG4.out.mark k1 k2); clear k1 k2))
  | fail)
 clear q4 m4 HG4
 have q5 : W5.cell? ⟨w.heap.size, 3, none⟩ = some (.int .i64 off) := HG5.out.cell rfl
 have m5 := mark_any (!decide (off = 0)) (w.heap.size + 1) 4 f5 W5 HG5.out.f
 obtain ⟨f6, hf6⟩ : ∃ y, y = markV (!decide (off = 0)) f5 4 := ⟨_, rfl⟩
 rw [← hf6] at m5
 have HF6 := hid hf6
 clear hf6
 go_upto_region 6 with (first
  | (go_at_call 60; go_must (refine (m5).mono ?_; rintro e W6 ⟨rfl, k1, k2⟩; have HG6 := hid (HG5.out.mark k1 k2); clear k1 k2))
  | fail)
 clear q5 m5 HG5
 have q6 : W6.cell? ⟨w.heap.size, 4, none⟩ = some (.int .i64 len) := HG6.out.cell rfl
 have m6 := mark_any (!decide (len = 0)) (w.heap.size + 1) 8 f6 W6 HG6.out.f
 obtain ⟨f7, hf7⟩ : ∃ y, y = markV (!decide (len = 0)) f6 8 := ⟨_, rfl⟩
 rw [← hf7] at m6
 have HF7 := hid hf7
 clear hf7
 go_upto_region 7 with (first
  | (go_at_call 60; go_must (refine (m6).mono ?_; rintro e W7 ⟨rfl, k1, k2⟩; have HG7 := hid (HG6.out.mark k1 k2); clear k1 k2))
  | fail)
 clear q6 m6 HG6
 have q7 : W7.cell? ⟨w.heap.size, 5, none⟩ = some (.slice da dl dc) := HG7.out.cell rfl
 have m7 := mark_any (decide (0 < dl)) (w.heap.size + 1) 16 f7 W7 HG7.out.f
 obtain ⟨f8, hf8⟩ : ∃ y, y = markV (decide (0 < dl)) f7 16 := ⟨_, rfl⟩
 rw [← hf8] at m7
 have HF8 := hid hf8
 clear hf8
 go_upto_region 8 with (first
  | (go_at_call 60; go_must (refine (m7).mono ?_; rintro e W8 ⟨rfl, k1, k2⟩; have HG8 := hid (HG7.out.mark k1 k2); clear k1 k2))
  | fail)
 clear q7 m7 HG7
 have q8 : W8.cell? ⟨w.heap.size, 6, none⟩ = some (.int .i64 made) := HG8.out.cell rfl
 have m8 := mark_any (!decide (made = 0)) (w.heap.size + 1) 32 f8 W8 HG8.out.f
 obtain ⟨f9, hf9⟩ : ∃ y, y = markV (!decide (made = 0)) f8 32 := ⟨_, rfl⟩
 rw [← hf9] at m8
 have HF9 := hid hf9
 clear hf9
 go_upto_region 9 with (first
  | (go_at_call 60; go_must (refine (m8).mono ?_; rintro e W9 ⟨rfl, k1, k2⟩; have HG9 := hid (HG8.out.mark k1 k2); clear k1 k2))
  | fail)
 clear q8 m8 HG8
 have q9 : W9.cell? ⟨w.heap.size, 7, none⟩ = some (.int .i64 pick) := HG9.out.cell rfl
 have m9 := mark_any (!decide (pick = 0)) (w.heap.size + 1) 64 f9 W9 HG9.out.f
 obtain ⟨f10, hf10⟩ : ∃ y, y = markV (!decide (pick = 0)) f9 64 := ⟨_, rfl⟩
 rw [← hf10] at m9
 have HF10 := hid hf10
 clear hf10
 go_upto_region 10 with (first
  | (go_at_call 60; go_must (refine (m9).mono ?_; rintro e W10 ⟨rfl, k1, k2⟩; have HG10 := hid (HG9.out.mark k1 k2); clear k1 k2))
  | fail)
 clear q9 m9 HG9
 have q : W10.cell? ⟨w.heap.size + 1, 0, none⟩ = some (.int .i64 f10) := (cell_of_row _ _ _ _ _ _ HG10.out.f).trans rfl
 have e : f10 = R := by rw [HF10.out, HF9.out, HF8.out, HF7.out, HF6.out, HF5.out, HF4.out, HR.out]; rfl
 subst e
 go_wp2_with fail
 go_ret
 exact ⟨rfl, HG10.out.c⟩
end Go.Proofs.YtmgfilacepnjlaaGreatDoor

namespace Go.Proofs.YtmgfilacepnjlaaGreatDoor
open Go.RowKit

def usedL : List Int := [0, 33, 33, 3, 1, 1, 3, 21, 5, 13, 1, 1, 0, 1, 64]
def UB (w : World) : Prop := 0 < w.heap.size ∧ ∀ k : Nat, k < 15 → w.cell? ⟨0, k, none⟩ = some (.int .i64 (usedL.getD k 0))
theorem UB.keep {w w' : World} {ks : Nat → Prop} (h : UB w) (hc : Chg w w' ks) (hn : ¬ ks 0) : UB w' := by
 refine ⟨Nat.lt_of_lt_of_le h.1 hc.size, fun k hk => ?_⟩
 have := h.2 k hk
 unfold World.cell? at this ⊢
 rw [hc.block _ h.1 hn]
 exact this
theorem szOp : (Tryz.prog.info? 34).map (·.size) = some 8 := by kernel_rfl

set_option maxHeartbeats 2000000 in
set_option maxRecDepth 100000 in
theorem mayBe_ok (kk : Nat) (path tto : ByteArray) (off len : Int) (da : Option Addr) (dl dc : Nat) (made pick : Int) (w : World) (hu : UB w) (h1 : 1 ≤ kk) (h2 : kk ≤ 14) (hz : bits .andNot .i64 (givF path tto off len dl made pick) (usedL.getD kk 0) = 0) (hm0 : 0 ≤ made) (hm1 : made ≤ 1099511627776) :
  Calls Tryz.prog 19 #[.agg (opA (kk : Nat) path tto off len da dl dc made pick)] w fun e w' => e = .returned (.bool true) ∧ Chg w w' No := by
 obtain ⟨w1, hw1⟩ : ∃ y, y = w.alloc (.cells (opA (kk : Nat) path tto off len da dl dc made pick) 34) := ⟨_, rfl⟩
 have hc1 : Chg w w1 No := by rw [hw1]; exact Chg.alloc w _ No
 have hop : w1.heap[w.heap.size]? = some (.cells (opA (kk : Nat) path tto off len da dl dc made pick) 34 (0, 0)) := by rw [hw1]; exact heap_alloc_new w _
 have HOp : Hid (∀ W, Chg w1 W No → W.heap[w.heap.size]? = some (.cells #[.int .i64 (kk : Nat), .string path, .string tto, .int .i64 off, .int .i64 len, .slice da dl dc, .int .i64 made, .int .i64 pick] 34 (0, 0))) := hid (fun W hW => hW.keep hop (fun e => e))
 have HQ0 : Hid (∀ W, Chg w1 W No → W.cell? ⟨w.heap.size, 0, none⟩ = some (.int .i64 (kk : Nat))) := hid (fun W hW => (cell_of_row _ _ _ _ _ _ (HOp.out W hW)).trans rfl)
 have HQ6 : Hid (∀ W, Chg w1 W No → W.cell? ⟨w.heap.size, 6, none⟩ = some (.int .i64 made)) := hid (fun W hW => (cell_of_row _ _ _ _ _ _ (HOp.out W hW)).trans rfl)
 have HU : Hid (∀ W, Chg w1 W No → W.cell? ⟨0, kk, none⟩ = some (.int .i64 (usedL.getD kk 0))) := hid (fun W hW => ((hu.keep hc1 (fun e => e)).keep hW (fun e => e)).2 kk (by omega))
 have HGv : Hid (∀ W, Calls Tryz.prog 40 #[.agg #[.int .i64 (kk : Nat), .string path, .string tto, .int .i64 off, .int .i64 len, .slice da dl dc, .int .i64 made, .int .i64 pick]] W fun e w' => e = .returned (.int .i64 (givF path tto off len dl made pick)) ∧ Chg W w' No) := hid (fun W => given_any _ _ _ _ _ _ _ _ _ _ W)
 have q0 := HQ0.out w1 (Chg.refl _ _)
 obtain ⟨gf, hgf⟩ : ∃ y, y = givF path tto off len dl made pick := ⟨_, rfl⟩
 rw [← hgf] at hz HGv
 obtain ⟨uk, huk⟩ : ∃ y, y = usedL.getD kk 0 := ⟨_, rfl⟩
 rw [← huk] at hz HU
 have HC1 := hid hc1
 have k1 : ¬ (kk : Int) < 1 := by omega
 have k2 : ¬ 14 < (kk : Int) := by omega
 have k3 : (kk : Int) ≤ 14 := by omega
 unfold opA at hw1 ⊢
 rw [hw1] at HOp HQ0 HQ6 HU q0 HC1
 clear hop hc1 hw1 hu hgf huk
 go_enter Tryz.func19, Tryz.ntmps19
 go_upto_region 3 with fail
 refine wp_region_noPanic ?_
 refine wp_region_held_drew (S := fun w' => Chg (w.alloc (.cells #[.int .i64 (kk : Nat), .string path, .string tto, .int .i64 off, .int .i64 len, .slice da dl dc, .int .i64 made, .int .i64 pick] 34)) w' No) (by kernel_rfl) (Chg.refl _ _).drew (fun hH => ?_)
 refine takeR 0 11 34 (.tmp 1) w.heap.size 34 #[.int .i64 (kk : Nat), .string path, .string tto, .int .i64 off, .int .i64 len, .slice da dl dc, .int .i64 made, .int .i64 pick] _ rfl (by kernel_rfl) (by kernel_rfl) (by kernel_rfl) rfl rfl rfl Tryz.underlying34 rfl (by rw [szOp]; rfl) (by rfl) (fun _ _ _ h => h) hH (fun W' hw' => HOp.out W' hw') ?_
 simp only [sS]
 refine tV 2 13 (.pointer (some ⟨w.heap.size, 0, none⟩)) rfl (by kernel_rfl) rfl (by rfl) hH (fun W' hw' => by go_simp) ?_
 simp only [sS]
 refine tV 3 14 (.int .i64 (kk : Nat)) rfl (by kernel_rfl) rfl (by rfl) hH (fun W' hw' => by have hc := HQ0.out W' hw'; go_simp) ?_
 simp only [sS]
 refine tV 4 15 (.pointer (some ⟨0, kk, none⟩)) rfl (by kernel_rfl) rfl (by rfl) hH (fun W' hw' => by go_simp; intro hbad; omega) ?_
 simp only [sS]
 refine tV 5 16 (.int .i64 uk) rfl (by kernel_rfl) rfl (by rfl) hH (fun W' hw' => by have hc := HU.out W' hw'; go_simp) ?_
 simp only [sS]
 refine step1 1 (by kernel_rfl) ?_
 refine stCall 1 12 40 #[.agg #[.int .i64 (kk : Nat), .string path, .string tto, .int .i64 off, .int .i64 len, .slice da dl dc, .int .i64 made, .int .i64 pick]] _ rfl rfl (by rfl) (by go_simp) (HGv.out _) ?_
 rintro e w5 ⟨rfl, hc5⟩
 have hH5 : Chg (w.alloc (.cells #[.int .i64 (kk : Nat), .string path, .string tto, .int .i64 off, .int .i64 len, .slice da dl dc, .int .i64 made, .int .i64 pick] 34)) w5 No := hH.tr hc5
 refine ⟨_, rfl, hH5, ?_⟩
 simp only [sS]
 refine tV 6 17 (.int .i64 0) rfl (by kernel_rfl) rfl (by rfl) hH5 (fun W' hw' => by go_simp <;> exact hz) ?_
 simp only [sS]
 refine tV 7 18 (.bool true) rfl (by kernel_rfl) rfl (by rfl) hH5 (fun W' hw' => by go_simp) ?_
 simp only [sS]
 refine tV 8 19 (.bool true) rfl (by kernel_rfl) rfl (by rfl) hH5 (fun W' hw' => rfl) ?_
 simp only [sS]
 refine tV 9 20 (.pointer (some ⟨w.heap.size, 6, none⟩)) rfl (by kernel_rfl) rfl (by rfl) hH5 (fun W' hw' => by go_simp) ?_
 simp only [sS]
 refine tV 10 21 (.int .i64 made) rfl (by kernel_rfl) rfl (by rfl) hH5 (fun W' hw' => by have hc := HQ6.out W' hw'; go_simp) ?_
 simp only [sS]
 refine tV 11 22 (.bool true) rfl (by kernel_rfl) rfl (by rfl) hH5 (fun W' hw' => by go_simp) ?_
 simp only [sS]
 refine tV 12 23 (.bool true) rfl (by kernel_rfl) rfl (by rfl) hH5 (fun W' hw' => by go_simp) ?_
 simp only [sS]
 refine tV 13 24 (.bool true) rfl (by kernel_rfl) rfl (by rfl) hH5 (fun W' hw' => rfl) ?_
 simp only [sS]
 refine tV 14 25 (.pointer (some ⟨w.heap.size, 6, none⟩)) rfl (by kernel_rfl) rfl (by rfl) hH5 (fun W' hw' => by go_simp) ?_
 simp only [sS]
 refine tV 15 26 (.int .i64 made) rfl (by kernel_rfl) rfl (by rfl) hH5 (fun W' hw' => by have hc := HQ6.out W' hw'; go_simp) ?_
 simp only [sS]
 refine tV 16 27 (.bool true) rfl (by kernel_rfl) rfl (by rfl) hH5 (fun W' hw' => by go_simp) ?_
 simp only [sS]
 refine tV 17 28 (.bool true) rfl (by kernel_rfl) rfl (by rfl) hH5 (fun W' hw' => by go_simp) ?_
 simp only [sS]
 refine tV 18 2 (.bool true) rfl (by kernel_rfl) rfl (by rfl) hH5 (fun W' hw' => rfl) ?_
 simp only [sS]
 refine wpAnyH_done (by kernel_rfl) ?_ _
 refine NoPanic.normal ?_
 have HFin : Hid (Chg w w5 No) := hid (HC1.out.tr hH5)
 clear hH hc5 hH5
 go_wp2_with fail
 go_ret
 exact ⟨rfl, HFin.out⟩
end Go.Proofs.YtmgfilacepnjlaaGreatDoor
