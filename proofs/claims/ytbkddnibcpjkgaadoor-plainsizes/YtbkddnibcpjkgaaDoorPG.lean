/-
  package plain: which fields of an operation are given.
-/
import Derived.Test.YtbkddnibcpjkgaaDoorPV
namespace Go.Proofs.YtbkddnibcpjkgaaDoor
open Go.RowKit

/-- A mark. -/
def markV (b : Bool) (f one : Int) : Int := if b then bits .or .i64 f one else f

set_option maxHeartbeats 1000000 in
set_option maxRecDepth 100000 in
theorem mark_any (b : Bool) (g : Nat) (one f : Int) (w : World) (h : w.heap[g]? = some (.cells #[.int .i64 f] 69 (0, 0))) : Calls Tryd.prog 41 #[.int .i64 one, .bool b, .pointer (some ⟨g, 0, none⟩)] w fun e w' => e = .returned (.tuple #[]) ∧ w'.heap[g]? = some (.cells #[.int .i64 (markV b f one)] 69 (0, 0)) ∧ Chg w w' (· = g) := by
  cases b with
  | false =>
    have H := hid h
    clear h
    go_enter Tryd.func41, Tryd.ntmps41
    go_wp2_with fail
    go_end0
    exact ⟨rfl, H.out, Chg.refl _ _⟩
  | true =>
    have hc : w.cell? ⟨g, 0, none⟩ = some (.int .i64 f) := (cell_of_row _ _ _ _ _ _ h).trans rfl
    have hf : w.frozen? ⟨g, 0, none⟩ = false := frozen_of_row _ _ _ _ _ h
    have H := hid h
    clear h
    go_enter Tryd.func41, Tryd.ntmps41
    go_wp2_with fail
    go_end0
    exact ⟨rfl, heap_setCell_same _ _ _ _ _ _ H.out, Chg.setCell⟩
/-- An operation, as a row. -/
def opA (kind : Int) (path tto : ByteArray) (off len : Int) (da : Option Addr) (dl dc : Nat) (made pick : Int) : Array Value := #[.int .i64 kind, .string path, .string tto, .int .i64 off, .int .i64 len, .slice da dl dc, .int .i64 made, .int .i64 pick]
/-- The fields that are given. -/
def givF (path tto : ByteArray) (off len : Int) (dl : Nat) (made pick : Int) : Int :=
  markV (!decide (pick = 0)) (markV (!decide (made = 0)) (markV (decide (0 < dl)) (markV (!decide (len = 0)) (markV (!decide (off = 0)) (markV (!tto.toList.isEmpty) (markV (!path.toList.isEmpty) 0 1) 2) 4) 8) 16) 32) 64

/-- What lies in memory while the fields are looked at. -/
structure GV (w W : World) (A : Array Value) (f : Int) : Prop where
  op : W.heap[w.heap.size]? = some (.cells A 40 (0, 0))
  f : W.heap[w.heap.size + 1]? = some (.cells #[.int .i64 f] 69 (0, 0))
  c : Chg w W No
theorem GV.mark {w W W' : World} {A : Array Value} {f f' : Int} (h : GV w W A f) (h1 : W'.heap[w.heap.size + 1]? = some (.cells #[.int .i64 f'] 69 (0, 0))) (hc : Chg W W' (· = w.heap.size + 1)) : GV w W' A f' :=
  ⟨hc.keep h.op (by omega), h1, h.c.trans hc (fun _ _ e => e) (fun j hj e => by omega)⟩
theorem GV.cell {w W : World} {A : Array Value} {f : Int} (h : GV w W A f) {k : Nat} {v : Value} (hv : A[k]? = some v) : W.cell? ⟨w.heap.size, k, none⟩ = some v := by rw [cell_of_row _ _ _ _ _ _ h.op]; exact hv

set_option maxHeartbeats 2000000 in
set_option maxRecDepth 100000 in
theorem given_any (kind : Int) (path tto : ByteArray) (off len : Int) (da : Option Addr) (dl dc : Nat) (made pick : Int) (w : World) :
    Calls Tryd.prog 21 #[.agg (opA kind path tto off len da dl dc made pick)] w fun e w' => e = .returned (.int .i64 (givF path tto off len dl made pick)) ∧ Chg w w' No := by
  have hmf : ∀ (fn : Fn) (first cap : Array Value) (w : World), (Instr.makeFunc fn first cap).run Tryd.prog w = .ok (.func fn first cap) w := fun _ _ _ _ => rfl
  obtain ⟨R, hR⟩ : ∃ y, y = givF path tto off len dl made pick := ⟨_, rfl⟩
  rw [← hR]
  have HR := hid hR
  clear hR
  unfold opA
  obtain ⟨W0, hW0⟩ : ∃ y, y = (w.alloc (.cells #[.int .i64 kind, .string path, .string tto, .int .i64 off, .int .i64 len, .slice da dl dc, .int .i64 made, .int .i64 pick] 40)).alloc (.cells #[.int .i64 0] 69) := ⟨_, rfl⟩
  have HG3 : Hid (GV w W0 #[.int .i64 kind, .string path, .string tto, .int .i64 off, .int .i64 len, .slice da dl dc, .int .i64 made, .int .i64 pick] 0) := hid (by
    rw [hW0]
    refine ⟨(Chg.alloc _ _ No).keep (heap_alloc_new w _) (fun e => e), ?_, (Chg.alloc w _ No).tr (Chg.alloc _ _ No)⟩
    have := heap_alloc_new (w.alloc (.cells #[.int .i64 kind, .string path, .string tto, .int .i64 off, .int .i64 len, .slice da dl dc, .int .i64 made, .int .i64 pick] 40)) (.cells #[.int .i64 0] 69)
    rw [show (w.alloc (.cells #[.int .i64 kind, .string path, .string tto, .int .i64 off, .int .i64 len, .slice da dl dc, .int .i64 made, .int .i64 pick] 40)).heap.size = w.heap.size + 1 by simp] at this
    exact this)
  go_enter Tryd.func21, Tryd.ntmps21
  go_upto_region 3 with fail
  rw [← hW0]
  clear hW0 hmf
  have q3 : W0.cell? ⟨w.heap.size, 1, none⟩ = some (.string path) := HG3.out.cell rfl
  have m3 := mark_any (!path.toList.isEmpty) (w.heap.size + 1) 1 0 W0 HG3.out.f
  obtain ⟨f4, hf4⟩ : ∃ y, y = markV (!path.toList.isEmpty) 0 1 := ⟨_, rfl⟩
  rw [← hf4] at m3
  have HF4 := hid hf4
  clear hf4
  go_upto_region 4 with (first
    | (go_at_call 41; go_must (refine (m3).mono ?_; rintro e W4 ⟨rfl, k1, k2⟩; have HG4 := hid (HG3.out.mark k1 k2); clear k1 k2))
    | fail)
  clear q3 m3 HG3
  have q4 : W4.cell? ⟨w.heap.size, 2, none⟩ = some (.string tto) := HG4.out.cell rfl
  have m4 := mark_any (!tto.toList.isEmpty) (w.heap.size + 1) 2 f4 W4 HG4.out.f
  obtain ⟨f5, hf5⟩ : ∃ y, y = markV (!tto.toList.isEmpty) f4 2 := ⟨_, rfl⟩
  rw [← hf5] at m4
  have HF5 := hid hf5
  clear hf5
  go_upto_region 5 with (first
    | (go_at_call 41; go_must (refine (m4).mono ?_; rintro e W5 ⟨rfl, k1, k2⟩; have HG5 := hid (HG4.out.mark k1 k2); clear k1 k2))
    | fail)
  clear q4 m4 HG4
  have q5 : W5.cell? ⟨w.heap.size, 3, none⟩ = some (.int .i64 off) := HG5.out.cell rfl
  have m5 := mark_any (!decide (off = 0)) (w.heap.size + 1) 4 f5 W5 HG5.out.f
  obtain ⟨f6, hf6⟩ : ∃ y, y = markV (!decide (off = 0)) f5 4 := ⟨_, rfl⟩
  rw [← hf6] at m5
  have HF6 := hid hf6
  clear hf6
  go_upto_region 6 with (first
    | (go_at_call 41; go_must (refine (m5).mono ?_; rintro e W6 ⟨rfl, k1, k2⟩; have HG6 := hid (HG5.out.mark k1 k2); clear k1 k2))
    | fail)
  clear q5 m5 HG5
  have q6 : W6.cell? ⟨w.heap.size, 4, none⟩ = some (.int .i64 len) := HG6.out.cell rfl
  have m6 := mark_any (!decide (len = 0)) (w.heap.size + 1) 8 f6 W6 HG6.out.f
  obtain ⟨f7, hf7⟩ : ∃ y, y = markV (!decide (len = 0)) f6 8 := ⟨_, rfl⟩
  rw [← hf7] at m6
  have HF7 := hid hf7
  clear hf7
  go_upto_region 7 with (first
    | (go_at_call 41; go_must (refine (m6).mono ?_; rintro e W7 ⟨rfl, k1, k2⟩; have HG7 := hid (HG6.out.mark k1 k2); clear k1 k2))
    | fail)
  clear q6 m6 HG6
  have q7 : W7.cell? ⟨w.heap.size, 5, none⟩ = some (.slice da dl dc) := HG7.out.cell rfl
  have m7 := mark_any (decide (0 < dl)) (w.heap.size + 1) 16 f7 W7 HG7.out.f
  obtain ⟨f8, hf8⟩ : ∃ y, y = markV (decide (0 < dl)) f7 16 := ⟨_, rfl⟩
  rw [← hf8] at m7
  have HF8 := hid hf8
  clear hf8
  go_upto_region 8 with (first
    | (go_at_call 41; go_must (refine (m7).mono ?_; rintro e W8 ⟨rfl, k1, k2⟩; have HG8 := hid (HG7.out.mark k1 k2); clear k1 k2))
    | fail)
  clear q7 m7 HG7
  have q8 : W8.cell? ⟨w.heap.size, 6, none⟩ = some (.int .i64 made) := HG8.out.cell rfl
  have m8 := mark_any (!decide (made = 0)) (w.heap.size + 1) 32 f8 W8 HG8.out.f
  obtain ⟨f9, hf9⟩ : ∃ y, y = markV (!decide (made = 0)) f8 32 := ⟨_, rfl⟩
  rw [← hf9] at m8
  have HF9 := hid hf9
  clear hf9
  go_upto_region 9 with (first
    | (go_at_call 41; go_must (refine (m8).mono ?_; rintro e W9 ⟨rfl, k1, k2⟩; have HG9 := hid (HG8.out.mark k1 k2); clear k1 k2))
    | fail)
  clear q8 m8 HG8
  have q9 : W9.cell? ⟨w.heap.size, 7, none⟩ = some (.int .i64 pick) := HG9.out.cell rfl
  have m9 := mark_any (!decide (pick = 0)) (w.heap.size + 1) 64 f9 W9 HG9.out.f
  obtain ⟨f10, hf10⟩ : ∃ y, y = markV (!decide (pick = 0)) f9 64 := ⟨_, rfl⟩
  rw [← hf10] at m9
  have HF10 := hid hf10
  clear hf10
  go_upto_region 10 with (first
    | (go_at_call 41; go_must (refine (m9).mono ?_; rintro e W10 ⟨rfl, k1, k2⟩; have HG10 := hid (HG9.out.mark k1 k2); clear k1 k2))
    | fail)
  clear q9 m9 HG9
  have q : W10.cell? ⟨w.heap.size + 1, 0, none⟩ = some (.int .i64 f10) := (cell_of_row _ _ _ _ _ _ HG10.out.f).trans rfl
  have e : f10 = R := by rw [HF10.out, HF9.out, HF8.out, HF7.out, HF6.out, HF5.out, HF4.out, HR.out]; rfl
  subst e
  go_wp2_with fail
  go_ret
  exact ⟨rfl, HG10.out.c⟩
end Go.Proofs.YtbkddnibcpjkgaaDoor
