/-
  The document's example, in memory.
-/
import Derived.Test.YtjlhmojofjkkdabD0
namespace Go.Proofs.Ytjlhmojofjkkdab
open Go.RowKit Go.Shelf

def exP1 : List Int := Zp.set 1 22
def exP2 : List Int := (Zp.set 0 41).set 31 42
def exP3 : List Int := (Zp.set 0 23).set 31 24
def exIm : List (List Int) := (((List.replicate 64 Zs).set 30 (ptrS exP1)).set 40 (ptrS exP2)).set 41 (ptrS exP3)
def exS : Src := ⟨exIm, -1, 0⟩
def exZ0 : List Int := [1, 0, 0, 0, 0, 0, 0, 0, 0, 0, 0, 0, 0, 0, 0, 0, 30, 40]
def exZ : List Int := [1, 0, 0, 0, 20, 0, 0, 0, 0, 0, 0, 0, 0, 0, 0, 21, 30, 40]
theorem len_set {im : List (List Int)} (h : ∀ s ∈ im, IsSec s) (k : Nat) {s : List Int} (hs : IsSec s) : ∀ x ∈ im.set k s, IsSec x := by
  intro x hx
  rcases List.mem_or_eq_of_mem_set hx with h1 | h1
  · exact h x h1
  · exact h1 ▸ hs
theorem exIm_sec : ∀ s ∈ exIm, IsSec s :=
  len_set (len_set (len_set (fun s hs => by rw [List.eq_of_mem_replicate hs]; exact Zs_sec) _ (ptrS_sec _)) _ (ptrS_sec _)) _ (ptrS_sec _)
def Z18 : List Int := List.replicate 18 0

set_option maxRecDepth 100000 in
set_option maxHeartbeats 1000000 in
theorem example_any (w : World) :
    Calls Try.prog 12 #[] w fun e w' => ∃ g, e = .returned (.tuple #[.agg (NA exZ), .agg (srcV (some ⟨g, 0, none⟩) 64 exS)]) ∧ ImgAt w' (some ⟨g, 0, none⟩) exIm ∧ Below w.heap.size w w' := by
  have hz1 : ∀ w, (zeroValue 24).run Try.prog w = .ok (.agg (NA Z18)) w := fun w => by kernel_rfl
  have hz2 : ∀ w, (zeroValue 32).run Try.prog w = .ok (.agg #[.slice none 0 0, .int .i64 0, .int .i64 0]) w := fun w => by kernel_rfl
  have hb1 : ∀ w, (Instr.build 24 #[(0, .int .i64 1), (5, .int .i64 30), (6, .int .i64 40)]).run Try.prog w = .ok (.agg (NA exZ0)) w := fun w => by kernel_rfl
  have hb2 : ∀ w, (Instr.build 59 #[(1, .int .i64 22)]).run Try.prog w = .ok (.agg (NA exP1)) w := fun w => by kernel_rfl
  have hb3 : ∀ w, (Instr.build 59 #[(0, .int .i64 41), (31, .int .i64 42)]).run Try.prog w = .ok (.agg (NA exP2)) w := fun w => by kernel_rfl
  have hb4 : ∀ w, (Instr.build 59 #[(0, .int .i64 23), (31, .int .i64 24)]).run Try.prog w = .ok (.agg (NA exP3)) w := fun w => by kernel_rfl
  have hms := fun w => make_secs 64 (by decide) (by decide) w
  obtain ⟨A, hA⟩ : ∃ y, y = (w.alloc (.cells (NA Z18) 24)).alloc (.cells #[.slice none 0 0, .int .i64 0, .int .i64 0] 32) := ⟨_, rfl⟩
  have A0 : Hid (A.heap[w.heap.size]? = some (.cells (NA Z18) 24 (0, 0))) := by rw [hA]; exact heap_alloc2_old w _ _
  have A1 : Hid (A.heap[w.heap.size + 1]? = some (.cells #[.slice none 0 0, .int .i64 0, .int .i64 0] 32 (0, 0))) := by rw [hA]; exact heap_alloc2_new w _ _
  have AB : Hid (Below w.heap.size w A) := by rw [hA]; exact ((Below.refl _ _).alloc (Nat.le_refl _) _).alloc (by simp) _
  have AZ : Hid (A.heap.size = w.heap.size + 2) := by rw [hA]; exact hid (by simp)
  go_enter Try.func12, Try.ntmps12
  go_upto_region 1 with fail
  rw [← hA]
  clear hA
  go_upto_region 4 with (first
    | (refine store_R rfl 24 (.tmp 2) (.tmp 4) rfl A.heap.size (NA exZ0) rfl rfl 24 (NA Z18) (heap_alloc_new _ _) (by rw [szI]; rfl) rfl (NA_one _) ?_; go_must (intro w1 p1; have P1 := hid p1.here; have c4 : w1.cell? ⟨A.heap.size, 4, none⟩ = some (.int .i64 0) := (by rw [cell_of_row _ _ _ _ _ _ p1.here]; rfl); have c15 : w1.cell? ⟨A.heap.size, 15, none⟩ = some (.int .i64 0) := (by rw [cell_of_row _ _ _ _ _ _ p1.here]; rfl); have f4 := frozen_of_row w1 A.heap.size 4 _ _ p1.here; have f15 := frozen_of_row w1 A.heap.size 15 _ _ p1.here)))
  obtain ⟨B, hB⟩ : ∃ y, y = (w1.setCell ⟨A.heap.size, 4, none⟩ (.int .i64 20)).setCell ⟨A.heap.size, 15, none⟩ (.int .i64 21) := ⟨_, rfl⟩
  have B0 : B.heap[A.heap.size]? = some (.cells (NA exZ) 24 (0, 0)) := by
    rw [hB]
    exact heap_setCell_same _ A.heap.size 15 _ _ _ (heap_setCell_same w1 A.heap.size 4 _ _ _ P1.out)
  have BB : Below A.heap.size A B := by
    rw [hB]
    exact ((p1.below ((Below.refl _ _).alloc (Nat.le_refl _) _) (Nat.le_refl _)).setCell (p := ⟨A.heap.size, 4, none⟩) (Nat.le_refl _) _).setCell (p := ⟨A.heap.size, 15, none⟩) (Nat.le_refl _) _
  have HBn : Hid (A.heap.size ≠ B.heap.size) := hid (fun e => by have := slt B0; omega)
  have HBs : Hid (A.heap.size ≤ B.heap.size) := hid BB.size
  rw [← hB]
  clear hB c4 c15 f4 f15 P1 p1 hb1 hz1 hz2
  obtain ⟨C, hC⟩ : ∃ y, y = B.alloc (.cells (SA (zl 8192)) 77) := ⟨_, rfl⟩
  go_upto_region 5 with fail
  rw [← hC]
  have GC : Hid (C.heap[B.heap.size]? = some (.cells (SA (flatI (List.replicate 64 Zs))) 77 (0, 0))) := by rw [hC, ← zl_flat, show 128 * 64 = 8192 from rfl]; exact heap_alloc_new _ _
  have KC : Hid (Below A.heap.size A C) := by rw [hC]; exact BB.alloc BB.size _
  have IC : Hid (C.heap[A.heap.size]? = some (.cells (NA exZ) 24 (0, 0))) := by rw [hC, Below.heap_alloc _ _ _ (slt B0)]; exact B0
  have HSC : Hid (∀ s ∈ List.replicate 64 Zs, IsSec s) := hid (fun s hs => by rw [List.eq_of_mem_replicate hs]; exact Zs_sec)
  have HLC : Hid ((List.replicate 64 Zs).length = 64) := hid (by simp)
  clear hC B0 BB hms
  go_upto_region 6 with (first
    | (go_at_call 19; go_must (refine (rpointersSector_any exP1 rfl _).mono ?_; rintro e u1 ⟨rfl, hb1⟩; have G1 : Hid (u1.heap[B.heap.size]? = some (.cells (SA (flatI (List.replicate 64 Zs))) 77 (0, 0))) := (by rw [hb1.block _ (slt GC.out)]; exact GC); have K1 : Hid (Below A.heap.size A u1) := btr KC.out hb1 KC.out.size; have I1 : Hid (u1.heap[A.heap.size]? = some (.cells (NA exZ) 24 (0, 0))) := (by rw [hb1.block _ (slt IC.out)]; exact IC); clear hb1))
    | (refine store_mid rfl (.tmp 16) (.tmp 14) rfl B.heap.size 3840 rfl (ptrS exP1) rfl (ptrS_sec _).1 77 (flatI (List.replicate 64 Zs)) G1.out (by rw [flat_len128 _ (fun s hs => (HSC.out s hs).1), HLC.out]; decide) ?_; intro v1 q1))
  have HS1v : Hid (∀ s ∈ (List.replicate 64 Zs).set 30 (ptrS exP1), IsSec s) := hid (len_set HSC.out _ (ptrS_sec _))
  have HL1v : Hid (((List.replicate 64 Zs).set 30 (ptrS exP1)).length = 64) := hid (by rw [List.length_set]; exact HLC.out)
  have G1v : Hid (v1.heap[B.heap.size]? = some (.cells (SA (flatI ((List.replicate 64 Zs).set 30 (ptrS exP1)))) 77 (0, 0))) := hid (by have := q1.here; rw [show 3840 = 30 * 128 from rfl, over_flat (fun s hs => (HSC.out s hs).1) (ptrS_sec _).1 (by rw [HLC.out]; decide)] at this; exact this)
  have K1v : Hid (Below A.heap.size A v1) := hid (q1.below K1.out HBs.out)
  have I1v : Hid (v1.heap[A.heap.size]? = some (.cells (NA exZ) 24 (0, 0))) := hid (by rw [q1.other _ HBn.out]; exact I1.out)
  clear q1 G1 K1 I1 GC KC IC
  go_upto_region 7 with (first
    | (go_at_call 19; go_must (refine (rpointersSector_any exP2 rfl _).mono ?_; rintro e u2 ⟨rfl, hb2⟩; have G2 : Hid (u2.heap[B.heap.size]? = some (.cells (SA (flatI ((List.replicate 64 Zs).set 30 (ptrS exP1)))) 77 (0, 0))) := (by rw [hb2.block _ (slt G1v.out)]; exact G1v); have K2 : Hid (Below A.heap.size A u2) := btr K1v.out hb2 K1v.out.size; have I2 : Hid (u2.heap[A.heap.size]? = some (.cells (NA exZ) 24 (0, 0))) := (by rw [hb2.block _ (slt I1v.out)]; exact I1v); clear hb2))
    | (refine store_mid rfl (.tmp 23) (.tmp 21) rfl B.heap.size 5120 rfl (ptrS exP2) rfl (ptrS_sec _).1 77 (flatI ((List.replicate 64 Zs).set 30 (ptrS exP1))) G2.out (by rw [flat_len128 _ (fun s hs => (HS1v.out s hs).1), HL1v.out]; decide) ?_; intro v2 q2))
  have HS2v : Hid (∀ s ∈ (((List.replicate 64 Zs).set 30 (ptrS exP1))).set 40 (ptrS exP2), IsSec s) := hid (len_set HS1v.out _ (ptrS_sec _))
  have HL2v : Hid (((((List.replicate 64 Zs).set 30 (ptrS exP1))).set 40 (ptrS exP2)).length = 64) := hid (by rw [List.length_set]; exact HL1v.out)
  have G2v : Hid (v2.heap[B.heap.size]? = some (.cells (SA (flatI ((((List.replicate 64 Zs).set 30 (ptrS exP1))).set 40 (ptrS exP2)))) 77 (0, 0))) := hid (by have := q2.here; rw [show 5120 = 40 * 128 from rfl, over_flat (fun s hs => (HS1v.out s hs).1) (ptrS_sec _).1 (by rw [HL1v.out]; decide)] at this; exact this)
  have K2v : Hid (Below A.heap.size A v2) := hid (q2.below K2.out HBs.out)
  have I2v : Hid (v2.heap[A.heap.size]? = some (.cells (NA exZ) 24 (0, 0))) := hid (by rw [q2.other _ HBn.out]; exact I2.out)
  clear q2 G2 K2 I2 G1v K1v I1v
  go_upto_region 8 with (first
    | (go_at_call 19; go_must (refine (rpointersSector_any exP3 rfl _).mono ?_; rintro e u3 ⟨rfl, hb3⟩; have G3 : Hid (u3.heap[B.heap.size]? = some (.cells (SA (flatI (((List.replicate 64 Zs).set 30 (ptrS exP1)).set 40 (ptrS exP2)))) 77 (0, 0))) := (by rw [hb3.block _ (slt G2v.out)]; exact G2v); have K3 : Hid (Below A.heap.size A u3) := btr K2v.out hb3 K2v.out.size; have I3 : Hid (u3.heap[A.heap.size]? = some (.cells (NA exZ) 24 (0, 0))) := (by rw [hb3.block _ (slt I2v.out)]; exact I2v); clear hb3))
    | (refine store_mid rfl (.tmp 30) (.tmp 28) rfl B.heap.size 5248 rfl (ptrS exP3) rfl (ptrS_sec _).1 77 (flatI (((List.replicate 64 Zs).set 30 (ptrS exP1)).set 40 (ptrS exP2))) G3.out (by rw [flat_len128 _ (fun s hs => (HS2v.out s hs).1), HL2v.out]; decide) ?_; intro v3 q3))
  have HS3v : Hid (∀ s ∈ ((((List.replicate 64 Zs).set 30 (ptrS exP1)).set 40 (ptrS exP2))).set 41 (ptrS exP3), IsSec s) := hid (len_set HS2v.out _ (ptrS_sec _))
  have HL3v : Hid ((((((List.replicate 64 Zs).set 30 (ptrS exP1)).set 40 (ptrS exP2))).set 41 (ptrS exP3)).length = 64) := hid (by rw [List.length_set]; exact HL2v.out)
  have G3v : Hid (v3.heap[B.heap.size]? = some (.cells (SA (flatI (((((List.replicate 64 Zs).set 30 (ptrS exP1)).set 40 (ptrS exP2))).set 41 (ptrS exP3)))) 77 (0, 0))) := hid (by have := q3.here; rw [show 5248 = 41 * 128 from rfl, over_flat (fun s hs => (HS2v.out s hs).1) (ptrS_sec _).1 (by rw [HL2v.out]; decide)] at this; exact this)
  have K3v : Hid (Below A.heap.size A v3) := hid (q3.below K3.out HBs.out)
  have I3v : Hid (v3.heap[A.heap.size]? = some (.cells (NA exZ) 24 (0, 0))) := hid (by rw [q3.other _ HBn.out]; exact I3.out)
  clear q3 G3 K3 I3 G2v K2v I2v
  have hb5 : ∀ (a : Option Addr) (n c : Nat) w, (Instr.build 32 #[(0, .slice a n c), (1, .int .i64 (-1))]).run Try.prog w = .ok (.agg #[.slice a n c, .int .i64 (-1), .int .i64 0]) w := fun a n c w => by kernel_rfl
  have J0 : Hid (v3.heap[w.heap.size]? = some (.cells (NA Z18) 24 (0, 0))) := by rw [K3v.out.block _ (slt A0.out)]; exact A0
  have J1 : Hid (v3.heap[w.heap.size + 1]? = some (.cells #[.slice none 0 0, .int .i64 0, .int .i64 0] 32 (0, 0))) := by rw [K3v.out.block _ (slt A1.out)]; exact A1
  have hn1 : Hid (A.heap.size ≠ w.heap.size ∧ A.heap.size ≠ w.heap.size + 1 ∧ B.heap.size ≠ w.heap.size ∧ B.heap.size ≠ w.heap.size + 1) := hid (by have := AZ.out; have := HBs.out; omega)
  have JB : Hid (Below w.heap.size w v3) := btr AB.out K3v.out AB.out.size
  clear hb2 hb3 hb4 A0 A1
  go_wp2_with (first
    | (refine load_R rfl 24 (.tmp 2) rfl A.heap.size rfl 24 (NA exZ) _ I3v.out Try.underlying24 rfl (by rw [szI]; rfl) ?_)
    | (refine store_R rfl 24 (.tmp 0) (.tmp 31) rfl w.heap.size (NA exZ) rfl rfl 24 (NA Z18) J0.out (by rw [szI]; rfl) rfl (NA_one _) ?_; go_must (intro y1 r1; have R1 : Hid (y1.heap[w.heap.size + 1]? = some (.cells #[.slice none 0 0, .int .i64 0, .int .i64 0] 32 (0, 0))) := (by rw [r1.other _ (by omega)]; exact J1)))
    | (refine store_R rfl 32 (.tmp 1) (.tmp 33) rfl (w.heap.size + 1) #[.slice (some ⟨B.heap.size, 0, none⟩) 64 64, .int .i64 (-1), .int .i64 0] rfl rfl 32 #[.slice none 0 0, .int .i64 0, .int .i64 0] R1.out (by rw [szSrc]; rfl) rfl (by simp [Value.oneCell']) ?_; go_must (intro y2 r2)))
  have Y0 : y2.heap[w.heap.size]? = some (.cells (NA exZ) 24 (0, 0)) := by rw [r2.other _ (by omega)]; exact r1.here
  have Y2 : y2.heap[B.heap.size]? = some (.cells (SA (flatI exIm)) 77 (0, 0)) := by rw [r2.other _ hn1.out.2.2.2, r1.other _ hn1.out.2.2.1]; exact G3v.out
  have YB : Below w.heap.size w y2 := r2.below (r1.below JB.out (Nat.le_refl _)) (by omega)
  refine bodyPost_ret (results_2 Try.results12 _ _ w.heap.size (w.heap.size + 1) _ _ rfl rfl (run_loadR _ w.heap.size 24 24 _ _ Y0 Try.underlying24 rfl (by rw [szI]; rfl)) (run_loadR _ (w.heap.size + 1) 32 32 _ _ r2.here Try.underlying32 rfl (by rw [szSrc]; rfl))) rfl ⟨B.heap.size, rfl, img_flat Y2 exIm_sec, YB⟩

theorem ex_len : exIm.length = 64 := by simp [exIm]
theorem ex_find : findR exS exZ 75 = (24, 0) := by kernel_rfl
theorem ex_tables : tblR exS exZ = ([30, 40, 41, 42], 0) := by kernel_rfl
theorem ex_need : needR exS exZ [76, 107, 108] = (5, 0) := by kernel_rfl
theorem ex_spots : spotsOf (rowsL exS exZ) = [⟨0, 20, 0⟩, ⟨11, 21, 0⟩, ⟨13, 22, 0⟩, ⟨44, 23, 0⟩, ⟨75, 24, 0⟩] := by kernel_rfl
theorem ex_way : wayR 1067 = (2, 31, 31, 0) := by kernel_rfl

end Go.Proofs.Ytjlhmojofjkkdab
