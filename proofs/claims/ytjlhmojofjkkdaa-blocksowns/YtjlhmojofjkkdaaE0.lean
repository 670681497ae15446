/-
  The document's table and Find.
-/
import Derived.Test.YtjlhmojofjkkdaaD2
-- may lack
namespace Go.Proofs.Ytjlhmojofjkkdaa
open Go.RowKit Go.Shelf

/-- A table of the document: of the sector 0 none. -/
def rtabS (s : Src) (n : Int) : List Int × Int := if n = 0 then (Zp, 0) else tabS s n
theorem rtabS_len (s : Src) (n : Int) : (rtabS s n).1.length = 32 := by
  unfold rtabS
  split
  · exact Zp_len
  · exact tabS_len _ _

set_option maxRecDepth 100000 in
set_option maxHeartbeats 2000000 in
theorem rtable_any (a : Option Addr) (c : Nat) (s : Src) (n : Int) (w : World) (hi : ImgAt w a s.im) :
    Calls Try.prog 26 #[.agg (srcV a c s), .int .i64 n] w fun e w' => e = .returned (.tuple #[.agg (NA (rtabS s n).1), .int .i64 (rtabS s n).2]) ∧ Below w.heap.size w w' := by
  have hzp := zero_ptr
  have hzs := zero_sec
  obtain ⟨SV, hSV⟩ : ∃ y, y = srcV a c s := ⟨_, rfl⟩
  have HSV := hid hSV
  have hS3 : SV.size = 3 := by rw [hSV]; rfl
  have hsec := rdS_sec hi n
  rw [← hSV]
  clear hSV
  obtain ⟨W, hW⟩ : ∃ y, y = (w.alloc (.cells SV 35)).alloc (.cells (NA Zp) 76) := ⟨_, rfl⟩
  have H0 : Hid (W.heap[w.heap.size]? = some (.cells SV 35 (0, 0))) := by rw [hW]; exact heap_alloc2_old w _ _
  have H1 : Hid (W.heap[w.heap.size + 1]? = some (.cells (NA Zp) 76 (0, 0))) := by rw [hW]; exact heap_alloc2_new w _ _
  have HB : Hid (Below w.heap.size w W) := by rw [hW]; exact ((Below.refl _ _).alloc (Nat.le_refl _) _).alloc (by simp) _
  have hR := rRead_any a c s n W (hi.below HB.out)
  rw [← HSV.out] at hR
  go_enter Try.func26, Try.ntmps26
  go_upto_region 1 with fail
  rw [← hW]
  clear hW
  by_cases hn : n = 0
  · have HE : Hid (rtabS s n = (Zp, 0)) := if_pos hn
    have hbp : ∀ W, (Instr.build 76 #[]).run Try.prog W = .ok (.agg (NA Zp)) W := fun W => by kernel_rfl
    subst hn
    clear hzp hR
    go_wp2_with (first
      | (refine store_R rfl 76 (.tmp 4) (.tmp 10) rfl (w.heap.size + 1) (NA Zp) rfl rfl 76 (NA Zp) H1.out (by rw [szP, NA_size, Zp_len]) rfl (NA_one _) ?_; intro w5 p5))
    exact bodyPost_ret (results_R Try.results26 _ _ (w.heap.size + 1) _ 76 _ _ Try.underlying76 rfl (by rw [szP, NA_size, Zp_len]) rfl rfl p5.here) rfl ⟨by rw [HE.out]; rfl, p5.below HB.out (by omega)⟩
  · have HE : Hid (rtabS s n = tabS s n) := if_neg hn
    generalize hR0 : rdS s n = R at *
    have HT : Hid (rtabS s n = if R.2 = 0 then (ptrsTo R.1 32, 0) else (Zp, R.2)) := by rw [HE.out]; unfold tabS; rw [hR0]; exact hid rfl
    clear hR0 HE
    go_upto_region 4 with (first
      | (refine load_R rfl 35 (.tmp 2) rfl w.heap.size rfl 35 SV _ H0.out Try.underlying35 rfl (by rw [szSrc, hS3]) ?_)
      | (go_at_call 32; go_must (refine hR.mono ?_; rintro e w2 ⟨rfl, hb2⟩; have HB2 := hid (btr HB.out hb2 HB.out.size); have H12 : Hid (w2.heap[w.heap.size + 1]? = some (.cells (NA Zp) 76 (0, 0))) := (by rw [hb2.block _ (slt H1.out)]; exact H1); clear hb2))
      | (refine store_sec rfl (.tmp 6) (.tmp 15) rfl w2.heap.size rfl R.1 rfl hsec.1 Zs Zs_len (heap_alloc_new _ _) ?_; go_must (intro w4 p4; have H14 : Hid (w4.heap[w.heap.size + 1]? = some (.cells (NA Zp) 76 (0, 0))) := (by have := slt H12.out; rw [p4.other _ (by omega), Below.heap_alloc _ _ _ this]; exact H12); have H24 := hid p4.here; have HB4 : Hid (Below w.heap.size w w4) := hid (p4.below (HB2.out.alloc HB2.out.size _) HB2.out.size))))
    clear hzp hzs hR
    by_cases hz : R.2 = 0
    · have HT2 : Hid (rtabS s n = (ptrsTo R.1 32, 0)) := by rw [HT.out, if_pos hz]; exact hid rfl
      have hP := rreadPointers_any R.1 hsec w4
      have hpl := ptrsTo_len R.1 32
      generalize ptrsTo R.1 32 = PP at *
      go_wp2_with (first
        | (refine load_sec rfl (.tmp 6) rfl w2.heap.size rfl R.1 hsec.1 H24.out ?_)
        | (go_at_call 33; go_must (refine hP.mono ?_; rintro e y1 ⟨rfl, hb1⟩; have Y1 : Hid (y1.heap[w.heap.size + 1]? = some (.cells (NA Zp) 76 (0, 0))) := (by rw [hb1.block _ (slt H14.out)]; exact H14); have YB := hid (btr HB4.out hb1 HB4.out.size); clear hb1))
        | (refine store_R rfl 76 (.tmp 4) (.tmp 22) rfl (w.heap.size + 1) (NA PP) rfl rfl 76 (NA Zp) Y1.out (by rw [szP, NA_size, hpl]) (by rw [NA_size, NA_size, Zp_len, hpl]) (NA_one _) ?_; intro y2 p2))
      exact bodyPost_ret (results_R Try.results26 _ _ (w.heap.size + 1) _ 76 _ _ Try.underlying76 rfl (by rw [szP, NA_size, hpl]) rfl rfl p2.here) rfl ⟨by rw [HT2.out]; rfl, p2.below YB.out (by omega)⟩
    · have HT2 : Hid (rtabS s n = (Zp, R.2)) := by rw [HT.out, if_neg hz]; exact hid rfl
      have hbp : ∀ W, (Instr.build 76 #[]).run Try.prog W = .ok (.agg (NA Zp)) W := fun W => by kernel_rfl
      go_wp2_with (first
        | (refine store_R rfl 76 (.tmp 4) (.tmp 19) rfl (w.heap.size + 1) (NA Zp) rfl rfl 76 (NA Zp) H14.out (by rw [szP, NA_size, Zp_len]) rfl (NA_one _) ?_; intro y2 p2))
      exact bodyPost_ret (results_R Try.results26 _ _ (w.heap.size + 1) _ 76 _ _ Try.underlying76 rfl (by rw [szP, NA_size, Zp_len]) rfl rfl p2.here) rfl ⟨by rw [HT2.out]; rfl, p2.below HB4.out (by omega)⟩

end Go.Proofs.Ytjlhmojofjkkdaa
