/-
 Proved: LookWells returns true for every image (if it is not refused, what it should be is well-formed, of the same size, behind the same first sector; and a look at that finds nothing to write, and the same inodes and blocks), with no condition.
-/
import Derived.Test.YtpmignilhoihnaaGreatS16
import Derived.Test.YtpmignilhoihnaaGreatWStands
import Derived.Test.YtpmignilhoihnaaGreatOpenE
namespace Go.Proofs.YtpmignilhoihnaaGreat
open Go.RowKit Go.Shelf

/-- What should be is as it should be. -/
theorem want_fix {M : Nat} {im : Img} (hMl : M < im.length) (hs : AllSec im) (hr : rootB M im = true) : supOf (lookL M im).wt = supOf im ∧ rootB M (lookL M im).wt = true ∧ lookL M (lookL M im).wt = lookL M im := by
 have h1 := cut_sup (M := M) (im := im) hr (writeI M im (lookL M im)).length
 have h2 := cut_look hMl hs hr (writeI M im (lookL M im)).length
 rw [cut_all hr] at h1 h2
 exact ⟨h1, h2.1, h2.2⟩
theorem want_well {w0 w : World} {im : Img} {M gw s1 : Nat} {a1 a2 a3 : Option Addr} (h : LkC w0 w im M gw s1 a1 a2 a3) : WellI (lookL M im).wt := by
 have hml := h.ml
 obtain ⟨e1, e2, e3⟩ := want_fix (by omega) h.sec h.root
 refine (well_fix h.wt.sec).2 ?_
 rw [e1, ← h.hM, e3]
 exact ⟨h.sup, e2, rfl⟩
/-- Looked at again, it tells the same. -/
theorem look_again {w0 w W : World} {im : Img} {M gw wc s1 : Nat} {a1 a2 a3 : Option Addr} (h : LkC w0 w im M gw s1 a1 a2 a3) (hW : WtAt W gw (lookL M im).wt) :
  Calls Tryz.prog 10 #[.slice (some ⟨gw, 0, none⟩) im.length wc] W fun e w' => ∃ g2 c2 t1 t2 t3 b1 b2 b3, e = .returned (.tuple #[.agg #[.slice (some ⟨g2, 0, none⟩) im.length c2, .slice b1 0 t1, .slice b2 (inodesI M (lookL M im)).length t2, .slice b3 (blocksI im (lookL M im)).length t3], .int .i64 0]) ∧ WtAt w' g2 (lookL M im).wt ∧ LAt w' b2 (inodesI M (lookL M im)) ∧ LAt w' b3 (blocksI im (lookL M im)) ∧ Chg W w' No := by
 have hml := h.ml
 obtain ⟨e1, e2, e3⟩ := want_fix (by omega) h.sec h.root
 have hbl : blocksI (lookL M im).wt (lookL M im) = blocksI im (lookL M im) := by unfold blocksI; rw [h.tl]
 have hk := look_c (some ⟨gw, 0, none⟩) wc (lookL M im).wt W (ImgAt.of_wt hW)
 rw [h.tl] at hk
 refine hk.mono ?_
 rintro e w' ⟨hc, ⟨hr, _⟩ | ⟨M', g2, c2, t1, t2, t3, b1, b2, b3, rfl, hX⟩⟩
 ·rw [e1, ← h.hM, e2] at hr
  cases hr h.sup
 ·have hM' : M' = M := by rw [hX.hM, e1, ← h.hM]
  subst hM'
  have h0 : (writeI M' (lookL M' im).wt (lookL M' (lookL M' im).wt)).length = 0 := (write_nil hX.tl).2 (by rw [e3])
  have x1 := hX.wt
  have x2 := hX.l2
  have x3 := hX.l3
  rw [h0, e3, hbl]
  rw [e3] at x1 x2
  rw [e3, hbl] at x3
  exact ⟨g2, c2, t1, t2, t3, b1, b2, b3, rfl, x1, x2, x3, hc⟩
end Go.Proofs.YtpmignilhoihnaaGreat

namespace Go.Proofs.YtpmignilhoihnaaGreat
open Go.RowKit Go.Shelf

theorem rep_range {w : World} {g : Nat} {A : Array Value} {t : TypeId} (h : w.heap[g]? = some (.cells A t (0, 0))) : w.rangeAt g 0 A.toList := by
 intro j v hv
 rw [Nat.zero_add, cell_of_row _ _ _ _ _ _ h, ← Array.getElem?_toList]
 exact hv
theorem build_nil (w : World) : (Instr.build 26 #[]).run Tryz.prog w = .ok (.agg nil4) w := by kernel_rfl

set_option maxHeartbeats 2000000 in
set_option maxRecDepth 100000 in
theorem same_nil (w : World) : Calls Tryz.prog 12 #[.agg nil4, .agg nil4] w fun e w' => e = .returned (.bool true) ∧ Chg w w' No := by
 have hS := fun W => secs_same [] none none 0 0 W (by simp) ⟨fun s hs => (by cases hs), .inl rfl⟩ ⟨fun s hs => (by cases hs), .inl rfl⟩
 have hL := fun W => ints_like [] none none 0 0 W (by simp) (.inl rfl) (.inl rfl)
 simp only [List.length_nil] at hS hL
 have HS := hid hS
 have HL := hid hL
 obtain ⟨W1, hW1⟩ : ∃ x, x = (w.alloc (.cells nil4 26)).alloc (.cells nil4 26) := ⟨_, rfl⟩
 have h0 : Chg w W1 No := by rw [hW1]; exact (Chg.alloc _ _ No).tr (Chg.alloc _ _ No)
 have g1 : W1.heap[w.heap.size]? = some (.cells nil4 26 (0, 0)) := by rw [hW1]; exact (Chg.alloc _ _ No).keep (heap_alloc_new _ _) (fun e => e)
 have g2 : W1.heap[w.heap.size + 1]? = some (.cells nil4 26 (0, 0)) := by
  have := heap_alloc_new (w.alloc (.cells nil4 26)) (.cells nil4 26)
  rw [World.size_alloc] at this
  rw [hW1]; exact this
 have HQ : Hid (∀ W, Chg W1 W No → ∀ j, j < 4 → W.cell? ⟨w.heap.size, j, none⟩ = some (.slice none 0 0) ∧ W.cell? ⟨w.heap.size + 1, j, none⟩ = some (.slice none 0 0)) := hid (fun W hW j hj => by
  have e : ∀ j, j < 4 → nil4[j]? = some (.slice none 0 0) := by
   intro j hj
   match j, hj with
   | 0, _ => rfl
   | 1, _ => rfl
   | 2, _ => rfl
   | 3, _ => rfl
  exact ⟨(cell_of_row _ _ _ _ _ _ (hW.keep g1 (fun e => e))).trans (e j hj), (cell_of_row _ _ _ _ _ _ (hW.keep g2 (fun e => e))).trans (e j hj)⟩)
 have H0 := hid h0
 clear hS hL g1 g2 h0
 go_enter Tryz.func12, Tryz.ntmps12
 go_upto_region 1 with fail
 rw [← hW1]
 clear hW1
 obtain ⟨p0, p1⟩ := HQ.out W1 (Chg.refl _ _) 0 (by omega)
 go_wp2_with (first
  | (go_at_call 13; go_must (refine (HS.out _).mono ?_; rintro e w2 ⟨rfl, hc2⟩; obtain ⟨p2, p3⟩ := HQ.out w2 hc2 1 (by omega)))
  | (go_at_call 17; go_must (first | (refine (HL.out w4).mono ?_; rintro e w5 ⟨rfl, hc5⟩) | (refine (HL.out w3).mono ?_; rintro e w4 ⟨rfl, hc4⟩; obtain ⟨p6, p7⟩ := HQ.out w4 ((hc2.tr hc3).tr hc4) 3 (by omega)) | (refine (HL.out w2).mono ?_; rintro e w3 ⟨rfl, hc3⟩; obtain ⟨p4, p5⟩ := HQ.out w3 (hc2.tr hc3) 2 (by omega))))
  | fail)
 go_ret
 exact ⟨rfl, (((H0.out.tr hc2).tr hc3).tr hc4).tr hc5⟩

set_option maxHeartbeats 4000000 in
set_option maxRecDepth 100000 in
theorem wells_walk (ia : Option Addr) (ic : Nat) (im : Img) (W : World) (h : ImgAt W ia im) (hn : im.length ≤ 9223372036854775807) :
  Calls Tryz.prog 5 #[.slice ia im.length ic] W fun e w' => e = .returned (.bool true) ∧ Below W.heap.size W w' := by
 have hzr := zero_rep
 have hbr := build_nil
 have hK := known_any W
 have HI := hid h
 have HLk := hid (fun W' hW => look_c ia ic im W' hW)
 have HKp := hid (fun M (hr : rootB M im = true) => lookL_kp hr)
 obtain ⟨n, hnn⟩ : ∃ y, y = im.length := ⟨_, rfl⟩
 have HNN := hid hnn
 rw [← hnn] at HLk hn ⊢
 clear h hnn
 go_enter Tryz.func5, Tryz.ntmps5
 go_upto_region 4 with (first
  | (go_at_call 9; go_must (refine hK.mono ?_; rintro e w1 ⟨rfl, hc1⟩; have hLk := HLk.out w1 (HI.out.keep hc1 (fun _ _ e => e))))
  | fail)
 have HC1 := hid hc1
 clear hc1 hK HLk
 go_upto_region 5 with (first
  | (go_at_call 10; go_must (refine hLk.mono ?_; rintro e w2 ⟨hc2, ⟨_, E, hE, rfl⟩ | ⟨M, gw, wc, s1, s2, s3, a1, a2, a3, rfl, hX⟩⟩))
  | (refine store_R rfl 26 _ _ rfl w2.heap.size nil4 rfl rfl 26 _ (heap_alloc_new _ _) szRep rfl nil4_one ?_; intro w3 hw3)
  | (refine store_R rfl 26 _ _ rfl w2.heap.size #[.slice (some ⟨gw, 0, none⟩) n wc, .slice a1 (writeI M im (lookL M im)).length s1, .slice a2 (inodesI M (lookL M im)).length s2, .slice a3 (blocksI im (lookL M im)).length s3] rfl rfl 26 _ (heap_alloc_new _ _) szRep rfl (rep_one _ _ _ rfl rfl rfl) ?_; intro w3 hw3)
  | fail)
 ·have h03 : Chg W w3 No := ((HC1.out.tr hc2).tr (Chg.alloc w2 _ No)).trans (kt_new hw3) (fun _ _ e => e) (fun j hj e => by have := (HC1.out.tr hc2).size; omega)
  have HC3 := hid h03
  have HG3 := hid hw3.here
  have hSN := same_nil w3
  clear h03 hw3 hc2 hLk
  rcases hE with rfl | rfl
  ·go_wp2_with (first
    | (refine load_mid 26 _ rfl w2.heap.size 0 rfl nil4.toList _ (rep_range HG3.out) Tryz.underlying26 rfl (by rw [szRep]; rfl) (by first | rfl | go_simp) ?_)
    | (go_at_call 12; go_must (refine hSN.mono ?_; rintro e w4 ⟨rfl, hc4⟩))
    | fail)
   go_ret
   exact ⟨rfl, (HC3.out.tr hc4).below⟩
  ·go_wp2_with (first
    | (refine load_mid 26 _ rfl w2.heap.size 0 rfl nil4.toList _ (rep_range HG3.out) Tryz.underlying26 rfl (by rw [szRep]; rfl) (by first | rfl | go_simp) ?_)
    | (go_at_call 12; go_must (refine hSN.mono ?_; rintro e w4 ⟨rfl, hc4⟩))
    | fail)
   go_ret
   exact ⟨rfl, (HC3.out.tr hc4).below⟩
 ·have h23 : Chg w2 w3 No := (Chg.alloc w2 _ No).trans (kt_new hw3) (fun _ _ e => e) (fun j hj e => by omega)
  have HC3 : Hid (Chg W w3 No) := hid ((HC1.out.tr hc2).tr h23)
  have HG3 := hid hw3.here
  obtain ⟨g4, hg4⟩ : ∃ y, y = w2.heap.size := ⟨_, rfl⟩
  rw [← hg4] at HG3 ⊢
  have hn1 : 8 ≤ n := by rw [HNN.out]; exact hX.n1
  have HN2 : Hid (n ≤ 4096) := hid (by rw [HNN.out]; exact hX.n2)
  have HTw := hid (want_well hX)
  have HX := hid hX
  have HWt := hid (hX.wt.keep h23 (fun e => e))
  have HL2 := hid (hX.l2.call h23)
  have HL3 := hid (hX.l3.call h23)
  have hk0 := (HKp.out M hX.root).sec
  have HTl : Hid ((lookL M im).wt.length = n) := hid (by rw [HNN.out]; exact hX.tl)
  have HAg := hid (fun W' hW => look_again (W := W') (wc := wc) hX hW)
  rw [← HNN.out] at HAg
  obtain ⟨T, hT⟩ : ∃ x, x = (lookL M im).wt := ⟨_, rfl⟩
  rw [← hT] at HTw HWt hk0 HTl HAg
  obtain ⟨iN, hiN⟩ : ∃ x, x = inodesI M (lookL M im) := ⟨_, rfl⟩
  obtain ⟨bN, hbN⟩ : ∃ x, x = blocksI im (lookL M im) := ⟨_, rfl⟩
  have HiL : Hid (iN.length ≤ 20000) := hid (by
   rw [hiN]
   have h1 := keysL_len (M + 1) fun x => ((lookL M im).tk x).isSome
   have h2 := hX.ml; have h3 := hX.n2
   unfold inodesI
   omega)
  have HbL : Hid (bN.length ≤ 20000) := hid (by
   rw [hbN]
   have h1 := keysL_len im.length (lookL M im).cl
   have h3 := hX.n2
   unfold blocksI
   omega)
  rw [← hiN, ← hbN] at HAg HG3 ⊢
  rw [← hiN] at HL2
  rw [← hbN] at HL3
  obtain ⟨wl, hwl⟩ : ∃ x, x = (writeI M im (lookL M im)).length := ⟨_, rfl⟩
  rw [← hwl] at HG3 ⊢
  obtain ⟨b, o, hia, hb, hrg⟩ := img_range (HI.out.keep HC3.out (fun _ _ e => e)) (by rw [← HNN.out]; omega)
  subst hia
  obtain ⟨s0, hs0⟩ : ∃ x, x = secI im 0 := ⟨_, rfl⟩
  have HS0 : Hid (IsSec s0) := hid (by rw [hs0]; exact HX.out.sec 0)
  have HR0 : Hid (∀ W', Chg w3 W' No → W'.rangeAt b (o + 0 * 128) (s0.map (Value.int .u8))) := hid (fun W' hW => by rw [hs0]; exact hrg W' hW 0 (by rw [← HNN.out]; omega))
  have HT0 : Hid (∀ W', Chg w3 W' No → W'.rangeAt gw (0 * 128) (s0.map (Value.int .u8))) := hid (fun W' hW => by
   rw [hs0, ← hk0]
   exact (HWt.out.keep hW (fun e => e)).range (k := 0) (by rw [HTl.out]; omega))
  have HQ0 : Hid (∀ W', Chg w3 W' No → W'.cell? ⟨g4, 0, none⟩ = some (.slice (some ⟨gw, 0, none⟩) n wc)) := hid (fun W' hW => (cell_of_row _ _ _ _ _ _ (hW.keep HG3.out (fun e => e))).trans rfl)
  have hWl := fun W' hW => wellB_c (some ⟨gw, 0, none⟩) wc n T HTl.out.symm W' hW true (wellB_true HTw.out)
  have HWl := hid hWl
  have n0 : (0 : Int) < (n : Int) := by omega
  have n0b : ((n : Int) == 0) = false := by simp; omega
  clear hX h23 hw3 hg4 hc2 hLk hk0 hT hiN hbN hwl hb hrg hs0 hWl hn1 HKp HX HTw
  go_upto_region 7 with fail
  refine wp_region_noPanic ?_
  refine wp_region_held_drew (S := fun w' => Chg w3 w' No) (by kernel_rfl) (Chg.refl _ _).drew (fun hHeld => ?_)
  refine takeVal 0 32 (.pointer (some ⟨g4, 0, none⟩)) rfl (by kernel_rfl) (by kernel_rfl) (by kernel_rfl) rfl (by rfl) (fun _ _ _ h => h) hHeld (fun W' hw' => by go_simp) ?_
  simp only [sA, sB, sC]
  refine takeVal 1 33 (.slice (some ⟨gw, 0, none⟩) n wc) rfl (by kernel_rfl) (by kernel_rfl) (by kernel_rfl) rfl (by rfl) (fun _ _ _ h => h) hHeld (fun W' hw' => by have hc := HQ0.out W' hw'; go_simp) ?_
  simp only [sA, sB, sC]
  refine takeVal 2 34 (.int .i64 (n : Int)) rfl (by kernel_rfl) (by kernel_rfl) (by kernel_rfl) rfl (by rfl) (fun _ _ _ h => h) hHeld (fun W' hw' => by go_simp) ?_
  simp only [sA, sB, sC]
  refine takeVal 3 35 (.slice (some ⟨b, o, none⟩) n ic) rfl (by kernel_rfl) (by kernel_rfl) (by kernel_rfl) rfl (by rfl) (fun _ _ _ h => h) hHeld (fun W' hw' => rfl) ?_
  simp only [sA, sB, sC]
  refine takeVal 4 36 (.int .i64 (n : Int)) rfl (by kernel_rfl) (by kernel_rfl) (by kernel_rfl) rfl (by rfl) (fun _ _ _ h => h) hHeld (fun W' hw' => by go_simp) ?_
  simp only [sA, sB, sC]
  refine takeVal 5 37 (.bool false) rfl (by kernel_rfl) (by kernel_rfl) (by kernel_rfl) rfl (by rfl) (fun _ _ _ h => h) hHeld (fun W' hw' => by go_simp) ?_
  simp only [sA, sB, sC]
  refine takeVal 6 38 (.bool false) rfl (by kernel_rfl) (by kernel_rfl) (by kernel_rfl) rfl (by rfl) (fun _ _ _ h => h) hHeld (fun W' hw' => rfl) ?_
  simp only [sA, sB, sC]
  refine takeVal 7 39 (.slice (some ⟨b, o, none⟩) n ic) rfl (by kernel_rfl) (by kernel_rfl) (by kernel_rfl) rfl (by rfl) (fun _ _ _ h => h) hHeld (fun W' hw' => rfl) ?_
  simp only [sA, sB, sC]
  refine takeVal 8 40 (.int .i64 (n : Int)) rfl (by kernel_rfl) (by kernel_rfl) (by kernel_rfl) rfl (by rfl) (fun _ _ _ h => h) hHeld (fun W' hw' => by go_simp) ?_
  simp only [sA, sB, sC]
  refine takeVal 9 41 (.bool false) rfl (by kernel_rfl) (by kernel_rfl) (by kernel_rfl) rfl (by rfl) (fun _ _ _ h => h) hHeld (fun W' hw' => by go_simp) ?_
  simp only [sA, sB, sC]
  refine takeVal 10 42 (.bool false) rfl (by kernel_rfl) (by kernel_rfl) (by kernel_rfl) rfl (by rfl) (fun _ _ _ h => h) hHeld (fun W' hw' => by go_simp) ?_
  simp only [sA, sB, sC]
  refine takeVal 11 43 (.bool false) rfl (by kernel_rfl) (by kernel_rfl) (by kernel_rfl) rfl (by rfl) (fun _ _ _ h => h) hHeld (fun W' hw' => rfl) ?_
  simp only [sA, sB, sC]
  refine takeVal 12 44 (.pointer (some ⟨g4, 0, none⟩)) rfl (by kernel_rfl) (by kernel_rfl) (by kernel_rfl) rfl (by rfl) (fun _ _ _ h => h) hHeld (fun W' hw' => by go_simp) ?_
  simp only [sA, sB, sC]
  refine takeVal 13 45 (.slice (some ⟨gw, 0, none⟩) n wc) rfl (by kernel_rfl) (by kernel_rfl) (by kernel_rfl) rfl (by rfl) (fun _ _ _ h => h) hHeld (fun W' hw' => by have hc := HQ0.out W' hw'; go_simp) ?_
  simp only [sA, sB, sC]
  refine takeVal 14 46 (.pointer (some ⟨gw, 0 * 128, none⟩)) rfl (by kernel_rfl) (by kernel_rfl) (by kernel_rfl) rfl (by rfl) (fun _ _ _ h => h) hHeld (fun W' hw' => by go_simp; intro q; omega) ?_
  simp only [sA, sB, sC]
  refine takeMid 15 47 (.tmp 46) gw (0 * 128) s0 HS0.out.1 rfl (by kernel_rfl) (by kernel_rfl) (by kernel_rfl) rfl rfl rfl (by rfl) (fun _ _ _ h => h) hHeld (fun W' hw' => HT0.out W' hw') ?_
  simp only [sA, sB, sC]
  refine takeVal 16 48 (.slice (some ⟨b, o, none⟩) n ic) rfl (by kernel_rfl) (by kernel_rfl) (by kernel_rfl) rfl (by rfl) (fun _ _ _ h => h) hHeld (fun W' hw' => rfl) ?_
  simp only [sA, sB, sC]
  refine takeVal 17 49 (.pointer (some ⟨b, o + 0 * 128, none⟩)) rfl (by kernel_rfl) (by kernel_rfl) (by kernel_rfl) rfl (by rfl) (fun _ _ _ h => h) hHeld (fun W' hw' => by go_simp; intro q; omega) ?_
  simp only [sA, sB, sC]
  refine takeMid 18 50 (.tmp 49) b (o + 0 * 128) s0 HS0.out.1 rfl (by kernel_rfl) (by kernel_rfl) (by kernel_rfl) rfl rfl rfl (by rfl) (fun _ _ _ h => h) hHeld (fun W' hw' => HR0.out W' hw') ?_
  simp only [sA, sB, sC]
  refine takeNe 19 51 (.tmp 47) (.tmp 50) s0 s0 true HS0.out.1 HS0.out.1 (decide_eq_true rfl) rfl (by kernel_rfl) (by kernel_rfl) (by kernel_rfl) rfl rfl rfl rfl (by rfl) (fun _ _ _ h => h) hHeld ?_
  simp only [sA, sB, sC]
  refine takeVal 20 52 (.bool false) rfl (by kernel_rfl) (by kernel_rfl) (by kernel_rfl) rfl (by rfl) (fun _ _ _ h => h) hHeld (fun W' hw' => by go_simp) ?_
  simp only [sA, sB, sC]
  refine takeVal 21 53 (.bool false) rfl (by kernel_rfl) (by kernel_rfl) (by kernel_rfl) rfl (by rfl) (fun _ _ _ h => h) hHeld (fun W' hw' => rfl) ?_
  simp only [sA, sB, sC]
  refine takeVal 22 54 (.pointer (some ⟨g4, 0, none⟩)) rfl (by kernel_rfl) (by kernel_rfl) (by kernel_rfl) rfl (by rfl) (fun _ _ _ h => h) hHeld (fun W' hw' => by go_simp) ?_
  simp only [sA, sB, sC]
  refine takeVal 23 55 (.slice (some ⟨gw, 0, none⟩) n wc) rfl (by kernel_rfl) (by kernel_rfl) (by kernel_rfl) rfl (by rfl) (fun _ _ _ h => h) hHeld (fun W' hw' => by have hc := HQ0.out W' hw'; go_simp) ?_
  simp only [sA, sB, sC]
  refine step1 24 (by kernel_rfl) ?_
  refine stCall 24 56 16 #[.slice (some ⟨gw, 0, none⟩) n wc] _ rfl rfl (by rfl) (by go_simp) (HWl.out _ (ImgAt.of_wt (HWt.out.keep hHeld (fun e => e)))) ?_
  rintro e w5 ⟨rfl, hc5⟩
  have hH5 : Chg w3 w5 No := hHeld.tr hc5
  clear hHeld hc5
  refine ⟨_, rfl, hH5, ?_⟩
  simp only [sA, sB, sC]
  refine takeVal 25 57 (.bool false) rfl (by kernel_rfl) (by kernel_rfl) (by kernel_rfl) rfl (by rfl) (fun _ _ _ h => h) hH5 (fun W' hw' => by go_simp) ?_
  simp only [sA, sB, sC]
  refine takeVal 26 58 (.bool false) rfl (by kernel_rfl) (by kernel_rfl) (by kernel_rfl) rfl (by rfl) (fun _ _ _ h => h) hH5 (fun W' hw' => by go_simp) ?_
  simp only [sA, sB, sC]
  refine wpAnyH_done (by kernel_rfl) ?_ _
  refine NoPanic.normal ?_
  have HC5 := hid (HC3.out.tr hH5)
  have HG5 := hid (hH5.keep HG3.out (fun e => e))
  have HWt5 := hid (HWt.out.keep hH5 (fun e => e))
  have HL25 := hid (HL2.out.call hH5)
  have HL35 := hid (HL3.out.call hH5)
  have r0 := HQ0.out w5 hH5
  have hAg := HAg.out w5 HWt5.out
  clear hH5 HWt HG3 HL2 HL3 HR0 HT0 HQ0 HWl HAg
  go_upto_region 10 with (first
   | (go_at_call 10; go_must (refine hAg.mono ?_; rintro e w6 ⟨g2, c2, t1, t2, t3, b1, b2, b3, rfl, hx1, hx2, hx3, hc6⟩))
   | (refine store_R rfl 26 _ _ rfl w6.heap.size #[.slice (some ⟨g2, 0, none⟩) n c2, .slice b1 0 t1, .slice b2 iN.length t2, .slice b3 bN.length t3] rfl rfl 26 _ (heap_alloc_new _ _) szRep rfl (rep_one _ _ _ rfl rfl rfl) ?_; intro w7 hw7)
   | fail)
  have h67 : Chg w6 w7 No := (Chg.alloc w6 _ No).trans (kt_new hw7) (fun _ _ e => e) (fun j hj e => by omega)
  have HG7 := hid hw7.here
  obtain ⟨g7, hg7⟩ : ∃ y, y = w6.heap.size := ⟨_, rfl⟩
  rw [← hg7] at HG7 ⊢
  have hc67 := hc6.tr h67
  have HC7 := hid (HC5.out.tr hc67)
  have HG4 := hid (hc67.keep HG5.out (fun e => e))
  have HSm : Hid (∀ W', Chg w7 W' No → Calls Tryz.prog 13 #[.slice (some ⟨g2, 0, none⟩) n c2, .slice (some ⟨gw, 0, none⟩) n wc] W' fun e w' => e = .returned (.bool true) ∧ Chg W' w' No) := hid (fun W' hW => by
   have := secs_same T (some ⟨g2, 0, none⟩) (some ⟨gw, 0, none⟩) c2 wc W' (by rw [HTl.out]; have := HN2.out; omega) (ImgAt.of_wt ((hx1.keep h67 (fun e => e)).keep hW (fun e => e))) (ImgAt.of_wt ((HWt5.out.keep hc67 (fun e => e)).keep hW (fun e => e)))
   rw [HTl.out] at this
   exact this)
  have HI2 : Hid (∀ W', Chg w7 W' No → Calls Tryz.prog 17 #[.slice b2 iN.length t2, .slice a2 iN.length s2] W' fun e w' => e = .returned (.bool true) ∧ Chg W' w' No) := hid (fun W' hW => ints_like iN b2 a2 t2 s2 W' HiL.out (LatO.of ((hx2.call h67).call hW)) (LatO.of ((HL25.out.call hc67).call hW)))
  have HI3 : Hid (∀ W', Chg w7 W' No → Calls Tryz.prog 17 #[.slice b3 bN.length t3, .slice a3 bN.length s3] W' fun e w' => e = .returned (.bool true) ∧ Chg W' w' No) := hid (fun W' hW => ints_like bN b3 a3 t3 s3 W' HbL.out (LatO.of ((hx3.call h67).call hW)) (LatO.of ((HL35.out.call hc67).call hW)))
  have HQ7 : Hid (∀ W', Chg w7 W' No → W'.cell? ⟨g7, 0, none⟩ = some (.slice (some ⟨g2, 0, none⟩) n c2) ∧ W'.cell? ⟨g7, 1, none⟩ = some (.slice b1 0 t1) ∧ W'.cell? ⟨g7, 2, none⟩ = some (.slice b2 iN.length t2) ∧ W'.cell? ⟨g7, 3, none⟩ = some (.slice b3 bN.length t3)) := hid (fun W' hW => by
   have h0 := hW.keep HG7.out (fun e => e)
   exact ⟨(cell_of_row _ _ _ _ _ _ h0).trans rfl, (cell_of_row _ _ _ _ _ _ h0).trans rfl, (cell_of_row _ _ _ _ _ _ h0).trans rfl, (cell_of_row _ _ _ _ _ _ h0).trans rfl⟩)
  have HQ4 : Hid (∀ W', Chg w7 W' No → W'.cell? ⟨g4, 0, none⟩ = some (.slice (some ⟨gw, 0, none⟩) n wc) ∧ W'.cell? ⟨g4, 2, none⟩ = some (.slice a2 iN.length s2) ∧ W'.cell? ⟨g4, 3, none⟩ = some (.slice a3 bN.length s3)) := hid (fun W' hW => by
   have h0 := hW.keep HG4.out (fun e => e)
   exact ⟨(cell_of_row _ _ _ _ _ _ h0).trans rfl, (cell_of_row _ _ _ _ _ _ h0).trans rfl, (cell_of_row _ _ _ _ _ _ h0).trans rfl⟩)
  obtain ⟨k0, k1, _, _⟩ := HQ7.out w7 (Chg.refl _ _)
  obtain ⟨m0, _, _⟩ := HQ4.out w7 (Chg.refl _ _)
  clear h67 hw7 hg7 hc67 hc6 hx1 hx2 hx3 hAg r0 HG5 HG7 HG4 HWt5 HL25 HL35
  go_wp2_with (first
   | (go_at_call 13; go_must (refine (HSm.out w7 (Chg.refl _ _)).mono ?_; rintro e w8 ⟨rfl, hc8⟩; obtain ⟨_, _, k2, _⟩ := HQ7.out w8 hc8; obtain ⟨_, m2, _⟩ := HQ4.out w8 hc8))
   | (go_at_call 17; go_must (first | (refine (HI3.out w9 (hc8.tr hc9)).mono ?_; rintro e w10 ⟨rfl, hc10⟩) | (refine (HI2.out w8 hc8).mono ?_; rintro e w9 ⟨rfl, hc9⟩; obtain ⟨_, _, _, k3⟩ := HQ7.out w9 (hc8.tr hc9); obtain ⟨_, _, m3⟩ := HQ4.out w9 (hc8.tr hc9))))
   | fail)
  go_ret
  exact ⟨rfl, (((HC7.out.tr hc8).tr hc9).tr hc10).below⟩
end Go.Proofs.YtpmignilhoihnaaGreat

namespace Go.Proofs.YtpmignilhoihnaaGreat
open Go.ChangeShapes Go.WideShapes Go.ChangeAt Go.RowKit Go.Joins

set_option linter.unusedVariables false
set_option maxRecDepth 100000 in
theorem lookWells_lifted (os : Os) (started : os.Started) (H : Type) (enc : TypeId × Value → H) :
  ReturnsInHanded {} Tryz.checked os 5 .any (Rows.lookWellsSpec.pre6 enc Tryz.prog Tryz.f5 Rows.lookWellsRow.domain false) (Rows.lookWellsSpec.post enc Tryz.prog Tryz.f5 false true false false) := by
 refine returnsInHanded_of_change (C := Tryz.checked) own started (by kernel_rfl) Tryz.func5
  (ChangeSpec.witness6 (enc := enc) (C := Tryz.checked) false ⟨#[], #[.slice none 0 0], []⟩ 8 (by kernel_rfl) (by kernel_rfl) (by kernel_rfl) (by kernel_rfl)) ?_
 intro W base args ds gs before hval0 hW hcnd _
 have hval : ∀ (j : Nat) t v, Tryz.f5.params[j]? = some t → args[j]? = some v → Value.okWide Tryz.prog W .any base t v := hval0
 have hW' := hW
 obtain ⟨p, q, hA0, hV, rfl, hfz, hnd⟩ := hW
 have hA : DataW.TrodAll enc Tryz.prog W 0 (fun _ => true) true Tryz.f5.params.toList args.toList ds p := hA0
 rw [Tryz.params5] at hA hval
 obtain ⟨v0, vs0, d0, ds0, p0, q0, hargs, rfl, rfl, h0, r0⟩ := trodAll_cons hA
 obtain ⟨rfl, rfl, rfl⟩ := trodAll_nil r0
 obtain rfl : args = #[v0] := by cases args; simp_all
 obtain ⟨rfl, rfl⟩ := trodVars_none hV
 have k0 := h0
 have lt0 : ∀ x ∈ p0, x.block < W.heap.size := by obtain ⟨m, hm⟩ := k0; exact DataW.trod_lt m _ _ _ hm
 obtain ⟨a0, c0, im0, rfl, hI0, hn0⟩ := open_secs (hval 0 22 v0 rfl rfl) h0
 clear hA0 hval0
 refine (wells_walk a0 c0 im0 W hI0 hn0).mono fun e W' ⟨he, bel⟩ => ?_
 subst he
 exact ⟨_, rfl, _, _, _, [], _, [], hW', trodAll_mk1 (shut_bool Tryz.underlying4 _), (trodAll_cons_mk (Below.trod laidOut (by kernel_rfl) (of_decide_eq_true (by kernel_rfl)) k0 bel lt0) trodAll_mk0), rfl, bel.frame _, fun h => by cases h⟩

theorem lookWells_holds : Rows.LookWellsSaid :=
 OpenClaim.holds_of_wide 5 Tryz.f5 rfl rfl rfl rfl rfl rfl rfl ⟨rfl, rfl, rfl, rfl, rfl⟩ rfl rfl rfl rfl rfl (by kernel_rfl) Tryz.func5 (by kernel_rfl)
  (of_decide_eq_true (by kernel_rfl)) (by unfold Func.isWrapper; first | (rw [if_pos (by decide +kernel)]; kernel_rfl) | (rw [if_neg (by decide +kernel)]; exact ⟨rfl, rfl⟩))
  (fun os started H enc _ => lookWells_lifted os started H enc)

end Go.Proofs.YtpmignilhoihnaaGreat
