/-
 Is an image well-formed: what the document's Well has in memory.
-/
import Derived.Test.YtpmignilhoihnaaGreatS12
namespace Go.Proofs.YtpmignilhoihnaaGreat
open Go.RowKit Go.Shelf

end Go.Proofs.YtpmignilhoihnaaGreat

namespace Go.Proofs.YtpmignilhoihnaaGreat
open Go.RowKit

set_option maxRecDepth 100000 in
set_option maxHeartbeats 4000000 in
theorem rreadSuper_any (s : List Int) (hs : IsSec s) (w : World) :
  Calls Tryz.prog 19 #[.agg (SA s)] w fun e w' => e = .returned (.tuple #[.agg (SUA (rdSup (sayV s 4 4) (sayV s 8 4) s).1 (rdSup (sayV s 4 4) (sayV s 8 4) s).2.1), .int .i64 (rdSup (sayV s 4 4) (sayV s 8 4) s).2.2]) ∧ Below w.heap.size w w' := by
 have hz := zero_sec
 have hzs : ∀ w', (zeroValue 42).run Tryz.prog w' = .ok (.agg #[.int .i64 0, .int .i64 0]) w' := fun w' => by kernel_rfl
 have hbs : ∀ w', (Instr.build 42 #[]).run Tryz.prog w' = .ok (.agg #[.int .i64 0, .int .i64 0]) w' := fun w' => by kernel_rfl
 obtain ⟨W, hW⟩ : ∃ x, x = (w.alloc (.cells (SA s) 33)).alloc (.cells #[.int .i64 0, .int .i64 0] 42) := ⟨_, rfl⟩
 have hg1 : W.heap[w.heap.size]? = some (.cells (SA s) 33 (0, 0)) := by rw [hW]; exact heap_alloc2_old w _ _
 have hg2 : W.heap[w.heap.size + 1]? = some (.cells #[.int .i64 0, .int .i64 0] 42 (0, 0)) := by rw [hW]; exact heap_alloc2_new w _ _
 obtain ⟨B, hB⟩ : ∃ x, x = W.heap.size := ⟨_, rfl⟩
 have hB2 : B = w.heap.size + 2 := by rw [hB, hW]; simp
 have hbW : Below w.heap.size w W := by rw [hW]; exact ((Below.refl _ _).alloc (Nat.le_refl _) _).alloc (by simp) _
 go_enter Tryz.func19, Tryz.ntmps19
 go_upto_region 1 with fail
 rw [← hW]
 go_cut [4] (fun x wc => ∃ g : Nat, x = .pointer (some ⟨g, 0, none⟩) ∧ Hid (B ≤ g ∧ wc.heap[g]? = some (.cells #[.int .i64 (sayV s 4 4), .int .i64 (sayV s 8 4)] 42 (0, 0)) ∧ Below B W wc))
 case first =>
   refine wp_region_noPanic ?_;refine wp_region_held_drew (S := fun w' => w'.heap[w.heap.size]? = some (.cells (SA s) 33 (0, 0))) (by kernel_rfl) (hg1) (fun hH => ?_);have b0 : Below B W W.drew := below_drew (Below.refl _ _)
   have z0 : B ≤ W.drew.heap.size := by rw [hB]; exact Nat.le_refl _
   refine takeSec 0 7 (.tmp 1) w.heap.size s hs.1 rfl (by kernel_rfl) (by kernel_rfl) (by kernel_rfl) rfl rfl rfl (by rfl) (fun _ _ _ h => h) hH (fun _ h => h) ?_;simp only [sS];refine takeSec 2 9 (.tmp 1) w.heap.size s hs.1 rfl (by kernel_rfl) (by kernel_rfl) (by kernel_rfl) rfl rfl rfl (by rfl) (fun _ _ _ h => h) hH (fun _ h => h) ?_;simp only [sS];refine step2 1 5 (by kernel_rfl) ?_ ?_
   ·refine stCall 1 8 37 #[.agg (SA s), .int .i64 4, .int .i64 4] _ rfl rfl (by rfl) (by go_simp) (says_any s 4 4 _ hs (by decide) (by decide) (by decide) (by decide)) ?_
    rintro e w1c ⟨rfl, hb1c⟩
    have b1c : Below B W w1c := btr b0 hb1c (by have := b0.size; omega)
    have z1c : B ≤ w1c.heap.size := by have := b1c.size; omega
    have hH : w1c.heap[w.heap.size]? = some (.cells (SA s) 33 (0, 0)) := by rw [b1c.block _ (by omega)]; exact hg1
    refine ⟨_, rfl, hH, ?_⟩;simp only [sS];refine step2 3 5 (by kernel_rfl) ?_ ?_
    ·refine stCall 3 10 37 #[.agg (SA s), .int .i64 8, .int .i64 4] _ rfl rfl (by rfl) (by go_simp) (says_any s 8 4 _ hs (by decide) (by decide) (by decide) (by decide)) ?_
     rintro e w2c ⟨rfl, hb2c⟩
     have b2c : Below B W w2c := btr b1c hb2c (by have := b1c.size; omega)
     have z2c : B ≤ w2c.heap.size := by have := b2c.size; omega
     have hH : w2c.heap[w.heap.size]? = some (.cells (SA s) 33 (0, 0)) := by rw [b2c.block _ (by omega)]; exact hg1
     refine ⟨_, rfl, hH, ?_⟩;simp only [sS];refine tV 4 11 (.agg #[.int .i64 (sayV s 4 4), .int .i64 (sayV s 8 4)]) rfl (by kernel_rfl) rfl (by rfl) hH (fun _ hw' => by go_simp) ?_;simp only [sS];refine step1 5 (by kernel_rfl) ?_;refine stNew 5 4 (.pointer (some ⟨w2c.heap.size, 0, none⟩)) (.cells #[.int .i64 0, .int .i64 0] 42) rfl rfl (by rfl) (by go_simp) ?_;have b3a : Below B W (w2c.alloc (.cells #[.int .i64 0, .int .i64 0] 42)) := b2c.alloc (by have := b2c.size; omega) _
     have p3a : B ≤ w2c.heap.size := by have := b2c.size; omega
     have q3a : (w2c.alloc (.cells #[.int .i64 0, .int .i64 0] 42)).heap[w2c.heap.size]? = some (.cells #[.int .i64 0, .int .i64 0] 42 (0, 0)) := heap_alloc_new _ _
     have hH : (w2c.alloc (.cells #[.int .i64 0, .int .i64 0] 42)).heap[w.heap.size]? = some (.cells (SA s) 33 (0, 0)) := by rw [b3a.block _ (by omega)]; exact hg1
     refine ⟨hH, ?_⟩;simp only [sS];refine step1 6 (by kernel_rfl) ?_;refine stStoreR 6 42 (.tmp 4) (.tmp 11) (w2c.heap.size) #[.int .i64 (sayV s 4 4), .int .i64 (sayV s 8 4)] 42 #[.int .i64 0, .int .i64 0] rfl rfl (by rfl) rfl rfl rfl q3a (by rw [szS]; rfl) rfl (by simp [Value.oneCell']) ?_
     intro wT hT
     have bT := hT.below b3a (by omega);refine ⟨by rw [bT.block _ (by omega)]; exact hg1, ?_⟩;refine wpAnyH_done (by kernel_rfl) ?_ _;refine NoPanic.normal ?_;clear hH;have hP := hid (And.intro (show B ≤ w2c.heap.size by omega) (And.intro hT.here bT))
     go_wp2_with fail
     go_meet
     case rel => exact ⟨_, rfl, hP⟩
    ·refine stNew 5 4 (.pointer (some ⟨w1c.heap.size, 0, none⟩)) (.cells #[.int .i64 0, .int .i64 0] 42) rfl rfl (by rfl) (by go_simp) ?_
     have b4a : Below B W (w1c.alloc (.cells #[.int .i64 0, .int .i64 0] 42)) := b1c.alloc (by have := b1c.size; omega) _
     have p4a : B ≤ w1c.heap.size := by have := b1c.size; omega
     have q4a : (w1c.alloc (.cells #[.int .i64 0, .int .i64 0] 42)).heap[w1c.heap.size]? = some (.cells #[.int .i64 0, .int .i64 0] 42 (0, 0)) := heap_alloc_new _ _
     have hH : (w1c.alloc (.cells #[.int .i64 0, .int .i64 0] 42)).heap[w.heap.size]? = some (.cells (SA s) 33 (0, 0)) := by rw [b4a.block _ (by omega)]; exact hg1
     refine ⟨hH, ?_⟩;simp only [sS];refine step1 3 (by kernel_rfl) ?_;refine stCall 3 10 37 #[.agg (SA s), .int .i64 8, .int .i64 4] _ rfl rfl (by rfl) (by go_simp) (says_any s 8 4 _ hs (by decide) (by decide) (by decide) (by decide)) ?_
     rintro e w5c ⟨rfl, hb5c⟩
     have b5c : Below B W w5c := btr b4a hb5c (by have := b4a.size; omega)
     have z5c : B ≤ w5c.heap.size := by have := b5c.size; omega
     have hH : w5c.heap[w.heap.size]? = some (.cells (SA s) 33 (0, 0)) := by rw [b5c.block _ (by omega)]; exact hg1
     have q5c : w5c.heap[w1c.heap.size]? = some (.cells #[.int .i64 0, .int .i64 0] 42 (0, 0)) := by rw [hb5c.block _ (slt q4a)]; exact q4a
     refine ⟨_, rfl, hH, ?_⟩;simp only [sS];refine tV 4 11 (.agg #[.int .i64 (sayV s 4 4), .int .i64 (sayV s 8 4)]) rfl (by kernel_rfl) rfl (by rfl) hH (fun _ hw' => by go_simp) ?_;simp only [sS];refine step1 6 (by kernel_rfl) ?_;refine stStoreR 6 42 (.tmp 4) (.tmp 11) (w1c.heap.size) #[.int .i64 (sayV s 4 4), .int .i64 (sayV s 8 4)] 42 #[.int .i64 0, .int .i64 0] rfl rfl (by rfl) rfl rfl rfl q5c (by rw [szS]; rfl) rfl (by simp [Value.oneCell']) ?_
     intro wT hT
     have bT := hT.below b5c (by omega);refine ⟨by rw [bT.block _ (by omega)]; exact hg1, ?_⟩;refine wpAnyH_done (by kernel_rfl) ?_ _;refine NoPanic.normal ?_;clear hH;have hP := hid (And.intro (show B ≤ w1c.heap.size by omega) (And.intro hT.here bT))
     go_wp2_with fail
     go_meet
     case rel => exact ⟨_, rfl, hP⟩
   ·refine stNew 5 4 (.pointer (some ⟨W.drew.heap.size, 0, none⟩)) (.cells #[.int .i64 0, .int .i64 0] 42) rfl rfl (by rfl) (by go_simp) ?_
    have b6a : Below B W (W.drew.alloc (.cells #[.int .i64 0, .int .i64 0] 42)) := b0.alloc (by have := b0.size; omega) _
    have p6a : B ≤ W.drew.heap.size := by have := b0.size; omega
    have q6a : (W.drew.alloc (.cells #[.int .i64 0, .int .i64 0] 42)).heap[W.drew.heap.size]? = some (.cells #[.int .i64 0, .int .i64 0] 42 (0, 0)) := heap_alloc_new _ _
    have hH : (W.drew.alloc (.cells #[.int .i64 0, .int .i64 0] 42)).heap[w.heap.size]? = some (.cells (SA s) 33 (0, 0)) := by rw [b6a.block _ (by omega)]; exact hg1
    refine ⟨hH, ?_⟩;simp only [sS];refine step1 1 (by kernel_rfl) ?_;refine stCall 1 8 37 #[.agg (SA s), .int .i64 4, .int .i64 4] _ rfl rfl (by rfl) (by go_simp) (says_any s 4 4 _ hs (by decide) (by decide) (by decide) (by decide)) ?_
    rintro e w7c ⟨rfl, hb7c⟩
    have b7c : Below B W w7c := btr b6a hb7c (by have := b6a.size; omega)
    have z7c : B ≤ w7c.heap.size := by have := b7c.size; omega
    have hH : w7c.heap[w.heap.size]? = some (.cells (SA s) 33 (0, 0)) := by rw [b7c.block _ (by omega)]; exact hg1
    have q7c : w7c.heap[W.drew.heap.size]? = some (.cells #[.int .i64 0, .int .i64 0] 42 (0, 0)) := by rw [hb7c.block _ (slt q6a)]; exact q6a
    refine ⟨_, rfl, hH, ?_⟩;simp only [sS];refine step1 3 (by kernel_rfl) ?_;refine stCall 3 10 37 #[.agg (SA s), .int .i64 8, .int .i64 4] _ rfl rfl (by rfl) (by go_simp) (says_any s 8 4 _ hs (by decide) (by decide) (by decide) (by decide)) ?_
    rintro e w8c ⟨rfl, hb8c⟩
    have b8c : Below B W w8c := btr b7c hb8c (by have := b7c.size; omega)
    have z8c : B ≤ w8c.heap.size := by have := b8c.size; omega
    have hH : w8c.heap[w.heap.size]? = some (.cells (SA s) 33 (0, 0)) := by rw [b8c.block _ (by omega)]; exact hg1
    have q8c : w8c.heap[W.drew.heap.size]? = some (.cells #[.int .i64 0, .int .i64 0] 42 (0, 0)) := by rw [hb8c.block _ (slt q7c)]; exact q7c
    refine ⟨_, rfl, hH, ?_⟩;simp only [sS];refine tV 4 11 (.agg #[.int .i64 (sayV s 4 4), .int .i64 (sayV s 8 4)]) rfl (by kernel_rfl) rfl (by rfl) hH (fun _ hw' => by go_simp) ?_;simp only [sS];refine step1 6 (by kernel_rfl) ?_;refine stStoreR 6 42 (.tmp 4) (.tmp 11) (W.drew.heap.size) #[.int .i64 (sayV s 4 4), .int .i64 (sayV s 8 4)] 42 #[.int .i64 0, .int .i64 0] rfl rfl (by rfl) rfl rfl rfl q8c (by rw [szS]; rfl) rfl (by simp [Value.oneCell']) ?_
    intro wT hT
    have bT := hT.below b8c (by omega);refine ⟨by rw [bT.block _ (by omega)]; exact hg1, ?_⟩;refine wpAnyH_done (by kernel_rfl) ?_ _;refine NoPanic.normal ?_;clear hH;have hP := hid (And.intro (show B ≤ W.drew.heap.size by omega) (And.intro hT.here bT))
    go_wp2_with fail
    go_meet
    case rel => exact ⟨_, rfl, hP⟩
 case rest =>
  obtain ⟨g, rfl, HG⟩ := hcut;obtain ⟨hge, hgr, hbc⟩ := HG.out
  have h1 : wc.heap[w.heap.size]? = some (.cells (SA s) 33 (0, 0)) := by rw [hbc.block _ (by omega)]; exact hg1
  have h2 : wc.heap[w.heap.size + 1]? = some (.cells #[.int .i64 0, .int .i64 0] 42 (0, 0)) := by rw [hbc.block _ (by omega)]; exact hg2
  have hcw : Below w.heap.size w wc := btr hbW hbc (by omega);have hgs := slt hgr;have H1 := hid h1;have H2 := hid h2;have HR := hid hgr;have HC := hid hcw
  have hsup := fun w' => rsuperSector_any (sayV s 4 4) (sayV s 8 4) w'
  have HSC := supS_sec (sayV s 4 4) (sayV s 8 4);have hgd := guard_sec;have hl := hs.1;clear hg1 hg2 hbW hW hB hgr h1 h2 hcw hbc HG
  by_cases he : supB (sayV s 4 4) (sayV s 8 4) = true
  ·have hE : supE (sayV s 4 4) (sayV s 8 4) = 0 := by simp [supE, he]
   rw [hE] at hsup
   by_cases hq : supS (sayV s 4 4) (sayV s 8 4) = s
   ·have HV : Hid (rdSup (sayV s 4 4) (sayV s 8 4) s = ((sayV s 4 4), (sayV s 8 4), 0)) := by show _ = _; simp [rdSup, he, hq]
    have heq : ∀ w', (Op.equalIn 10000 33 (.agg (SA (supS (sayV s 4 4) (sayV s 8 4)))) (.agg (SA s))).run Tryz.prog w' = .ok true w' := fun w' => by rw [eq_sec _ _ HSC.1 hl, decide_eq_true hq]
    have HLS := hid HSC.1;clear hq HSC he
    go_wp2_with (first | refine load_R rfl 42 (.tmp 4) rfl g rfl 42 _ _ HR.out Tryz.underlying42 rfl (by rw [szS]; rfl) ?_ | (go_at_call 38; refine (hsup _).mono ?_; rintro e w2 ⟨rfl, hb2⟩) | (refine store_sec rfl (.tmp 5) _ rfl w2.heap.size rfl _ rfl HLS.out Zs Zs_len (heap_alloc_new _ _) ?_; intro w3 hw3; obtain ⟨HA1, HA2, HAR, HAC⟩ := after_new (t := 42) hb2 hw3 H1.out H2.out HR.out HC.out) | refine load_sec_g (.tmp 5) rfl w2.heap.size rfl _ HLS.out hw3.here rfl ?_ | refine load_sec_g (.tmp 1) rfl w.heap.size rfl s hl HA1.out rfl ?_ | refine load_R rfl 42 (.tmp 4) rfl g rfl 42 _ _ HAR.out Tryz.underlying42 rfl (by rw [szS]; rfl) ?_ | (refine store_R rfl 42 (.tmp 2) _ rfl (w.heap.size + 1) _ rfl rfl 42 _ HA2.out (by rw [szS]; rfl) rfl (by simp [Value.oneCell']) ?_; intro w4 hw4))
    rw [HV.out]
    exact bodyPost_ret (v := .tuple #[.agg (SUA (sayV s 4 4) (sayV s 8 4)), .int .i64 0]) (results_R Tryz.results19 _ _ (w.heap.size + 1) _ 42 _ _ Tryz.underlying42 rfl (by rw [szS]; rfl) rfl rfl hw4.here) rfl ⟨rfl, hw4.below HAC.out (by omega)⟩
   ·have HV : Hid (rdSup (sayV s 4 4) (sayV s 8 4) s = (0, 0, 60)) := by show _ = _; simp [rdSup, he, hq]
    have heq : ∀ w', (Op.equalIn 10000 33 (.agg (SA (supS (sayV s 4 4) (sayV s 8 4)))) (.agg (SA s))).run Tryz.prog w' = .ok false w' := fun w' => by rw [eq_sec _ _ HSC.1 hl, decide_eq_false hq]
    have HLS := hid HSC.1;clear hq HSC he
    go_wp2_with (first | refine load_R rfl 42 (.tmp 4) rfl g rfl 42 _ _ HR.out Tryz.underlying42 rfl (by rw [szS]; rfl) ?_ | (go_at_call 38; refine (hsup _).mono ?_; rintro e w2 ⟨rfl, hb2⟩) | (refine store_sec rfl (.tmp 5) _ rfl w2.heap.size rfl _ rfl HLS.out Zs Zs_len (heap_alloc_new _ _) ?_; intro w3 hw3; obtain ⟨HA1, HA2, HAR, HAC⟩ := after_new (t := 42) hb2 hw3 H1.out H2.out HR.out HC.out) | refine load_sec_g (.tmp 5) rfl w2.heap.size rfl _ HLS.out hw3.here rfl ?_ | refine load_sec_g (.tmp 1) rfl w.heap.size rfl s hl HA1.out rfl ?_ | (refine store_R rfl 42 (.tmp 2) _ rfl (w.heap.size + 1) _ rfl rfl 42 _ HA2.out (by rw [szS]; rfl) rfl (by simp [Value.oneCell']) ?_; intro w4 hw4))
    rw [HV.out]
    exact bodyPost_ret (v := .tuple #[.agg (SUA 0 0), .int .i64 60]) (results_R Tryz.results19 _ _ (w.heap.size + 1) _ 42 _ _ Tryz.underlying42 rfl (by rw [szS]; rfl) rfl rfl hw4.here) rfl ⟨rfl, hw4.below HAC.out (by omega)⟩
  ·have hE : supE (sayV s 4 4) (sayV s 8 4) = 60 := by simp [supE, he]
   have hS : supS (sayV s 4 4) (sayV s 8 4) = Zs := by simp [supS, he]
   rw [hE, hS] at hsup
   have HV : Hid (rdSup (sayV s 4 4) (sayV s 8 4) s = (0, 0, 60)) := by show _ = _; simp [rdSup, he]
   clear HSC he
   go_wp2_with (first | refine load_R rfl 42 (.tmp 4) rfl g rfl 42 _ _ HR.out Tryz.underlying42 rfl (by rw [szS]; rfl) ?_ | (go_at_call 38; refine (hsup _).mono ?_; rintro e w2 ⟨rfl, hb2⟩) | (refine store_sec rfl (.tmp 5) _ rfl w2.heap.size rfl _ rfl Zs_len Zs Zs_len (heap_alloc_new _ _) ?_; intro w3 hw3; obtain ⟨HA1, HA2, HAR, HAC⟩ := after_new (t := 42) hb2 hw3 H1.out H2.out HR.out HC.out) | (refine store_R rfl 42 (.tmp 2) _ rfl (w.heap.size + 1) _ rfl rfl 42 _ HA2.out (by rw [szS]; rfl) rfl (by simp [Value.oneCell']) ?_; intro w4 hw4))
   rw [HV.out]
   exact bodyPost_ret (v := .tuple #[.agg (SUA 0 0), .int .i64 60]) (results_R Tryz.results19 _ _ (w.heap.size + 1) _ 42 _ _ Tryz.underlying42 rfl (by rw [szS]; rfl) rfl rfl hw4.here) rfl ⟨rfl, hw4.below HAC.out (by omega)⟩

end Go.Proofs.YtpmignilhoihnaaGreat

namespace Go.Proofs.YtpmignilhoihnaaGreat
open Go.RowKit Go.Shelf

theorem rsup_same {s : List Int} (hs : IsSec s) : rdSup (sayV s 4 4) (sayV s 8 4) s = rdSup (getV s 4 4) (getV s 8 4) s := by
 have e1 : sayV s 4 4 = numAt s 4 4 := sayV_small (P := 4) (L := 4) (by decide);have e2 : sayV s 8 4 = numAt s 8 4 := sayV_small (P := 8) (L := 4) (by decide);have g1 : getV s 4 4 = numAt s 4 4 := getV_small (P := 4) (L := 4) hs (by decide) (by decide) (by decide);have g2 : getV s 8 4 = numAt s 8 4 := getV_small (P := 8) (L := 4) hs (by decide) (by decide) (by decide);rw [e1, e2, g1, g2]
theorem rsup_c (s : List Int) (hs : IsSec s) (w : World) : Calls Tryz.prog 19 #[.agg (SA s)] w fun e w' => e = .returned (.tuple #[.agg (SUA (rdSup (getV s 4 4) (getV s 8 4) s).1 (rdSup (getV s 4 4) (getV s 8 4) s).2.1), .int .i64 (rdSup (getV s 4 4) (getV s 8 4) s).2.2]) ∧ Chg w w' No := by
 refine (rreadSuper_any s hs w).mono ?_
 rintro e w' ⟨rfl, hb⟩
 rw [rsup_same hs]
 exact ⟨rfl, Chg.of_below hb No⟩
theorem infoIno : ∃ i, Tryz.prog.info? 51 = some i ∧ i.zero = some (.agg (NA Zi)) ∧ i.size = 18 ∧ i.bytes = 144 := by
 have h : (Tryz.prog.info? 51).map (fun i => (i.zero, i.size, i.bytes)) = some (some (.agg (NA Zi)), 18, 144) := by kernel_rfl
 cases hq : Tryz.prog.info? 51 with
 | none => rw [hq] at h; cases h
 | some i =>
  rw [hq] at h
  simp at h
  exact ⟨i, rfl, h.1, h.2.1, h.2.2⟩
def IA18 (n : Nat) : Array Value := madeCells (NA Zi) (n * 18)
theorem make_inos (n : Nat) (h1 : n ≤ 5000) (w : World) :
  (Instr.makeSlice 65 (.int .i64 (n : Int)) (.int .i64 (n : Int))).run Tryz.prog w = .ok (.slice (some ⟨w.heap.size, 0, none⟩) n n) (w.alloc (.cells (IA18 n) 51)) := by
 obtain ⟨i, hi, hz, hs, hb⟩ := infoIno;rw [run_make w 65 51 i _ Tryz.underlying65 hi hz .i64 .i64 n n (by omega) (Int.le_refl _) (by rw [hb]; omega) (by omega), hs];rw [Int.toNat_natCast]
 rfl
theorem Zi_get (j : Nat) : Zi.getD j 0 = 0 := by
 unfold Zi;rw [List.getD_eq_getElem?_getD, List.getElem?_replicate]
 split <;> rfl
theorem inat_made (w : World) (n : Nat) : InAt (w.alloc (.cells (IA18 n) 51)) w.heap.size n (fun _ => Zi) :=
 ⟨_, heap_alloc_new _ _, fun i hi j hj => by
  have hb : i * 18 + j < n * 18 := by omega
  have hz : (NA Zi).size = 18 := by rw [NA_size]; rfl
  have e : (NA Zi)[j % 18]! = Value.int .i64 0 := by
   have hm : j % 18 < 18 := Nat.mod_lt _ (by decide);rw [Array.getElem!_eq_getD, Array.getD_eq_getD_getElem?, NA_get Zi _ (by rw [Zi_len]; exact hm), Zi_get]
   rfl
  unfold IA18;rw [Zi_get]
  simp only [madeCells, Array.getElem?_map, hz]
  simp [hb, e]⟩
section
variable {ops : Array Oper} {Q : Exit → Act → World → Prop} {S : World → Prop} {fuel : Nat} {listed : Array Bool} {a : Act} {w : World}
end
end Go.Proofs.YtpmignilhoihnaaGreat
