/-
 The document's ReadInode.
-/
import Derived.Test.YtpmignilhoihnaaGreatRI2
import Derived.Test.YtpmignilhoihnaaGreatLI4
namespace Go.Proofs.YtpmignilhoihnaaGreat
open Go.RowKit

def pv (s : List Int) (m : Nat) : Int := sayV s (pls.getD m (0, 0)).1 (pls.getD m (0, 0)).2
def yTo (s : List Int) (q : Nat) : List Int := (List.range 18).map fun m => if m < 4 + q ∨ 16 ≤ m then pv s m else 0
theorem yTo_len (s : List Int) (q : Nat) : (yTo s q).length = 18 := by simp [yTo]
theorem yTo_zero (s : List Int) : yTo s 0 = [(sayV s 0 1), (sayV s 1 1), (sayV s 4 4), (sayV s 8 8), 0, 0, 0, 0, 0, 0, 0, 0, 0, 0, 0, 0, (sayV s 64 4), (sayV s 68 4)] := by
 unfold yTo pv
 rfl
theorem yTo_step (s : List Int) (q : Nat) : (yTo s q).set (4 + q) (pv s (4 + q)) = yTo s (q + 1) := by
 apply List.ext_getElem
 ·simp [yTo]
 ·intro i h1 h2
  simp only [yTo, List.getElem_set, List.getElem_map, List.getElem_range]
  by_cases e : 4 + q = i
  ·rw [if_pos e, if_pos (by omega), e]
  ·rw [if_neg e]
   by_cases c : i < 4 + q ∨ 16 ≤ i
   ·rw [if_pos c, if_pos (by omega)]
   ·rw [if_neg c, if_neg (by omega)]
def yA (s : List Int) : List Int := yTo s 12
theorem build_ino6 (a b c d e f : Int) (w : World) : (Instr.build 51 #[(0, .int .i64 a), (1, .int .i64 b), (2, .int .i64 c), (3, .int .i64 d), (5, .int .i64 e), (6, .int .i64 f)]).run Tryz.prog w = .ok (.agg (NA [a, b, c, d, 0, 0, 0, 0, 0, 0, 0, 0, 0, 0, 0, 0, e, f])) w := by kernel_rfl
theorem inoS_len (z : List Int) : (inoS z).length = 128 := by
 unfold inoS
 split
 ·exact (layS_sec _).1
 ·exact Zs_len

set_option maxRecDepth 100000 in
set_option maxHeartbeats 6000000 in
theorem rreadInode_any (s : List Int) (hs : IsSec s) (w : World) :
  Calls Tryz.prog 33 #[.agg (SA s)] w fun e w' => e = .returned (.tuple #[.agg (NA (rdIno (yA s) s).1), .int .i64 (rdIno (yA s) s).2]) ∧ Below w.heap.size w w' := by
 have hz := zero_sec;have hzs := zero_inode;have hbs := build_inode;obtain ⟨W, hW⟩ : ∃ x, x = (w.alloc (.cells (SA s) 33)).alloc (.cells (NA Zi) 51) := ⟨_, rfl⟩
 have hg1 : W.heap[w.heap.size]? = some (.cells (SA s) 33 (0, 0)) := by rw [hW]; exact heap_alloc2_old w _ _
 have hg2 : W.heap[w.heap.size + 1]? = some (.cells (NA Zi) 51 (0, 0)) := by rw [hW]; exact heap_alloc2_new w _ _
 obtain ⟨B, hB⟩ : ∃ x, x = W.heap.size := ⟨_, rfl⟩
 have hB2 : B = w.heap.size + 2 := by rw [hB, hW]; simp
 have hbW : Below w.heap.size w W := by rw [hW]; exact ((Below.refl _ _).alloc (Nat.le_refl _) _).alloc (by simp) _
 go_enter Tryz.func33, Tryz.ntmps33
 go_upto_region 1 with fail
 rw [← hW]
 go_cut [4] (fun x wc => ∃ g : Nat, x = .pointer (some ⟨g, 0, none⟩) ∧ Hid (B ≤ g ∧ wc.heap[g]? = some (.cells (NA (yTo s 0)) 51 (0, 0)) ∧ Below B W wc))
 case first =>
   refine wp_region_noPanic ?_;refine wp_region_held_drew (S := fun w' => w'.heap[w.heap.size]? = some (.cells (SA s) 33 (0, 0))) (by as_aux_lemma => kernel_rfl) (hg1) (fun hH => ?_);have b0 : Below B W W.drew := below_drew (Below.refl _ _)
   have z0 : B ≤ W.drew.heap.size := by rw [hB]; exact Nat.le_refl _
   refine takeSec 0 8 (.tmp 1) w.heap.size s hs.1 rfl (by as_aux_lemma => kernel_rfl) (by as_aux_lemma => kernel_rfl) (by as_aux_lemma => kernel_rfl) rfl rfl rfl (by rfl) (fun _ _ _ h => h) hH (fun _ h => h) ?_;simp only [sS];refine takeSec 2 10 (.tmp 1) w.heap.size s hs.1 rfl (by as_aux_lemma => kernel_rfl) (by as_aux_lemma => kernel_rfl) (by as_aux_lemma => kernel_rfl) rfl rfl rfl (by rfl) (fun _ _ _ h => h) hH (fun _ h => h) ?_;simp only [sS];refine takeSec 4 12 (.tmp 1) w.heap.size s hs.1 rfl (by as_aux_lemma => kernel_rfl) (by as_aux_lemma => kernel_rfl) (by as_aux_lemma => kernel_rfl) rfl rfl rfl (by rfl) (fun _ _ _ h => h) hH (fun _ h => h) ?_;simp only [sS];refine takeSec 6 14 (.tmp 1) w.heap.size s hs.1 rfl (by as_aux_lemma => kernel_rfl) (by as_aux_lemma => kernel_rfl) (by as_aux_lemma => kernel_rfl) rfl rfl rfl (by rfl) (fun _ _ _ h => h) hH (fun _ h => h) ?_;simp only [sS];refine takeSec 8 16 (.tmp 1) w.heap.size s hs.1 rfl (by as_aux_lemma => kernel_rfl) (by as_aux_lemma => kernel_rfl) (by as_aux_lemma => kernel_rfl) rfl rfl rfl (by rfl) (fun _ _ _ h => h) hH (fun _ h => h) ?_;simp only [sS];refine takeSec 10 18 (.tmp 1) w.heap.size s hs.1 rfl (by as_aux_lemma => kernel_rfl) (by as_aux_lemma => kernel_rfl) (by as_aux_lemma => kernel_rfl) rfl rfl rfl (by rfl) (fun _ _ _ h => h) hH (fun _ h => h) ?_;simp only [sS];refine step2 1 13 (by as_aux_lemma => kernel_rfl) ?_ ?_
   ·refine stCall 1 9 37 #[.agg (SA s), .int .i64 0, .int .i64 1] _ rfl rfl (by rfl) (by go_simp) (says_any s 0 1 _ hs (by decide) (by decide) (by decide) (by decide)) ?_
    rintro e w1c ⟨rfl, hb1c⟩
    have b1c : Below B W w1c := btr b0 hb1c (by have := b0.size; omega)
    have z1c : B ≤ w1c.heap.size := by have := b1c.size; omega
    have hH : w1c.heap[w.heap.size]? = some (.cells (SA s) 33 (0, 0)) := by rw [b1c.block _ (by omega)]; exact hg1
    refine ⟨_, rfl, hH, ?_⟩;simp only [sS];refine step2 3 13 (by as_aux_lemma => kernel_rfl) ?_ ?_
    ·refine stCall 3 11 37 #[.agg (SA s), .int .i64 1, .int .i64 1] _ rfl rfl (by rfl) (by go_simp) (says_any s 1 1 _ hs (by decide) (by decide) (by decide) (by decide)) ?_
     rintro e w2c ⟨rfl, hb2c⟩
     have b2c : Below B W w2c := btr b1c hb2c (by have := b1c.size; omega)
     have z2c : B ≤ w2c.heap.size := by have := b2c.size; omega
     have hH : w2c.heap[w.heap.size]? = some (.cells (SA s) 33 (0, 0)) := by rw [b2c.block _ (by omega)]; exact hg1
     refine ⟨_, rfl, hH, ?_⟩;simp only [sS];refine step2 5 13 (by as_aux_lemma => kernel_rfl) ?_ ?_
     ·refine stCall 5 13 37 #[.agg (SA s), .int .i64 4, .int .i64 4] _ rfl rfl (by rfl) (by go_simp) (says_any s 4 4 _ hs (by decide) (by decide) (by decide) (by decide)) ?_
      rintro e w3c ⟨rfl, hb3c⟩
      have b3c : Below B W w3c := btr b2c hb3c (by have := b2c.size; omega)
      have z3c : B ≤ w3c.heap.size := by have := b3c.size; omega
      have hH : w3c.heap[w.heap.size]? = some (.cells (SA s) 33 (0, 0)) := by rw [b3c.block _ (by omega)]; exact hg1
      refine ⟨_, rfl, hH, ?_⟩;simp only [sS];refine step2 7 13 (by as_aux_lemma => kernel_rfl) ?_ ?_
      ·refine stCall 7 15 37 #[.agg (SA s), .int .i64 8, .int .i64 8] _ rfl rfl (by rfl) (by go_simp) (says_any s 8 8 _ hs (by decide) (by decide) (by decide) (by decide)) ?_
       rintro e w4c ⟨rfl, hb4c⟩
       have b4c : Below B W w4c := btr b3c hb4c (by have := b3c.size; omega)
       have z4c : B ≤ w4c.heap.size := by have := b4c.size; omega
       have hH : w4c.heap[w.heap.size]? = some (.cells (SA s) 33 (0, 0)) := by rw [b4c.block _ (by omega)]; exact hg1
       refine ⟨_, rfl, hH, ?_⟩;simp only [sS];refine step2 9 13 (by as_aux_lemma => kernel_rfl) ?_ ?_
       ·refine stCall 9 17 37 #[.agg (SA s), .int .i64 64, .int .i64 4] _ rfl rfl (by rfl) (by go_simp) (says_any s 64 4 _ hs (by decide) (by decide) (by decide) (by decide)) ?_
        rintro e w5c ⟨rfl, hb5c⟩
        have b5c : Below B W w5c := btr b4c hb5c (by have := b4c.size; omega)
        have z5c : B ≤ w5c.heap.size := by have := b5c.size; omega
        have hH : w5c.heap[w.heap.size]? = some (.cells (SA s) 33 (0, 0)) := by rw [b5c.block _ (by omega)]; exact hg1
        refine ⟨_, rfl, hH, ?_⟩;simp only [sS];refine step2 11 13 (by as_aux_lemma => kernel_rfl) ?_ ?_
        ·refine stCall 11 19 37 #[.agg (SA s), .int .i64 68, .int .i64 4] _ rfl rfl (by rfl) (by go_simp) (says_any s 68 4 _ hs (by decide) (by decide) (by decide) (by decide)) ?_
         rintro e w6c ⟨rfl, hb6c⟩
         have b6c : Below B W w6c := btr b5c hb6c (by have := b5c.size; omega)
         have z6c : B ≤ w6c.heap.size := by have := b6c.size; omega
         have hH : w6c.heap[w.heap.size]? = some (.cells (SA s) 33 (0, 0)) := by rw [b6c.block _ (by omega)]; exact hg1
         refine ⟨_, rfl, hH, ?_⟩;simp only [sS];refine takeVal 12 20 (.agg (NA (yTo s 0))) rfl (by as_aux_lemma => kernel_rfl) (by as_aux_lemma => kernel_rfl) (by as_aux_lemma => kernel_rfl) rfl (by rfl) (fun _ _ _ h => h) hH (fun _ hw' => by clear hzs hbs; have e := build_ino6 (sayV s 0 1) (sayV s 1 1) (sayV s 4 4) (sayV s 8 8) (sayV s 64 4) (sayV s 68 4); rw [yTo_zero]; go_simp; rfl) ?_;simp only [sS];refine step1 13 (by as_aux_lemma => kernel_rfl) ?_;refine stNew 13 4 (.pointer (some ⟨w6c.heap.size, 0, none⟩)) (.cells (NA Zi) 51) rfl rfl (by rfl) (by go_simp) ?_;have b7a : Below B W (w6c.alloc (.cells (NA Zi) 51)) := b6c.alloc (by have := b6c.size; omega) _
         have p7a : B ≤ w6c.heap.size := by have := b6c.size; omega
         have q7a : (w6c.alloc (.cells (NA Zi) 51)).heap[w6c.heap.size]? = some (.cells (NA Zi) 51 (0, 0)) := heap_alloc_new _ _
         have hH : (w6c.alloc (.cells (NA Zi) 51)).heap[w.heap.size]? = some (.cells (SA s) 33 (0, 0)) := by rw [b7a.block _ (by omega)]; exact hg1
         refine ⟨hH, ?_⟩;simp only [sS];refine step1 14 (by as_aux_lemma => kernel_rfl) ?_;refine stStoreR 14 51 (.tmp 4) (.tmp 20) (w6c.heap.size) (NA (yTo s 0)) 51 (NA Zi) rfl rfl (by rfl) rfl rfl rfl q7a (by rw [szI, NA_size, yTo_len]) (by rw [NA_size, NA_size, yTo_len]; rfl) (NA_one _) ?_
         intro wT hT
         have bT := hT.below b7a (by omega);refine ⟨by rw [bT.block _ (by omega)]; exact hg1, ?_⟩;refine wpAnyH_done (by as_aux_lemma => kernel_rfl) ?_ _;refine NoPanic.normal ?_;clear hH;have hP := hid (And.intro (show B ≤ w6c.heap.size by omega) (And.intro hT.here bT))
         go_wp2_with fail
         go_meet
         case rel => exact ⟨_, rfl, hP⟩
        ·refine stNew 13 4 (.pointer (some ⟨w5c.heap.size, 0, none⟩)) (.cells (NA Zi) 51) rfl rfl (by rfl) (by go_simp) ?_
         have b8a : Below B W (w5c.alloc (.cells (NA Zi) 51)) := b5c.alloc (by have := b5c.size; omega) _
         have p8a : B ≤ w5c.heap.size := by have := b5c.size; omega
         have q8a : (w5c.alloc (.cells (NA Zi) 51)).heap[w5c.heap.size]? = some (.cells (NA Zi) 51 (0, 0)) := heap_alloc_new _ _
         have hH : (w5c.alloc (.cells (NA Zi) 51)).heap[w.heap.size]? = some (.cells (SA s) 33 (0, 0)) := by rw [b8a.block _ (by omega)]; exact hg1
         refine ⟨hH, ?_⟩;simp only [sS];refine step1 11 (by as_aux_lemma => kernel_rfl) ?_;refine stCall 11 19 37 #[.agg (SA s), .int .i64 68, .int .i64 4] _ rfl rfl (by rfl) (by go_simp) (says_any s 68 4 _ hs (by decide) (by decide) (by decide) (by decide)) ?_
         rintro e w9c ⟨rfl, hb9c⟩
         have b9c : Below B W w9c := btr b8a hb9c (by have := b8a.size; omega)
         have z9c : B ≤ w9c.heap.size := by have := b9c.size; omega
         have hH : w9c.heap[w.heap.size]? = some (.cells (SA s) 33 (0, 0)) := by rw [b9c.block _ (by omega)]; exact hg1
         have q9c : w9c.heap[w5c.heap.size]? = some (.cells (NA Zi) 51 (0, 0)) := by rw [hb9c.block _ (slt q8a)]; exact q8a
         refine ⟨_, rfl, hH, ?_⟩;simp only [sS];refine takeVal 12 20 (.agg (NA (yTo s 0))) rfl (by as_aux_lemma => kernel_rfl) (by as_aux_lemma => kernel_rfl) (by as_aux_lemma => kernel_rfl) rfl (by rfl) (fun _ _ _ h => h) hH (fun _ hw' => by clear hzs hbs; have e := build_ino6 (sayV s 0 1) (sayV s 1 1) (sayV s 4 4) (sayV s 8 8) (sayV s 64 4) (sayV s 68 4); rw [yTo_zero]; go_simp; rfl) ?_;simp only [sS];refine step1 14 (by as_aux_lemma => kernel_rfl) ?_;refine stStoreR 14 51 (.tmp 4) (.tmp 20) (w5c.heap.size) (NA (yTo s 0)) 51 (NA Zi) rfl rfl (by rfl) rfl rfl rfl q9c (by rw [szI, NA_size, yTo_len]) (by rw [NA_size, NA_size, yTo_len]; rfl) (NA_one _) ?_
         intro wT hT
         have bT := hT.below b9c (by omega);refine ⟨by rw [bT.block _ (by omega)]; exact hg1, ?_⟩;refine wpAnyH_done (by as_aux_lemma => kernel_rfl) ?_ _;refine NoPanic.normal ?_;clear hH;have hP := hid (And.intro (show B ≤ w5c.heap.size by omega) (And.intro hT.here bT))
         go_wp2_with fail
         go_meet
         case rel => exact ⟨_, rfl, hP⟩
       ·refine stNew 13 4 (.pointer (some ⟨w4c.heap.size, 0, none⟩)) (.cells (NA Zi) 51) rfl rfl (by rfl) (by go_simp) ?_
        have b10a : Below B W (w4c.alloc (.cells (NA Zi) 51)) := b4c.alloc (by have := b4c.size; omega) _
        have p10a : B ≤ w4c.heap.size := by have := b4c.size; omega
        have q10a : (w4c.alloc (.cells (NA Zi) 51)).heap[w4c.heap.size]? = some (.cells (NA Zi) 51 (0, 0)) := heap_alloc_new _ _
        have hH : (w4c.alloc (.cells (NA Zi) 51)).heap[w.heap.size]? = some (.cells (SA s) 33 (0, 0)) := by rw [b10a.block _ (by omega)]; exact hg1
        refine ⟨hH, ?_⟩;simp only [sS];refine step1 9 (by as_aux_lemma => kernel_rfl) ?_;refine stCall 9 17 37 #[.agg (SA s), .int .i64 64, .int .i64 4] _ rfl rfl (by rfl) (by go_simp) (says_any s 64 4 _ hs (by decide) (by decide) (by decide) (by decide)) ?_
        rintro e w11c ⟨rfl, hb11c⟩
        have b11c : Below B W w11c := btr b10a hb11c (by have := b10a.size; omega)
        have z11c : B ≤ w11c.heap.size := by have := b11c.size; omega
        have hH : w11c.heap[w.heap.size]? = some (.cells (SA s) 33 (0, 0)) := by rw [b11c.block _ (by omega)]; exact hg1
        have q11c : w11c.heap[w4c.heap.size]? = some (.cells (NA Zi) 51 (0, 0)) := by rw [hb11c.block _ (slt q10a)]; exact q10a
        refine ⟨_, rfl, hH, ?_⟩;simp only [sS];refine step1 11 (by as_aux_lemma => kernel_rfl) ?_;refine stCall 11 19 37 #[.agg (SA s), .int .i64 68, .int .i64 4] _ rfl rfl (by rfl) (by go_simp) (says_any s 68 4 _ hs (by decide) (by decide) (by decide) (by decide)) ?_
        rintro e w12c ⟨rfl, hb12c⟩
        have b12c : Below B W w12c := btr b11c hb12c (by have := b11c.size; omega)
        have z12c : B ≤ w12c.heap.size := by have := b12c.size; omega
        have hH : w12c.heap[w.heap.size]? = some (.cells (SA s) 33 (0, 0)) := by rw [b12c.block _ (by omega)]; exact hg1
        have q12c : w12c.heap[w4c.heap.size]? = some (.cells (NA Zi) 51 (0, 0)) := by rw [hb12c.block _ (slt q11c)]; exact q11c
        refine ⟨_, rfl, hH, ?_⟩;simp only [sS];refine takeVal 12 20 (.agg (NA (yTo s 0))) rfl (by as_aux_lemma => kernel_rfl) (by as_aux_lemma => kernel_rfl) (by as_aux_lemma => kernel_rfl) rfl (by rfl) (fun _ _ _ h => h) hH (fun _ hw' => by clear hzs hbs; have e := build_ino6 (sayV s 0 1) (sayV s 1 1) (sayV s 4 4) (sayV s 8 8) (sayV s 64 4) (sayV s 68 4); rw [yTo_zero]; go_simp; rfl) ?_;simp only [sS];refine step1 14 (by as_aux_lemma => kernel_rfl) ?_;refine stStoreR 14 51 (.tmp 4) (.tmp 20) (w4c.heap.size) (NA (yTo s 0)) 51 (NA Zi) rfl rfl (by rfl) rfl rfl rfl q12c (by rw [szI, NA_size, yTo_len]) (by rw [NA_size, NA_size, yTo_len]; rfl) (NA_one _) ?_
        intro wT hT
        have bT := hT.below b12c (by omega);refine ⟨by rw [bT.block _ (by omega)]; exact hg1, ?_⟩;refine wpAnyH_done (by as_aux_lemma => kernel_rfl) ?_ _;refine NoPanic.normal ?_;clear hH;have hP := hid (And.intro (show B ≤ w4c.heap.size by omega) (And.intro hT.here bT))
        go_wp2_with fail
        go_meet
        case rel => exact ⟨_, rfl, hP⟩
      ·refine stNew 13 4 (.pointer (some ⟨w3c.heap.size, 0, none⟩)) (.cells (NA Zi) 51) rfl rfl (by rfl) (by go_simp) ?_
       have b13a : Below B W (w3c.alloc (.cells (NA Zi) 51)) := b3c.alloc (by have := b3c.size; omega) _
       have p13a : B ≤ w3c.heap.size := by have := b3c.size; omega
       have q13a : (w3c.alloc (.cells (NA Zi) 51)).heap[w3c.heap.size]? = some (.cells (NA Zi) 51 (0, 0)) := heap_alloc_new _ _
       have hH : (w3c.alloc (.cells (NA Zi) 51)).heap[w.heap.size]? = some (.cells (SA s) 33 (0, 0)) := by rw [b13a.block _ (by omega)]; exact hg1
       refine ⟨hH, ?_⟩;simp only [sS];refine step1 7 (by as_aux_lemma => kernel_rfl) ?_;refine stCall 7 15 37 #[.agg (SA s), .int .i64 8, .int .i64 8] _ rfl rfl (by rfl) (by go_simp) (says_any s 8 8 _ hs (by decide) (by decide) (by decide) (by decide)) ?_
       rintro e w14c ⟨rfl, hb14c⟩
       have b14c : Below B W w14c := btr b13a hb14c (by have := b13a.size; omega)
       have z14c : B ≤ w14c.heap.size := by have := b14c.size; omega
       have hH : w14c.heap[w.heap.size]? = some (.cells (SA s) 33 (0, 0)) := by rw [b14c.block _ (by omega)]; exact hg1
       have q14c : w14c.heap[w3c.heap.size]? = some (.cells (NA Zi) 51 (0, 0)) := by rw [hb14c.block _ (slt q13a)]; exact q13a
       refine ⟨_, rfl, hH, ?_⟩;simp only [sS];refine step1 9 (by as_aux_lemma => kernel_rfl) ?_;refine stCall 9 17 37 #[.agg (SA s), .int .i64 64, .int .i64 4] _ rfl rfl (by rfl) (by go_simp) (says_any s 64 4 _ hs (by decide) (by decide) (by decide) (by decide)) ?_
       rintro e w15c ⟨rfl, hb15c⟩
       have b15c : Below B W w15c := btr b14c hb15c (by have := b14c.size; omega)
       have z15c : B ≤ w15c.heap.size := by have := b15c.size; omega
       have hH : w15c.heap[w.heap.size]? = some (.cells (SA s) 33 (0, 0)) := by rw [b15c.block _ (by omega)]; exact hg1
       have q15c : w15c.heap[w3c.heap.size]? = some (.cells (NA Zi) 51 (0, 0)) := by rw [hb15c.block _ (slt q14c)]; exact q14c
       refine ⟨_, rfl, hH, ?_⟩;simp only [sS];refine step1 11 (by as_aux_lemma => kernel_rfl) ?_;refine stCall 11 19 37 #[.agg (SA s), .int .i64 68, .int .i64 4] _ rfl rfl (by rfl) (by go_simp) (says_any s 68 4 _ hs (by decide) (by decide) (by decide) (by decide)) ?_
       rintro e w16c ⟨rfl, hb16c⟩
       have b16c : Below B W w16c := btr b15c hb16c (by have := b15c.size; omega)
       have z16c : B ≤ w16c.heap.size := by have := b16c.size; omega
       have hH : w16c.heap[w.heap.size]? = some (.cells (SA s) 33 (0, 0)) := by rw [b16c.block _ (by omega)]; exact hg1
       have q16c : w16c.heap[w3c.heap.size]? = some (.cells (NA Zi) 51 (0, 0)) := by rw [hb16c.block _ (slt q15c)]; exact q15c
       refine ⟨_, rfl, hH, ?_⟩;simp only [sS];refine takeVal 12 20 (.agg (NA (yTo s 0))) rfl (by as_aux_lemma => kernel_rfl) (by as_aux_lemma => kernel_rfl) (by as_aux_lemma => kernel_rfl) rfl (by rfl) (fun _ _ _ h => h) hH (fun _ hw' => by clear hzs hbs; have e := build_ino6 (sayV s 0 1) (sayV s 1 1) (sayV s 4 4) (sayV s 8 8) (sayV s 64 4) (sayV s 68 4); rw [yTo_zero]; go_simp; rfl) ?_;simp only [sS];refine step1 14 (by as_aux_lemma => kernel_rfl) ?_;refine stStoreR 14 51 (.tmp 4) (.tmp 20) (w3c.heap.size) (NA (yTo s 0)) 51 (NA Zi) rfl rfl (by rfl) rfl rfl rfl q16c (by rw [szI, NA_size, yTo_len]) (by rw [NA_size, NA_size, yTo_len]; rfl) (NA_one _) ?_
       intro wT hT
       have bT := hT.below b16c (by omega);refine ⟨by rw [bT.block _ (by omega)]; exact hg1, ?_⟩;refine wpAnyH_done (by as_aux_lemma => kernel_rfl) ?_ _;refine NoPanic.normal ?_;clear hH;have hP := hid (And.intro (show B ≤ w3c.heap.size by omega) (And.intro hT.here bT))
       go_wp2_with fail
       go_meet
       case rel => exact ⟨_, rfl, hP⟩
     ·refine stNew 13 4 (.pointer (some ⟨w2c.heap.size, 0, none⟩)) (.cells (NA Zi) 51) rfl rfl (by rfl) (by go_simp) ?_
      have b17a : Below B W (w2c.alloc (.cells (NA Zi) 51)) := b2c.alloc (by have := b2c.size; omega) _
      have p17a : B ≤ w2c.heap.size := by have := b2c.size; omega
      have q17a : (w2c.alloc (.cells (NA Zi) 51)).heap[w2c.heap.size]? = some (.cells (NA Zi) 51 (0, 0)) := heap_alloc_new _ _
      have hH : (w2c.alloc (.cells (NA Zi) 51)).heap[w.heap.size]? = some (.cells (SA s) 33 (0, 0)) := by rw [b17a.block _ (by omega)]; exact hg1
      refine ⟨hH, ?_⟩;simp only [sS];refine step1 5 (by as_aux_lemma => kernel_rfl) ?_;refine stCall 5 13 37 #[.agg (SA s), .int .i64 4, .int .i64 4] _ rfl rfl (by rfl) (by go_simp) (says_any s 4 4 _ hs (by decide) (by decide) (by decide) (by decide)) ?_
      rintro e w18c ⟨rfl, hb18c⟩
      have b18c : Below B W w18c := btr b17a hb18c (by have := b17a.size; omega)
      have z18c : B ≤ w18c.heap.size := by have := b18c.size; omega
      have hH : w18c.heap[w.heap.size]? = some (.cells (SA s) 33 (0, 0)) := by rw [b18c.block _ (by omega)]; exact hg1
      have q18c : w18c.heap[w2c.heap.size]? = some (.cells (NA Zi) 51 (0, 0)) := by rw [hb18c.block _ (slt q17a)]; exact q17a
      refine ⟨_, rfl, hH, ?_⟩;simp only [sS];refine step1 7 (by as_aux_lemma => kernel_rfl) ?_;refine stCall 7 15 37 #[.agg (SA s), .int .i64 8, .int .i64 8] _ rfl rfl (by rfl) (by go_simp) (says_any s 8 8 _ hs (by decide) (by decide) (by decide) (by decide)) ?_
      rintro e w19c ⟨rfl, hb19c⟩
      have b19c : Below B W w19c := btr b18c hb19c (by have := b18c.size; omega)
      have z19c : B ≤ w19c.heap.size := by have := b19c.size; omega
      have hH : w19c.heap[w.heap.size]? = some (.cells (SA s) 33 (0, 0)) := by rw [b19c.block _ (by omega)]; exact hg1
      have q19c : w19c.heap[w2c.heap.size]? = some (.cells (NA Zi) 51 (0, 0)) := by rw [hb19c.block _ (slt q18c)]; exact q18c
      refine ⟨_, rfl, hH, ?_⟩;simp only [sS];refine step1 9 (by as_aux_lemma => kernel_rfl) ?_;refine stCall 9 17 37 #[.agg (SA s), .int .i64 64, .int .i64 4] _ rfl rfl (by rfl) (by go_simp) (says_any s 64 4 _ hs (by decide) (by decide) (by decide) (by decide)) ?_
      rintro e w20c ⟨rfl, hb20c⟩
      have b20c : Below B W w20c := btr b19c hb20c (by have := b19c.size; omega)
      have z20c : B ≤ w20c.heap.size := by have := b20c.size; omega
      have hH : w20c.heap[w.heap.size]? = some (.cells (SA s) 33 (0, 0)) := by rw [b20c.block _ (by omega)]; exact hg1
      have q20c : w20c.heap[w2c.heap.size]? = some (.cells (NA Zi) 51 (0, 0)) := by rw [hb20c.block _ (slt q19c)]; exact q19c
      refine ⟨_, rfl, hH, ?_⟩;simp only [sS];refine step1 11 (by as_aux_lemma => kernel_rfl) ?_;refine stCall 11 19 37 #[.agg (SA s), .int .i64 68, .int .i64 4] _ rfl rfl (by rfl) (by go_simp) (says_any s 68 4 _ hs (by decide) (by decide) (by decide) (by decide)) ?_
      rintro e w21c ⟨rfl, hb21c⟩
      have b21c : Below B W w21c := btr b20c hb21c (by have := b20c.size; omega)
      have z21c : B ≤ w21c.heap.size := by have := b21c.size; omega
      have hH : w21c.heap[w.heap.size]? = some (.cells (SA s) 33 (0, 0)) := by rw [b21c.block _ (by omega)]; exact hg1
      have q21c : w21c.heap[w2c.heap.size]? = some (.cells (NA Zi) 51 (0, 0)) := by rw [hb21c.block _ (slt q20c)]; exact q20c
      refine ⟨_, rfl, hH, ?_⟩;simp only [sS];refine takeVal 12 20 (.agg (NA (yTo s 0))) rfl (by as_aux_lemma => kernel_rfl) (by as_aux_lemma => kernel_rfl) (by as_aux_lemma => kernel_rfl) rfl (by rfl) (fun _ _ _ h => h) hH (fun _ hw' => by clear hzs hbs; have e := build_ino6 (sayV s 0 1) (sayV s 1 1) (sayV s 4 4) (sayV s 8 8) (sayV s 64 4) (sayV s 68 4); rw [yTo_zero]; go_simp; rfl) ?_;simp only [sS];refine step1 14 (by as_aux_lemma => kernel_rfl) ?_;refine stStoreR 14 51 (.tmp 4) (.tmp 20) (w2c.heap.size) (NA (yTo s 0)) 51 (NA Zi) rfl rfl (by rfl) rfl rfl rfl q21c (by rw [szI, NA_size, yTo_len]) (by rw [NA_size, NA_size, yTo_len]; rfl) (NA_one _) ?_
      intro wT hT
      have bT := hT.below b21c (by omega);refine ⟨by rw [bT.block _ (by omega)]; exact hg1, ?_⟩;refine wpAnyH_done (by as_aux_lemma => kernel_rfl) ?_ _;refine NoPanic.normal ?_;clear hH;have hP := hid (And.intro (show B ≤ w2c.heap.size by omega) (And.intro hT.here bT))
      go_wp2_with fail
      go_meet
      case rel => exact ⟨_, rfl, hP⟩
    ·refine stNew 13 4 (.pointer (some ⟨w1c.heap.size, 0, none⟩)) (.cells (NA Zi) 51) rfl rfl (by rfl) (by go_simp) ?_
     have b22a : Below B W (w1c.alloc (.cells (NA Zi) 51)) := b1c.alloc (by have := b1c.size; omega) _
     have p22a : B ≤ w1c.heap.size := by have := b1c.size; omega
     have q22a : (w1c.alloc (.cells (NA Zi) 51)).heap[w1c.heap.size]? = some (.cells (NA Zi) 51 (0, 0)) := heap_alloc_new _ _
     have hH : (w1c.alloc (.cells (NA Zi) 51)).heap[w.heap.size]? = some (.cells (SA s) 33 (0, 0)) := by rw [b22a.block _ (by omega)]; exact hg1
     refine ⟨hH, ?_⟩;simp only [sS];refine step1 3 (by as_aux_lemma => kernel_rfl) ?_;refine stCall 3 11 37 #[.agg (SA s), .int .i64 1, .int .i64 1] _ rfl rfl (by rfl) (by go_simp) (says_any s 1 1 _ hs (by decide) (by decide) (by decide) (by decide)) ?_
     rintro e w23c ⟨rfl, hb23c⟩
     have b23c : Below B W w23c := btr b22a hb23c (by have := b22a.size; omega)
     have z23c : B ≤ w23c.heap.size := by have := b23c.size; omega
     have hH : w23c.heap[w.heap.size]? = some (.cells (SA s) 33 (0, 0)) := by rw [b23c.block _ (by omega)]; exact hg1
     have q23c : w23c.heap[w1c.heap.size]? = some (.cells (NA Zi) 51 (0, 0)) := by rw [hb23c.block _ (slt q22a)]; exact q22a
     refine ⟨_, rfl, hH, ?_⟩;simp only [sS];refine step1 5 (by as_aux_lemma => kernel_rfl) ?_;refine stCall 5 13 37 #[.agg (SA s), .int .i64 4, .int .i64 4] _ rfl rfl (by rfl) (by go_simp) (says_any s 4 4 _ hs (by decide) (by decide) (by decide) (by decide)) ?_
     rintro e w24c ⟨rfl, hb24c⟩
     have b24c : Below B W w24c := btr b23c hb24c (by have := b23c.size; omega)
     have z24c : B ≤ w24c.heap.size := by have := b24c.size; omega
     have hH : w24c.heap[w.heap.size]? = some (.cells (SA s) 33 (0, 0)) := by rw [b24c.block _ (by omega)]; exact hg1
     have q24c : w24c.heap[w1c.heap.size]? = some (.cells (NA Zi) 51 (0, 0)) := by rw [hb24c.block _ (slt q23c)]; exact q23c
     refine ⟨_, rfl, hH, ?_⟩;simp only [sS];refine step1 7 (by as_aux_lemma => kernel_rfl) ?_;refine stCall 7 15 37 #[.agg (SA s), .int .i64 8, .int .i64 8] _ rfl rfl (by rfl) (by go_simp) (says_any s 8 8 _ hs (by decide) (by decide) (by decide) (by decide)) ?_
     rintro e w25c ⟨rfl, hb25c⟩
     have b25c : Below B W w25c := btr b24c hb25c (by have := b24c.size; omega)
     have z25c : B ≤ w25c.heap.size := by have := b25c.size; omega
     have hH : w25c.heap[w.heap.size]? = some (.cells (SA s) 33 (0, 0)) := by rw [b25c.block _ (by omega)]; exact hg1
     have q25c : w25c.heap[w1c.heap.size]? = some (.cells (NA Zi) 51 (0, 0)) := by rw [hb25c.block _ (slt q24c)]; exact q24c
     refine ⟨_, rfl, hH, ?_⟩;simp only [sS];refine step1 9 (by as_aux_lemma => kernel_rfl) ?_;refine stCall 9 17 37 #[.agg (SA s), .int .i64 64, .int .i64 4] _ rfl rfl (by rfl) (by go_simp) (says_any s 64 4 _ hs (by decide) (by decide) (by decide) (by decide)) ?_
     rintro e w26c ⟨rfl, hb26c⟩
     have b26c : Below B W w26c := btr b25c hb26c (by have := b25c.size; omega)
     have z26c : B ≤ w26c.heap.size := by have := b26c.size; omega
     have hH : w26c.heap[w.heap.size]? = some (.cells (SA s) 33 (0, 0)) := by rw [b26c.block _ (by omega)]; exact hg1
     have q26c : w26c.heap[w1c.heap.size]? = some (.cells (NA Zi) 51 (0, 0)) := by rw [hb26c.block _ (slt q25c)]; exact q25c
     refine ⟨_, rfl, hH, ?_⟩;simp only [sS];refine step1 11 (by as_aux_lemma => kernel_rfl) ?_;refine stCall 11 19 37 #[.agg (SA s), .int .i64 68, .int .i64 4] _ rfl rfl (by rfl) (by go_simp) (says_any s 68 4 _ hs (by decide) (by decide) (by decide) (by decide)) ?_
     rintro e w27c ⟨rfl, hb27c⟩
     have b27c : Below B W w27c := btr b26c hb27c (by have := b26c.size; omega)
     have z27c : B ≤ w27c.heap.size := by have := b27c.size; omega
     have hH : w27c.heap[w.heap.size]? = some (.cells (SA s) 33 (0, 0)) := by rw [b27c.block _ (by omega)]; exact hg1
     have q27c : w27c.heap[w1c.heap.size]? = some (.cells (NA Zi) 51 (0, 0)) := by rw [hb27c.block _ (slt q26c)]; exact q26c
     refine ⟨_, rfl, hH, ?_⟩;simp only [sS];refine takeVal 12 20 (.agg (NA (yTo s 0))) rfl (by as_aux_lemma => kernel_rfl) (by as_aux_lemma => kernel_rfl) (by as_aux_lemma => kernel_rfl) rfl (by rfl) (fun _ _ _ h => h) hH (fun _ hw' => by clear hzs hbs; have e := build_ino6 (sayV s 0 1) (sayV s 1 1) (sayV s 4 4) (sayV s 8 8) (sayV s 64 4) (sayV s 68 4); rw [yTo_zero]; go_simp; rfl) ?_;simp only [sS];refine step1 14 (by as_aux_lemma => kernel_rfl) ?_;refine stStoreR 14 51 (.tmp 4) (.tmp 20) (w1c.heap.size) (NA (yTo s 0)) 51 (NA Zi) rfl rfl (by rfl) rfl rfl rfl q27c (by rw [szI, NA_size, yTo_len]) (by rw [NA_size, NA_size, yTo_len]; rfl) (NA_one _) ?_
     intro wT hT
     have bT := hT.below b27c (by omega);refine ⟨by rw [bT.block _ (by omega)]; exact hg1, ?_⟩;refine wpAnyH_done (by as_aux_lemma => kernel_rfl) ?_ _;refine NoPanic.normal ?_;clear hH;have hP := hid (And.intro (show B ≤ w1c.heap.size by omega) (And.intro hT.here bT))
     go_wp2_with fail
     go_meet
     case rel => exact ⟨_, rfl, hP⟩
   ·refine stNew 13 4 (.pointer (some ⟨W.drew.heap.size, 0, none⟩)) (.cells (NA Zi) 51) rfl rfl (by rfl) (by go_simp) ?_
    have b28a : Below B W (W.drew.alloc (.cells (NA Zi) 51)) := b0.alloc (by have := b0.size; omega) _
    have p28a : B ≤ W.drew.heap.size := by have := b0.size; omega
    have q28a : (W.drew.alloc (.cells (NA Zi) 51)).heap[W.drew.heap.size]? = some (.cells (NA Zi) 51 (0, 0)) := heap_alloc_new _ _
    have hH : (W.drew.alloc (.cells (NA Zi) 51)).heap[w.heap.size]? = some (.cells (SA s) 33 (0, 0)) := by rw [b28a.block _ (by omega)]; exact hg1
    refine ⟨hH, ?_⟩;simp only [sS];refine step1 1 (by as_aux_lemma => kernel_rfl) ?_;refine stCall 1 9 37 #[.agg (SA s), .int .i64 0, .int .i64 1] _ rfl rfl (by rfl) (by go_simp) (says_any s 0 1 _ hs (by decide) (by decide) (by decide) (by decide)) ?_
    rintro e w29c ⟨rfl, hb29c⟩
    have b29c : Below B W w29c := btr b28a hb29c (by have := b28a.size; omega)
    have z29c : B ≤ w29c.heap.size := by have := b29c.size; omega
    have hH : w29c.heap[w.heap.size]? = some (.cells (SA s) 33 (0, 0)) := by rw [b29c.block _ (by omega)]; exact hg1
    have q29c : w29c.heap[W.drew.heap.size]? = some (.cells (NA Zi) 51 (0, 0)) := by rw [hb29c.block _ (slt q28a)]; exact q28a
    refine ⟨_, rfl, hH, ?_⟩;simp only [sS];refine step1 3 (by as_aux_lemma => kernel_rfl) ?_;refine stCall 3 11 37 #[.agg (SA s), .int .i64 1, .int .i64 1] _ rfl rfl (by rfl) (by go_simp) (says_any s 1 1 _ hs (by decide) (by decide) (by decide) (by decide)) ?_
    rintro e w30c ⟨rfl, hb30c⟩
    have b30c : Below B W w30c := btr b29c hb30c (by have := b29c.size; omega)
    have z30c : B ≤ w30c.heap.size := by have := b30c.size; omega
    have hH : w30c.heap[w.heap.size]? = some (.cells (SA s) 33 (0, 0)) := by rw [b30c.block _ (by omega)]; exact hg1
    have q30c : w30c.heap[W.drew.heap.size]? = some (.cells (NA Zi) 51 (0, 0)) := by rw [hb30c.block _ (slt q29c)]; exact q29c
    refine ⟨_, rfl, hH, ?_⟩;simp only [sS];refine step1 5 (by as_aux_lemma => kernel_rfl) ?_;refine stCall 5 13 37 #[.agg (SA s), .int .i64 4, .int .i64 4] _ rfl rfl (by rfl) (by go_simp) (says_any s 4 4 _ hs (by decide) (by decide) (by decide) (by decide)) ?_
    rintro e w31c ⟨rfl, hb31c⟩
    have b31c : Below B W w31c := btr b30c hb31c (by have := b30c.size; omega)
    have z31c : B ≤ w31c.heap.size := by have := b31c.size; omega
    have hH : w31c.heap[w.heap.size]? = some (.cells (SA s) 33 (0, 0)) := by rw [b31c.block _ (by omega)]; exact hg1
    have q31c : w31c.heap[W.drew.heap.size]? = some (.cells (NA Zi) 51 (0, 0)) := by rw [hb31c.block _ (slt q30c)]; exact q30c
    refine ⟨_, rfl, hH, ?_⟩;simp only [sS];refine step1 7 (by as_aux_lemma => kernel_rfl) ?_;refine stCall 7 15 37 #[.agg (SA s), .int .i64 8, .int .i64 8] _ rfl rfl (by rfl) (by go_simp) (says_any s 8 8 _ hs (by decide) (by decide) (by decide) (by decide)) ?_
    rintro e w32c ⟨rfl, hb32c⟩
    have b32c : Below B W w32c := btr b31c hb32c (by have := b31c.size; omega)
    have z32c : B ≤ w32c.heap.size := by have := b32c.size; omega
    have hH : w32c.heap[w.heap.size]? = some (.cells (SA s) 33 (0, 0)) := by rw [b32c.block _ (by omega)]; exact hg1
    have q32c : w32c.heap[W.drew.heap.size]? = some (.cells (NA Zi) 51 (0, 0)) := by rw [hb32c.block _ (slt q31c)]; exact q31c
    refine ⟨_, rfl, hH, ?_⟩;simp only [sS];refine step1 9 (by as_aux_lemma => kernel_rfl) ?_;refine stCall 9 17 37 #[.agg (SA s), .int .i64 64, .int .i64 4] _ rfl rfl (by rfl) (by go_simp) (says_any s 64 4 _ hs (by decide) (by decide) (by decide) (by decide)) ?_
    rintro e w33c ⟨rfl, hb33c⟩
    have b33c : Below B W w33c := btr b32c hb33c (by have := b32c.size; omega)
    have z33c : B ≤ w33c.heap.size := by have := b33c.size; omega
    have hH : w33c.heap[w.heap.size]? = some (.cells (SA s) 33 (0, 0)) := by rw [b33c.block _ (by omega)]; exact hg1
    have q33c : w33c.heap[W.drew.heap.size]? = some (.cells (NA Zi) 51 (0, 0)) := by rw [hb33c.block _ (slt q32c)]; exact q32c
    refine ⟨_, rfl, hH, ?_⟩;simp only [sS];refine step1 11 (by as_aux_lemma => kernel_rfl) ?_;refine stCall 11 19 37 #[.agg (SA s), .int .i64 68, .int .i64 4] _ rfl rfl (by rfl) (by go_simp) (says_any s 68 4 _ hs (by decide) (by decide) (by decide) (by decide)) ?_
    rintro e w34c ⟨rfl, hb34c⟩
    have b34c : Below B W w34c := btr b33c hb34c (by have := b33c.size; omega)
    have z34c : B ≤ w34c.heap.size := by have := b34c.size; omega
    have hH : w34c.heap[w.heap.size]? = some (.cells (SA s) 33 (0, 0)) := by rw [b34c.block _ (by omega)]; exact hg1
    have q34c : w34c.heap[W.drew.heap.size]? = some (.cells (NA Zi) 51 (0, 0)) := by rw [hb34c.block _ (slt q33c)]; exact q33c
    refine ⟨_, rfl, hH, ?_⟩;simp only [sS];refine takeVal 12 20 (.agg (NA (yTo s 0))) rfl (by as_aux_lemma => kernel_rfl) (by as_aux_lemma => kernel_rfl) (by as_aux_lemma => kernel_rfl) rfl (by rfl) (fun _ _ _ h => h) hH (fun _ hw' => by clear hzs hbs; have e := build_ino6 (sayV s 0 1) (sayV s 1 1) (sayV s 4 4) (sayV s 8 8) (sayV s 64 4) (sayV s 68 4); rw [yTo_zero]; go_simp; rfl) ?_;simp only [sS];refine step1 14 (by as_aux_lemma => kernel_rfl) ?_;refine stStoreR 14 51 (.tmp 4) (.tmp 20) (W.drew.heap.size) (NA (yTo s 0)) 51 (NA Zi) rfl rfl (by rfl) rfl rfl rfl q34c (by rw [szI, NA_size, yTo_len]) (by rw [NA_size, NA_size, yTo_len]; rfl) (NA_one _) ?_
    intro wT hT
    have bT := hT.below b34c (by omega);refine ⟨by rw [bT.block _ (by omega)]; exact hg1, ?_⟩;refine wpAnyH_done (by as_aux_lemma => kernel_rfl) ?_ _;refine NoPanic.normal ?_;clear hH;have hP := hid (And.intro (show B ≤ W.drew.heap.size by omega) (And.intro hT.here bT))
    go_wp2_with fail
    go_meet
    case rel => exact ⟨_, rfl, hP⟩
 case rest =>
  obtain ⟨g, rfl, HG⟩ := hcut;obtain ⟨hge, hgr, hbc⟩ := HG.out;have hJ : Hid (wc.heap[w.heap.size]? = some (.cells (SA s) 33 (0, 0)) ∧ wc.heap[w.heap.size + 1]? = some (.cells (NA Zi) 51 (0, 0)) ∧ wc.heap[g]? = some (.cells (NA (yTo s 0)) 51 (0, 0)) ∧ Below w.heap.size w wc) := ⟨by rw [hbc.block _ (by omega)]; exact hg1, by rw [hbc.block _ (by omega)]; exact hg2, hgr, btr hbW hbc (by omega)⟩
  have hgg : w.heap.size + 2 ≤ g := by omega
  obtain ⟨w0, hw0⟩ : ∃ w0, w0 = wc := ⟨_, rfl⟩;subst hw0;clear hg1 hg2 hbW hW hB hB2 hgr hbc HG hge
  go_wp2
  go_loopw [5] (fun i wr => ∃ q : Nat, q ≤ 12 ∧ i = .int .i64 q ∧ Hid (wr.heap[w.heap.size]? = some (.cells (SA s) 33 (0, 0)) ∧ wr.heap[w.heap.size + 1]? = some (.cells (NA Zi) 51 (0, 0)) ∧ wr.heap[g]? = some (.cells (NA (yTo s q)) 51 (0, 0)) ∧ Below w.heap.size w wr)) (fun i _ => 12 - (intOf i).toNat)
  case atStart => exact ⟨0, by omega, rfl, hJ⟩
  case round =>
   clear hJ;obtain ⟨q, hq, rfl, HI⟩ := hrel
   by_cases hlt : q < 12
   ·have hqi : (q : Int) < 12 := by omega
    have HSy := hid fun w => says_any s (16 + 4 * (q : Int)) 4 w hs (by decide) (by decide) (by omega) (by omega)
    have hpv : sayV s (16 + 4 * (q : Int)) 4 = pv s (4 + q) := by unfold pv; rw [pls_dir hlt]; congr 1
    rw [hpv] at HSy;have HSt := hid (yTo_step s q)
    generalize pv s (4 + q) = x at *
    clear hpv hlt;have hl := hs.1
    go_upto_region 4 with (first | refine load_sec rfl (.tmp 1) rfl w.heap.size rfl s hl HI.out.1 ?_ | (go_at_call 37; refine (HSy.out _).mono ?_; rintro e w1 ⟨rfl, b1⟩; have B1 := hid b1; have hcx := row_cell (show w1.heap[g]? = some (.cells (NA (yTo s q)) 51 (0, 0)) by rw [b1.block _ (slt HI.out.2.2.1)]; exact HI.out.2.2.1) (4 + q) (by rw [yTo_len]; omega); have hfx := row_free (show w1.heap[g]? = some (.cells (NA (yTo s q)) 51 (0, 0)) by rw [b1.block _ (slt HI.out.2.2.1)]; exact HI.out.2.2.1) (4 + q); generalize (yTo s q).getD (4 + q) 0 = o0 at hcx; clear b1))
    have hP := row_setCell (show w1.heap[g]? = some (.cells (NA (yTo s q)) 51 (0, 0)) by rw [B1.out.block _ (slt HI.out.2.2.1)]; exact HI.out.2.2.1) (4 + q) x;rw [HSt.out] at hP;have HN : Hid ((w1.setCell ⟨g, 4 + q, none⟩ (.int .i64 x)).heap[w.heap.size]? = some (.cells (SA s) 33 (0, 0)) ∧ (w1.setCell ⟨g, 4 + q, none⟩ (.int .i64 x)).heap[w.heap.size + 1]? = some (.cells (NA Zi) 51 (0, 0)) ∧ (w1.setCell ⟨g, 4 + q, none⟩ (.int .i64 x)).heap[g]? = some (.cells (NA (yTo s (q + 1))) 51 (0, 0)) ∧ Below w.heap.size w (w1.setCell ⟨g, 4 + q, none⟩ (.int .i64 x))) := ⟨by rw [hP.other _ (by omega), B1.out.block _ (slt HI.out.1)]; exact HI.out.1, by rw [hP.other _ (by omega), B1.out.block _ (slt HI.out.2.1)]; exact HI.out.2.1, hP.here, hP.below (btr HI.out.2.2.2 B1.out HI.out.2.2.2.size) (by omega)⟩;clear hP hcx hfx B1 HSy HSt
    generalize w1.setCell ⟨g, 4 + q, none⟩ (.int .i64 x) = w2 at *
    go_wp2
    exact ⟨⟨q + 1, by omega, by go_num, HN⟩, by simp [intOf]; omega⟩
   ·obtain rfl : q = 12 := by omega
    obtain ⟨ZZ, hZZ⟩ : ∃ z, yA s = z := ⟨_, rfl⟩
    have hzl : ZZ.length = 18 := by rw [← hZZ]; exact yTo_len s 12
    have H1 := hid HI.out.1;have H2 := hid HI.out.2.1
    have HR : Hid (wr.heap[g]? = some (.cells (NA ZZ) 51 (0, 0))) := by rw [← hZZ]; exact HI.out.2.2.1
    have HC := hid HI.out.2.2.2
    have hsup := fun w' => rinodeSector_any ZZ hzl w'
    have hE : inoE ZZ = if inoB ZZ = true then 0 else 61 := rfl
    have hrd : rdIno ZZ s = if inoB ZZ = true ∧ inoS ZZ = s then (ZZ, 0) else (Zi, 61) := rfl
    have HLS := hid (inoS_len ZZ);have hgd := guard_sec;have hl := hs.1;replace hZZ := hid hZZ;clear hlt hq HI
    generalize inoS ZZ = SX at *
    generalize inoE ZZ = EE at *
    generalize inoB ZZ = BB at *
    cases BB
    ·have hE' : EE = 61 := by rw [hE]; rfl
     subst hE'
     have HV : Hid (rdIno ZZ s = (Zi, 61)) := by show _ = _; rw [hrd]; simp
     clear hE hrd
     go_wp2_with (first | refine load_R rfl 51 (.tmp 4) rfl g rfl 51 _ _ HR.out Tryz.underlying51 rfl (by rw [szI, NA_size, hzl]) ?_ | (go_at_call 31; go_must (refine (hsup _).mono ?_; rintro e w2 ⟨rfl, hb2⟩)) | (refine store_sec rfl (.tmp 6) _ rfl w2.heap.size rfl SX rfl HLS.out Zs Zs_len (heap_alloc_new _ _) ?_; intro w3 hw3; obtain ⟨HA1, HA2, HAR, HAC⟩ := after_new (t := 51) hb2 hw3 H1.out H2.out HR.out HC.out) | refine load_sec_g (.tmp 6) rfl w2.heap.size rfl SX HLS.out hw3.here rfl ?_ | refine load_sec_g (.tmp 1) rfl w.heap.size rfl s hl HA1.out rfl ?_ | refine load_R rfl 51 (.tmp 4) rfl g rfl 51 _ _ HAR.out Tryz.underlying51 rfl (by rw [szI, NA_size, hzl]) ?_ | (refine store_R rfl 51 (.tmp 2) _ rfl (w.heap.size + 1) (NA ZZ) rfl rfl 51 _ HA2.out (by rw [szI, NA_size, hzl]) (by rw [NA_size, NA_size, hzl]; rfl) (NA_one _) ?_; intro w4 hw4) | (refine store_R rfl 51 (.tmp 2) _ rfl (w.heap.size + 1) (NA Zi) rfl rfl 51 _ HA2.out (by rw [szI, NA_size, Zi_len]) rfl (NA_one _) ?_; intro w4 hw4))
     rw [hZZ.out, HV.out]
     exact bodyPost_ret (v := .tuple #[.agg (NA Zi), .int .i64 61]) (results_R Tryz.results33 _ _ (w.heap.size + 1) _ 51 _ _ Tryz.underlying51 rfl (by rw [szI, NA_size, Zi_len]) rfl rfl hw4.here) rfl ⟨rfl, hw4.below HAC.out (by omega)⟩
    ·have hE' : EE = 0 := by rw [hE]; rfl
     subst hE'
     by_cases hq : SX = s
     ·have HV : Hid (rdIno ZZ s = (ZZ, 0)) := by show _ = _; rw [hrd]; simp [hq]
      have heq : ∀ w', (Op.equalIn 10000 33 (.agg (SA SX)) (.agg (SA s))).run Tryz.prog w' = .ok true w' := fun w' => by rw [eq_sec _ _ HLS.out hl, decide_eq_true hq]
      clear hq hE hrd
      go_wp2_with (first | refine load_R rfl 51 (.tmp 4) rfl g rfl 51 _ _ HR.out Tryz.underlying51 rfl (by rw [szI, NA_size, hzl]) ?_ | (go_at_call 31; go_must (refine (hsup _).mono ?_; rintro e w2 ⟨rfl, hb2⟩)) | (refine store_sec rfl (.tmp 6) _ rfl w2.heap.size rfl SX rfl HLS.out Zs Zs_len (heap_alloc_new _ _) ?_; intro w3 hw3; obtain ⟨HA1, HA2, HAR, HAC⟩ := after_new (t := 51) hb2 hw3 H1.out H2.out HR.out HC.out) | refine load_sec_g (.tmp 6) rfl w2.heap.size rfl SX HLS.out hw3.here rfl ?_ | refine load_sec_g (.tmp 1) rfl w.heap.size rfl s hl HA1.out rfl ?_ | refine load_R rfl 51 (.tmp 4) rfl g rfl 51 _ _ HAR.out Tryz.underlying51 rfl (by rw [szI, NA_size, hzl]) ?_ | (refine store_R rfl 51 (.tmp 2) _ rfl (w.heap.size + 1) (NA ZZ) rfl rfl 51 _ HA2.out (by rw [szI, NA_size, hzl]) (by rw [NA_size, NA_size, hzl]; rfl) (NA_one _) ?_; intro w4 hw4) | (refine store_R rfl 51 (.tmp 2) _ rfl (w.heap.size + 1) (NA Zi) rfl rfl 51 _ HA2.out (by rw [szI, NA_size, Zi_len]) rfl (NA_one _) ?_; intro w4 hw4))
      rw [hZZ.out, HV.out]
      exact bodyPost_ret (v := .tuple #[.agg (NA ZZ), .int .i64 0]) (results_R Tryz.results33 _ _ (w.heap.size + 1) _ 51 _ _ Tryz.underlying51 rfl (by rw [szI, NA_size, hzl]) rfl rfl hw4.here) rfl ⟨rfl, hw4.below HAC.out (by omega)⟩
     ·have HV : Hid (rdIno ZZ s = (Zi, 61)) := by show _ = _; rw [hrd]; simp [hq]
      have heq : ∀ w', (Op.equalIn 10000 33 (.agg (SA SX)) (.agg (SA s))).run Tryz.prog w' = .ok false w' := fun w' => by rw [eq_sec _ _ HLS.out hl, decide_eq_false hq]
      clear hq hE hrd
      go_wp2_with (first | refine load_R rfl 51 (.tmp 4) rfl g rfl 51 _ _ HR.out Tryz.underlying51 rfl (by rw [szI, NA_size, hzl]) ?_ | (go_at_call 31; go_must (refine (hsup _).mono ?_; rintro e w2 ⟨rfl, hb2⟩)) | (refine store_sec rfl (.tmp 6) _ rfl w2.heap.size rfl SX rfl HLS.out Zs Zs_len (heap_alloc_new _ _) ?_; intro w3 hw3; obtain ⟨HA1, HA2, HAR, HAC⟩ := after_new (t := 51) hb2 hw3 H1.out H2.out HR.out HC.out) | refine load_sec_g (.tmp 6) rfl w2.heap.size rfl SX HLS.out hw3.here rfl ?_ | refine load_sec_g (.tmp 1) rfl w.heap.size rfl s hl HA1.out rfl ?_ | refine load_R rfl 51 (.tmp 4) rfl g rfl 51 _ _ HAR.out Tryz.underlying51 rfl (by rw [szI, NA_size, hzl]) ?_ | (refine store_R rfl 51 (.tmp 2) _ rfl (w.heap.size + 1) (NA ZZ) rfl rfl 51 _ HA2.out (by rw [szI, NA_size, hzl]) (by rw [NA_size, NA_size, hzl]; rfl) (NA_one _) ?_; intro w4 hw4) | (refine store_R rfl 51 (.tmp 2) _ rfl (w.heap.size + 1) (NA Zi) rfl rfl 51 _ HA2.out (by rw [szI, NA_size, Zi_len]) rfl (NA_one _) ?_; intro w4 hw4))
      rw [hZZ.out, HV.out]
      exact bodyPost_ret (v := .tuple #[.agg (NA Zi), .int .i64 61]) (results_R Tryz.results33 _ _ (w.heap.size + 1) _ 51 _ _ Tryz.underlying51 rfl (by rw [szI, NA_size, Zi_len]) rfl rfl hw4.here) rfl ⟨rfl, hw4.below HAC.out (by omega)⟩

end Go.Proofs.YtpmignilhoihnaaGreat
