/-
 The document's sight: pointers.
-/
import Derived.Test.YtpmignilhoihnabGreatS4
namespace Go.Proofs.YtpmignilhoihnabGreat
open Go.RowKit Go.Shelf

set_option maxHeartbeats 2400000 in
set_option maxRecDepth 100000 in
theorem pointers_w {c : SC} {sn : Int → Bool} (z : List Int) (hz : z.length = 18) (h0 : 0 ≤ z.getD 2 0) (h1 : z.getD 2 0 ≤ 1000000) (w : World) (h : IsS w c sn) :
  Calls Tryz.prog 22 #[.pointer (some ⟨c.p, 0, none⟩), .agg (NA z)] w (PtrPost c z sn w) := by
 have hA := Chg.alloc w (.cells (NA z) 39) No;have hA2 := heap_alloc_new w (.cells (NA z) 39);have hCo := rcount_any z hz h0 h1 (w.alloc (.cells (NA z) 39));have HZ := hid hz;have HA := hid hA;have HA2 := hid hA2;have HH := hid h;clear hA hA2 h
 go_enter Tryz.func22, Tryz.ntmps22
 go_upto_region 2 with (first
  | (refine load_R rfl 39 _ rfl w.heap.size rfl 39 _ _ HA2.out Tryz.underlying39 rfl (by rw [szI, NA_size, HZ.out]) ?_)
  | (go_at_call 43; go_must (refine hCo.mono ?_; rintro e w1 ⟨rfl, hc1⟩))
  | fail)
 obtain ⟨g, hg⟩ : ∃ y, y = w.heap.size := ⟨_, rfl⟩;obtain ⟨n, hn⟩ : ∃ y, y = cntZ z := ⟨_, rfl⟩;have G0 : Hid (PW w w1 c g z sn) := hid ⟨HH.out.call (HA.out.trans hc1 (fun _ _ e => e) (fun _ _ e => e)), by rw [hg]; exact hc1.keep HA2.out (fun e => e), (HA.out.trans hc1 (c := No) (fun _ _ e => e) (fun _ _ e => e)).mono fun _ _ e => e.elim⟩;rw [← hg, ← hn];obtain ⟨dr, hdr⟩ : ∃ y, y = (z.drop 4).take 12 := ⟨_, rfl⟩;have HD : Hid (∀ j, j < 12 → dr.getD j 0 = z.getD (4 + j) 0) := hid (fun j hj => by rw [hdr]; exact part_get hz hj);have HP : Hid (ptrsW c.N c.M c.im z sn = (rowS (blockS c.N c.M n) dr 0 1 sn 12).bind fun s1 => (stepZ (tabS c n) 12 (z.getD 16 0) s1).bind fun s2 => stepZ (tableS c.N c.M n 32 c.im (tabS c n)) 44 (z.getD 17 0) s2) := hid (by rw [hn, hdr]; rfl);clear hg hn hdr hc1 hCo HA HA2 hz h0 h1
 go_wp2_with fail
 go_loopw [6] (fun x6 wr => ∃ k : Nat, k ≤ 12 ∧ x6 = .int .i64 k ∧ Hid (∃ s, rowS (blockS c.N c.M n) dr 0 1 sn k = some s ∧ PW w wr c g z s)) (fun x6 _ => 12 - (intOf x6).toNat)
 case atStart => exact ⟨0, by omega, rfl, hid ⟨sn, rfl, G0.out⟩⟩
 case round =>
  obtain ⟨k, hk, rfl, HI⟩ := hrel;obtain ⟨s, hs, hT⟩ := HI.out;have HS := hid hs;have HT := hid hT;clear HI hs hT
  by_cases hlt : k < 12
  ·have i0 : (0 : Int) ≤ (k : Int) := by omega
   have i1 : (k : Int) < 12 := by omega
   have q := row_cell HT.out.g (4 + k) (by rw [HZ.out]; omega);obtain ⟨y, hy⟩ : ∃ y, y = z.getD (4 + k) 0 := ⟨_, rfl⟩
   have HW : Hid (rowS (blockS c.N c.M n) dr 0 1 sn (k + 1) = if y = 0 then some s else if aimB c s y k n = true then some (putC s y) else none) := hid (by
    rw [rowS, HS.out, hy, Option.bind_some, HD.out k hlt];unfold blockS
    rw [show (0 : Int) + 1 * k = k by omega, aim_is])
   rw [← hy] at q;clear hy
   by_cases hy : y = 0
   ·subst hy
    have HW1 : Hid (rowS (blockS c.N c.M n) dr 0 1 sn (k + 1) = some s) := hid (by rw [HW.out, if_pos rfl]);clear HW
    go_wp2_with fail
    exact ⟨⟨k + 1, by omega, by go_num, hid ⟨s, HW1.out, HT.out⟩⟩, by simp [intOf]; omega⟩
   ·have hyb : (y == 0) = false := by simpa using hy
    have hAI := aim_any y k n wr HT.out.s
    cases hb : aimB c s y k n
    ·have HPn : Hid (ptrsW c.N c.M c.im z sn = none) := hid (by
      rw [HP.out, rowS_none (k := k + 1) (by rw [HW.out, if_neg hy, if_neg (by rw [hb]; decide)]) 12 (by omega)]
      rfl)
     rw [hb, if_neg (by decide)] at hAI;clear HW hb
     go_wp2_with (first
      | (go_at_call 44; go_must (refine hAI.mono ?_; rintro e w3 ⟨rfl, hS3, hc3⟩))
      | fail)
     go_ret
     exact ptr_none HPn.out (HT.out.step hS3 hc3)
    ·have HW1 : Hid (rowS (blockS c.N c.M n) dr 0 1 sn (k + 1) = some (putC s y)) := hid (by rw [HW.out, if_neg hy, if_pos hb])
     rw [hb, if_pos rfl] at hAI;clear HW hb
     go_wp2_with (first
      | (go_at_call 44; go_must (refine hAI.mono ?_; rintro e w3 ⟨rfl, hS3, hc3⟩))
      | fail)
     exact ⟨⟨k + 1, by omega, by go_num, hid ⟨_, HW1.out, HT.out.step hS3 hc3⟩⟩, by simp [intOf]; omega⟩
  ·have i1 : ¬ (k : Int) < 12 := by omega
   obtain rfl : k = 12 := by omega
   have HP1 : Hid (ptrsW c.N c.M c.im z sn = (stepZ (tabS c n) 12 (z.getD 16 0) s).bind fun s2 => stepZ (tableS c.N c.M n 32 c.im (tabS c n)) 44 (z.getD 17 0) s2) := hid (by rw [HP.out, HS.out]; rfl);have q16 := row_cell HT.out.g 16 (by rw [HZ.out]; omega);obtain ⟨y, hy⟩ : ∃ y, y = z.getD 16 0 := ⟨_, rfl⟩;rw [← hy] at q16 HP1;have HY := hid hy;clear hy HP HD HS hk hlt
   by_cases hy : y = 0
   ·subst hy
    obtain ⟨s2, hs2⟩ : ∃ x, x = s := ⟨_, rfl⟩;rw [← hs2] at HT HP1;clear hs2;have HP2 : Hid (ptrsW c.N c.M c.im z sn = stepZ (tableS c.N c.M n 32 c.im (tabS c n)) 44 (z.getD 17 0) s2) := hid (by rw [HP1.out]; rfl);clear HP1
    go_upto_region 9 with fail
    have q17 := row_cell HT.out.g 17 (by rw [HZ.out]; omega);obtain ⟨y7, hy7⟩ : ∃ y, y = z.getD 17 0 := ⟨_, rfl⟩;rw [← hy7] at q17 HP2;have HY7 := hid hy7;clear hy7
    by_cases e7 : y7 = 0
    ·subst e7
     have HPs : Hid (ptrsW c.N c.M c.im z sn = some s2) := hid (by rw [HP2.out]; rfl);clear HP2
     go_wp2_with fail
     go_ret
     exact ptr_some HPs.out HT.out
    ·have hyb7 : (y7 == 0) = false := by simpa using e7
     have hAI7 := aim_any y7 44 n wr HT.out.s;have HP3 : Hid (ptrsW c.N c.M c.im z sn = tableS c.N c.M n 32 c.im (tabS c n) 44 y7 s2) := hid (by rw [HP2.out]; unfold stepZ; rw [if_neg e7]);clear HP2
     cases hb7 : aimB c s2 y7 44 n
     ·have HPn : Hid (ptrsW c.N c.M c.im z sn = none) := hid (by
       rw [HP3.out];unfold tableS
       rw [if_neg (by rw [← aim_is, hb7]; decide)])
      rw [hb7, if_neg (by decide)] at hAI7;clear HP3 hb7
      go_wp2_with (first
       | (go_at_call 44; go_must (refine hAI7.mono ?_; rintro e w5 ⟨rfl, hS5, hc5⟩))
       | fail)
      go_ret
      exact ptr_none HPn.out (HT.out.step hS5 hc5)
     ·rw [hb7, if_pos rfl] at hAI7
      go_upto_region 13 with (first
       | (go_at_call 44; go_must (refine hAI7.mono ?_; rintro e w5 ⟨rfl, hS5, hc5⟩))
       | fail)
      have H5 := hid (HT.out.step hS5 hc5);obtain ⟨m7, hm7, hmN7, _⟩ := aim_data hb7;obtain ⟨t, ht7⟩ : ∃ y, y = ptrsTo (secI c.im y7) 32 := ⟨_, rfl⟩;have HTl : Hid (t.length = 32) := hid (by rw [ht7]; exact ptrsTo_len _ _)
      have HP4 : Hid (ptrsW c.N c.M c.im z sn = if anyN t 32 = true then rowS (tabS c n) t 44 32 (putC s2 y7) 32 else none) := hid (by
       rw [HP3.out, ht7];unfold tableS;rw [if_pos (by rw [← aim_is]; exact hb7)]
       rfl)
      obtain ⟨b, o, hia, _, _⟩ : ∃ b o, c.ia = some ⟨b, o, none⟩ ∧ b < w5.heap.size ∧ ∀ (j : Nat) s, c.im[j]? = some s → w5.rangeAt b (o + j * 128) (s.map (Value.int .u8)) := by
       rcases H5.out.s.ci.2 with e | e
       ·have h1 := H5.out.s.il; have h2 := H5.out.s.n1; rw [e] at h1; simp at h1; omega
       ·exact e
      subst hm7;obtain ⟨sk, hsk⟩ : ∃ y, y = secI c.im (m7 : Int) := ⟨_, rfl⟩;have HSk : Hid (IsSec sk) := hid (by rw [hsk]; exact H5.out.s.ci.secI _);have HC2 : Hid (∀ W', Chg w5 W' No → W'.cell? ⟨c.p, 2, none⟩ = some (.slice (some ⟨b, o, none⟩) c.N c.ic)) := hid (fun W' hW => by rw [← hia]; exact (H5.out.s.call hW).c2)
      have HC7 : Hid (∀ W', Chg w5 W' No → W'.cell? ⟨g, 17, none⟩ = some (.int .i64 (m7 : Int))) := hid (fun W' hW => by
       have := row_cell (hW.keep H5.out.g (fun e => e)) 17 (by rw [HZ.out]; omega);rw [← HY7.out] at this
       exact this)
      have HRg : Hid (∀ W', Chg w5 W' No → W'.rangeAt b (o + m7 * 128) (sk.map (Value.int .u8))) := hid (fun W' hW => by
       rcases (H5.out.s.call hW).ci.2 with e | ⟨b', o', e1, _, e3⟩
       ·have h1 := H5.out.s.il; have h2 := H5.out.s.n1; rw [e] at h1; simp at h1; omega
       ·rw [hia] at e1
        cases e1
        exact e3 m7 _ (by rw [hsk]; exact getD_at (by rw [H5.out.s.il]; exact hmN7)))
      rw [← hsk] at ht7
      have HRP : Hid (∀ W', Calls Tryz.prog 29 #[.agg (SA sk)] W' fun e w' => e = .returned (.agg (NA t)) ∧ Chg W' w' No) := hid (fun W' => by
       refine (rreadPointers_any sk HSk.out W').mono ?_
       rintro e w' ⟨rfl, hb⟩
       exact ⟨by rw [ht7], Chg.of_below hb No⟩)
      have hzp := zero_ptrs
      have k0 : (0 : Int) ≤ (m7 : Int) := by omega
      have k1 : (m7 : Int) < (c.N : Int) := by omega
      clear hb7 hAI7 hS5 hc5 hia hsk ht7 HP3 HY7 q17 e7 hyb7
      go_cut [7] (fun x wc => ∃ gt : Nat, x = .pointer (some ⟨gt, 0, none⟩) ∧ Hid (wc.heap[gt]? = some (.cells (NA t) 78 (0, 0)) ∧ Chg w5 wc No))
      case first =>
       refine wp_region_noPanic ?_;refine wp_region_held_drew (S := fun w' => Chg w5 w' No) (by kernel_rfl) (Chg.refl _ _).drew (fun hH => ?_);refine tV 0 60 (.pointer (some ⟨c.p, 0, none⟩)) rfl (by kernel_rfl) rfl (by rfl) hH (fun _ hw' => rfl) ?_;simp only [sS];refine tV 1 61 (.pointer (some ⟨c.p, 0, none⟩)) rfl (by kernel_rfl) rfl (by rfl) hH (fun _ hw' => by go_simp) ?_;simp only [sS];refine tV 2 62 (.pointer (some ⟨c.p, 2, none⟩)) rfl (by kernel_rfl) rfl (by rfl) hH (fun _ hw' => by go_simp) ?_;simp only [sS];refine tV 3 63 (.slice (some ⟨b, o, none⟩) c.N c.ic) rfl (by kernel_rfl) rfl (by rfl) hH (fun _ hw' => by have hc := HC2.out _ hw'; go_simp) ?_;simp only [sS];refine tV 4 64 (.pointer (some ⟨g, 17, none⟩)) rfl (by kernel_rfl) rfl (by rfl) hH (fun _ hw' => by go_simp) ?_;simp only [sS];refine tV 5 65 (.int .i64 (m7 : Int)) rfl (by kernel_rfl) rfl (by rfl) hH (fun _ hw' => by have hc := HC7.out _ hw'; go_simp) ?_;simp only [sS];refine tV 6 66 (.pointer (some ⟨b, o + m7 * 128, none⟩)) rfl (by kernel_rfl) rfl (by rfl) hH (fun _ hw' => by go_simp) ?_;simp only [sS];refine takeMid 7 67 (.tmp 66) b (o + m7 * 128) sk HSk.out.1 rfl (by kernel_rfl) (by kernel_rfl) (by kernel_rfl) rfl rfl rfl (by rfl) (fun _ _ _ h => h) hH (fun _ hw' => HRg.out _ hw') ?_;simp only [sS];refine step2 8 9 (by kernel_rfl) ?_ ?_
       ·refine stCall 8 68 29 #[.agg (SA sk)] _ rfl rfl (by rfl) (by go_simp) (HRP.out _) ?_
        rintro e w6 ⟨rfl, hb6⟩
        have hH6 : Chg w5 w6 No := hH.trans hb6 (fun _ _ e => e) (fun _ _ e => e);refine ⟨_, rfl, hH6, ?_⟩;simp only [sS];refine step1 9 (by kernel_rfl) ?_;refine stNew 9 7 (.pointer (some ⟨w6.heap.size, 0, none⟩)) (.cells (NA Zp) 78) rfl rfl (by rfl) (by go_simp) ?_;have hA6 : Chg w5 (w6.alloc (.cells (NA Zp) 78)) No := hH6.trans (Chg.alloc w6 _ No) (fun _ _ e => e) (fun _ _ e => e);refine ⟨hA6, ?_⟩;simp only [sS];refine step1 10 (by kernel_rfl) ?_;refine stStoreR 10 78 (.tmp 7) (.tmp 68) w6.heap.size (NA t) 78 (NA Zp) rfl rfl (by rfl) rfl rfl rfl (heap_alloc_new _ _) (by rw [szP, NA_size, HTl.out]) (by rw [NA_size, NA_size, HTl.out]; rfl) (NA_one _) ?_
        intro w8 hw8
        have h8 : Chg w5 w8 No := hA6.trans (putR_chg hw8) (fun _ _ e => e) (fun j hj e => by have := hH6.size; omega);refine ⟨h8, ?_⟩;refine wpAnyH_done (by kernel_rfl) ?_ _;refine NoPanic.normal ?_;have hP := hid (And.intro hw8.here h8);clear hH hH6 hA6 hw8 h8 hb6
        go_wp2_with fail
        go_meet
        case rel => exact ⟨_, rfl, hP⟩
       ·obtain ⟨wd, hwd⟩ : ∃ y, y = w5.drew := ⟨_, rfl⟩
        rw [← hwd] at hH ⊢;clear hwd;refine stNew 9 7 (.pointer (some ⟨wd.heap.size, 0, none⟩)) (.cells (NA Zp) 78) rfl rfl (by rfl) (by go_simp) ?_;have hA6 : Chg w5 (wd.alloc (.cells (NA Zp) 78)) No := hH.trans (Chg.alloc wd _ No) (fun _ _ e => e) (fun _ _ e => e);refine ⟨hA6, ?_⟩;simp only [sS];refine step1 8 (by kernel_rfl) ?_;refine stCall 8 68 29 #[.agg (SA sk)] _ rfl rfl (by rfl) (by go_simp) (HRP.out _) ?_
        rintro e w6 ⟨rfl, hb6⟩
        have hH6 : Chg w5 w6 No := hA6.trans hb6 (fun _ _ e => e) (fun _ _ e => e);refine ⟨_, rfl, hH6, ?_⟩;simp only [sS];refine step1 10 (by kernel_rfl) ?_;refine stStoreR 10 78 (.tmp 7) (.tmp 68) wd.heap.size (NA t) 78 (NA Zp) rfl rfl (by rfl) rfl rfl rfl (hb6.keep (heap_alloc_new _ _) (fun e => e)) (by rw [szP, NA_size, HTl.out]) (by rw [NA_size, NA_size, HTl.out]; rfl) (NA_one _) ?_
        intro w8 hw8
        have h8 : Chg w5 w8 No := hH6.trans (putR_chg hw8) (fun _ _ e => e) (fun j hj e => by have := hH.size; omega);refine ⟨h8, ?_⟩;refine wpAnyH_done (by kernel_rfl) ?_ _;refine NoPanic.normal ?_;have hP := hid (And.intro hw8.here h8);clear hH hH6 hA6 hw8 h8 hb6
        go_wp2_with fail
        go_meet
        case rel => exact ⟨_, rfl, hP⟩
      case rest =>
       obtain ⟨gt, rfl, HG⟩ := hcut;have H6 : Hid (PW w wc c g z (putC s2 (m7 : Int)) ∧ wc.heap[gt]? = some (.cells (NA t) 78 (0, 0))) := hid ⟨⟨H5.out.s.call HG.out.2, HG.out.2.keep H5.out.g (fun e => e), H5.out.ch.trans HG.out.2 (fun _ _ e => e) (fun _ _ e => e.elim)⟩, HG.out.1⟩;clear HG HC2 HC7 HRg HRP hzp;obtain ⟨s0, hs0⟩ : ∃ x, x = putC s2 (m7 : Int) := ⟨_, rfl⟩;rw [← hs0] at H6 HP4;clear hs0;clear HT H5
       go_wp2_with fail
       go_loopw [8, 9] (fun x8 x9 wr => ∃ k : Nat, k ≤ 32 ∧ x9 = .int .i64 k ∧ x8 = .bool (anyN t k) ∧ Hid (∃ s', rowS (tabS c n) t 44 32 s0 k = some s' ∧ PW w wr c g z s' ∧ wr.heap[gt]? = some (.cells (NA t) 78 (0, 0)))) (fun _ x9 _ => 32 - (intOf x9).toNat)
       case atStart => exact ⟨0, by omega, rfl, by rfl, hid ⟨s0, rfl, H6.out.1, H6.out.2⟩⟩
       case round =>
        clear H6;obtain ⟨k, hk, rfl, rfl, HI⟩ := hrel;obtain ⟨s1, hs, hT1, hg1⟩ := HI.out;have HS := hid hs;have HT1 := hid hT1;have HGt := hid hg1;clear HI hs hT1 hg1
        by_cases hlt : k < 32
        ·have i0 : (0 : Int) ≤ (k : Int) := by omega
         have i1 : (k : Int) < 32 := by omega
         have q := row_cell HGt.out k (by rw [HTl.out]; exact hlt);have HAn := hid (anyN_succ (t := t) (k := k) (by rw [HTl.out]; exact hlt))
         have HNe : Hid (¬ gt = c.sb) := hid (by
          obtain ⟨A, hA, _⟩ := HT1.out.s.se
          exact obj_ne HGt.out hA (by intro e; cases e))
         obtain ⟨y, hy⟩ : ∃ y, y = t.getD k 0 := ⟨_, rfl⟩;have HW : Hid (rowS (tabS c n) t 44 32 s0 (k + 1) = if y = 0 then some s1 else tabS c n (44 + 32 * (k : Int)) y s1) := hid (by rw [rowS, HS.out, hy]; rfl);rw [← hy] at q HAn;have HYt := hid hy;clear hy;obtain ⟨an, han⟩ : ∃ y, y = anyN t k := ⟨_, rfl⟩;rw [← han] at HAn ⊢;clear han
         by_cases hy : y = 0
         ·subst hy
          have HW1 : Hid (rowS (tabS c n) t 44 32 s0 (k + 1) = some s1) := hid (by rw [HW.out, if_pos rfl]);clear HW
          cases an
          ·go_wp2_with fail
           exact ⟨⟨k + 1, by omega, by go_num, by rw [HAn.out]; rfl, hid ⟨s1, HW1.out, HT1.out, HGt.out⟩⟩, by simp [intOf]; omega⟩
          ·go_wp2_with fail
           exact ⟨⟨k + 1, by omega, by go_num, by rw [HAn.out]; rfl, hid ⟨s1, HW1.out, HT1.out, HGt.out⟩⟩, by simp [intOf]; omega⟩
         ·have hyb : (y == 0) = false := by simpa using hy
          have hAI := aim_any y (44 + 32 * (k : Int)) n wr HT1.out.s
          cases hb : aimB c s1 y (44 + 32 * (k : Int)) n
          ·have HPn : Hid (ptrsW c.N c.M c.im z sn = none) := hid (by
            rw [HP4.out, rowS_none (k := k + 1) (by rw [HW.out, if_neg hy, tab_no hb]) 32 (by omega)]
            split <;> rfl)
           rw [hb, if_neg (by decide)] at hAI;clear HW hb
           go_wp2_with (first
            | (go_at_call 44; go_must (refine hAI.mono ?_; rintro e v3 ⟨rfl, hS3, hc3⟩))
            | fail)
           go_ret
           exact ptr_none HPn.out (HT1.out.step hS3 hc3)
          ·rw [hb, if_pos rfl] at hAI
           obtain ⟨mk, hm, hmN, _⟩ := aim_data hb
           cases ht : tabB c (ptrsTo (secI c.im y) 32) (44 + 32 * (k : Int)) n (putC s1 y)
           ·have HPn : Hid (ptrsW c.N c.M c.im z sn = none) := hid (by
             rw [HP4.out, rowS_none (k := k + 1) (by rw [HW.out, if_neg hy, tab_off ht]) 32 (by omega)]
             split <;> rfl)
            have HTb : Hid (tabB c (ptrsTo (secI c.im (mk : Int)) 32) (44 + 32 * (k : Int)) n (putC s1 (mk : Int)) = false) := hid (by rw [← hm]; exact ht);clear HW hb ht;subst hm
            go_wp2_with (first
             | (go_at_call 44; go_must (refine hAI.mono ?_; rintro e v3 ⟨rfl, hS3, hc3⟩; have H3 := hid (HT1.out.step hS3 hc3); have G3 := hid (hc3.keep HGt.out HNe.out); have q3 := row_cell G3.out k (by rw [HTl.out]; exact hlt); rw [← HYt.out] at q3; have hTW := table_w mk (44 + 32 * (k : Int)) n v3 H3.out.s hmN (by omega)))
             | (go_at_call 45; go_must (refine hTW.mono ?_; rintro e v4 ⟨s4, rfl, hS4, hs4, hc4⟩; rw [HTb.out]))
             | fail)
            go_ret
            exact ptr_none HPn.out (H3.out.step hS4 hc4)
           ·obtain ⟨s2n, hr2, ht2⟩ := tab_on hb ht
            have HW1 : Hid (rowS (tabS c n) t 44 32 s0 (k + 1) = some s2n) := hid (by rw [HW.out, if_neg hy, ht2]);have HTb : Hid (tabB c (ptrsTo (secI c.im (mk : Int)) 32) (44 + 32 * (k : Int)) n (putC s1 (mk : Int)) = true) := hid (by rw [← hm]; exact ht);have HR2 : Hid (rowW c (ptrsTo (secI c.im (mk : Int)) 32) (44 + 32 * (k : Int)) n (putC s1 (mk : Int)) 32 = some s2n) := hid (by rw [← hm]; exact hr2);clear HW hb ht hr2 ht2;subst hm
            cases an
            ·go_wp2_with (first
              | (go_at_call 44; go_must (refine hAI.mono ?_; rintro e v3 ⟨rfl, hS3, hc3⟩; have H3 := hid (HT1.out.step hS3 hc3); have G3 := hid (hc3.keep HGt.out HNe.out); have q3 := row_cell G3.out k (by rw [HTl.out]; exact hlt); rw [← HYt.out] at q3; have hTW := table_w mk (44 + 32 * (k : Int)) n v3 H3.out.s hmN (by omega)))
              | (go_at_call 45; go_must (refine hTW.mono ?_; rintro e v4 ⟨s4, rfl, hS4, hs4, hc4⟩; rw [HTb.out]; have G4 := hid (hc4.keep G3.out HNe.out); have q4 := row_cell G4.out k (by rw [HTl.out]; exact hlt); rw [← HYt.out] at q4))
              | fail)
             obtain rfl := hs4 s2n HR2.out
             exact ⟨⟨k + 1, by omega, by go_num, by rw [HAn.out]; simp [hyb, bne], hid ⟨_, HW1.out, H3.out.step hS4 hc4, G4.out⟩⟩, by simp [intOf]; omega⟩
            ·go_wp2_with (first
              | (go_at_call 44; go_must (refine hAI.mono ?_; rintro e v3 ⟨rfl, hS3, hc3⟩; have H3 := hid (HT1.out.step hS3 hc3); have G3 := hid (hc3.keep HGt.out HNe.out); have q3 := row_cell G3.out k (by rw [HTl.out]; exact hlt); rw [← HYt.out] at q3; have hTW := table_w mk (44 + 32 * (k : Int)) n v3 H3.out.s hmN (by omega)))
              | (go_at_call 45; go_must (refine hTW.mono ?_; rintro e v4 ⟨s4, rfl, hS4, hs4, hc4⟩; rw [HTb.out]; have G4 := hid (hc4.keep G3.out HNe.out); have q4 := row_cell G4.out k (by rw [HTl.out]; exact hlt); rw [← HYt.out] at q4))
              | fail)
             obtain rfl := hs4 s2n HR2.out
             exact ⟨⟨k + 1, by omega, by go_num, by rw [HAn.out]; simp, hid ⟨_, HW1.out, H3.out.step hS4 hc4, G4.out⟩⟩, by simp [intOf]; omega⟩
        ·have i1 : ¬ (k : Int) < 32 := by omega
         obtain rfl : k = 32 := by omega
         have HP5 : Hid (ptrsW c.N c.M c.im z sn = if anyN t 32 = true then some s1 else none) := hid (by rw [HP4.out, HS.out]);obtain ⟨an, han⟩ : ∃ y, y = anyN t 32 := ⟨_, rfl⟩;rw [← han] at HP5 ⊢;clear han
         cases an
         ·go_wp2_with fail
          go_ret
          exact ptr_none (by rw [HP5.out]; rfl) HT1.out
         ·go_wp2_with fail
          go_ret
          exact ptr_some (by rw [HP5.out]; rfl) HT1.out
   ·have hyb : (y == 0) = false := by simpa using hy
    have hAI := aim_any y 12 n wr HT.out.s;have HTs : Hid (stepZ (tabS c n) 12 y s = tabS c n 12 y s) := hid (by unfold stepZ; rw [if_neg hy])
    cases hb : aimB c s y 12 n
    ·have HPn : Hid (ptrsW c.N c.M c.im z sn = none) := hid (by rw [HP1.out, HTs.out, tab_no hb]; rfl)
     rw [hb, if_neg (by decide)] at hAI;clear HP1 HTs hb
     go_wp2_with (first
      | (go_at_call 44; go_must (refine hAI.mono ?_; rintro e w3 ⟨rfl, hS3, hc3⟩))
      | fail)
     go_ret
     exact ptr_none HPn.out (HT.out.step hS3 hc3)
    ·rw [hb, if_pos rfl] at hAI
     obtain ⟨m, hm, hmN, hm0⟩ := aim_data hb
     cases ht : tabB c (ptrsTo (secI c.im y) 32) 12 n (putC s y)
     ·have HPn : Hid (ptrsW c.N c.M c.im z sn = none) := hid (by rw [HP1.out, HTs.out, tab_off ht]; rfl)
      have HTb : Hid (tabB c (ptrsTo (secI c.im (m : Int)) 32) 12 n (putC s (m : Int)) = false) := hid (by rw [← hm]; exact ht);clear HP1 HTs hb ht;subst hm
      go_wp2_with (first
       | (go_at_call 44; go_must (refine hAI.mono ?_; rintro e w3 ⟨rfl, hS3, hc3⟩; have H3 := hid (HT.out.step hS3 hc3); have q3 := row_cell H3.out.g 16 (by rw [HZ.out]; omega); rw [← HY.out] at q3; have hTW := table_w m 12 n w3 H3.out.s hmN (by omega)))
       | (go_at_call 45; go_must (refine hTW.mono ?_; rintro e w4 ⟨s4, rfl, hS4, _, hc4⟩; rw [HTb.out]))
       | fail)
      go_ret
      exact ptr_none HPn.out (H3.out.step hS4 hc4)
     ·obtain ⟨s2, hr2, ht2⟩ := tab_on hb ht
      have HP2 : Hid (ptrsW c.N c.M c.im z sn = stepZ (tableS c.N c.M n 32 c.im (tabS c n)) 44 (z.getD 17 0) s2) := hid (by rw [HP1.out, HTs.out, ht2]; rfl);have HTb : Hid (tabB c (ptrsTo (secI c.im (m : Int)) 32) 12 n (putC s (m : Int)) = true) := hid (by rw [← hm]; exact ht);have HR2 : Hid (rowW c (ptrsTo (secI c.im (m : Int)) 32) 12 n (putC s (m : Int)) 32 = some s2) := hid (by rw [← hm]; exact hr2);clear HP1 HTs hb ht hr2 ht2;subst hm
      go_upto_region 9 with (first
       | (go_at_call 44; go_must (refine hAI.mono ?_; rintro e w3 ⟨rfl, hS3, hc3⟩; have H3 := hid (HT.out.step hS3 hc3); have q3 := row_cell H3.out.g 16 (by rw [HZ.out]; omega); rw [← HY.out] at q3; have hTW := table_w m 12 n w3 H3.out.s hmN (by omega)))
       | (go_at_call 45; go_must (refine hTW.mono ?_; rintro e w4 ⟨s4, rfl, hS4, hs4, hc4⟩; rw [HTb.out]))
       | fail)
      obtain rfl := hs4 s2 HR2.out;replace HT := hid (H3.out.step hS4 hc4);clear hS4 hs4 hc4 hTW q3 H3 hAI;have q17 := row_cell HT.out.g 17 (by rw [HZ.out]; omega);obtain ⟨y7, hy7⟩ : ∃ y, y = z.getD 17 0 := ⟨_, rfl⟩;rw [← hy7] at q17 HP2;have HY7 := hid hy7;clear hy7
      by_cases e7 : y7 = 0
      ·subst e7
       have HPs : Hid (ptrsW c.N c.M c.im z sn = some s4) := hid (by rw [HP2.out]; rfl);clear HP2
       go_wp2_with fail
       go_ret
       exact ptr_some HPs.out HT.out
      ·have hyb7 : (y7 == 0) = false := by simpa using e7
       have hAI7 := aim_any y7 44 n w4 HT.out.s;have HP3 : Hid (ptrsW c.N c.M c.im z sn = tableS c.N c.M n 32 c.im (tabS c n) 44 y7 s4) := hid (by rw [HP2.out]; unfold stepZ; rw [if_neg e7]);clear HP2
       cases hb7 : aimB c s4 y7 44 n
       ·have HPn : Hid (ptrsW c.N c.M c.im z sn = none) := hid (by
         rw [HP3.out];unfold tableS
         rw [if_neg (by rw [← aim_is, hb7]; decide)])
        rw [hb7, if_neg (by decide)] at hAI7;clear HP3 hb7
        go_wp2_with (first
         | (go_at_call 44; go_must (refine hAI7.mono ?_; rintro e w5 ⟨rfl, hS5, hc5⟩))
         | fail)
        go_ret
        exact ptr_none HPn.out (HT.out.step hS5 hc5)
       ·rw [hb7, if_pos rfl] at hAI7
        go_upto_region 13 with (first
         | (go_at_call 44; go_must (refine hAI7.mono ?_; rintro e w5 ⟨rfl, hS5, hc5⟩))
         | fail)
        have H5 := hid (HT.out.step hS5 hc5);obtain ⟨m7, hm7, hmN7, _⟩ := aim_data hb7;obtain ⟨t, ht7⟩ : ∃ y, y = ptrsTo (secI c.im y7) 32 := ⟨_, rfl⟩;have HTl : Hid (t.length = 32) := hid (by rw [ht7]; exact ptrsTo_len _ _)
        have HP4 : Hid (ptrsW c.N c.M c.im z sn = if anyN t 32 = true then rowS (tabS c n) t 44 32 (putC s4 y7) 32 else none) := hid (by
         rw [HP3.out, ht7];unfold tableS;rw [if_pos (by rw [← aim_is]; exact hb7)]
         rfl)
        obtain ⟨b, o, hia, _, _⟩ : ∃ b o, c.ia = some ⟨b, o, none⟩ ∧ b < w5.heap.size ∧ ∀ (j : Nat) s, c.im[j]? = some s → w5.rangeAt b (o + j * 128) (s.map (Value.int .u8)) := by
         rcases H5.out.s.ci.2 with e | e
         ·have h1 := H5.out.s.il; have h2 := H5.out.s.n1; rw [e] at h1; simp at h1; omega
         ·exact e
        subst hm7;obtain ⟨sk, hsk⟩ : ∃ y, y = secI c.im (m7 : Int) := ⟨_, rfl⟩;have HSk : Hid (IsSec sk) := hid (by rw [hsk]; exact H5.out.s.ci.secI _);have HC2 : Hid (∀ W', Chg w5 W' No → W'.cell? ⟨c.p, 2, none⟩ = some (.slice (some ⟨b, o, none⟩) c.N c.ic)) := hid (fun W' hW => by rw [← hia]; exact (H5.out.s.call hW).c2)
        have HC7 : Hid (∀ W', Chg w5 W' No → W'.cell? ⟨g, 17, none⟩ = some (.int .i64 (m7 : Int))) := hid (fun W' hW => by
         have := row_cell (hW.keep H5.out.g (fun e => e)) 17 (by rw [HZ.out]; omega);rw [← HY7.out] at this
         exact this)
        have HRg : Hid (∀ W', Chg w5 W' No → W'.rangeAt b (o + m7 * 128) (sk.map (Value.int .u8))) := hid (fun W' hW => by
         rcases (H5.out.s.call hW).ci.2 with e | ⟨b', o', e1, _, e3⟩
         ·have h1 := H5.out.s.il; have h2 := H5.out.s.n1; rw [e] at h1; simp at h1; omega
         ·rw [hia] at e1
          cases e1
          exact e3 m7 _ (by rw [hsk]; exact getD_at (by rw [H5.out.s.il]; exact hmN7)))
        rw [← hsk] at ht7
        have HRP : Hid (∀ W', Calls Tryz.prog 29 #[.agg (SA sk)] W' fun e w' => e = .returned (.agg (NA t)) ∧ Chg W' w' No) := hid (fun W' => by
         refine (rreadPointers_any sk HSk.out W').mono ?_
         rintro e w' ⟨rfl, hb⟩
         exact ⟨by rw [ht7], Chg.of_below hb No⟩)
        have hzp := zero_ptrs
        have k0 : (0 : Int) ≤ (m7 : Int) := by omega
        have k1 : (m7 : Int) < (c.N : Int) := by omega
        clear hb7 hAI7 hS5 hc5 hia hsk ht7 HP3 HY7 q17 e7 hyb7
        go_cut [7] (fun x wc => ∃ gt : Nat, x = .pointer (some ⟨gt, 0, none⟩) ∧ Hid (wc.heap[gt]? = some (.cells (NA t) 78 (0, 0)) ∧ Chg w5 wc No))
        case first =>
         refine wp_region_noPanic ?_;refine wp_region_held_drew (S := fun w' => Chg w5 w' No) (by kernel_rfl) (Chg.refl _ _).drew (fun hH => ?_);refine tV 0 60 (.pointer (some ⟨c.p, 0, none⟩)) rfl (by kernel_rfl) rfl (by rfl) hH (fun _ hw' => rfl) ?_;simp only [sS];refine tV 1 61 (.pointer (some ⟨c.p, 0, none⟩)) rfl (by kernel_rfl) rfl (by rfl) hH (fun _ hw' => by go_simp) ?_;simp only [sS];refine tV 2 62 (.pointer (some ⟨c.p, 2, none⟩)) rfl (by kernel_rfl) rfl (by rfl) hH (fun _ hw' => by go_simp) ?_;simp only [sS];refine tV 3 63 (.slice (some ⟨b, o, none⟩) c.N c.ic) rfl (by kernel_rfl) rfl (by rfl) hH (fun _ hw' => by have hc := HC2.out _ hw'; go_simp) ?_;simp only [sS];refine tV 4 64 (.pointer (some ⟨g, 17, none⟩)) rfl (by kernel_rfl) rfl (by rfl) hH (fun _ hw' => by go_simp) ?_;simp only [sS];refine tV 5 65 (.int .i64 (m7 : Int)) rfl (by kernel_rfl) rfl (by rfl) hH (fun _ hw' => by have hc := HC7.out _ hw'; go_simp) ?_;simp only [sS];refine tV 6 66 (.pointer (some ⟨b, o + m7 * 128, none⟩)) rfl (by kernel_rfl) rfl (by rfl) hH (fun _ hw' => by go_simp) ?_;simp only [sS];refine takeMid 7 67 (.tmp 66) b (o + m7 * 128) sk HSk.out.1 rfl (by kernel_rfl) (by kernel_rfl) (by kernel_rfl) rfl rfl rfl (by rfl) (fun _ _ _ h => h) hH (fun _ hw' => HRg.out _ hw') ?_;simp only [sS];refine step2 8 9 (by kernel_rfl) ?_ ?_
         ·refine stCall 8 68 29 #[.agg (SA sk)] _ rfl rfl (by rfl) (by go_simp) (HRP.out _) ?_
          rintro e w6 ⟨rfl, hb6⟩
          have hH6 : Chg w5 w6 No := hH.trans hb6 (fun _ _ e => e) (fun _ _ e => e);refine ⟨_, rfl, hH6, ?_⟩;simp only [sS];refine step1 9 (by kernel_rfl) ?_;refine stNew 9 7 (.pointer (some ⟨w6.heap.size, 0, none⟩)) (.cells (NA Zp) 78) rfl rfl (by rfl) (by go_simp) ?_;have hA6 : Chg w5 (w6.alloc (.cells (NA Zp) 78)) No := hH6.trans (Chg.alloc w6 _ No) (fun _ _ e => e) (fun _ _ e => e);refine ⟨hA6, ?_⟩;simp only [sS];refine step1 10 (by kernel_rfl) ?_;refine stStoreR 10 78 (.tmp 7) (.tmp 68) w6.heap.size (NA t) 78 (NA Zp) rfl rfl (by rfl) rfl rfl rfl (heap_alloc_new _ _) (by rw [szP, NA_size, HTl.out]) (by rw [NA_size, NA_size, HTl.out]; rfl) (NA_one _) ?_
          intro w8 hw8
          have h8 : Chg w5 w8 No := hA6.trans (putR_chg hw8) (fun _ _ e => e) (fun j hj e => by have := hH6.size; omega);refine ⟨h8, ?_⟩;refine wpAnyH_done (by kernel_rfl) ?_ _;refine NoPanic.normal ?_;have hP := hid (And.intro hw8.here h8);clear hH hH6 hA6 hw8 h8 hb6
          go_wp2_with fail
          go_meet
          case rel => exact ⟨_, rfl, hP⟩
         ·obtain ⟨wd, hwd⟩ : ∃ y, y = w5.drew := ⟨_, rfl⟩
          rw [← hwd] at hH ⊢;clear hwd;refine stNew 9 7 (.pointer (some ⟨wd.heap.size, 0, none⟩)) (.cells (NA Zp) 78) rfl rfl (by rfl) (by go_simp) ?_;have hA6 : Chg w5 (wd.alloc (.cells (NA Zp) 78)) No := hH.trans (Chg.alloc wd _ No) (fun _ _ e => e) (fun _ _ e => e);refine ⟨hA6, ?_⟩;simp only [sS];refine step1 8 (by kernel_rfl) ?_;refine stCall 8 68 29 #[.agg (SA sk)] _ rfl rfl (by rfl) (by go_simp) (HRP.out _) ?_
          rintro e w6 ⟨rfl, hb6⟩
          have hH6 : Chg w5 w6 No := hA6.trans hb6 (fun _ _ e => e) (fun _ _ e => e);refine ⟨_, rfl, hH6, ?_⟩;simp only [sS];refine step1 10 (by kernel_rfl) ?_;refine stStoreR 10 78 (.tmp 7) (.tmp 68) wd.heap.size (NA t) 78 (NA Zp) rfl rfl (by rfl) rfl rfl rfl (hb6.keep (heap_alloc_new _ _) (fun e => e)) (by rw [szP, NA_size, HTl.out]) (by rw [NA_size, NA_size, HTl.out]; rfl) (NA_one _) ?_
          intro w8 hw8
          have h8 : Chg w5 w8 No := hH6.trans (putR_chg hw8) (fun _ _ e => e) (fun j hj e => by have := hH.size; omega);refine ⟨h8, ?_⟩;refine wpAnyH_done (by kernel_rfl) ?_ _;refine NoPanic.normal ?_;have hP := hid (And.intro hw8.here h8);clear hH hH6 hA6 hw8 h8 hb6
          go_wp2_with fail
          go_meet
          case rel => exact ⟨_, rfl, hP⟩
        case rest =>
         obtain ⟨gt, rfl, HG⟩ := hcut;have H6 : Hid (PW w wc c g z (putC s4 (m7 : Int)) ∧ wc.heap[gt]? = some (.cells (NA t) 78 (0, 0))) := hid ⟨⟨H5.out.s.call HG.out.2, HG.out.2.keep H5.out.g (fun e => e), H5.out.ch.trans HG.out.2 (fun _ _ e => e) (fun _ _ e => e.elim)⟩, HG.out.1⟩;clear HG HC2 HC7 HRg HRP hzp;obtain ⟨s0, hs0⟩ : ∃ x, x = putC s4 (m7 : Int) := ⟨_, rfl⟩;rw [← hs0] at H6 HP4;clear hs0;clear HT H5
         go_wp2_with fail
         go_loopw [8, 9] (fun x8 x9 wr => ∃ k : Nat, k ≤ 32 ∧ x9 = .int .i64 k ∧ x8 = .bool (anyN t k) ∧ Hid (∃ s', rowS (tabS c n) t 44 32 s0 k = some s' ∧ PW w wr c g z s' ∧ wr.heap[gt]? = some (.cells (NA t) 78 (0, 0)))) (fun _ x9 _ => 32 - (intOf x9).toNat)
         case atStart => exact ⟨0, by omega, rfl, by rfl, hid ⟨s0, rfl, H6.out.1, H6.out.2⟩⟩
         case round =>
          clear H6;obtain ⟨k, hk, rfl, rfl, HI⟩ := hrel;obtain ⟨s1, hs, hT1, hg1⟩ := HI.out;have HS := hid hs;have HT1 := hid hT1;have HGt := hid hg1;clear HI hs hT1 hg1
          by_cases hlt : k < 32
          ·have i0 : (0 : Int) ≤ (k : Int) := by omega
           have i1 : (k : Int) < 32 := by omega
           have q := row_cell HGt.out k (by rw [HTl.out]; exact hlt);have HAn := hid (anyN_succ (t := t) (k := k) (by rw [HTl.out]; exact hlt))
           have HNe : Hid (¬ gt = c.sb) := hid (by
            obtain ⟨A, hA, _⟩ := HT1.out.s.se
            exact obj_ne HGt.out hA (by intro e; cases e))
           obtain ⟨y, hy⟩ : ∃ y, y = t.getD k 0 := ⟨_, rfl⟩;have HW : Hid (rowS (tabS c n) t 44 32 s0 (k + 1) = if y = 0 then some s1 else tabS c n (44 + 32 * (k : Int)) y s1) := hid (by rw [rowS, HS.out, hy]; rfl);rw [← hy] at q HAn;have HYt := hid hy;clear hy;obtain ⟨an, han⟩ : ∃ y, y = anyN t k := ⟨_, rfl⟩;rw [← han] at HAn ⊢;clear han
           by_cases hy : y = 0
           ·subst hy
            have HW1 : Hid (rowS (tabS c n) t 44 32 s0 (k + 1) = some s1) := hid (by rw [HW.out, if_pos rfl]);clear HW
            cases an
            ·go_wp2_with fail
             exact ⟨⟨k + 1, by omega, by go_num, by rw [HAn.out]; rfl, hid ⟨s1, HW1.out, HT1.out, HGt.out⟩⟩, by simp [intOf]; omega⟩
            ·go_wp2_with fail
             exact ⟨⟨k + 1, by omega, by go_num, by rw [HAn.out]; rfl, hid ⟨s1, HW1.out, HT1.out, HGt.out⟩⟩, by simp [intOf]; omega⟩
           ·have hyb : (y == 0) = false := by simpa using hy
            have hAI := aim_any y (44 + 32 * (k : Int)) n wr HT1.out.s
            cases hb : aimB c s1 y (44 + 32 * (k : Int)) n
            ·have HPn : Hid (ptrsW c.N c.M c.im z sn = none) := hid (by
              rw [HP4.out, rowS_none (k := k + 1) (by rw [HW.out, if_neg hy, tab_no hb]) 32 (by omega)]
              split <;> rfl)
             rw [hb, if_neg (by decide)] at hAI;clear HW hb
             go_wp2_with (first
              | (go_at_call 44; go_must (refine hAI.mono ?_; rintro e v3 ⟨rfl, hS3, hc3⟩))
              | fail)
             go_ret
             exact ptr_none HPn.out (HT1.out.step hS3 hc3)
            ·rw [hb, if_pos rfl] at hAI
             obtain ⟨mk, hm, hmN, _⟩ := aim_data hb
             cases ht : tabB c (ptrsTo (secI c.im y) 32) (44 + 32 * (k : Int)) n (putC s1 y)
             ·have HPn : Hid (ptrsW c.N c.M c.im z sn = none) := hid (by
               rw [HP4.out, rowS_none (k := k + 1) (by rw [HW.out, if_neg hy, tab_off ht]) 32 (by omega)]
               split <;> rfl)
              have HTb : Hid (tabB c (ptrsTo (secI c.im (mk : Int)) 32) (44 + 32 * (k : Int)) n (putC s1 (mk : Int)) = false) := hid (by rw [← hm]; exact ht);clear HW hb ht;subst hm
              go_wp2_with (first
               | (go_at_call 44; go_must (refine hAI.mono ?_; rintro e v3 ⟨rfl, hS3, hc3⟩; have H3 := hid (HT1.out.step hS3 hc3); have G3 := hid (hc3.keep HGt.out HNe.out); have q3 := row_cell G3.out k (by rw [HTl.out]; exact hlt); rw [← HYt.out] at q3; have hTW := table_w mk (44 + 32 * (k : Int)) n v3 H3.out.s hmN (by omega)))
               | (go_at_call 45; go_must (refine hTW.mono ?_; rintro e v4 ⟨s4, rfl, hS4, hs4, hc4⟩; rw [HTb.out]))
               | fail)
              go_ret
              exact ptr_none HPn.out (H3.out.step hS4 hc4)
             ·obtain ⟨s2n, hr2, ht2⟩ := tab_on hb ht
              have HW1 : Hid (rowS (tabS c n) t 44 32 s0 (k + 1) = some s2n) := hid (by rw [HW.out, if_neg hy, ht2]);have HTb : Hid (tabB c (ptrsTo (secI c.im (mk : Int)) 32) (44 + 32 * (k : Int)) n (putC s1 (mk : Int)) = true) := hid (by rw [← hm]; exact ht);have HR2 : Hid (rowW c (ptrsTo (secI c.im (mk : Int)) 32) (44 + 32 * (k : Int)) n (putC s1 (mk : Int)) 32 = some s2n) := hid (by rw [← hm]; exact hr2);clear HW hb ht hr2 ht2;subst hm
              cases an
              ·go_wp2_with (first
                | (go_at_call 44; go_must (refine hAI.mono ?_; rintro e v3 ⟨rfl, hS3, hc3⟩; have H3 := hid (HT1.out.step hS3 hc3); have G3 := hid (hc3.keep HGt.out HNe.out); have q3 := row_cell G3.out k (by rw [HTl.out]; exact hlt); rw [← HYt.out] at q3; have hTW := table_w mk (44 + 32 * (k : Int)) n v3 H3.out.s hmN (by omega)))
                | (go_at_call 45; go_must (refine hTW.mono ?_; rintro e v4 ⟨s4, rfl, hS4, hs4, hc4⟩; rw [HTb.out]; have G4 := hid (hc4.keep G3.out HNe.out); have q4 := row_cell G4.out k (by rw [HTl.out]; exact hlt); rw [← HYt.out] at q4))
                | fail)
               obtain rfl := hs4 s2n HR2.out
               exact ⟨⟨k + 1, by omega, by go_num, by rw [HAn.out]; simp [hyb, bne], hid ⟨_, HW1.out, H3.out.step hS4 hc4, G4.out⟩⟩, by simp [intOf]; omega⟩
              ·go_wp2_with (first
                | (go_at_call 44; go_must (refine hAI.mono ?_; rintro e v3 ⟨rfl, hS3, hc3⟩; have H3 := hid (HT1.out.step hS3 hc3); have G3 := hid (hc3.keep HGt.out HNe.out); have q3 := row_cell G3.out k (by rw [HTl.out]; exact hlt); rw [← HYt.out] at q3; have hTW := table_w mk (44 + 32 * (k : Int)) n v3 H3.out.s hmN (by omega)))
                | (go_at_call 45; go_must (refine hTW.mono ?_; rintro e v4 ⟨s4, rfl, hS4, hs4, hc4⟩; rw [HTb.out]; have G4 := hid (hc4.keep G3.out HNe.out); have q4 := row_cell G4.out k (by rw [HTl.out]; exact hlt); rw [← HYt.out] at q4))
                | fail)
               obtain rfl := hs4 s2n HR2.out
               exact ⟨⟨k + 1, by omega, by go_num, by rw [HAn.out]; simp, hid ⟨_, HW1.out, H3.out.step hS4 hc4, G4.out⟩⟩, by simp [intOf]; omega⟩
          ·have i1 : ¬ (k : Int) < 32 := by omega
           obtain rfl : k = 32 := by omega
           have HP5 : Hid (ptrsW c.N c.M c.im z sn = if anyN t 32 = true then some s1 else none) := hid (by rw [HP4.out, HS.out]);obtain ⟨an, han⟩ : ∃ y, y = anyN t 32 := ⟨_, rfl⟩;rw [← han] at HP5 ⊢;clear han
           cases an
           ·go_wp2_with fail
            go_ret
            exact ptr_none (by rw [HP5.out]; rfl) HT1.out
           ·go_wp2_with fail
            go_ret
            exact ptr_some (by rw [HP5.out]; rfl) HT1.out
end Go.Proofs.YtpmignilhoihnabGreat
