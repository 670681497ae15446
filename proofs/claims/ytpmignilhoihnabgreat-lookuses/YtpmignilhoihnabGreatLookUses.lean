/-
 Proved: LookUses returns true for every image (if it is not refused, the report has just the inodes that the image that should be has, and the sectors that these point to), with no condition.
-/
import Derived.Test.YtpmignilhoihnabGreatWUses
import Derived.Test.YtpmignilhoihnabGreatOpenE
namespace Go.Proofs.YtpmignilhoihnabGreat
open Go.RowKit Go.Shelf

set_option maxHeartbeats 4000000 in
set_option maxRecDepth 100000 in
theorem uses_walk (ia : Option Addr) (ic : Nat) (im : Img) (W : World) (h : ImgAt W ia im) (_ : im.length ≤ 9223372036854775807) :
  Calls Tryz.prog 4 #[.slice ia im.length ic] W fun e w' => e = .returned (.bool true) ∧ Below W.heap.size W w' := by
 have hzr := zero_rep;have hzi := zero_inode
 have hzs : ∀ w', (zeroValue 32).run Tryz.prog w' = .ok (.agg #[.int .i64 0, .int .i64 0]) w' := fun w' => by kernel_rfl
 have hK := known_any W;have HI := hid h;have HLk := hid (fun W' hW => look_c ia ic im W' hW);obtain ⟨n, hnn⟩ : ∃ y, y = im.length := ⟨_, rfl⟩;have HNN := hid hnn;rw [← hnn] at HLk ⊢;clear h hnn
 go_enter Tryz.func4, Tryz.ntmps4
 go_upto_region 4 with (first
  | (go_at_call 6; go_must (refine hK.mono ?_; rintro e w1 ⟨rfl, hc1⟩; have hLk := HLk.out w1 (HI.out.keep hc1 (fun _ _ e => e))))
  | fail)
 have HC1 := hid hc1;clear hc1 hK HLk
 go_upto_region 5 with (first
  | (go_at_call 7; go_must (refine hLk.mono ?_; rintro e w2 ⟨hc2, ⟨_, E, hE, rfl⟩ | ⟨M, gw, wc, s1, s2, s3, a1, a2, a3, rfl, hX⟩⟩))
  | (refine store_R rfl 26 _ _ rfl w2.heap.size nil4 rfl rfl 26 _ (heap_alloc_new _ _) szRep rfl nil4_one ?_; intro w3 hw3)
  | (refine store_R rfl 26 _ _ rfl w2.heap.size #[.slice (some ⟨gw, 0, none⟩) n wc, .slice a1 (writeI M im (lookL M im)).length s1, .slice a2 (inodesI M (lookL M im)).length s2, .slice a3 (blocksI im (lookL M im)).length s3] rfl rfl 26 _ (heap_alloc_new _ _) szRep rfl (rep_one _ _ _ rfl rfl rfl) ?_; intro w3 hw3)
  | fail)
 ·have h03 : Chg W w3 No := ((HC1.out.tr hc2).tr (Chg.alloc w2 _ No)).trans (kt_new hw3) (fun _ _ e => e) (fun j hj e => by have := (HC1.out.tr hc2).size; omega)
  have HC3 := hid h03;clear h03 hw3 hc2 hLk
  rcases hE with rfl | rfl
  ·go_wp2_with fail
   go_ret
   exact ⟨rfl, HC3.out.below⟩
  ·go_wp2_with fail
   go_ret
   exact ⟨rfl, HC3.out.below⟩
 ·have h23 : Chg w2 w3 No := (Chg.alloc w2 _ No).trans (kt_new hw3) (fun _ _ e => e) (fun j hj e => by omega)
  have HC3 : Hid (Chg W w3 No) := hid ((HC1.out.tr hc2).tr h23);have HG3 := hid hw3.here;obtain ⟨g4, hg4⟩ : ∃ y, y = w2.heap.size := ⟨_, rfl⟩;rw [← hg4] at HG3 ⊢;have HUK := hid (uk_of hX);have HWT : Hid (WellI (lookL M im).wt) := hid (want_well hX);have HWt := hid (hX.wt.keep h23 (fun e => e));have HL2 := hid (hX.l2.call h23);have HL3 := hid (hX.l3.call h23);have HTl : Hid (n = (lookL M im).wt.length) := hid (by rw [hX.tl]; exact HNN.out)
  have HSp : Hid (rdSup (getV (secI (lookL M im).wt 0) 4 4) (getV (secI (lookL M im).wt 0) 8 4) (secI (lookL M im).wt 0) = ((n : Int), (M : Int), 0)) := hid (by
   obtain ⟨s1, s2, s3, s4, s5⟩ := supOf_ok hX.sup;rw [(lookL_kp hX.root).sec, sup_rd hX.sup];have hM := hX.hM;refine Prod.ext ?_ (Prod.ext ?_ hX.sup)
   ·rw [s1, HNN.out]
   ·show (supOf im).2.1 = (M : Int)
    omega)
  obtain ⟨pz, hpz⟩ : ∃ y : Int → Bool, y = fun x => ((lookL M im).tk x).isSome := ⟨_, rfl⟩
  obtain ⟨cl, hcl⟩ : ∃ y, y = (lookL M im).cl := ⟨_, rfl⟩;have HeI : Hid (inodesI M (lookL M im) = keysL (M + 1) pz) := hid (by rw [hpz]; rfl);have HeB : Hid (blocksI im (lookL M im) = keysL n cl) := hid (by rw [hcl, HNN.out]; rfl);rw [← HNN.out, ← hpz, ← hcl] at HUK;rw [HeI.out] at HG3 HL2;rw [HeB.out] at HG3 HL3;obtain ⟨T, hT⟩ : ∃ y, y = (lookL M im).wt := ⟨_, rfl⟩;obtain ⟨wl, hwl⟩ : ∃ y, y = (writeI M im (lookL M im)).length := ⟨_, rfl⟩;rw [← hT] at HUK HWT HWt HTl HSp;rw [← hwl] at HG3
  have HQ0 : Hid (∀ W', Chg w3 W' No → W'.cell? ⟨g4, 0, none⟩ = some (.slice (some ⟨gw, 0, none⟩) n wc) ∧ W'.cell? ⟨g4, 2, none⟩ = some (.slice a2 (keysL (M + 1) pz).length s2) ∧ W'.cell? ⟨g4, 3, none⟩ = some (.slice a3 (keysL n cl).length s3)) := hid (fun W' hW => by
   have h0 := hW.keep HG3.out (fun e => e)
   exact ⟨(cell_of_row _ _ _ _ _ _ h0).trans rfl, (cell_of_row _ _ _ _ _ _ h0).trans rfl, (cell_of_row _ _ _ _ _ _ h0).trans rfl⟩)
  have hWl := wellB_u (some ⟨gw, 0, none⟩) wc n T HTl.out w3 (ImgAt.of_wt HWt.out) true (wellB_true HWT.out);have q0 := (HQ0.out w3 (Chg.refl _ _)).1;have hm1 := HUK.out.m1;have hm2 := HUK.out.m2;have hn4 := HUK.out.n2;have HRg : Hid (∀ W', Chg w3 W' No → ∀ j : Nat, j < n → W'.rangeAt gw (j * 128) ((secI T (j : Int)).map (Value.int .u8))) := hid (fun W' hW j hj => (HWt.out.keep hW (fun e => e)).range (by rw [← HTl.out]; exact hj));clear hT hwl hpz hcl HeI HeB hX h23 hw3 hg4 hc2 hLk HG3 HWT
  go_upto_region 9 with (first
   | (go_at_call 8; go_must (refine hWl.mono ?_; rintro e w4 ⟨rfl, hc4⟩))
   | fail)
  have HC4 : Hid (Chg w3 w4 No) := hid hc4;have q4 := (HQ0.out w4 hc4).1;have hRS := rsup_c (secI T 0) (HUK.out.sec 0) w4;rw [HSp.out] at hRS;have HR0 : Hid (w4.rangeAt gw 0 ((secI T 0).map (Value.int .u8))) := hid (HRg.out w4 hc4 0 (by omega));have HS0 := hid (HUK.out.sec 0).1;obtain ⟨sk, hsk⟩ : ∃ y, y = secI T 0 := ⟨_, rfl⟩;rw [← hsk] at hRS HR0 HS0
  have i3 : (0 : Int) < (n : Int) := by omega
  clear hsk hWl hc4 HSp q0
  go_upto_region 11 with (first
   | (refine load_mid 36 _ rfl gw 0 rfl _ _ HR0.out Tryz.underlying36 rfl (by rw [sz26, List.length_map, HS0.out]) (by rfl) ?_)
   | (go_at_call 9; go_must (refine hRS.mono ?_; rintro e w5 ⟨rfl, hc5⟩))
   | (refine store_R rfl 32 _ _ rfl w5.heap.size (SUA n M) rfl rfl 32 _ (heap_alloc_new _ _) szSU rfl (SUA_one _ _) ?_; intro w6 hw6)
   | fail)
  have HC6 : Hid (Chg w3 w6 No) := hid (((HC4.out.tr hc5).tr (Chg.alloc w5 _ No)).trans (kt_new hw6) (fun _ _ e => e) (fun j hj e => by have := (HC4.out.tr hc5).size; omega));obtain ⟨gS, hgS⟩ : ∃ y, y = w5.heap.size := ⟨_, rfl⟩;have HGS : Hid (w6.heap[gS]? = some (.cells (SUA n M) 32 (0, 0))) := hid (by rw [hgS]; exact hw6.here);rw [← hgS];have q6 := (HQ0.out w6 HC6.out).1;have hmB := make_bools n (by omega);have hUb := bat_made w6 n;have hUc := Chg.alloc w6 (.cells (UA n) 4) No;obtain ⟨w7, hw7⟩ : ∃ y, y = w6.alloc (.cells (UA n) 4) := ⟨_, rfl⟩;rw [← hw7] at hUb hUc;obtain ⟨gu, hgu⟩ : ∃ y, y = w6.heap.size := ⟨_, rfl⟩;rw [← hgu] at hUb;have HC7 : Hid (Chg w3 w7 No) := hid (HC6.out.tr hUc);have HG7 := hid (hUc.keep HGS.out (fun e => e))
  have HU0 : Hid (UL w7 w7 gu n (.slice none 0 0) (keysL 1 pz) (fun _ => false)) := hid ⟨by
   have hp0 : pz 0 = false := by
    cases e : pz 0 with
    | false => rfl
    | true => have := (HUK.out.p 0).1 e; omega
   have e : keysL 1 pz = [] := by
    have := keysL_out (k := 0) (p := pz) hp0;rw [this]
    rfl
   rw [e]
   exact World.ownsRow_nil _ _ _ _, hUb, Chg.refl _ _⟩
  have HM0 : Hid (Marked T 0 (fun _ => false)) := hid (fun m _ => ⟨fun e => (by cases e), fun ⟨j, hj, _⟩ => absurd hj (by omega)⟩)
  have HGu : Hid (gu < w7.heap.size ∧ gu ≠ g4 ∧ gu ≠ gS ∧ gu ≠ gw ∧ g4 < w7.heap.size ∧ gw < w7.heap.size ∧ w3.heap.size ≤ gu) := hid (by
   have h0 := HC6.out.size;have h1 : g4 < w3.heap.size := World.block_lt_of_cell? _ _ (HQ0.out w3 (Chg.refl _ _)).1;have h2 : gw < w3.heap.size := HWt.out.lt;have h3 : gS < w6.heap.size := slt HGS.out
   have h4 : w7.heap.size = w6.heap.size + 1 := by rw [hw7]; simp
   omega)
  clear hUb hUc hRS HR0 HS0 hc5 hw6 hgS q4 HGS
  go_wp2_with fail
  rw [← hw7, ← hgu];clear hw7 hgu hmB q6
  -- what stays while sectors are marked
  have HQ7 : Hid (∀ W', Chg w7 W' (· = gu) → W'.cell? ⟨g4, 0, none⟩ = some (.slice (some ⟨gw, 0, none⟩) n wc) ∧ W'.cell? ⟨gS, 1, none⟩ = some (.int .i64 M) ∧ WtAt W' gw T) := hid (fun W' hW => by
   obtain ⟨h1, h2, h3, h4, h5, h6, _⟩ := HGu.out
   exact ⟨cell_keep (HQ0.out w7 HC7.out).1 hW h5 (fun e => h2 e.symm), (cell_of_row _ _ _ _ _ _ (hW.keep HG7.out (fun e => h3 e.symm))).trans rfl, (HWt.out.keep HC7.out (fun e => e)).keep hW (fun e => h4 e.symm)⟩)
  go_loopw [8, 10] (fun x8 x10 wr => ∃ (k : Nat) (vv : Value) (U : Int → Bool), vv = x8 ∧ k ≤ M ∧ x10 = .int .i64 ((k : Int) + 1) ∧ Hid (UL w7 wr gu n vv (keysL (k + 1) pz) U) ∧ Hid (Marked T k U)) (fun _ x10 _ => M + 1 - (intOf x10).toNat)
  case atStart => exact ⟨0, _, _, rfl, by omega, rfl, HU0, HM0⟩
  case round =>
   obtain ⟨k, vv, U, rfl, hk, rfl, HU, HM⟩ := hrel;clear HU0 HM0;obtain ⟨r0, r1, r2⟩ := HQ7.out wr HU.out.ch
   by_cases hlt : k < M
   ·have i4 : (0 : Int) ≤ (k : Int) + 1 := by omega
    have i5 : (k : Int) + 1 < (n : Int) := by omega
    have i6 : (k : Int) + 1 ≤ (M : Int) := by omega
    have i7 : ((k : Int) + 1).toNat = k + 1 := by omega
    have HWr := hid r2;have hRI := rinode_c (secI T ((k : Int) + 1)) (HUK.out.sec _) wr
    have HR1 : Hid (wr.rangeAt gw ((k + 1) * 128) ((secI T ((k : Int) + 1)).map (Value.int .u8))) := hid (by
     have h := r2.range (show k + 1 < T.length by rw [← HTl.out]; omega);rw [show ((k + 1 : Nat) : Int) = (k : Int) + 1 by omega] at h
     exact h)
    have HS1 := hid (HUK.out.sec ((k : Int) + 1)).1;obtain ⟨z, hz⟩ : ∃ y, y = zI T ((k : Int) + 1) := ⟨_, rfl⟩;have HZ := hid hz;have HZl : Hid (z.length = 18) := hid (by rw [hz]; exact zI_len _ _)
    have hze : (rdIno (zTo (secI T ((k : Int) + 1)) 18) (secI T ((k : Int) + 1))).1 = z := by rw [hz]; rfl
    have hre : (rdIno (zTo (secI T ((k : Int) + 1)) 18) (secI T ((k : Int) + 1))).2 = 0 := HUK.out.ino _ (by omega) i6;rw [hze, hre] at hRI;have HKd : Hid (kd T ((k : Int) + 1) = z.getD 0 0) := hid (by rw [hz]; rfl);obtain ⟨sk, hsk⟩ : ∃ y, y = secI T ((k : Int) + 1) := ⟨_, rfl⟩;rw [← hsk] at hRI HR1 HS1;clear hsk hze hre hz r2
    go_upto_region 16 with (first
     | (refine load_mid 36 _ rfl gw ((k + 1) * 128) rfl _ _ HR1.out Tryz.underlying36 rfl (by rw [sz26, List.length_map, HS1.out]) (by rfl) ?_)
     | (go_at_call 10; go_must (refine hRI.mono ?_; rintro e w8 ⟨rfl, hc8⟩))
     | (refine store_R rfl 39 _ _ rfl w8.heap.size (NA z) rfl rfl 39 _ (heap_alloc_new _ _) (by rw [szI, NA_size, HZl.out]) (by rw [NA_size, NA_size, HZl.out]; rfl) (NA_one _) ?_; intro w9 hw9)
     | fail)
    have hr9 : Chg wr w9 No := (hc8.trans (Chg.alloc w8 _ No) (c := No) (fun _ _ e => e) (fun _ _ e => e)).trans (putR_chg hw9) (fun _ _ e => e) (fun j hj e => by have := hc8.size; omega);have c9 := row_cell hw9.here 0 (by rw [HZl.out]; omega);have HU9 := hid (HU.out.step hr9);obtain ⟨gi, hgi⟩ : ∃ y, y = w8.heap.size := ⟨_, rfl⟩;rw [← hgi] at c9 ⊢;obtain ⟨kz, hkz⟩ : ∃ y, y = z.getD 0 0 := ⟨_, rfl⟩;rw [← hkz] at c9 HKd;clear hgi hw9 hc8 hr9 hRI HR1 HS1 hkz r0 r1 HU;obtain ⟨r0, r1, r2⟩ := HQ7.out w9 HU9.out.ch
    by_cases hk0 : kz = 0
    ·subst hk0
     have HMn : Hid (Marked T (k + 1) U) := hid (HM.out.skip HKd.out)
     have HUn : Hid (UL w7 w9 gu n vv (keysL (k + 1 + 1) pz) U) := hid (by
      have hp : pz ((k + 1 : Nat) : Int) = false := by
       cases e : pz ((k + 1 : Nat) : Int) with
       | false => rfl
       | true => exact absurd HKd.out (by have := ((HUK.out.p _).1 e).2.2; rw [show ((k + 1 : Nat) : Int) = (k : Int) + 1 by omega] at this; exact this)
      rw [keysL_out hp]
      exact HU9.out)
     clear r2
     go_wp2_with fail
     exact ⟨⟨k + 1, vv, U, rfl, by omega, by go_num, HUn, HMn⟩, by simp [intOf]; omega⟩
    ·have h0b : (kz == 0) = false := beq_eq_false_iff_ne.2 hk0
     have h0c : decide (kz = 0) = false := decide_eq_false hk0
     have h0d : (kz != 0) = true := by simpa using hk0
     have HKn : Hid (kd T ((k : Int) + 1) ≠ 0) := hid (by rw [HKd.out]; exact hk0);have HLn : Hid ((keysL (k + 1) pz).length ≤ 1000000000000) := hid (by have := keysL_len (k + 1) pz; omega);have e2 : (w9.alloc (.cells #[.int .i64 ((k : Int) + 1)] 3)).cell? ⟨w9.heap.size, 0, none⟩ = some (.int .i64 ((k : Int) + 1)) := (cell_of_row _ _ _ _ _ _ (heap_alloc_new w9 _)).trans rfl;have HU10 := hid (HU9.out.step (Chg.alloc w9 (.cells #[.int .i64 ((k : Int) + 1)] 3) No));have HB10 : Hid (w7.heap.size ≤ (w9.alloc (.cells #[.int .i64 ((k : Int) + 1)] 3)).heap.size) := hid HU10.out.ch.size
     have HKy : Hid (keysL (k + 1) pz ++ [(k : Int) + 1] = keysL (k + 1 + 1) pz) := hid (by
      have hp : pz ((k + 1 : Nat) : Int) = true := (HUK.out.p _).2 ⟨by omega, by omega, by rw [show ((k + 1 : Nat) : Int) = (k : Int) + 1 by omega]; exact HKn.out⟩;rw [keysL_in hp]
      rw [show ((k + 1 : Nat) : Int) = (k : Int) + 1 by omega])
     clear hk0 r2 r1
     go_upto_region 18 with (first
      | (at_builtin; go_must (refine wp_appI rfl _ _ rfl w7.heap.size w9.heap.size 1 vv _ ((k : Int) + 1) rfl rfl HU10.out.o e2 HLn.out HB10.out ?_; intro v' w11 hI11 hc11))
      | fail)
     have HU11 : Hid (UL w7 w11 gu n v' (keysL (k + 1 + 1) pz) U) := hid (by
      rw [← HKy.out]
      exact HU10.out.more hI11 hc11)
     clear hI11 hc11 e2 HU10 HB10 HU9 HKy HLn r0;obtain ⟨r0, r1, r2⟩ := HQ7.out w11 HU11.out.ch
     have HFl : Hid (Calls Tryz.prog 11 #[.slice (some ⟨gw, 0, none⟩) n wc, .int .i64 ((k : Int) + 1)] w11 (FolPost T ((k : Int) + 1) z w11)) := hid (by
      have := follow_any (some ⟨gw, 0, none⟩) wc T (k + 1) w11 (ImgAt.of_wt r2) (by rw [← HTl.out]; omega) (by
       rw [show ((k + 1 : Nat) : Int) = (k : Int) + 1 by omega]
       exact HUK.out.fol _ (by omega) i6 HKn.out)
      rw [show ((k + 1 : Nat) : Int) = (k : Int) + 1 by omega, ← HTl.out, ← HZ.out] at this
      exact this)
     have hFl := HFl.out;clear r1 r2 HFl
     go_upto_region 19 with (first
      | (go_at_call 11; go_must (refine hFl.mono ?_; rintro e w12 ⟨v13, gb, K, fb, rfl, hO12, hN12, hc12, _, _⟩))
      | fail)
     have HU12 := hid (HU11.out.step hc12);have HO12 := hid hO12;obtain ⟨fl, hfl⟩ : ∃ y, y = folL T ((k : Int) + 1) z := ⟨_, rfl⟩;rw [← hfl] at HO12;have hfn := fol_len T ((k : Int) + 1) z;rw [← hfl] at hfn;obtain ⟨gp, cp, hv13, hgp, hown⟩ := pt_slice HO12.out (fun e => by rw [e] at hfn; simp at hfn);have HV13 := hid hv13;have HFl : Hid (fl = folL T ((k : Int) + 1) (zI T ((k : Int) + 1))) := hid (by rw [← HZ.out]; exact hfl);have HGp : Hid (w7.heap.size ≤ gp) := hid (by have := HU11.out.ch.size; omega);obtain ⟨m, hm⟩ : ∃ y, y = fl.length := ⟨_, rfl⟩;have HMl := hid hm;rw [← hm] at hv13 hfn;subst hv13
     have HRt : Hid (∀ (j : Nat) (y : Pt), fl[j]? = some y → 0 ≤ y.2.2 ∧ y.2.2 < n) := hid (fun j y hy => by
      by_cases e : y.2.2 = 0
      ·omega
      ·have hmem : y.2.2 ∈ tos fl := List.mem_map.2 ⟨y, List.mem_of_getElem? hy, rfl⟩
       rw [HFl.out, mem_fol (zI_len _ _) e] at hmem;have := HUK.out.rg _ (by omega) i6 HKn.out _ hmem
       omega)
     have HMJ : Hid (MarkJ U U (tos fl) 0) := hid (fun m _ => by simp);clear hO12 hN12 hc12 hFl HU11 hfl hgp hown hm
     go_wp2_with fail
     go_loopw [15] (fun x15 wr => ∃ (j : Nat) (U' : Int → Bool), j ≤ m ∧ x15 = .int .i64 j ∧ Hid (UL w7 wr gu n v' (keysL (k + 1 + 1) pz) U') ∧ Hid (MarkJ U U' (tos fl) j) ∧ Hid (PtOwn wr w11.heap.size (.slice (some ⟨gp, 0, none⟩) m cp) fl)) (fun x15 _ => m - (intOf x15).toNat)
     case atStart => exact ⟨0, U, by omega, rfl, HU12, HMJ, HO12⟩
     case round =>
      clear HU12 HMJ HO12;obtain ⟨j, U', hj, rfl, HUj, HMj, HOj⟩ := hrel
      by_cases hjm : j < m
      ·have j0 : (0 : Int) ≤ (j : Int) := by omega
       have j1 : (j : Int) < (m : Int) := by omega
       obtain ⟨y, hy⟩ : ∃ y, fl[j]? = some y := ⟨_, List.getElem?_eq_getElem (by rw [← HMl.out]; exact hjm)⟩;obtain ⟨_, _, cy⟩ := pt_cell HOj.out (by rw [HMl.out]) hy;obtain ⟨y0, y1⟩ := HRt.out j y hy;obtain ⟨t, ht⟩ : ∃ t : Nat, y.2.2 = (t : Int) := ⟨y.2.2.toNat, by omega⟩;rw [ht] at cy y0 y1
       have y2 : t < n := by omega
       obtain ⟨d1, d2⟩ := HUj.out.b.cell y2;have HUn := hid (HUj.out.put y2)
       have HMn : Hid (MarkJ U (putC U' (t : Int)) (tos fl) (j + 1)) := hid (HMj.out.put (by
        unfold tos;rw [List.getElem?_map, hy]
        show some y.2.2 = _
        rw [ht]))
       have HOn : Hid (PtOwn (wr.setCell ⟨gu, t, none⟩ (.bool true)) w11.heap.size (.slice (some ⟨gp, 0, none⟩) m cp) fl) := hid (HOj.out.keep Chg.setCell (fun b e e2 => by
        have : gp = b := by simpa [Value.ownBlock] using e
        have := HGu.out;have := HGp.out
        omega))
       clear hy ht
       go_wp2_with fail
       exact ⟨⟨j + 1, _, by omega, by go_num, HUn, HMn, HOn⟩, by simp [intOf]; omega⟩
      ·have j1 : ¬ (j : Int) < (m : Int) := by omega
       obtain rfl : j = m := by omega
       have HMn : Hid (Marked T (k + 1) U') := hid (HM.out.more HKn.out (by
        have h1 := HMj.out
        have h2 : (tos fl).length = j := by unfold tos; rw [List.length_map, HMl.out]
        rw [← h2, HFl.out] at h1
        exact h1))
       clear hjm hj
       go_wp2_with fail
       exact ⟨⟨k + 1, v', U', rfl, by omega, by go_num, HUj, HMn⟩, by simp [intOf]; omega⟩
   ·have i6 : ¬ (k : Int) + 1 ≤ (M : Int) := by omega
    obtain rfl : k = M := by omega
    have HCl : Hid (∀ x : Nat, 1 ≤ x → U (x : Int) = cl (x : Int)) := hid (fun x hx => by
     have h1 := HM.out (x : Int) (by omega);have h2 := HUK.out.cl (x : Int)
     cases e : U (x : Int) with
     | true => rw [h2.2 (h1.1 e)]
     | false =>
      cases e2 : cl (x : Int) with
      | false => rfl
      | true => rw [h1.2 (h2.1 e2)] at e; cases e)
    have HC0 : Hid (keysL 1 cl = []) := hid (by
     have hp0 : cl 0 = false := by
      cases e : cl 0 with
      | false => rfl
      | true =>
       obtain ⟨j, h1, h2, h3⟩ := (HUK.out.cl 0).1 e;have := HUK.out.rg _ (by omega) (by omega) h2 0 h3
       omega
     rw [keysL_out (k := 0) (p := cl) hp0]
     rfl)
    obtain ⟨w13, hw13⟩ : ∃ y : World, y = wr := ⟨_, rfl⟩
    have HU13 : Hid (UL w7 w13 gu n vv (keysL (k + 1) pz) U) := by rw [hw13]; exact HU
    rw [← hw13] at r1 r0 ⊢;have HI0 : Hid (IOwn w13 w13.heap.size (.slice none 0 0) (keysL 1 cl)) := hid (by rw [HC0.out]; exact World.ownsRow_nil _ _ _ _);clear hw13 hlt hk r2
    go_wp2_with fail
    clear HU wr r0 r1
    go_loopw [16, 17] (fun x16 x17 wq => ∃ (j : Nat) (v16 : Value), v16 = x16 ∧ 1 ≤ j ∧ j ≤ n ∧ x17 = .int .i64 j ∧ Hid (IOwn wq w13.heap.size v16 (keysL j cl)) ∧ Hid (Chg w13 wq No)) (fun _ x17 _ => n - (intOf x17).toNat)
    case atStart => exact ⟨1, _, rfl, by omega, by omega, rfl, HI0, hid (Chg.refl _ _)⟩
    case round =>
     clear HI0;obtain ⟨j, v16, rfl, hj1, hj, rfl, HIj, HCj⟩ := hrel
     by_cases hjn : j < n
     ·have j0 : (0 : Int) ≤ (j : Int) := by omega
      have j2 : (j : Int) < (n : Int) := by omega
      obtain ⟨d1, _⟩ := (HU13.out.b.keep HCj.out (fun e => e)).cell hjn;rw [HCl.out j hj1] at d1
      cases hcj : cl (j : Int) with
      | false =>
       rw [hcj] at d1;have HIn : Hid (IOwn wr w13.heap.size v16 (keysL (j + 1) cl)) := hid (by rw [keysL_out hcj]; exact HIj.out);clear hcj
       go_wp2_with fail
       exact ⟨⟨j + 1, v16, rfl, by omega, by omega, by go_num, HIn, HCj⟩, by simp [intOf]; omega⟩
      | true =>
       rw [hcj] at d1;have e2 : (wr.alloc (.cells #[.int .i64 (j : Int)] 3)).cell? ⟨wr.heap.size, 0, none⟩ = some (.int .i64 (j : Int)) := (cell_of_row _ _ _ _ _ _ (heap_alloc_new wr _)).trans rfl;have HI2 := hid (HIj.out.keep (Chg.alloc wr (.cells #[.int .i64 (j : Int)] 3) No) (fun _ _ e => e));have HB2 : Hid (w13.heap.size ≤ (wr.alloc (.cells #[.int .i64 (j : Int)] 3)).heap.size) := hid (HCj.out.tr (Chg.alloc wr _ No)).size;have HLn : Hid ((keysL j cl).length ≤ 1000000000000) := hid (by have := keysL_len j cl; omega);have HKy : Hid (keysL j cl ++ [(j : Int)] = keysL (j + 1) cl) := hid (keysL_in hcj).symm;clear hcj
       go_wp2_with (first
        | (at_builtin; go_must (refine wp_appI rfl _ _ rfl w13.heap.size wr.heap.size 1 v16 _ (j : Int) rfl rfl HI2.out e2 HLn.out HB2.out ?_; intro v' w14 hI14 hc14))
        | fail)
       have HCn : Hid (Chg w13 w14 No) := hid ((HCj.out.tr (Chg.alloc wr _ No)).trans hc14 (fun _ _ e => e) (fun b hb e => by have := (HI2.out.blk e).1; omega))
       exact ⟨⟨j + 1, v', rfl, by omega, by omega, by go_num, hid (by rw [← HKy.out]; exact hI14), HCn⟩, by simp [intOf]; omega⟩
     ·have j2 : ¬ (j : Int) < (n : Int) := by omega
      obtain rfl : j = n := by omega
      obtain ⟨ab, cb, hvb, hLb⟩ := HIj.out.lat;obtain ⟨ai, ci, hvi, hLi⟩ := HU13.out.o.lat;have HLb := hid hLb;have HLi := hid (hLi.call HCj.out);have hC7r : Chg w7 wr (· = gu) := HU13.out.ch.trans HCj.out (fun _ _ e => e) (fun _ _ e => e.elim);have hC3r : Chg w3 wr No := HC7.out.trans hC7r (fun _ _ e => e) (fun b hb e => by have := HGu.out; omega);have HQr : Hid (∀ W', Chg wr W' No → W'.cell? ⟨g4, 2, none⟩ = some (.slice a2 (keysL (k + 1) pz).length s2) ∧ W'.cell? ⟨g4, 3, none⟩ = some (.slice a3 (keysL j cl).length s3)) := hid (fun W' hW => (HQ0.out W' (hC3r.tr hW)).2);have HL2r := hid (HL2.out.call hC3r);have HL3r := hid (HL3.out.call hC3r);have HCf : Hid (Chg W wr No) := hid (HC3.out.tr hC3r);obtain ⟨iN, hiN⟩ : ∃ y, y = keysL (k + 1) pz := ⟨_, rfl⟩;obtain ⟨bN, hbN⟩ : ∃ y, y = keysL j cl := ⟨_, rfl⟩;have HiL : Hid (iN.length ≤ 20000) := hid (by rw [hiN]; have := keysL_len (k + 1) pz; omega);have HbL : Hid (bN.length ≤ 20000) := hid (by rw [hbN]; have := keysL_len j cl; omega);rw [← hiN] at HLi HQr HL2r hvi;rw [← hbN] at HLb HQr HL3r hvb;have hI1 := ints_like iN ai a2 ci s2 wr HiL.out (LatO.of HLi.out) (LatO.of HL2r.out);obtain ⟨r2, _⟩ := HQr.out wr (Chg.refl _ _);subst hvi hvb;clear hLb hLi hC7r hC3r hiN hbN HIj HU13
      go_wp2_with (first
       | (go_at_call 13; go_must (first | (refine hI2.mono ?_; rintro e w16 ⟨rfl, hc16⟩) | (refine hI1.mono ?_; rintro e w15 ⟨rfl, hc15⟩; have r3 := (HQr.out w15 hc15).2; have hI2 := ints_like bN ab a3 cb s3 w15 HbL.out (LatO.of (HLb.out.call hc15)) (LatO.of (HL3r.out.call hc15)))))
       | fail)
      go_ret
      exact ⟨rfl, ((HCf.out.tr hc15).tr hc16).below⟩
end Go.Proofs.YtpmignilhoihnabGreat

namespace Go.Proofs.YtpmignilhoihnabGreat
open Go.ChangeShapes Go.WideShapes Go.ChangeAt Go.RowKit Go.Joins

set_option linter.unusedVariables false
set_option maxRecDepth 100000 in
theorem lookUses_lifted (os : Os) (started : os.Started) (H : Type) (enc : TypeId × Value → H) :
  ReturnsInHanded {} Tryz.checked os 4 .any (Rows.lookUsesSpec.pre6 enc Tryz.prog Tryz.f4 Rows.lookUsesRow.domain false) (Rows.lookUsesSpec.post enc Tryz.prog Tryz.f4 false true false false) := by
 refine returnsInHanded_of_change (C := Tryz.checked) own started (by kernel_rfl) Tryz.func4
  (ChangeSpec.witness6 (enc := enc) (C := Tryz.checked) false ⟨#[], #[.slice none 0 0], []⟩ 8 (by kernel_rfl) (by kernel_rfl) (by kernel_rfl) (by kernel_rfl)) ?_
 intro W base args ds gs before hval0 hW hcnd _
 have hval : ∀ (j : Nat) t v, Tryz.f4.params[j]? = some t → args[j]? = some v → Value.okWide Tryz.prog W .any base t v := hval0;have hW' := hW;obtain ⟨p, q, hA0, hV, rfl, hfz, hnd⟩ := hW;have hA : DataW.TrodAll enc Tryz.prog W 0 (fun _ => true) true Tryz.f4.params.toList args.toList ds p := hA0;rw [Tryz.params4] at hA hval;obtain ⟨v0, vs0, d0, ds0, p0, q0, hargs, rfl, rfl, h0, r0⟩ := trodAll_cons hA;obtain ⟨rfl, rfl, rfl⟩ := trodAll_nil r0
 obtain rfl : args = #[v0] := by cases args; simp_all
 obtain ⟨rfl, rfl⟩ := trodVars_none hV;have k0 := h0
 have lt0 : ∀ x ∈ p0, x.block < W.heap.size := by obtain ⟨m, hm⟩ := k0; exact DataW.trod_lt m _ _ _ hm
 obtain ⟨a0, c0, im0, rfl, hI0, hn0⟩ := open_secs (hval 0 22 v0 rfl rfl) h0;clear hA0 hval0
 refine (uses_walk a0 c0 im0 W hI0 hn0).mono fun e W' ⟨he, bel⟩ => ?_
 subst he
 exact ⟨_, rfl, _, _, _, [], _, [], hW', trodAll_mk1 (shut_bool Tryz.underlying4 _), (trodAll_cons_mk (Below.trod laidOut (by kernel_rfl) (of_decide_eq_true (by kernel_rfl)) k0 bel lt0) trodAll_mk0), rfl, bel.frame _, fun h => by cases h⟩

theorem lookUses_holds : Rows.LookUsesSaid :=
 OpenClaim.holds_of_wide 4 Tryz.f4 rfl rfl rfl rfl rfl rfl rfl ⟨rfl, rfl, rfl, rfl, rfl⟩ rfl rfl rfl rfl rfl (by kernel_rfl) Tryz.func4 (by kernel_rfl)
  (of_decide_eq_true (by kernel_rfl)) (by unfold Func.isWrapper; first | (rw [if_pos (by decide +kernel)]; kernel_rfl) | (rw [if_neg (by decide +kernel)]; exact ⟨rfl, rfl⟩))
  (fun os started H enc _ => lookUses_lifted os started H enc)

end Go.Proofs.YtpmignilhoihnabGreat
