/-
 Proved: LookKeeps returns true for every image (if it is not refused: inodes, pointers, slots and bytes of the image that should be stood in the image), with no condition.
-/
import Derived.Test.YtpmignilhoihnabGreatWUses
import Derived.Test.YtpmignilhoihnabGreatVS
import Derived.Test.YtpmignilhoihnabGreatOpenE
namespace Go.Proofs.YtpmignilhoihnabGreat
open Go.RowKit Go.Shelf

theorem blk_pts {T : Img} {z : List Int} (hz : z.length = 18) {k : Nat} (hk : k < 1068) (h0 : blkP T z k ≠ 0) : blkP T z k ∈ ptsZ T z := by
 unfold ptsZ
 by_cases h1 : k < 12
 ·refine List.mem_append_left _ (List.mem_append_left _ ?_)
  rw [mem_gB h0];refine ⟨k, h1, ?_⟩;rw [part_get hz h1];unfold blkP;rw [if_pos h1]
 ·by_cases h2 : k < 44
  ·rw [blk_sin (by omega) h2] at h0 ⊢
   split at h0
   ·exact absurd rfl h0
   ·rename_i h3
    rw [if_neg h3];refine List.mem_append_left _ (List.mem_append_right _ (mem_gZ.2 ⟨h3, List.mem_cons_of_mem _ (mem_gRow.2 ⟨k - 12, by omega, h0, List.mem_singleton.2 rfl⟩)⟩))
  ·rw [blk_dbl (by omega)] at h0 ⊢
   split at h0
   ·exact absurd rfl h0
   ·rename_i h3
    rw [if_neg h3]
    split at h0
    ·exact absurd rfl h0
    ·rename_i h4
     rw [if_neg h4]
     exact List.mem_append_right _ (mem_gZ.2 ⟨h3, List.mem_cons_of_mem _ (mem_gRow.2 ⟨(k - 44) / 32, by omega, h4, List.mem_cons_of_mem _ (mem_gRow.2 ⟨(k - 44) % 32, by omega, h0, List.mem_singleton.2 rfl⟩)⟩)⟩)
section
variable {ops : Array Oper} {Q : Exit → Act → World → Prop} {S : World → Prop} {fuel : Nat} {listed : Array Bool} {a : Act} {w : World}
theorem takeNeq (i d : Nat) (x y : Operand) (c c' : List Int) (b : Bool) (hc : c.length = 128) (hc' : c'.length = 128) (hb : decide (c = c') = b) {o : Oper} (hop : ops[i]? = some o) (hs : Region.noSelect ops = true) (hf : Region.free .any ops listed i = true) (hr : (Region.ready .any ops listed).contains i = true)
  (hd : o.dst = some d) (ho : o.op = .binOp .neq 36 x y 36) (hx : a.eval x = .agg (SA c)) (hy : a.eval y = .agg (SA c')) (hw : Region.wanted o (yielded ops a.tmps) = true) (hQ : ∀ c a w, ¬ Q (.panic c) a w) (hS : S w)
  (h : wpAnyH Tryz.prog .any ops Q S fuel (listed.setIfInBounds i true) { a with tmps := a.tmps.setIfInBounds d (.bool (!b)) } w) : wpAnyH Tryz.prog .any ops Q S (fuel + 1) listed a w := by
 refine takeVal i d _ hop hs hf hr hd hw hQ hS (fun w hw' => ?_) h
 have hq : (Op.equalIn 10000 36 (.agg (SA c)) (.agg (SA c'))).run Tryz.prog w = .ok b w := by rw [eq_sec _ _ hc hc', hb]
 unfold execOp
 simp only [ho, hx, hy, Sem.run_bind, run_eqGuard_agg _ _ _ _ _ _ _ guard_sec, run_neq_struct, hq, Result.andThen_ok, Sem.run_pure]
end
theorem byte_cell {w : World} {g off : Nat} {s : List Int} (h : w.rangeAt g off (s.map (Value.int .u8))) (hs : s.length = 128) {c : Nat} (hc : c < 128) : w.cell? ⟨g, off + c, none⟩ = some (.int .u8 (s.getD c 0)) := h c _ (by
 rw [List.getElem?_map, List.getD_eq_getElem?_getD, List.getElem?_eq_getElem (by omega)]
 rfl)
structure KF (w : World) (g4 gS gw wc n M ib io : Nat) (T im : Img) : Prop where
 c4 : w.cell? ⟨g4, 0, none⟩ = some (.slice (some ⟨gw, 0, none⟩) n wc)
 cS : w.cell? ⟨gS, 1, none⟩ = some (.int .i64 M)
 wt : WtAt w gw T
 rt : ∀ j : Nat, j < n → w.rangeAt gw (j * 128) ((secI T (j : Int)).map (Value.int .u8))
 ri : ∀ j : Nat, j < n → w.rangeAt ib (io + j * 128) ((secI im (j : Int)).map (Value.int .u8))
 ia : ImgAt w (some ⟨ib, io, none⟩) im

set_option maxHeartbeats 8000000 in
set_option maxRecDepth 100000 in
theorem keeps_walk (ia : Option Addr) (ic : Nat) (im : Img) (W : World) (h : ImgAt W ia im) (_ : im.length ≤ 9223372036854775807) :
  Calls Tryz.prog 3 #[.slice ia im.length ic] W fun e w' => e = .returned (.bool true) ∧ Below W.heap.size W w' := by
 have hzr := zero_rep;have hzi := zero_inode;have hbs := build_sec
 have hzs : ∀ w', (zeroValue 32).run Tryz.prog w' = .ok (.agg #[.int .i64 0, .int .i64 0]) w' := fun w' => by kernel_rfl
 have hK := known_any W;have HI := hid h;have HLk := hid (fun W' hW => look_c ia ic im W' hW);have HSec : Hid (∀ j, IsSec (secI im j)) := hid h.secI
 have HIx : Hid (8 ≤ im.length → ∃ ib io, ia = some ⟨ib, io, none⟩) := hid (fun h8 => by
  rcases h.2 with e | ⟨ib, io, e, _⟩
  ·rw [e] at h8; simp at h8
  ·exact ⟨ib, io, e⟩)
 obtain ⟨n, hnn⟩ : ∃ y, y = im.length := ⟨_, rfl⟩;have HNN := hid hnn;rw [← hnn] at HLk ⊢;clear h hnn
 go_enter Tryz.func3, Tryz.ntmps3
 go_upto_region 4 with (first
  | (go_at_call 6; go_must (refine hK.mono ?_; rintro e w1 ⟨rfl, hc1⟩; have hLk := HLk.out w1 (HI.out.keep hc1 (fun _ _ e => e))))
  | fail)
 have HC1 := hid hc1;clear hc1 hK HLk
 go_upto_region 5 with (first
  | (go_at_call 7; go_must (refine hLk.mono ?_; rintro e w2 ⟨hc2, ⟨_, E, hE, rfl⟩ | ⟨M, gw, wc, s1, s2, s3, a1, a2, a3, rfl, hX⟩⟩))
  | (refine store_R rfl 26 _ _ rfl w2.heap.size nil4 rfl rfl 26 _ (heap_alloc_new _ _) szRep rfl nil4_one ?_; intro w3 hw3)
  | (refine store_R rfl 26 _ _ rfl w2.heap.size #[.slice (some ⟨gw, 0, none⟩) n wc, .slice a1 (writeI M im (lookL M im)).length s1, .slice a2 (inodesI M (lookL M im)).length s2, .slice a3 (blocksI im (lookL M im)).length s3] rfl rfl 26 _ (heap_alloc_new _ _) szRep rfl (rep_one _ _ _ rfl rfl rfl) ?_; intro w3 hw3)
  | fail)
 ·have h03 : Chg W w3 No := ((HC1.out.tr hc2).tr (Chg.alloc w2 _ No)).trans (kt_new hw3) (fun _ _ e => e) (fun j hj e => by have := (HC1.out.tr hc2).size; omega)
  have HC3 := hid h03;clear h03 hw3 hc2 hLk hbs
  rcases hE with rfl | rfl
  ·go_wp2_with fail
   go_ret
   exact ⟨rfl, HC3.out.below⟩
  ·go_wp2_with fail
   go_ret
   exact ⟨rfl, HC3.out.below⟩
 ·have h23 : Chg w2 w3 No := (Chg.alloc w2 _ No).trans (kt_new hw3) (fun _ _ e => e) (fun j hj e => by omega)
  have HC3 : Hid (Chg W w3 No) := hid ((HC1.out.tr hc2).tr h23);have HG3 := hid hw3.here;obtain ⟨g4, hg4⟩ : ∃ y, y = w2.heap.size := ⟨_, rfl⟩;rw [← hg4] at HG3 ⊢;have HUK := hid (uk_of hX);have HKp : Hid (∀ i : Int, 1 ≤ i → i ≤ M → kd (lookL M im).wt i ≠ 0 → Kept1 M im (lookL M im).wt i (zI (lookL M im).wt i)) := hid (fun i h1 h2 hk => keeps (by have := hX.ml; omega) hX.sec hX.root h1 h2 hk);have HWT : Hid (WellI (lookL M im).wt) := hid (want_well hX);have HWt := hid (hX.wt.keep h23 (fun e => e));have HTl : Hid (n = (lookL M im).wt.length) := hid (by rw [hX.tl]; exact HNN.out)
  have HSp : Hid (rdSup (getV (secI im 0) 4 4) (getV (secI im 0) 8 4) (secI im 0) = ((n : Int), (M : Int), 0)) := hid (by
   obtain ⟨s1, s2, s3, s4, s5⟩ := supOf_ok hX.sup;rw [sup_rd hX.sup];have hM := hX.hM;refine Prod.ext ?_ (Prod.ext ?_ hX.sup)
   ·rw [s1, HNN.out]
   ·show (supOf im).2.1 = (M : Int)
    omega)
  rw [← HNN.out] at HUK;obtain ⟨ib, io, hia⟩ := HIx.out hX.n1;subst hia;obtain ⟨T, hT⟩ : ∃ y, y = (lookL M im).wt := ⟨_, rfl⟩;obtain ⟨wl, hwl⟩ : ∃ y, y = (writeI M im (lookL M im)).length := ⟨_, rfl⟩;obtain ⟨nl, hnl⟩ : ∃ y, y = (inodesI M (lookL M im)).length := ⟨_, rfl⟩;obtain ⟨bl, hbl⟩ : ∃ y, y = (blocksI im (lookL M im)).length := ⟨_, rfl⟩;rw [← hT] at HUK HWT HWt HTl HKp;rw [← hwl, ← hnl, ← hbl] at HG3;have HQ0 : Hid (∀ W', Chg w3 W' No → W'.cell? ⟨g4, 0, none⟩ = some (.slice (some ⟨gw, 0, none⟩) n wc)) := hid (fun W' hW => (cell_of_row _ _ _ _ _ _ (hW.keep HG3.out (fun e => e))).trans rfl);have hWl := wellB_u (some ⟨gw, 0, none⟩) wc n T HTl.out w3 (ImgAt.of_wt HWt.out) true (wellB_true HWT.out);have q0 := HQ0.out w3 (Chg.refl _ _);have hm1 := HUK.out.m1;have hm2 := HUK.out.m2;have hn4 := HUK.out.n2
  have HRi : Hid (∀ W', Chg w3 W' No → ∀ j : Nat, j < n → W'.rangeAt ib (io + j * 128) ((secI im (j : Int)).map (Value.int .u8))) := hid (fun W' hW j hj => by
   rcases (HI.out.keep (HC3.out.tr hW) (fun _ _ e => e)).2 with e | ⟨b', o', e, _, hr⟩
   ·have := HNN.out; rw [e] at this; simp at this; omega
   ·cases e
    exact hr j _ (getD_at (by rw [← HNN.out]; exact hj)))
  clear hT hwl hnl hbl hX h23 hw3 hg4 hc2 hLk HG3 HWT
  go_upto_region 9 with (first
   | (go_at_call 8; go_must (refine hWl.mono ?_; rintro e w4 ⟨rfl, hc4⟩; have q4 := HQ0.out w4 hc4))
   | fail)
  have HC4 : Hid (Chg w3 w4 No) := hid hc4;have hRS := rsup_c (secI im 0) (HSec.out 0) w4;rw [HSp.out] at hRS;have HR0 : Hid (w4.rangeAt ib (io + 0 * 128) ((secI im 0).map (Value.int .u8))) := hid (HRi.out w4 hc4 0 (by omega));have HS0 := hid (HSec.out 0).1;obtain ⟨sk, hsk⟩ : ∃ y, y = secI im 0 := ⟨_, rfl⟩;rw [← hsk] at hRS HR0 HS0
  have i3 : (0 : Int) < (n : Int) := by omega
  clear hsk hWl hc4 HSp q0 q4
  go_upto_region 10 with (first
   | (refine load_mid 36 _ rfl ib (io + 0 * 128) rfl _ _ HR0.out Tryz.underlying36 rfl (by rw [sz26, List.length_map, HS0.out]) (by rfl) ?_)
   | (go_at_call 9; go_must (refine hRS.mono ?_; rintro e w5 ⟨rfl, hc5⟩))
   | (refine store_R rfl 32 _ _ rfl w5.heap.size (SUA n M) rfl rfl 32 _ (heap_alloc_new _ _) szSU rfl (SUA_one _ _) ?_; intro w6 hw6)
   | fail)
  have HC6 : Hid (Chg w3 w6 No) := hid (((HC4.out.tr hc5).tr (Chg.alloc w5 _ No)).trans (kt_new hw6) (fun _ _ e => e) (fun j hj e => by have := (HC4.out.tr hc5).size; omega));obtain ⟨gS, hgS⟩ : ∃ y, y = w5.heap.size := ⟨_, rfl⟩;have HGS : Hid (w6.heap[gS]? = some (.cells (SUA n M) 32 (0, 0))) := hid (by rw [hgS]; exact hw6.here);rw [← hgS]
  have HKF : Hid (∀ W', Chg w6 W' No → KF W' g4 gS gw wc n M ib io T im) := hid (fun W' hW => by
   have h3 := HC6.out.tr hW;have hwt := HWt.out.keep h3 (fun e => e)
   exact ⟨HQ0.out W' h3, (cell_of_row _ _ _ _ _ _ (hW.keep HGS.out (fun e => e))).trans rfl, hwt, fun j hj => hwt.range (by rw [← HTl.out]; exact hj), HRi.out W' h3, HI.out.keep (HC3.out.tr h3) (fun _ _ e => e)⟩)
  have HCW : Hid (Chg W w6 No) := hid (HC3.out.tr HC6.out);clear hgS hw6 hc5 hRS HR0 HS0 HGS HC6 HC4 HC3 HRi HQ0 HWt HI
  go_wp2_with fail
  go_loopw [8] (fun x8 wr => ∃ k : Nat, k ≤ M ∧ x8 = .int .i64 ((k : Int) + 1) ∧ Hid (Chg w6 wr No)) (fun x8 _ => M + 1 - (intOf x8).toNat)
  case atStart => exact ⟨0, by omega, rfl, hid (Chg.refl _ _)⟩
  case round =>
   obtain ⟨k, hk, rfl, HC⟩ := hrel;have hF := HKF.out wr HC.out;have r0 := hF.c4;have r1 := hF.cS
   by_cases hlt : k < M
   ·have i4 : (0 : Int) ≤ (k : Int) + 1 := by omega
    have i5 : (k : Int) + 1 < (n : Int) := by omega
    have i6 : (k : Int) + 1 ≤ (M : Int) := by omega
    have i7 : ((k : Int) + 1).toNat = k + 1 := by omega
    have hRI := rinode_c (secI T ((k : Int) + 1)) (HUK.out.sec _) wr
    have HR1 : Hid (wr.rangeAt gw ((k + 1) * 128) ((secI T ((k : Int) + 1)).map (Value.int .u8))) := hid (by
     have h := hF.rt (k + 1) (by omega);rw [show ((k + 1 : Nat) : Int) = (k : Int) + 1 by omega] at h
     exact h)
    have HS1 := hid (HUK.out.sec ((k : Int) + 1)).1;obtain ⟨z, hz⟩ : ∃ y, y = zI T ((k : Int) + 1) := ⟨_, rfl⟩;have HZ := hid hz;have HZl : Hid (z.length = 18) := hid (by rw [hz]; exact zI_len _ _)
    have hze : (rdIno (zTo (secI T ((k : Int) + 1)) 18) (secI T ((k : Int) + 1))).1 = z := by rw [hz]; rfl
    have hre : (rdIno (zTo (secI T ((k : Int) + 1)) 18) (secI T ((k : Int) + 1))).2 = 0 := HUK.out.ino _ (by omega) i6;rw [hze, hre] at hRI;have HKd : Hid (kd T ((k : Int) + 1) = z.getD 0 0) := hid (by rw [hz]; rfl);obtain ⟨sk, hsk⟩ : ∃ y, y = secI T ((k : Int) + 1) := ⟨_, rfl⟩;rw [← hsk] at hRI HR1 HS1;clear hsk hze hre hz hF
    go_upto_region 14 with (first
     | (refine load_mid 36 _ rfl gw ((k + 1) * 128) rfl _ _ HR1.out Tryz.underlying36 rfl (by rw [sz26, List.length_map, HS1.out]) (by rfl) ?_)
     | (go_at_call 10; go_must (refine hRI.mono ?_; rintro e w8 ⟨rfl, hc8⟩))
     | (refine store_R rfl 39 _ _ rfl w8.heap.size (NA z) rfl rfl 39 _ (heap_alloc_new _ _) (by rw [szI, NA_size, HZl.out]) (by rw [NA_size, NA_size, HZl.out]; rfl) (NA_one _) ?_; intro w9 hw9)
     | fail)
    have hr9 : Chg wr w9 No := (hc8.trans (Chg.alloc w8 _ No) (c := No) (fun _ _ e => e) (fun _ _ e => e)).trans (putR_chg hw9) (fun _ _ e => e) (fun j hj e => by have := hc8.size; omega);have HC9 : Hid (Chg w6 w9 No) := hid (HC.out.tr hr9);obtain ⟨gi, hgi⟩ : ∃ y, y = w8.heap.size := ⟨_, rfl⟩;have HGi : Hid (w9.heap[gi]? = some (.cells (NA z) 39 (0, 0))) := hid (by rw [hgi]; exact hw9.here);rw [← hgi];have hRI2 := rinode_c (secI im ((k : Int) + 1)) (HSec.out _) w9
    have HR2 : Hid (w9.rangeAt ib (io + (k + 1) * 128) ((secI im ((k : Int) + 1)).map (Value.int .u8))) := hid (by
     have h := (HKF.out w9 HC9.out).ri (k + 1) (by omega);rw [show ((k + 1 : Nat) : Int) = (k : Int) + 1 by omega] at h
     exact h)
    have HS2 := hid (HSec.out ((k : Int) + 1)).1;obtain ⟨z2, hz2⟩ : ∃ y, y = zI im ((k : Int) + 1) := ⟨_, rfl⟩;have HZ2 := hid hz2;have HZ2l : Hid (z2.length = 18) := hid (by rw [hz2]; exact zI_len _ _)
    have hze : (rdIno (zTo (secI im ((k : Int) + 1)) 18) (secI im ((k : Int) + 1))).1 = z2 := by rw [hz2]; rfl
    rw [hze] at hRI2;obtain ⟨er, her⟩ : ∃ y, y = (rdIno (zTo (secI im ((k : Int) + 1)) 18) (secI im ((k : Int) + 1))).2 := ⟨_, rfl⟩;have HEr : Hid (er = (rdI im ((k : Int) + 1)).2) := hid her;rw [← her] at hRI2;obtain ⟨sk, hsk⟩ : ∃ y, y = secI im ((k : Int) + 1) := ⟨_, rfl⟩;rw [← hsk] at hRI2 HR2 HS2;clear hsk hze her hz2 hgi hw9 hc8 hr9 hRI HR1 HS1 r0 r1 HC
    go_upto_region 15 with (first
     | (refine load_mid 36 _ rfl ib (io + (k + 1) * 128) rfl _ _ HR2.out Tryz.underlying36 rfl (by rw [sz26, List.length_map, HS2.out]) (by rfl) ?_)
     | (go_at_call 10; go_must (refine hRI2.mono ?_; rintro e w10 ⟨rfl, hc10⟩))
     | (refine store_R rfl 39 _ _ rfl w10.heap.size (NA z2) rfl rfl 39 _ (heap_alloc_new _ _) (by rw [szI, NA_size, HZ2l.out]) (by rw [NA_size, NA_size, HZ2l.out]; rfl) (NA_one _) ?_; intro w11 hw11)
     | fail)
    have hr11 : Chg w9 w11 No := (hc10.trans (Chg.alloc w10 _ No) (c := No) (fun _ _ e => e) (fun _ _ e => e)).trans (putR_chg hw11) (fun _ _ e => e) (fun j hj e => by have := hc10.size; omega);have HC11 : Hid (Chg w6 w11 No) := hid (HC9.out.tr hr11);obtain ⟨gj, hgj⟩ : ∃ y, y = w10.heap.size := ⟨_, rfl⟩;have HGj : Hid (w11.heap[gj]? = some (.cells (NA z2) 39 (0, 0))) := hid (by rw [hgj]; exact hw11.here);rw [← hgj];have HGi11 := hid (hr11.keep HGi.out (fun e => e));have c0 := row_cell HGi11.out 0 (by rw [HZl.out]; omega);have c2 := row_cell HGi11.out 2 (by rw [HZl.out]; omega);have c3 := row_cell HGi11.out 3 (by rw [HZl.out]; omega);obtain ⟨kz, hkz⟩ : ∃ y, y = z.getD 0 0 := ⟨_, rfl⟩;obtain ⟨sz, hsz⟩ : ∃ y, y = z.getD 2 0 := ⟨_, rfl⟩;obtain ⟨md, hmd⟩ : ∃ y, y = z.getD 3 0 := ⟨_, rfl⟩;rw [← hkz] at c0 HKd;rw [← hsz] at c2;rw [← hmd] at c3;have HKz := hid hkz;have HSz := hid hsz;have HMd := hid hmd;clear hgj hw11 hc10 hr11 hRI2 HR2 HS2 hkz hsz hmd HGi HC9
    by_cases hk0 : kz = 0
    ·subst hk0
     clear c2 c3
     go_wp2_with fail
     exact ⟨⟨k + 1, by omega, by go_num, HC11⟩, by simp [intOf]; omega⟩
    ·have h0b : (kz == 0) = false := beq_eq_false_iff_ne.2 hk0
     have h0c : decide (kz = 0) = false := decide_eq_false hk0
     have h0d : (kz != 0) = true := by simpa using hk0
     have HKn : Hid (kd T ((k : Int) + 1) ≠ 0) := hid (by rw [HKd.out]; exact hk0);have HKt : Hid (Kept1 M im T ((k : Int) + 1) z) := hid (by rw [HZ.out]; exact HKp.out _ (by omega) i6 HKn.out)
     have d0 : w11.cell? ⟨gj, 0, none⟩ = some (.int .i64 kz) := by rw [row_cell HGj.out 0 (by rw [HZ2l.out]; omega), HZ2.out, HKt.out.k0, HKz.out]
     have d2 : w11.cell? ⟨gj, 2, none⟩ = some (.int .i64 sz) := by rw [row_cell HGj.out 2 (by rw [HZ2l.out]; omega), HZ2.out, HKt.out.k2, HSz.out]
     have d3 : w11.cell? ⟨gj, 3, none⟩ = some (.int .i64 md) := by rw [row_cell HGj.out 3 (by rw [HZ2l.out]; omega), HZ2.out, HKt.out.k3, HMd.out]
     obtain rfl : er = 0 := by rw [HEr.out]; exact HKt.out.rd
     have HFo : Hid (FolOk T z) := hid (by rw [HZ.out]; exact HUK.out.fol _ (by omega) i6 HKn.out);have hF := HKF.out w11 HC11.out;have r0 := hF.c4
     have hFl : Calls Tryz.prog 11 #[.slice (some ⟨gw, 0, none⟩) n wc, .int .i64 ((k : Int) + 1)] w11 (FolPost T ((k : Int) + 1) z w11) := by
      have := follow_any (some ⟨gw, 0, none⟩) wc T (k + 1) w11 (ImgAt.of_wt hF.wt) (by rw [← HTl.out]; omega) (by
       rw [show ((k + 1 : Nat) : Int) = (k : Int) + 1 by omega, ← HZ.out]
       exact HFo.out)
      rw [show ((k + 1 : Nat) : Int) = (k : Int) + 1 by omega, ← HTl.out, ← HZ.out] at this
      exact this
     clear hF hk0 HGj
     go_upto_region 19 with (first
      | (go_at_call 11; go_must (refine hFl.mono ?_; rintro e w12 ⟨v13, gb, K, fb, rfl, hO12, hN12, hc12, hK12, hB12⟩))
      | fail)
     have HC12 : Hid (Chg w6 w12 No) := hid (HC11.out.tr hc12);have HGi12 := hid (hc12.keep HGi11.out (fun e => e));have HO12 := hid hO12;have HNb := hid hN12;have HFb := hid hB12
     have hKb : K ≤ 1068 := by have := HFo.out.s1; have := HFo.out.s0; unfold cntZ at hK12; omega
     obtain ⟨fl, hfl⟩ : ∃ y, y = folL T ((k : Int) + 1) z := ⟨_, rfl⟩;rw [← hfl] at HO12;have hfn := fol_len T ((k : Int) + 1) z;rw [← hfl] at hfn;obtain ⟨gp, cp, hv13, hgp, hown⟩ := pt_slice HO12.out (fun e => by rw [e] at hfn; simp at hfn);obtain ⟨m, hm⟩ : ∃ y, y = fl.length := ⟨_, rfl⟩;have HMl := hid hm;rw [← hm] at hv13 hfn;subst hv13;have HPt : Hid (∀ (j : Nat) (y : Pt), fl[j]? = some y → PtIn T ((k : Int) + 1) z y) := hid (fun j y hy => fol_at HFo.out y (by rw [← hfl]; exact List.mem_of_getElem? hy));clear hO12 hN12 hc12 hFl hfl hgp hown hm hB12 hK12 c0 c2 c3 d0 d2 d3 r0 HGi11 HC11
     go_wp2_with fail
     go_loopw [15] (fun x15 wr => ∃ j : Nat, j ≤ m ∧ x15 = .int .i64 j ∧ Hid (Chg w12 wr No)) (fun x15 _ => m - (intOf x15).toNat)
     case atStart => exact ⟨0, by omega, rfl, hid (Chg.refl _ _)⟩
     case round =>
      obtain ⟨j, hj, rfl, HCj⟩ := hrel
      by_cases hjm : j < m
      ·as_aux_lemma =>
        have j0 : (0 : Int) ≤ (j : Int) := by omega
        have j1 : (j : Int) < (m : Int) := by omega
        obtain ⟨y, hy⟩ : ∃ y, fl[j]? = some y := ⟨_, List.getElem?_eq_getElem (by rw [← HMl.out]; exact hjm)⟩;have hPi := HPt.out j y hy;obtain ⟨p1, p2, p3⟩ := y;have HPc : Hid (∀ W', Chg wr W' No → W'.cell? ⟨gp, j * 3, none⟩ = some (.int .i64 p1) ∧ W'.cell? ⟨gp, j * 3 + 1, none⟩ = some (.int .i64 p2) ∧ W'.cell? ⟨gp, j * 3 + 2, none⟩ = some (.int .i64 p3)) := hid (fun W' hW => pt_cell ((HO12.out.keep HCj.out (fun _ _ e => e)).keep hW (fun _ _ e => e)) (by rw [HMl.out]) hy);have HFr : Hid (∀ W', Chg wr W' No → KF W' g4 gS gw wc n M ib io T im) := hid (fun W' hW => HKF.out W' (HC12.out.tr (HCj.out.tr hW)))
        by_cases h3 : p3 = 0
        ·subst h3
         clear hPi hy
         go_upto_region 22 with fail
         refine wp_region_noPanic ?_;refine wp_region_held_drew (S := fun w' => Chg wr w' No) (by kernel_rfl) (Chg.refl _ _).drew (fun hH => ?_);obtain ⟨w13, hw13⟩ : ∃ y, y = wr.drew := ⟨_, rfl⟩;rw [← hw13] at hH ⊢;clear hw13;refine tV 0 111 (.slice (some ⟨gp, 0, none⟩) m cp) rfl (by kernel_rfl) rfl (by rfl) hH (fun W' hw' => rfl) ?_;simp only [sS];refine tV 1 112 (.int .i64 (j : Int)) rfl (by kernel_rfl) rfl (by rfl) hH (fun W' hw' => rfl) ?_;simp only [sS];refine tV 2 113 (.pointer (some ⟨gp, j * 3, none⟩)) rfl (by kernel_rfl) rfl (by rfl) hH (fun W' hw' => by go_simp) ?_;simp only [sS];refine tV 3 114 (.pointer (some ⟨gp, j * 3 + 2, none⟩)) rfl (by kernel_rfl) rfl (by rfl) hH (fun W' hw' => by go_simp) ?_;simp only [sS];refine tV 4 115 (.int .i64 0) rfl (by kernel_rfl) rfl (by rfl) hH (fun W' hw' => by obtain ⟨q0, q1, q2⟩ := HPc.out W' hw'; go_simp) ?_;simp only [sS];refine tV 5 116 (.bool false) rfl (by kernel_rfl) rfl (by rfl) hH (fun W' hw' => by go_simp) ?_;simp only [sS];refine tV 6 117 (.bool false) rfl (by kernel_rfl) rfl (by rfl) hH (fun W' hw' => rfl) ?_;simp only [sS];refine takeNot 7 118 rfl (by kernel_rfl) (by kernel_rfl) (by kernel_rfl) rfl (by rfl) (fun _ _ _ h => h) hH ?_;simp only [sS];refine takeNot 8 119 rfl (by kernel_rfl) (by kernel_rfl) (by kernel_rfl) rfl (by rfl) (fun _ _ _ h => h) hH ?_;simp only [sS];refine takeNot 9 120 rfl (by kernel_rfl) (by kernel_rfl) (by kernel_rfl) rfl (by rfl) (fun _ _ _ h => h) hH ?_;simp only [sS];refine takeNot 10 121 rfl (by kernel_rfl) (by kernel_rfl) (by kernel_rfl) rfl (by rfl) (fun _ _ _ h => h) hH ?_;simp only [sS];refine takeNot 11 122 rfl (by kernel_rfl) (by kernel_rfl) (by kernel_rfl) rfl (by rfl) (fun _ _ _ h => h) hH ?_;simp only [sS];refine takeNot 12 123 rfl (by kernel_rfl) (by kernel_rfl) (by kernel_rfl) rfl (by rfl) (fun _ _ _ h => h) hH ?_;simp only [sS];refine takeNot 13 124 rfl (by kernel_rfl) (by kernel_rfl) (by kernel_rfl) rfl (by rfl) (fun _ _ _ h => h) hH ?_;simp only [sS];refine takeNot 14 125 rfl (by kernel_rfl) (by kernel_rfl) (by kernel_rfl) rfl (by rfl) (fun _ _ _ h => h) hH ?_;simp only [sS];refine takeNot 15 126 rfl (by kernel_rfl) (by kernel_rfl) (by kernel_rfl) rfl (by rfl) (fun _ _ _ h => h) hH ?_;simp only [sS];refine takeNot 16 127 rfl (by kernel_rfl) (by kernel_rfl) (by kernel_rfl) rfl (by rfl) (fun _ _ _ h => h) hH ?_;simp only [sS];refine takeNot 17 128 rfl (by kernel_rfl) (by kernel_rfl) (by kernel_rfl) rfl (by rfl) (fun _ _ _ h => h) hH ?_;simp only [sS];refine takeNot 18 129 rfl (by kernel_rfl) (by kernel_rfl) (by kernel_rfl) rfl (by rfl) (fun _ _ _ h => h) hH ?_;simp only [sS];refine takeNot 19 130 rfl (by kernel_rfl) (by kernel_rfl) (by kernel_rfl) rfl (by rfl) (fun _ _ _ h => h) hH ?_;simp only [sS];refine takeNot 20 131 rfl (by kernel_rfl) (by kernel_rfl) (by kernel_rfl) rfl (by rfl) (fun _ _ _ h => h) hH ?_;simp only [sS];refine tV 21 132 (.bool false) rfl (by kernel_rfl) rfl (by rfl) hH (fun W' hw' => rfl) ?_;simp only [sS];refine wpAnyH_done (by kernel_rfl) ?_ _;refine NoPanic.normal ?_;have HCn : Hid (Chg w12 w13 No) := hid (HCj.out.tr hH);clear hH
         go_wp2_with fail
         exact ⟨⟨j + 1, by omega, by go_num, HCn⟩, by simp [intOf]; omega⟩
        ·have h3b : (p3 == 0) = false := beq_eq_false_iff_ne.2 h3
         have h3c : decide (p3 = 0) = false := decide_eq_false h3
         have h3d : (p3 != 0) = true := by simpa using h3
         obtain ⟨a, ha⟩ : ∃ a : Nat, p1 = (a : Int) := by
          rcases hPi with ⟨e, _⟩ | ⟨_, e, _⟩
          ·exact ⟨k + 1, by simp only at e; omega⟩
          ·exact ⟨p1.toNat, by simp only at e; omega⟩
         obtain ⟨q, hq⟩ : ∃ q : Nat, p2 = (q : Int) := by
          rcases hPi with ⟨_, e, _⟩ | ⟨_, _, _, e, _⟩
          ·exact ⟨p2.toNat, by simp only at e; omega⟩
          ·exact ⟨p2.toNat, by simp only at e; omega⟩
         have HSt : Hid (stoodP M im (p1, p2, p3) = p3) := hid (fol_stood HKt.out i6 hPi h3)
         have hal : a < im.length := by
          rw [← HNN.out]
          rcases hPi with ⟨e, _⟩ | ⟨_, _, e, _⟩
          ·simp only at e; omega
          ·simp only at e; have := HTl.out; omega
         have hkq : if (M : Int) < (a : Int) then q < 32 else q < 14 := by
          rcases hPi with ⟨e, _, e2, _⟩ | ⟨e, _, _, _, e2, _⟩
          ·simp only at e e2
           rw [if_neg (by omega)]
           omega
          ·simp only at e e2
           have := (HKt.out.tab _ e).1;rw [if_pos (by omega)]
           omega
         subst ha hq
         have HSd : Hid (∀ W', Chg wr W' No → Calls Tryz.prog 12 #[.slice (some ⟨ib, io, none⟩) n ic, .int .i64 M, .agg #[.int .i64 a, .int .i64 q, .int .i64 p3]] W' fun e w' => e = .returned (.int .i64 p3) ∧ Chg W' w' No) := hid (fun W' hW => by
          have := stood_any (some ⟨ib, io, none⟩) ic im M a q p3 W' (HFr.out W' hW).ia hal hkq;rw [HSt.out, ← HNN.out] at this
          exact this)
         clear hPi hy hal hkq h3 HSt
         go_upto_region 22 with fail
         refine wp_region_noPanic ?_;refine wp_region_held_drew (S := fun w' => Chg wr w' No) (by kernel_rfl) (Chg.refl _ _).drew (fun hH => ?_);obtain ⟨w13, hw13⟩ : ∃ y, y = wr.drew := ⟨_, rfl⟩;rw [← hw13] at hH ⊢;clear hw13;refine tV 0 111 (.slice (some ⟨gp, 0, none⟩) m cp) rfl (by kernel_rfl) rfl (by rfl) hH (fun W' hw' => rfl) ?_;simp only [sS];refine tV 1 112 (.int .i64 (j : Int)) rfl (by kernel_rfl) rfl (by rfl) hH (fun W' hw' => rfl) ?_;simp only [sS];refine tV 2 113 (.pointer (some ⟨gp, j * 3, none⟩)) rfl (by kernel_rfl) rfl (by rfl) hH (fun W' hw' => by go_simp) ?_;simp only [sS];refine tV 3 114 (.pointer (some ⟨gp, j * 3 + 2, none⟩)) rfl (by kernel_rfl) rfl (by rfl) hH (fun W' hw' => by go_simp) ?_;simp only [sS];refine tV 4 115 (.int .i64 p3) rfl (by kernel_rfl) rfl (by rfl) hH (fun W' hw' => by obtain ⟨q0, q1, q2⟩ := HPc.out W' hw'; go_simp) ?_;simp only [sS];refine tV 5 116 (.bool true) rfl (by kernel_rfl) rfl (by rfl) hH (fun W' hw' => by go_simp) ?_;simp only [sS];refine tV 6 117 (.bool true) rfl (by kernel_rfl) rfl (by rfl) hH (fun W' hw' => rfl) ?_;simp only [sS];refine tV 7 118 (.slice (some ⟨ib, io, none⟩) n ic) rfl (by kernel_rfl) rfl (by rfl) hH (fun W' hw' => rfl) ?_;simp only [sS];refine tV 8 119 (.pointer (some ⟨gS, 1, none⟩)) rfl (by kernel_rfl) rfl (by rfl) hH (fun W' hw' => by go_simp) ?_;simp only [sS];refine tV 9 120 (.int .i64 (M : Int)) rfl (by kernel_rfl) rfl (by rfl) hH (fun W' hw' => by have hc := (HFr.out W' hw').cS; go_simp) ?_;simp only [sS];refine tV 10 121 (.slice (some ⟨gp, 0, none⟩) m cp) rfl (by kernel_rfl) rfl (by rfl) hH (fun W' hw' => rfl) ?_;simp only [sS];refine tV 11 122 (.int .i64 (j : Int)) rfl (by kernel_rfl) rfl (by rfl) hH (fun W' hw' => rfl) ?_;simp only [sS];refine tV 12 123 (.pointer (some ⟨gp, j * 3, none⟩)) rfl (by kernel_rfl) rfl (by rfl) hH (fun W' hw' => by go_simp) ?_;simp only [sS];refine tV 13 124 (.agg #[.int .i64 (a : Int), .int .i64 (q : Int), .int .i64 p3]) rfl (by kernel_rfl) rfl (by rfl) hH (fun W' hw' => by obtain ⟨q0, q1, q2⟩ := HPc.out W' hw'; go_simp) ?_;simp only [sS];refine tV 15 126 (.slice (some ⟨gp, 0, none⟩) m cp) rfl (by kernel_rfl) rfl (by rfl) hH (fun W' hw' => rfl) ?_;simp only [sS];refine tV 16 127 (.int .i64 (j : Int)) rfl (by kernel_rfl) rfl (by rfl) hH (fun W' hw' => rfl) ?_;simp only [sS];refine tV 17 128 (.pointer (some ⟨gp, j * 3, none⟩)) rfl (by kernel_rfl) rfl (by rfl) hH (fun W' hw' => by go_simp) ?_;simp only [sS];refine tV 18 129 (.pointer (some ⟨gp, j * 3 + 2, none⟩)) rfl (by kernel_rfl) rfl (by rfl) hH (fun W' hw' => by go_simp) ?_;simp only [sS];refine tV 19 130 (.int .i64 p3) rfl (by kernel_rfl) rfl (by rfl) hH (fun W' hw' => by obtain ⟨q0, q1, q2⟩ := HPc.out W' hw'; go_simp) ?_;simp only [sS];refine step1 14 (by kernel_rfl) ?_;refine stCall 14 125 12 #[.slice (some ⟨ib, io, none⟩) n ic, .int .i64 (M : Int), .agg #[.int .i64 (a : Int), .int .i64 (q : Int), .int .i64 p3]] _ rfl rfl (by rfl) (by go_simp) (HSd.out _ hH) ?_
         rintro e w14 ⟨rfl, hc14⟩
         have hH4 : Chg wr w14 No := hH.tr hc14;refine ⟨_, rfl, hH4, ?_⟩;simp only [sS];refine tV 20 131 (.bool false) rfl (by kernel_rfl) rfl (by rfl) hH4 (fun W' hw' => by go_simp) ?_;simp only [sS];refine tV 21 132 (.bool false) rfl (by kernel_rfl) rfl (by rfl) hH4 (fun W' hw' => rfl) ?_;simp only [sS];refine wpAnyH_done (by kernel_rfl) ?_ _;refine NoPanic.normal ?_;have HCn : Hid (Chg w12 w14 No) := hid (HCj.out.tr hH4);clear hH hH4 hc14
         go_wp2_with fail
         exact ⟨⟨j + 1, by omega, by go_num, HCn⟩, by simp [intOf]; omega⟩
      ·have j1 : ¬ (j : Int) < (m : Int) := by omega
       obtain ⟨w15, hw15⟩ : ∃ y : World, y = wr := ⟨_, rfl⟩
       have HC15 : Hid (Chg w12 w15 No) := by rw [hw15]; exact HCj
       rw [← hw15];clear hw15 hj hjm
       go_wp2_with fail
       clear HCj j1
       go_loopw [16] (fun x16 wr => ∃ j : Nat, j ≤ K ∧ x16 = .int .i64 j ∧ Hid (Chg w15 wr No)) (fun x16 _ => K - (intOf x16).toNat)
       case atStart => exact ⟨0, by omega, rfl, hid (Chg.refl _ _)⟩
       case round =>
        obtain ⟨j, hj, rfl, HCj⟩ := hrel
        by_cases hjK : j < K
        ·have j0 : (0 : Int) ≤ (j : Int) := by omega
         have j1 : (j : Int) < (K : Int) := by omega
         have hch : Chg w12 wr No := HC15.out.tr HCj.out;obtain ⟨d1, _⟩ := (HNb.out.keep hch (fun e => e)).cell hjK;rw [HFb.out j hjK] at d1;obtain ⟨bn, hbn⟩ : ∃ y, y = blkP T z j := ⟨_, rfl⟩;rw [← hbn] at d1;have HGr := hid (hch.keep HGi12.out (fun e => e));have c0 := row_cell HGr.out 0 (by rw [HZl.out]; omega);rw [← HKz.out] at c0;have HC6r : Hid (Chg w6 wr No) := hid (HC12.out.tr hch)
         by_cases hb0 : bn = 0
         ·subst hb0
          clear c0 hch
          go_wp2_with fail
          exact ⟨⟨j + 1, by omega, by go_num, HCj⟩, by simp [intOf]; omega⟩
         ·have hb0b : (bn == 0) = false := beq_eq_false_iff_ne.2 hb0
          have hb0c : decide (bn = 0) = false := decide_eq_false hb0
          have hb0d : (bn != 0) = true := by simpa using hb0
          obtain ⟨t1, t2, t3⟩ := HKt.out.block HZl.out (k := j) (by omega) (by rw [← hbn]; exact hb0);have hpm := HUK.out.rg _ (by omega) i6 HKn.out (blkP T z j) (by rw [← HZ.out]; exact blk_pts HZl.out (by omega) (by rw [← hbn]; exact hb0));rw [← hbn] at t1 t2 t3 hpm;rw [← HKz.out] at t2 t3;rw [← HSz.out] at t3;obtain ⟨bm, rfl⟩ : ∃ bm : Nat, bn = (bm : Int) := ⟨bn.toNat, by omega⟩
          have b0 : (0 : Int) ≤ (bm : Int) := by omega
          have b1 : (bm : Int) < (n : Int) := by omega
          have b2 : bm < n := by omega
          have HT2 := hid t2;have HT3 := hid t3;have HFr : Hid (∀ W', Chg wr W' No → KF W' g4 gS gw wc n M ib io T im) := hid (fun W' hW => HKF.out W' (HC6r.out.tr hW));clear t1 t2 t3 hpm hbn hb0
          by_cases hk2 : kz = 2
          ·as_aux_lemma =>
            have HTc := hid (HT2.out hk2);obtain ⟨tk, htk⟩ : ∃ y, y = secI T (bm : Int) := ⟨_, rfl⟩;obtain ⟨ik, hik⟩ : ∃ y, y = secI im (bm : Int) := ⟨_, rfl⟩;rw [← htk, ← hik] at HTc;have HTS : Hid (tk.length = 128) := hid (by rw [htk]; exact (HUK.out.sec _).1);have HIS : Hid (ik.length = 128) := hid (by rw [hik]; exact (HSec.out _).1)
            have hR1 := fun W' (hW : Chg wr W' No) => (HFr.out W' hW).rt bm b2
            have hR2 := fun W' (hW : Chg wr W' No) => (HFr.out W' hW).ri bm b2
            rw [← htk] at hR1;rw [← hik] at hR2;have HR1 := hid hR1;have HR2 := hid hR2;subst hk2;clear htk hik hR1 hR2 h0b h0c h0d hbs
            go_upto_region 30 with fail
            by_cases hzs2 : tk = Zs
            ·skip
             refine wp_region_noPanic ?_;refine wp_region_held_drew (S := fun w' => Chg wr w' No) (by kernel_rfl) (Chg.refl _ _).drew (fun hH => ?_);obtain ⟨w16, hw16⟩ : ∃ y, y = wr.drew := ⟨_, rfl⟩;rw [← hw16] at hH ⊢;clear hw16;refine tV 0 148 (.pointer (some ⟨g4, 0, none⟩)) rfl (by kernel_rfl) rfl (by rfl) hH (fun W' hw' => by go_simp) ?_;simp only [sS];refine tV 1 149 (.slice (some ⟨gw, 0, none⟩) n wc) rfl (by kernel_rfl) rfl (by rfl) hH (fun W' hw' => by have hc := (HFr.out W' hw').c4; go_simp) ?_;simp only [sS];refine tV 2 150 (.int .i64 (bm : Int)) rfl (by kernel_rfl) rfl (by rfl) hH (fun W' hw' => rfl) ?_;simp only [sS];refine tV 3 151 (.pointer (some ⟨gw, bm * 128, none⟩)) rfl (by kernel_rfl) rfl (by rfl) hH (fun W' hw' => by go_simp) ?_;simp only [sS];refine takeMid 4 152 (.tmp 151) gw (bm * 128) tk HTS.out rfl (by kernel_rfl) (by kernel_rfl) (by kernel_rfl) rfl rfl rfl (by rfl) (fun _ _ _ h => h) hH (fun W' hw' => HR1.out W' hw') ?_;simp only [sS];refine tV 5 153 (.agg (SA Zs)) rfl (by kernel_rfl) rfl (by rfl) hH (fun W' hw' => by go_simp; kernel_rfl) ?_;simp only [sS];refine takeNeq 6 154 (.tmp 152) (.tmp 153) tk Zs true HTS.out Zs_sec.1 (decide_eq_true hzs2) rfl (by kernel_rfl) (by kernel_rfl) (by kernel_rfl) rfl rfl rfl rfl (by rfl) (fun _ _ _ h => h) hH ?_;simp only [sS];refine tV 7 155 (.bool false) rfl (by kernel_rfl) rfl (by rfl) hH (fun W' hw' => rfl) ?_;simp only [sS];refine takeNot 8 156 rfl (by kernel_rfl) (by kernel_rfl) (by kernel_rfl) rfl (by rfl) (fun _ _ _ h => h) hH ?_;simp only [sS];refine takeNot 9 157 rfl (by kernel_rfl) (by kernel_rfl) (by kernel_rfl) rfl (by rfl) (fun _ _ _ h => h) hH ?_;simp only [sS];refine takeNot 10 158 rfl (by kernel_rfl) (by kernel_rfl) (by kernel_rfl) rfl (by rfl) (fun _ _ _ h => h) hH ?_;simp only [sS];refine takeNot 11 159 rfl (by kernel_rfl) (by kernel_rfl) (by kernel_rfl) rfl (by rfl) (fun _ _ _ h => h) hH ?_;simp only [sS];refine takeNot 12 160 rfl (by kernel_rfl) (by kernel_rfl) (by kernel_rfl) rfl (by rfl) (fun _ _ _ h => h) hH ?_;simp only [sS];refine takeNot 13 161 rfl (by kernel_rfl) (by kernel_rfl) (by kernel_rfl) rfl (by rfl) (fun _ _ _ h => h) hH ?_;simp only [sS];refine takeNot 14 162 rfl (by kernel_rfl) (by kernel_rfl) (by kernel_rfl) rfl (by rfl) (fun _ _ _ h => h) hH ?_;simp only [sS];refine takeNot 15 163 rfl (by kernel_rfl) (by kernel_rfl) (by kernel_rfl) rfl (by rfl) (fun _ _ _ h => h) hH ?_;simp only [sS];refine takeNot 16 164 rfl (by kernel_rfl) (by kernel_rfl) (by kernel_rfl) rfl (by rfl) (fun _ _ _ h => h) hH ?_;simp only [sS];refine takeNot 17 165 rfl (by kernel_rfl) (by kernel_rfl) (by kernel_rfl) rfl (by rfl) (fun _ _ _ h => h) hH ?_;simp only [sS];refine tV 18 166 (.bool false) rfl (by kernel_rfl) rfl (by rfl) hH (fun W' hw' => rfl) ?_;simp only [sS];refine wpAnyH_done (by kernel_rfl) ?_ _;refine NoPanic.normal ?_;have HCn : Hid (Chg w15 w16 No) := hid (HCj.out.tr hH);clear hH
             go_wp2_with fail
             exact ⟨⟨j + 1, by omega, by go_num, HCn⟩, by simp [intOf]; omega⟩
            ·have hti : tk = ik := by
              rcases HTc.out with e | e
              ·exact absurd e hzs2
              ·exact e
             refine wp_region_noPanic ?_;refine wp_region_held_drew (S := fun w' => Chg wr w' No) (by kernel_rfl) (Chg.refl _ _).drew (fun hH => ?_);obtain ⟨w16, hw16⟩ : ∃ y, y = wr.drew := ⟨_, rfl⟩;rw [← hw16] at hH ⊢;clear hw16;refine tV 0 148 (.pointer (some ⟨g4, 0, none⟩)) rfl (by kernel_rfl) rfl (by rfl) hH (fun W' hw' => by go_simp) ?_;simp only [sS];refine tV 1 149 (.slice (some ⟨gw, 0, none⟩) n wc) rfl (by kernel_rfl) rfl (by rfl) hH (fun W' hw' => by have hc := (HFr.out W' hw').c4; go_simp) ?_;simp only [sS];refine tV 2 150 (.int .i64 (bm : Int)) rfl (by kernel_rfl) rfl (by rfl) hH (fun W' hw' => rfl) ?_;simp only [sS];refine tV 3 151 (.pointer (some ⟨gw, bm * 128, none⟩)) rfl (by kernel_rfl) rfl (by rfl) hH (fun W' hw' => by go_simp) ?_;simp only [sS];refine takeMid 4 152 (.tmp 151) gw (bm * 128) tk HTS.out rfl (by kernel_rfl) (by kernel_rfl) (by kernel_rfl) rfl rfl rfl (by rfl) (fun _ _ _ h => h) hH (fun W' hw' => HR1.out W' hw') ?_;simp only [sS];refine tV 5 153 (.agg (SA Zs)) rfl (by kernel_rfl) rfl (by rfl) hH (fun W' hw' => by go_simp; kernel_rfl) ?_;simp only [sS];refine takeNeq 6 154 (.tmp 152) (.tmp 153) tk Zs false HTS.out Zs_sec.1 (decide_eq_false hzs2) rfl (by kernel_rfl) (by kernel_rfl) (by kernel_rfl) rfl rfl rfl rfl (by rfl) (fun _ _ _ h => h) hH ?_;simp only [sS];refine tV 7 155 (.bool true) rfl (by kernel_rfl) rfl (by rfl) hH (fun W' hw' => rfl) ?_;simp only [sS];refine tV 8 156 (.pointer (some ⟨g4, 0, none⟩)) rfl (by kernel_rfl) rfl (by rfl) hH (fun W' hw' => by go_simp) ?_;simp only [sS];refine tV 9 157 (.slice (some ⟨gw, 0, none⟩) n wc) rfl (by kernel_rfl) rfl (by rfl) hH (fun W' hw' => by have hc := (HFr.out W' hw').c4; go_simp) ?_;simp only [sS];refine tV 10 158 (.int .i64 (bm : Int)) rfl (by kernel_rfl) rfl (by rfl) hH (fun W' hw' => rfl) ?_;simp only [sS];refine tV 11 159 (.pointer (some ⟨gw, bm * 128, none⟩)) rfl (by kernel_rfl) rfl (by rfl) hH (fun W' hw' => by go_simp) ?_;simp only [sS];refine takeMid 12 160 (.tmp 159) gw (bm * 128) tk HTS.out rfl (by kernel_rfl) (by kernel_rfl) (by kernel_rfl) rfl rfl rfl (by rfl) (fun _ _ _ h => h) hH (fun W' hw' => HR1.out W' hw') ?_;simp only [sS];refine tV 13 161 (.slice (some ⟨ib, io, none⟩) n ic) rfl (by kernel_rfl) rfl (by rfl) hH (fun W' hw' => rfl) ?_;simp only [sS];refine tV 14 162 (.int .i64 (bm : Int)) rfl (by kernel_rfl) rfl (by rfl) hH (fun W' hw' => rfl) ?_;simp only [sS];refine tV 15 163 (.pointer (some ⟨ib, io + bm * 128, none⟩)) rfl (by kernel_rfl) rfl (by rfl) hH (fun W' hw' => by go_simp) ?_;simp only [sS];refine takeMid 16 164 (.tmp 163) ib (io + bm * 128) ik HIS.out rfl (by kernel_rfl) (by kernel_rfl) (by kernel_rfl) rfl rfl rfl (by rfl) (fun _ _ _ h => h) hH (fun W' hw' => HR2.out W' hw') ?_;simp only [sS];refine takeNeq 17 165 (.tmp 160) (.tmp 164) tk ik true HTS.out HIS.out (decide_eq_true hti) rfl (by kernel_rfl) (by kernel_rfl) (by kernel_rfl) rfl rfl rfl rfl (by rfl) (fun _ _ _ h => h) hH ?_;simp only [sS];refine tV 18 166 (.bool false) rfl (by kernel_rfl) rfl (by rfl) hH (fun W' hw' => rfl) ?_;simp only [sS];refine wpAnyH_done (by kernel_rfl) ?_ _;refine NoPanic.normal ?_;have HCn : Hid (Chg w15 w16 No) := hid (HCj.out.tr hH);clear hH
             go_wp2_with fail
             exact ⟨⟨j + 1, by omega, by go_num, HCn⟩, by simp [intOf]; omega⟩
          ·have hk2b : (kz == 2) = false := beq_eq_false_iff_ne.2 hk2
           have hk2c : decide (kz = 2) = false := decide_eq_false hk2;have HTc := hid (HT3.out hk2);have HSb : Hid (sz ≤ 136704) := hid (by rw [HSz.out]; exact HFo.out.s1)
           have K9 : (K : Int) ≤ 1068 := by omega
           obtain ⟨w16, hw16⟩ : ∃ y : World, y = wr := ⟨_, rfl⟩
           have HC16 : Hid (Chg w15 w16 No) := by rw [hw16]; exact HCj
           have HF16 : Hid (∀ W', Chg w16 W' No → KF W' g4 gS gw wc n M ib io T im) := by rw [hw16]; exact HFr
           have HG16 : Hid (w16.heap[gi]? = some (.cells (NA z) 39 (0, 0))) := by rw [hw16]; exact HGr
           rw [← hw16] at c0 d1 ⊢;clear hch hbs hw16
           go_wp2_with fail
           clear c0 d1 HCj HFr HGr HC6r hk2b hk2c h0b h0c h0d hb0b hb0c hb0d hk2
           go_loopw [18] (fun x18 wr => ∃ c : Nat, c ≤ 128 ∧ x18 = .int .i64 c ∧ Hid (Chg w16 wr No)) (fun x18 _ => 128 - (intOf x18).toNat)
           case atStart => exact ⟨0, by omega, rfl, hid (Chg.refl _ _)⟩
           case round =>
            obtain ⟨c, hc, rfl, HCc⟩ := hrel;have HCn0 : Hid (Chg w15 wr No) := hid (HC16.out.tr HCc.out)
            by_cases hc1 : c < 128
            ·have e0 : (0 : Int) ≤ (c : Int) := by omega
             have e1 : (c : Int) < 128 := by omega
             have cz := row_cell (HCc.out.keep HG16.out (fun e => e)) 2 (by rw [HZl.out]; omega);rw [← HSz.out] at cz
             by_cases hc2 : 128 * (j : Int) + (c : Int) < sz
             ·as_aux_lemma =>
               have hBy := HTc.out c hc1 hc2;obtain ⟨yb, hyb⟩ : ∃ y, y = (secI T (bm : Int)).getD c 0 := ⟨_, rfl⟩
               have HB1 : Hid (∀ W', Chg wr W' No → W'.cell? ⟨g4, 0, none⟩ = some (.slice (some ⟨gw, 0, none⟩) n wc) ∧ W'.cell? ⟨gw, bm * 128 + c, none⟩ = some (.int .u8 yb) ∧ W'.cell? ⟨ib, io + bm * 128 + c, none⟩ = some (.int .u8 yb)) := hid (fun W' hW => by
                have hF := HF16.out W' (HCc.out.tr hW)
                exact ⟨hF.c4, by rw [hyb]; exact byte_cell (hF.rt bm b2) (HUK.out.sec _).1 hc1, by rw [hyb, hBy]; exact byte_cell (hF.ri bm b2) (HSec.out _).1 hc1⟩)
               clear hBy hyb
               go_upto_region 35 with fail
               refine wp_region_noPanic ?_;refine wp_region_held_drew (S := fun w' => Chg wr w' No) (by kernel_rfl) (Chg.refl _ _).drew (fun hH => ?_);obtain ⟨w17, hw17⟩ : ∃ y, y = wr.drew := ⟨_, rfl⟩;rw [← hw17] at hH ⊢;clear hw17;refine tV 0 180 (.pointer (some ⟨g4, 0, none⟩)) rfl (by kernel_rfl) rfl (by rfl) hH (fun W' hw' => by go_simp) ?_;simp only [sS];refine tV 1 181 (.slice (some ⟨gw, 0, none⟩) n wc) rfl (by kernel_rfl) rfl (by rfl) hH (fun W' hw' => by obtain ⟨q0, q1, q2⟩ := HB1.out W' hw'; go_simp) ?_;simp only [sS];refine tV 2 182 (.int .i64 (bm : Int)) rfl (by kernel_rfl) rfl (by rfl) hH (fun W' hw' => rfl) ?_;simp only [sS];refine tV 3 183 (.int .i64 (c : Int)) rfl (by kernel_rfl) rfl (by rfl) hH (fun W' hw' => rfl) ?_;simp only [sS];refine tV 4 184 (.pointer (some ⟨gw, bm * 128, none⟩)) rfl (by kernel_rfl) rfl (by rfl) hH (fun W' hw' => by go_simp) ?_;simp only [sS];refine tV 5 185 (.pointer (some ⟨gw, bm * 128 + c, none⟩)) rfl (by kernel_rfl) rfl (by rfl) hH (fun W' hw' => by go_simp) ?_;simp only [sS];refine tV 6 186 (.int .u8 yb) rfl (by kernel_rfl) rfl (by rfl) hH (fun W' hw' => by obtain ⟨q0, q1, q2⟩ := HB1.out W' hw'; go_simp) ?_;simp only [sS];refine tV 7 187 (.slice (some ⟨ib, io, none⟩) n ic) rfl (by kernel_rfl) rfl (by rfl) hH (fun W' hw' => rfl) ?_;simp only [sS];refine tV 8 188 (.int .i64 (bm : Int)) rfl (by kernel_rfl) rfl (by rfl) hH (fun W' hw' => rfl) ?_;simp only [sS];refine tV 9 189 (.int .i64 (c : Int)) rfl (by kernel_rfl) rfl (by rfl) hH (fun W' hw' => rfl) ?_;simp only [sS];refine tV 10 190 (.pointer (some ⟨ib, io + bm * 128, none⟩)) rfl (by kernel_rfl) rfl (by rfl) hH (fun W' hw' => by go_simp) ?_;simp only [sS];refine tV 11 191 (.pointer (some ⟨ib, io + bm * 128 + c, none⟩)) rfl (by kernel_rfl) rfl (by rfl) hH (fun W' hw' => by go_simp) ?_;simp only [sS];refine tV 12 192 (.int .u8 yb) rfl (by kernel_rfl) rfl (by rfl) hH (fun W' hw' => by obtain ⟨q0, q1, q2⟩ := HB1.out W' hw'; go_simp) ?_;simp only [sS];refine tV 13 193 (.bool false) rfl (by kernel_rfl) rfl (by rfl) hH (fun W' hw' => by go_simp) ?_;simp only [sS];refine wpAnyH_done (by kernel_rfl) ?_ _;refine NoPanic.normal ?_;have HCn : Hid (Chg w16 w17 No) := hid (HCc.out.tr hH);clear hH
               go_wp2_with fail
               exact ⟨⟨c + 1, by omega, by go_num, HCn⟩, by simp [intOf]; omega⟩
             ·have hc3 : decide (128 * (j : Int) + (c : Int) < sz) = false := decide_eq_false hc2
              go_wp2_with fail
              exact ⟨⟨j + 1, by omega, by go_num, HCn0⟩, by simp [intOf]; omega⟩
            ·have e1 : ¬ (c : Int) < 128 := by omega
             have e2 : decide ((c : Int) < 128) = false := decide_eq_false e1
             go_wp2_with fail
             exact ⟨⟨j + 1, by omega, by go_num, HCn0⟩, by simp [intOf]; omega⟩
        ·have j1 : ¬ (j : Int) < (K : Int) := by omega
         have HCn : Hid (Chg w6 wr No) := hid (HC12.out.tr (HC15.out.tr HCj.out));clear hj hjK
         go_wp2_with fail
         exact ⟨⟨k + 1, by omega, by go_num, HCn⟩, by simp [intOf]; omega⟩
   ·have i6 : ¬ (k : Int) + 1 ≤ (M : Int) := by omega
    have HCf : Hid (Chg W wr No) := hid (HCW.out.tr HC.out);clear hF
    go_wp2_with fail
    go_ret
    exact ⟨rfl, HCf.out.below⟩
end Go.Proofs.YtpmignilhoihnabGreat

namespace Go.Proofs.YtpmignilhoihnabGreat
open Go.ChangeShapes Go.WideShapes Go.ChangeAt Go.RowKit Go.Joins

set_option linter.unusedVariables false
set_option maxRecDepth 100000 in
theorem lookKeeps_lifted (os : Os) (started : os.Started) (H : Type) (enc : TypeId × Value → H) :
  ReturnsInHanded {} Tryz.checked os 3 .any (Rows.lookKeepsSpec.pre6 enc Tryz.prog Tryz.f3 Rows.lookKeepsRow.domain false) (Rows.lookKeepsSpec.post enc Tryz.prog Tryz.f3 false true false false) := by
 refine returnsInHanded_of_change (C := Tryz.checked) own started (by kernel_rfl) Tryz.func3
  (ChangeSpec.witness6 (enc := enc) (C := Tryz.checked) false ⟨#[], #[.slice none 0 0], []⟩ 8 (by kernel_rfl) (by kernel_rfl) (by kernel_rfl) (by kernel_rfl)) ?_
 intro W base args ds gs before hval0 hW hcnd _
 have hval : ∀ (j : Nat) t v, Tryz.f3.params[j]? = some t → args[j]? = some v → Value.okWide Tryz.prog W .any base t v := hval0;have hW' := hW;obtain ⟨p, q, hA0, hV, rfl, hfz, hnd⟩ := hW;have hA : DataW.TrodAll enc Tryz.prog W 0 (fun _ => true) true Tryz.f3.params.toList args.toList ds p := hA0;rw [Tryz.params3] at hA hval;obtain ⟨v0, vs0, d0, ds0, p0, q0, hargs, rfl, rfl, h0, r0⟩ := trodAll_cons hA;obtain ⟨rfl, rfl, rfl⟩ := trodAll_nil r0
 obtain rfl : args = #[v0] := by cases args; simp_all
 obtain ⟨rfl, rfl⟩ := trodVars_none hV;have k0 := h0
 have lt0 : ∀ x ∈ p0, x.block < W.heap.size := by obtain ⟨m, hm⟩ := k0; exact DataW.trod_lt m _ _ _ hm
 obtain ⟨a0, c0, im0, rfl, hI0, hn0⟩ := open_secs (hval 0 22 v0 rfl rfl) h0;clear hA0 hval0
 refine (keeps_walk a0 c0 im0 W hI0 hn0).mono fun e W' ⟨he, bel⟩ => ?_
 subst he
 exact ⟨_, rfl, _, _, _, [], _, [], hW', trodAll_mk1 (shut_bool Tryz.underlying4 _), (trodAll_cons_mk (Below.trod laidOut (by kernel_rfl) (of_decide_eq_true (by kernel_rfl)) k0 bel lt0) trodAll_mk0), rfl, bel.frame _, fun h => by cases h⟩

theorem lookKeeps_holds : Rows.LookKeepsSaid :=
 OpenClaim.holds_of_wide 3 Tryz.f3 rfl rfl rfl rfl rfl rfl rfl ⟨rfl, rfl, rfl, rfl, rfl⟩ rfl rfl rfl rfl rfl (by kernel_rfl) Tryz.func3 (by kernel_rfl)
  (of_decide_eq_true (by kernel_rfl)) (by unfold Func.isWrapper; first | (rw [if_pos (by decide +kernel)]; kernel_rfl) | (rw [if_neg (by decide +kernel)]; exact ⟨rfl, rfl⟩))
  (fun os started H enc _ => lookKeeps_lifted os started H enc)

end Go.Proofs.YtpmignilhoihnabGreat
