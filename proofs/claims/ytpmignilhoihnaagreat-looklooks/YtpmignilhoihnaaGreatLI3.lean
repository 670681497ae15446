/-
 layout.InodeSector, of an inode that may be.
-/
import Derived.Test.YtpmignilhoihnaaGreatLI2
namespace Go.Proofs.YtpmignilhoihnaaGreat
open Go.RowKit

set_option maxRecDepth 100000 in
set_option maxHeartbeats 4000000 in
theorem inodeSector_ok (z : List Int) (hz : z.length = 18) (w : World) (h : inoB z = true) :
  Calls Tryz.prog 47 #[.agg (NA z)] w fun e w' => e = .returned (.tuple #[.agg (SA (layS (numsIno z 18))), .int .i64 0]) ∧ Below w.heap.size w w' := by
 have hm := fun w' => inodeMayBe_any z hz w'
 rw [h] at hm;have HOK := hid (ino_ok h);have hzz := zero_sec;have hmk := make_nums;have HG1 : Hid (((w.alloc (.cells (NA z) 51)).alloc (.cells (SA Zs) 33)).heap[w.heap.size]? = some (.cells (NA z) 51 (0, 0))) := heap_alloc2_old w _ _;have HZ : Hid (((w.alloc (.cells (NA z) 51)).alloc (.cells (SA Zs) 33)).heap[w.heap.size + 1]? = some (.cells (SA Zs) 33 (0, 0))) := heap_alloc2_new w _ _;have hb : Below w.heap.size w ((w.alloc (.cells (NA z) 51)).alloc (.cells (SA Zs) 33)) := ((Below.refl _ _).alloc (Nat.le_refl _) _).alloc (by simp) _
 have hsz : ((w.alloc (.cells (NA z) 51)).alloc (.cells (SA Zs) 33)).heap.size = w.heap.size + 2 := by simp
 go_enter Tryz.func47, Tryz.ntmps47
 go_upto_region 5 with (first | refine load_R rfl 51 (.tmp 1) rfl w.heap.size rfl 51 _ _ HG1.out Tryz.underlying51 rfl (by rw [szI, NA_size, hz]) ?_ | (go_at_call 87; refine (hm _).mono ?_; rintro e w2 ⟨rfl, hb2⟩) | (go_at_call 75; refine (inodeFields_any _).mono ?_; rintro e w3 ⟨rfl, hF, hb3⟩))
 have z2 := hb2.size;rw [hsz] at z2 hb2
 have zN : (w2.alloc (.cells (NA Z96) 144)).heap.size = w2.heap.size + 1 := by simp
 rw [zN] at hF hb3
 have I3 : IRun w z (w2.heap.size + 1) (base 0) (.slice (some ⟨w2.heap.size, 0, none⟩) 0 32) w3 := by
  refine ⟨?_, ?_, hF, ?_, ?_, ?_, by omega⟩
  ·rw [hb3.block _ (by omega), Below.heap_alloc _ _ _ (by omega), hb2.block _ (by omega)]; exact HG1.out
  ·rw [hb3.block _ (by omega), Below.heap_alloc _ _ _ (by omega), hb2.block _ (by omega)]; exact HZ.out
  ·have := World.ownsRow_made (base := w.heap.size + 2) (e := 144) (size := 3) w2 (NA Z96) 32 z2 (by decide) (by rw [NA_size]; rfl)
   exact NOwn.keep (l := []) this (fun g hg => by have e : w2.heap.size = g := Option.some.inj hg; subst e; rw [hb3.block _ (by omega)])
  ·exact btr ((btr hb hb2 (by omega)).alloc (by omega) _) hb3 (by omega)
  ·intro e
   have e1 : w2.heap.size = w2.heap.size + 1 := Option.some.inj e
   omega
 have HI3 := hid I3;clear HG1 HZ hb hsz hm hmk hF hb2 I3
 go_loopw [4, 15] (fun x i wr => ∃ (j : Nat) (v : Value), j ≤ 7 ∧ v = x ∧ i = .int .i64 j ∧ Hid (IRun w z (w2.heap.size + 1) (base j) v wr)) (fun _ i _ => 7 - (intOf i).toNat)
 case atStart => exact ⟨0, _, by omega, rfl, rfl, HI3⟩
 case round =>
  obtain ⟨j, v0, hj, rfl, rfl, HI0⟩ := hrel;obtain ⟨wo, hwo⟩ : ∃ x, x = wr := ⟨_, rfl⟩;subst hwo;clear HI3
  by_cases hlt : j < 7
  ·obtain ⟨f, hf⟩ : ∃ f, flds[j]? = some f := ⟨flds[j]'(by simpa [flds] using hlt), List.getElem?_eq_getElem (by simpa [flds] using hlt)⟩
   obtain ⟨q1, q2, q3, q4, q5, q6, q7⟩ := fld_facts hf;obtain ⟨r1, r2, r3, r4⟩ := fld_pls hf;have hr := HI0.out.t.range hf;have HGF := hid (fun w' i hi => getF_any hf z hz w' i hi);have hen := enters_gf hf;have HR := hid hr;have HFL := hid hf;have hso := slt HI0.out.a;clear hr q6 hf r1;unfold cellF at HR
   go_upto_region 7 with (first | (refine wpList_load_mid rfl 131 (.tmp 17) rfl (w2.heap.size + 1) (j * 6) rfl _ _ HR.out Tryz.underlying131 rfl (by rw [szF]; rfl) ?_) | (refine store_R rfl 131 (.tmp 6) _ rfl wo.heap.size _ rfl rfl 131 _ (heap_alloc_new _ _) (by rw [szF]; rfl) rfl (by simp [Value.oneCell']) ?_; intro W hW))
   have IW := HI0.out.put hW;have hW4 : W.heap[wo.heap.size]? = some (.cells (cellF f).toArray 131 (0, 0)) := hW.here;have hc2 := cell_of_row W wo.heap.size 2 _ _ _ hW4
   have hq0 : ¬ v0.ownBlock = some wo.heap.size := fun e => by have := (HI0.out.o.lt e).2; omega
   have HIW : Hid (IRun w z (w2.heap.size + 1) (base j + 0) v0 W) := IW;have HW4 := hid hW4;unfold cellF at hc2;clear hW IW hW4 HI0 HR
   go_upto_region 8 with fail
   clear hc2
   go_loopw [4, 21] (fun x i wi => ∃ (m : Nat) (v : Value), m ≤ f.ct ∧ v = x ∧ i = .int .i64 m ∧ wi.heap[wo.heap.size]? = some (.cells (cellF f).toArray 131 (0, 0)) ∧ ¬ v.ownBlock = some wo.heap.size ∧ Hid (IRun w z (w2.heap.size + 1) (base j + m) v wi)) (fun _ i _ => f.ct - (intOf i).toNat)
   case atStart => exact ⟨0, v0, by omega, rfl, rfl, HW4.out, hq0, HIW⟩
   case round =>
    obtain ⟨m, v, hm, rfl, rfl, hC, hq, HI⟩ := hrel;clear HW4 hq0 HIW
    by_cases hlm : m < f.ct
    ·have hsm : base j + m < 18 := by omega
     go_upto_region 10 with fail
     refine wp_region_noPanic ?_;refine wp_region_held_drew (S := fun w' => w'.heap[wo.heap.size]? = some (.cells (cellF f).toArray 131 (0, 0)) ∧ w'.heap[w.heap.size]? = some (.cells (NA z) 51 (0, 0))) (by kernel_rfl) ⟨hC, HI.out.i⟩ (fun hH => ?_);have I0 := HI.out.call (w' := wr.drew) (below_drew (Below.refl _ _));have C0 : wr.drew.heap[wo.heap.size]? = some (.cells (cellF f).toArray 131 (0, 0)) := hC;refine tV 0 24 (v) rfl (by kernel_rfl) rfl (by rfl) hH (fun x hw' => rfl) ?_;simp only [sS];refine takeR 1 25 131 (.tmp 6) wo.heap.size 131 (cellF f).toArray _ rfl (by kernel_rfl) (by kernel_rfl) (by kernel_rfl) rfl rfl rfl Tryz.underlying131 rfl (by rw [szF]; rfl) (by rfl) (fun _ _ _ h => h) hH (fun _ h => h.1) ?_;simp only [sS];refine tV 2 26 (.int .i64 (m : Int)) rfl (by kernel_rfl) rfl (by rfl) hH (fun x hw' => rfl) ?_;simp only [sS];refine tV 4 28 (.pointer (some ⟨wo.heap.size, 1, none⟩)) rfl (by kernel_rfl) rfl (by rfl) hH (fun x hw' => by go_simp) ?_;simp only [sS];refine tV 5 29 (.int .i64 f.wd) rfl (by kernel_rfl) rfl (by rfl) hH (fun x hw' => by have hc : x.cell? ⟨wo.heap.size, 1, none⟩ = some (.int .i64 f.wd) := cell_of_row _ _ 1 _ _ _ hw'.1; go_simp) ?_;simp only [sS];refine tV 6 30 (.pointer (some ⟨wo.heap.size, 4, none⟩)) rfl (by kernel_rfl) rfl (by rfl) hH (fun x hw' => by go_simp) ?_;simp only [sS];refine tV 7 31 (.func (Fn.func f.gf) #[] #[]) rfl (by kernel_rfl) rfl (by rfl) hH (fun x hw' => by have hc : x.cell? ⟨wo.heap.size, 4, none⟩ = some (.func (Fn.func f.gf) #[] #[]) := cell_of_row _ _ 4 _ _ _ hw'.1; go_simp) ?_;simp only [sS];refine takeR 8 32 51 (.tmp 1) w.heap.size 51 (NA z) _ rfl (by kernel_rfl) (by kernel_rfl) (by kernel_rfl) rfl rfl rfl Tryz.underlying51 rfl (by rw [szI, NA_size, hz]) (by rfl) (fun _ _ _ h => h) hH (fun _ h => h.2) ?_;simp only [sS];refine tV 9 33 (.int .i64 (m : Int)) rfl (by kernel_rfl) rfl (by rfl) hH (fun x hw' => rfl) ?_;simp only [sS];refine step1 3 (by kernel_rfl) ?_;refine stCall 3 27 76 #[.agg (cellF f).toArray, .int .i64 (m : Int)] _ rfl rfl (by rfl) (by go_simp) (place_any f m _ r2 r3 (r4 m hlm).1 (r4 m hlm).2) ?_
     rintro e wA ⟨rfl, hbA⟩
     have IA := I0.call hbA
     have CA : wA.heap[wo.heap.size]? = some (.cells (cellF f).toArray 131 (0, 0)) := by rw [hbA.block _ (slt C0)]; exact C0
     have hH := And.intro CA IA.i;refine ⟨_, rfl, hH, ?_⟩;simp only [sS];refine step1 10 (by kernel_rfl) ?_;refine stCall 10 34 f.gf #[.agg (NA z), .int .i64 (m : Int)] _ rfl rfl (by rfl) (by go_simp) (HGF.out _ m hlm) ?_
     rintro e wB ⟨rfl, hbB⟩
     have IB := IA.call hbB
     have CB : wB.heap[wo.heap.size]? = some (.cells (cellF f).toArray 131 (0, 0)) := by rw [hbB.block _ (slt CA)]; exact CA
     have hH := And.intro CB IB.i;refine ⟨_, rfl, hH, ?_⟩;simp only [sS];refine tV 11 35 (.agg #[.int .i64 (f.pl + (m : Int) * f.wd), .int .i64 f.wd, .int .i64 (z.getD (base j + m) 0)]) rfl (by kernel_rfl) rfl (by rfl) hH (fun x hw' => by go_simp) ?_;simp only [sS];refine step1 12 (by kernel_rfl) ?_;refine stNew 12 36 (.slice (some ⟨wB.heap.size, 0, none⟩) 1 1) (.cells #[.int .i64 (f.pl + (m : Int) * f.wd), .int .i64 f.wd, .int .i64 (z.getD (base j + m) 0)] 144) rfl rfl (by rfl) (by go_simp) ?_;have hbN : Below wB.heap.size wB (wB.alloc (.cells #[.int .i64 (f.pl + (m : Int) * f.wd), .int .i64 f.wd, .int .i64 (z.getD (base j + m) 0)] 144)) := (Below.refl _ _).alloc (Nat.le_refl _) _;have IN := IB.call hbN
     have CN : (wB.alloc (.cells #[.int .i64 (f.pl + (m : Int) * f.wd), .int .i64 f.wd, .int .i64 (z.getD (base j + m) 0)] 144)).heap[wo.heap.size]? = some (.cells (cellF f).toArray 131 (0, 0)) := by rw [hbN.block _ (slt CB)]; exact CB
     have hN : (wB.alloc (.cells #[.int .i64 (f.pl + (m : Int) * f.wd), .int .i64 f.wd, .int .i64 (z.getD (base j + m) 0)] 144)).heap[wB.heap.size]? = some (.cells (cellsN [(f.pl + (m : Int) * f.wd, f.wd, z.getD (base j + m) 0)]).toArray 144 (0, 0)) := heap_alloc_new _ _;have hH := And.intro CN IN.i;refine ⟨hH, ?_⟩;simp only [sS];refine step1 13 (by kernel_rfl) ?_;refine stAppN 13 37 rfl rfl (by rfl) _ _ rfl (w.heap.size + 2) wB.heap.size 1 v (numsIno z (base j + m)) _ rfl rfl IN.o hN (by rw [numsIno_len]; omega) (by have := slt IN.a; omega) ?_
     intro v' wC h1 h2 h3
     have IC := IN.app h2 h1 (fld_num HFL.out z hlm).symm h3
     have CC : wC.heap[wo.heap.size]? = some (.cells (cellF f).toArray 131 (0, 0)) := by rw [h2.block _ (slt CN) (fun e => hq e.symm)]; exact CN
     have hq' : ¬ v'.ownBlock = some wo.heap.size := by
      intro e
      rcases h3 with k | k
      ·exact hq (by rw [← k]; exact e)
      ·have := slt CN; rw [k] at e; have e1 := Option.some.inj e; omega
     have hH := And.intro CC IC.i;refine ⟨hH, ?_⟩;simp only [sS];refine tV 14 4 (v') rfl (by kernel_rfl) rfl (by rfl) hH (fun x hw' => rfl) ?_;simp only [sS];refine wpAnyH_done (by kernel_rfl) ?_ _;refine NoPanic.normal ?_;have HIC := hid IC;clear hH
     go_wp2
     exact ⟨⟨m + 1, v', by omega, rfl, by go_num, CC, hq', HIC⟩, by simp [intOf]; omega⟩
    ·have e : m = f.ct := by omega
     subst e
     have HJ : Hid (IRun w z (w2.heap.size + 1) (base (j + 1)) v wr) := by rw [q1]; exact HI
     clear hC
     go_wp2
     exact ⟨⟨j + 1, v, by omega, rfl, by go_num, HJ⟩, by simp [intOf]; omega⟩
  ·have e : j = 7 := by omega
   subst e;obtain ⟨g, cap, hv, hN⟩ := HI0.out.o.at (by rw [numsIno_len]; decide);rw [numsIno_len] at hv;have hv' : v0 = .slice (some ⟨g, 0, none⟩) 18 cap := hv;subst hv';have hlay := lay_any (numsIno z (base 7)) g cap wo hN HOK.out (by rw [numsIno_len]; decide);rw [numsIno_len] at hlay;have HL := hid hlay;have hlen := (layS_sec (numsIno z 18)).1;clear hlay hv hN
   go_wp2_with (first | (go_at_call 88; refine HL.out.mono ?_; rintro e w4 ⟨rfl, hb4⟩; have HA := hid (HI0.out.call hb4)) | (refine store_sec rfl (.tmp 2) _ rfl (w.heap.size + 1) rfl (layS (numsIno z 18)) rfl hlen Zs Zs_len HA.out.a ?_; intro w5 hw5))
   exact bodyPost_ret (v := .tuple #[.agg (SA (layS (numsIno z 18))), .int .i64 0]) (results_sec Tryz.results47 _ _ (w.heap.size + 1) _ hlen _ rfl rfl hw5.here) rfl ⟨rfl, hw5.below HA.out.b (by omega)⟩

theorem inodeSector_any (z : List Int) (hz : z.length = 18) (w : World) :
  Calls Tryz.prog 47 #[.agg (NA z)] w fun e w' => e = .returned (.tuple #[.agg (SA (inoS z)), .int .i64 (inoE z)]) ∧ Below w.heap.size w w' := by
 cases h : inoB z
 ·rw [show inoS z = Zs by simp [inoS, h], show inoE z = 61 by simp [inoE, h]]
  exact inodeSector_bad z hz w h
 ·rw [show inoS z = layS (numsIno z 18) by simp [inoS, h], show inoE z = 0 by simp [inoE, h]]
  exact inodeSector_ok z hz w h

end Go.Proofs.YtpmignilhoihnaaGreat
