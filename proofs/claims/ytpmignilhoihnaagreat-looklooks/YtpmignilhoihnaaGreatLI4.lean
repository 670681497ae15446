/-
 layout.ReadInode: the table's functions give an inode its numbers, one by one.
-/
import Derived.Test.YtpmignilhoihnaaGreatLI3
import Derived.Test.YtpmignilhoihnaaGreatL3
namespace Go.Proofs.YtpmignilhoihnaaGreat
open Go.RowKit

def gv (s : List Int) (m : Nat) : Int := getV s (pls.getD m (0, 0)).1 (pls.getD m (0, 0)).2
def zTo (s : List Int) (n : Nat) : List Int := (List.range 18).map fun m => if m < n then gv s m else 0
theorem zTo_len (s : List Int) (n : Nat) : (zTo s n).length = 18 := by simp [zTo]
theorem zTo_zero (s : List Int) : zTo s 0 = Zi := by
 unfold zTo Zi
 simp
 decide
theorem zTo_step (s : List Int) (n : Nat) : (zTo s n).set n (gv s n) = zTo s (n + 1) := by
 apply List.ext_getElem (by simp [zTo])
 intro i h1 h2
 simp [zTo, List.getElem_set]
 by_cases e : n = i
 ·subst e; simp
 ·rw [if_neg e]
  by_cases k : i < n
  ·rw [if_pos k, if_pos (by omega)]
  ·rw [if_neg k, if_neg (by omega)]
theorem run_loadR' {w : World} {g : Nat} {z : List Int} (hg : w.heap[g]? = some (.cells (NA z) 51 (0, 0))) (hz : z.length = 18) : (do let v ← Instr.loadAt 51 (.pointer (some ⟨g, 0, none⟩)); pure (Next.value v) : Sem Next).run Tryz.prog w = .ok (.value (.agg (NA z))) w := by
 simp only [Instr.loadAt, Instr.sureAddr, Sem.run_bind, Sem.run_pure, Result.andThen_ok, run_loadR w g 51 51 (NA z) _ hg Tryz.underlying51 rfl (by rw [szI, NA_size, hz])]

structure RRun (w : World) (s : List Int) (bf : Nat) (z : List Int) (wr : World) : Prop where
 i : wr.heap[w.heap.size]? = some (.cells (SA s) 33 (0, 0))
 a : wr.heap[w.heap.size + 1]? = some (.cells (NA Zi) 51 (0, 0))
 x : wr.heap[w.heap.size + 2]? = some (.cells (NA z) 51 (0, 0))
 t : FldsAt wr bf
 b : Below w.heap.size w wr
 l : w.heap.size + 3 ≤ bf
theorem RRun.call {w wr w' : World} {s z : List Int} {bf : Nat} (h : RRun w s bf z wr) (hb : Below wr.heap.size wr w') : RRun w s bf z w' :=
 ⟨by rw [hb.block _ (slt h.i)]; exact h.i, by rw [hb.block _ (slt h.a)]; exact h.a, by rw [hb.block _ (slt h.x)]; exact h.x, by show _ = _; rw [hb.block _ (slt h.t)]; exact h.t, btr h.b hb h.b.size, h.l⟩
theorem RRun.put {w wr w' : World} {s z : List Int} {bf : Nat} {c0 c : Array Value} {t : TypeId} (h : RRun w s bf z wr) (hp : PutR (wr.alloc (.cells c0 t)) wr.heap.size c t w') : RRun w s bf z w' :=
 h.call (hp.below ((Below.refl _ _).alloc (Nat.le_refl _) _) (Nat.le_refl _))
theorem RRun.set {w wr w' : World} {s z y : List Int} {bf : Nat} (h : RRun w s bf z wr) (hp : PutR wr (w.heap.size + 2) (NA y) 51 w') : RRun w s bf y w' := by
 have := h.l
 exact ⟨by rw [hp.other _ (by omega)]; exact h.i, by rw [hp.other _ (by omega)]; exact h.a, hp.here, by show _ = _; rw [hp.other _ (by omega)]; exact h.t, hp.below h.b (by omega), h.l⟩

def rdIno (z : List Int) (s : List Int) : List Int × Int := if inoB z = true ∧ inoS z = s then (z, 0) else (Zi, 61)
theorem rdIno_len {z s : List Int} (hz : z.length = 18) : (rdIno z s).1.length = 18 := by
 unfold rdIno; split
 ·exact hz
 ·exact Zi_len

set_option maxRecDepth 100000 in
set_option maxHeartbeats 6000000 in
theorem readInode_any (s : List Int) (hs : IsSec s) (w : World) :
  Calls Tryz.prog 43 #[.agg (SA s)] w fun e w' => e = .returned (.tuple #[.agg (NA (rdIno (zTo s 18) s).1), .int .i64 (rdIno (zTo s 18) s).2]) ∧ Below w.heap.size w w' := by
 have hzz := zero_sec;have hzi := zero_inode;have hl := hs.1;obtain ⟨W, hW⟩ : ∃ y, y = ((w.alloc (.cells (SA s) 33)).alloc (.cells (NA Zi) 51)).alloc (.cells (NA Zi) 51) := ⟨_, rfl⟩;have hb2 : Below w.heap.size w ((w.alloc (.cells (SA s) 33)).alloc (.cells (NA Zi) 51)) := ((Below.refl _ _).alloc (Nat.le_refl _) _).alloc (by simp) _
 have hz2 : ((w.alloc (.cells (SA s) 33)).alloc (.cells (NA Zi) 51)).heap.size = w.heap.size + 2 := by simp
 have X0 : W.heap[w.heap.size]? = some (.cells (SA s) 33 (0, 0)) := by rw [hW, Below.heap_alloc _ _ _ (by omega)]; exact heap_alloc2_old w _ _
 have Y0 : W.heap[w.heap.size + 1]? = some (.cells (NA Zi) 51 (0, 0)) := by rw [hW, Below.heap_alloc _ _ _ (by omega)]; exact heap_alloc2_new w _ _
 have Z0 : W.heap[w.heap.size + 2]? = some (.cells (NA (zTo s 0)) 51 (0, 0)) := by rw [hW, ← hz2, zTo_zero]; exact heap_alloc_new _ _
 have B0 : Below w.heap.size w W := by rw [hW]; exact hb2.alloc (by omega) _
 have zW : W.heap.size = w.heap.size + 3 := by rw [hW]; simp
 go_enter Tryz.func43, Tryz.ntmps43
 go_upto_region 2 with fail
 rw [← hW];clear hW hb2 hz2
 go_upto_region 3 with (go_at_call 75; refine (inodeFields_any _).mono ?_; rintro e w1 ⟨rfl, hF, hb1⟩)
 rw [zW] at hF hb1;have R1 : RRun w s (w.heap.size + 3) (zTo s (base 0)) w1 := ⟨by rw [hb1.block _ (by omega)]; exact X0, by rw [hb1.block _ (by omega)]; exact Y0, by rw [hb1.block _ (by omega)]; exact Z0, hF, btr B0 hb1 (by omega), by omega⟩;have HR1 := hid R1;clear R1 X0 Y0 Z0 B0 hF hb1 zW
 go_loopw [12] (fun i wr => ∃ j : Nat, j ≤ 7 ∧ i = .int .i64 j ∧ Hid (RRun w s (w.heap.size + 3) (zTo s (base j)) wr)) (fun i _ => 7 - (intOf i).toNat)
 case atStart => exact ⟨0, by omega, rfl, HR1⟩
 case round =>
  obtain ⟨j, hj, rfl, HI0⟩ := hrel;obtain ⟨wo, hwo⟩ : ∃ x, x = wr := ⟨_, rfl⟩;subst hwo;clear HR1
  by_cases hlt : j < 7
  ·obtain ⟨f, hf⟩ : ∃ f, flds[j]? = some f := ⟨flds[j]'(by simpa [flds] using hlt), List.getElem?_eq_getElem (by simpa [flds] using hlt)⟩
   obtain ⟨q1, q2, q3, q4, q5, q6, q7⟩ := fld_facts hf;obtain ⟨r1, r2, r3, r4⟩ := fld_pls hf;have hr := HI0.out.t.range hf;have hen := enters_pf hf;have HR := hid hr;have HFL := hid hf;have HR1 := hid r1;have hso := slt HI0.out.x;clear hr q6 hf r1;unfold cellF at HR
   go_upto_region 5 with (first | (refine wpList_load_mid rfl 131 (.tmp 14) rfl (w.heap.size + 3) (j * 6) rfl _ _ HR.out Tryz.underlying131 rfl (by rw [szF]; rfl) ?_) | (refine store_R rfl 131 (.tmp 6) _ rfl wo.heap.size _ rfl rfl 131 _ (heap_alloc_new _ _) (by rw [szF]; rfl) rfl (by simp [Value.oneCell']) ?_; intro W hW))
   have IW := HI0.out.put hW;have hW4 : W.heap[wo.heap.size]? = some (.cells (cellF f).toArray 131 (0, 0)) := hW.here;have hc2 : W.cell? ⟨wo.heap.size, 2, none⟩ = some (.int .i64 f.ct) := cell_of_row W wo.heap.size 2 _ _ _ hW4;have HIW : Hid (RRun w s (w.heap.size + 3) (zTo s (base j + 0)) W) := IW;have HW4 := hid hW4;clear hW IW hW4 HI0 HR
   go_upto_region 6 with fail
   clear hc2
   go_loopw [18] (fun i wi => ∃ m : Nat, m ≤ f.ct ∧ i = .int .i64 m ∧ wi.heap[wo.heap.size]? = some (.cells (cellF f).toArray 131 (0, 0)) ∧ Hid (RRun w s (w.heap.size + 3) (zTo s (base j + m)) wi)) (fun i _ => f.ct - (intOf i).toNat)
   case atStart => exact ⟨0, by omega, rfl, HW4.out, HIW⟩
   case round =>
    obtain ⟨m, hm, rfl, hC, HI⟩ := hrel;clear HW4 HIW
    by_cases hlm : m < f.ct
    ·have hpl := HR1.out m hlm
     have hgv : gv s (base j + m) = getV s (f.pl + (m : Int) * f.wd) f.wd := by unfold gv; rw [hpl]
     have HGV := hid (fun w' => get1_any s (f.pl + (m : Int) * f.wd) f.wd w' hs);rw [← hgv] at HGV;have HPF := hid (fun w' => putF_any HFL.out (zTo s (base j + m)) (zTo_len _ _) (gv s (base j + m)) w' m hlm);rw [zTo_step] at HPF;have HZL := hid (zTo_len s (base j + m));have HNL := hid (zTo_len s (base j + m + 1));clear hpl hgv
     generalize hZN : zTo s (base j + m + 1) = ZN at *
     generalize zTo s (base j + m) = ZT at *
     generalize gv s (base j + m) = X at *
     go_upto_region 8 with fail
     refine wp_region_noPanic ?_;refine wp_region_held_drew (S := fun w' => w'.heap[wo.heap.size]? = some (.cells (cellF f).toArray 131 (0, 0)) ∧ w'.heap[w.heap.size]? = some (.cells (SA s) 33 (0, 0))) (by kernel_rfl) ⟨hC, HI.out.i⟩ (fun hH => ?_);have J0 := HI.out.call (w' := wr.drew) (below_drew (Below.refl _ _));have C0 : wr.drew.heap[wo.heap.size]? = some (.cells (cellF f).toArray 131 (0, 0)) := hC;refine tV 0 21 (.pointer (some ⟨wo.heap.size, 5, none⟩)) rfl (by kernel_rfl) rfl (by rfl) hH (fun x' hw' => by go_simp) ?_;simp only [sS];refine tV 1 22 (.func (Fn.func f.pf) #[] #[]) rfl (by kernel_rfl) rfl (by rfl) hH (fun x' hw' => by have hc : x'.cell? ⟨wo.heap.size, 5, none⟩ = some (.func (Fn.func f.pf) #[] #[]) := cell_of_row _ _ 5 _ _ _ hw'.1; go_simp) ?_;simp only [sS];refine tV 3 24 (.int .i64 (m : Int)) rfl (by kernel_rfl) rfl (by rfl) hH (fun x' hw' => rfl) ?_;simp only [sS];refine takeSec 4 25 (.tmp 1) w.heap.size s hl rfl (by kernel_rfl) (by kernel_rfl) (by kernel_rfl) rfl rfl rfl (by rfl) (fun _ _ _ h => h) hH (fun _ h => h.2) ?_;simp only [sS];refine takeR 5 26 131 (.tmp 6) wo.heap.size 131 (cellF f).toArray _ rfl (by kernel_rfl) (by kernel_rfl) (by kernel_rfl) rfl rfl rfl Tryz.underlying131 rfl (by rw [szF]; rfl) (by rfl) (fun _ _ _ h => h) hH (fun _ h => h.1) ?_;simp only [sS];refine tV 6 27 (.int .i64 (m : Int)) rfl (by kernel_rfl) rfl (by rfl) hH (fun x' hw' => rfl) ?_;simp only [sS];refine tV 8 29 (.pointer (some ⟨wo.heap.size, 1, none⟩)) rfl (by kernel_rfl) rfl (by rfl) hH (fun x' hw' => by go_simp) ?_;simp only [sS];refine tV 9 30 (.int .i64 f.wd) rfl (by kernel_rfl) rfl (by rfl) hH (fun x' hw' => by have hc : x'.cell? ⟨wo.heap.size, 1, none⟩ = some (.int .i64 f.wd) := cell_of_row _ _ 1 _ _ _ hw'.1; go_simp) ?_;simp only [sS];refine step2 2 7 (by kernel_rfl) ?_ ?_
     ·refine stVal 2 23 (.agg (NA ZT)) rfl rfl (by rfl) (by unfold execOp; exact run_loadR' J0.x HZL.out) ⟨C0, J0.i⟩ ?_
      simp only [sS];refine step1 7 (by kernel_rfl) ?_;refine stCall 7 28 76 #[.agg (cellF f).toArray, .int .i64 (m : Int)] _ rfl rfl (by rfl) (by go_simp) (place_any f m _ r2 r3 (r4 m hlm).1 (r4 m hlm).2) ?_
      rintro e u1 ⟨rfl, hu1⟩
      have J1 := J0.call hu1
      have C1 : u1.heap[wo.heap.size]? = some (.cells (cellF f).toArray 131 (0, 0)) := by rw [hu1.block _ (slt C0)]; exact C0
      have hH := And.intro C1 J1.i;refine ⟨_, rfl, hH, ?_⟩;simp only [sS];refine step1 10 (by kernel_rfl) ?_;refine stCall 10 31 71 #[.agg (SA s), .int .i64 (f.pl + (m : Int) * f.wd), .int .i64 f.wd] _ rfl rfl (by rfl) (by go_simp) (HGV.out _) ?_
      rintro e u2 ⟨rfl, hu2⟩
      have J2 := J1.call hu2
      have C2 : u2.heap[wo.heap.size]? = some (.cells (cellF f).toArray 131 (0, 0)) := by rw [hu2.block _ (slt C1)]; exact C1
      have hH := And.intro C2 J2.i;refine ⟨_, rfl, hH, ?_⟩;simp only [sS];refine step1 11 (by kernel_rfl) ?_;refine stCall 11 32 f.pf #[.agg (NA ZT), .int .i64 (m : Int), .int .i64 X] _ rfl rfl (by rfl) (by go_simp) (HPF.out _) ?_
      rintro e u3 ⟨rfl, hu3⟩
      have J3 := J2.call hu3
      have C3 : u3.heap[wo.heap.size]? = some (.cells (cellF f).toArray 131 (0, 0)) := by rw [hu3.block _ (slt C2)]; exact C2
      have hH := And.intro C3 J3.i;refine ⟨_, rfl, hH, ?_⟩;simp only [sS];refine step1 12 (by kernel_rfl) ?_;refine stStoreR 12 51 (.tmp 4) (.tmp 32) (w.heap.size + 2) (NA ZN) 51 (NA ZT) rfl rfl (by rfl) rfl rfl rfl J3.x (by rw [szI, NA_size, HNL.out]) (by rw [NA_size, NA_size, HZL.out, HNL.out]) (NA_one _) ?_
      intro wT hT
      have JT := J3.set hT
      have CT : wT.heap[wo.heap.size]? = some (.cells (cellF f).toArray 131 (0, 0)) := by rw [hT.other _ (by omega)]; exact C3
      refine ⟨⟨CT, JT.i⟩, ?_⟩;refine wpAnyH_done (by kernel_rfl) ?_ _;refine NoPanic.normal ?_;have HJT := hid JT;clear hH
      go_wp2
      exact ⟨⟨m + 1, by omega, by go_num, CT, by rw [← Nat.add_assoc, hZN]; exact HJT⟩, by simp [intOf]; omega⟩
     ·refine stCall 7 28 76 #[.agg (cellF f).toArray, .int .i64 (m : Int)] _ rfl rfl (by rfl) (by go_simp) (place_any f m _ r2 r3 (r4 m hlm).1 (r4 m hlm).2) ?_
      rintro e u5 ⟨rfl, hu5⟩
      have J5 := J0.call hu5
      have C5 : u5.heap[wo.heap.size]? = some (.cells (cellF f).toArray 131 (0, 0)) := by rw [hu5.block _ (slt C0)]; exact C0
      have hH := And.intro C5 J5.i;refine ⟨_, rfl, hH, ?_⟩;simp only [sS];refine step2 2 10 (by kernel_rfl) ?_ ?_
      ·refine stVal 2 23 (.agg (NA ZT)) rfl rfl (by rfl) (by unfold execOp; exact run_loadR' J5.x HZL.out) ⟨C5, J5.i⟩ ?_
       simp only [sS];refine step1 10 (by kernel_rfl) ?_;refine stCall 10 31 71 #[.agg (SA s), .int .i64 (f.pl + (m : Int) * f.wd), .int .i64 f.wd] _ rfl rfl (by rfl) (by go_simp) (HGV.out _) ?_
       rintro e u6 ⟨rfl, hu6⟩
       have J6 := J5.call hu6
       have C6 : u6.heap[wo.heap.size]? = some (.cells (cellF f).toArray 131 (0, 0)) := by rw [hu6.block _ (slt C5)]; exact C5
       have hH := And.intro C6 J6.i;refine ⟨_, rfl, hH, ?_⟩;simp only [sS];refine step1 11 (by kernel_rfl) ?_;refine stCall 11 32 f.pf #[.agg (NA ZT), .int .i64 (m : Int), .int .i64 X] _ rfl rfl (by rfl) (by go_simp) (HPF.out _) ?_
       rintro e u7 ⟨rfl, hu7⟩
       have J7 := J6.call hu7
       have C7 : u7.heap[wo.heap.size]? = some (.cells (cellF f).toArray 131 (0, 0)) := by rw [hu7.block _ (slt C6)]; exact C6
       have hH := And.intro C7 J7.i;refine ⟨_, rfl, hH, ?_⟩;simp only [sS];refine step1 12 (by kernel_rfl) ?_;refine stStoreR 12 51 (.tmp 4) (.tmp 32) (w.heap.size + 2) (NA ZN) 51 (NA ZT) rfl rfl (by rfl) rfl rfl rfl J7.x (by rw [szI, NA_size, HNL.out]) (by rw [NA_size, NA_size, HZL.out, HNL.out]) (NA_one _) ?_
       intro wT hT
       have JT := J7.set hT
       have CT : wT.heap[wo.heap.size]? = some (.cells (cellF f).toArray 131 (0, 0)) := by rw [hT.other _ (by omega)]; exact C7
       refine ⟨⟨CT, JT.i⟩, ?_⟩;refine wpAnyH_done (by kernel_rfl) ?_ _;refine NoPanic.normal ?_;have HJT := hid JT;clear hH
       go_wp2
       exact ⟨⟨m + 1, by omega, by go_num, CT, by rw [← Nat.add_assoc, hZN]; exact HJT⟩, by simp [intOf]; omega⟩
      ·refine stCall 10 31 71 #[.agg (SA s), .int .i64 (f.pl + (m : Int) * f.wd), .int .i64 f.wd] _ rfl rfl (by rfl) (by go_simp) (HGV.out _) ?_
       rintro e u9 ⟨rfl, hu9⟩
       have J9 := J5.call hu9
       have C9 : u9.heap[wo.heap.size]? = some (.cells (cellF f).toArray 131 (0, 0)) := by rw [hu9.block _ (slt C5)]; exact C5
       have hH := And.intro C9 J9.i;refine ⟨_, rfl, hH, ?_⟩;simp only [sS];refine step1 2 (by kernel_rfl) ?_;refine stVal 2 23 (.agg (NA ZT)) rfl rfl (by rfl) (by unfold execOp; exact run_loadR' J9.x HZL.out) ⟨C9, J9.i⟩ ?_;simp only [sS];refine step1 11 (by kernel_rfl) ?_;refine stCall 11 32 f.pf #[.agg (NA ZT), .int .i64 (m : Int), .int .i64 X] _ rfl rfl (by rfl) (by go_simp) (HPF.out _) ?_
       rintro e u10 ⟨rfl, hu10⟩
       have J10 := J9.call hu10
       have C10 : u10.heap[wo.heap.size]? = some (.cells (cellF f).toArray 131 (0, 0)) := by rw [hu10.block _ (slt C9)]; exact C9
       have hH := And.intro C10 J10.i;refine ⟨_, rfl, hH, ?_⟩;simp only [sS];refine step1 12 (by kernel_rfl) ?_;refine stStoreR 12 51 (.tmp 4) (.tmp 32) (w.heap.size + 2) (NA ZN) 51 (NA ZT) rfl rfl (by rfl) rfl rfl rfl J10.x (by rw [szI, NA_size, HNL.out]) (by rw [NA_size, NA_size, HZL.out, HNL.out]) (NA_one _) ?_
       intro wT hT
       have JT := J10.set hT
       have CT : wT.heap[wo.heap.size]? = some (.cells (cellF f).toArray 131 (0, 0)) := by rw [hT.other _ (by omega)]; exact C10
       refine ⟨⟨CT, JT.i⟩, ?_⟩;refine wpAnyH_done (by kernel_rfl) ?_ _;refine NoPanic.normal ?_;have HJT := hid JT;clear hH
       go_wp2
       exact ⟨⟨m + 1, by omega, by go_num, CT, by rw [← Nat.add_assoc, hZN]; exact HJT⟩, by simp [intOf]; omega⟩
    ·have e : m = f.ct := by omega
     subst e
     have HJ : Hid (RRun w s (w.heap.size + 3) (zTo s (base (j + 1))) wr) := by rw [q1]; exact HI
     clear hC
     go_wp2
     exact ⟨⟨j + 1, by omega, by go_num, HJ⟩, by simp [intOf]; omega⟩
  ·have e : j = 7 := by omega
   subst e;have HI : Hid (RRun w s (w.heap.size + 3) (zTo s 18) wo) := HI0;have hzl := zTo_len s 18
   have hsup := fun w' => inodeSector_any (zTo s 18) hzl w'
   have HSC := inoS_sec (zTo s 18)
   have hrd : rdIno (zTo s 18) s = if inoB (zTo s 18) = true ∧ inoS (zTo s 18) = s then (zTo s 18, 0) else (Zi, 61) := rfl
   have hE : inoE (zTo s 18) = if inoB (zTo s 18) = true then 0 else 61 := rfl
   have hbi := build_inode;have hgd := guard_sec
   generalize inoE (zTo s 18) = EE at *
   generalize inoB (zTo s 18) = BB at *
   generalize inoS (zTo s 18) = SX at *
   generalize hZZ : zTo s 18 = ZZ at *
   clear HI0;have H1 := hid HI.out.i;have H2 := hid HI.out.a;have HR := hid HI.out.x;have HC := hid HI.out.b;have HLS := hid HSC.1;clear HSC
   cases BB
   ·have hE' : EE = 61 := by rw [hE]; rfl
    subst hE'
    have HV : Hid (rdIno ZZ s = (Zi, 61)) := by show _ = _; rw [hrd]; simp
    clear hE hrd
    go_wp2_with (first | refine load_R rfl 51 (.tmp 4) rfl (w.heap.size + 2) rfl 51 _ _ HR.out Tryz.underlying51 rfl (by rw [szI, NA_size, hzl]) ?_ | (go_at_call 47; go_must (refine (hsup _).mono ?_; rintro e w2 ⟨rfl, hb2⟩)) | (refine store_sec rfl (.tmp 8) _ rfl w2.heap.size rfl SX rfl HLS.out Zs Zs_len (heap_alloc_new _ _) ?_; intro w3 hw3; obtain ⟨HA1, HA2, HAR, HAC⟩ := after_new (t := 51) hb2 hw3 H1.out H2.out HR.out HC.out) | refine load_sec_g (.tmp 8) rfl w2.heap.size rfl SX HLS.out hw3.here rfl ?_ | refine load_sec_g (.tmp 1) rfl w.heap.size rfl s hl HA1.out rfl ?_ | refine load_R rfl 51 (.tmp 4) rfl (w.heap.size + 2) rfl 51 _ _ HAR.out Tryz.underlying51 rfl (by rw [szI, NA_size, hzl]) ?_ | (refine store_R rfl 51 (.tmp 2) _ rfl (w.heap.size + 1) (NA ZZ) rfl rfl 51 _ HA2.out (by rw [szI, NA_size, hzl]) (by rw [NA_size, NA_size, hzl]; rfl) (NA_one _) ?_; intro w4 hw4) | (refine store_R rfl 51 (.tmp 2) _ rfl (w.heap.size + 1) (NA Zi) rfl rfl 51 _ HA2.out (by rw [szI, NA_size, Zi_len]) rfl (NA_one _) ?_; intro w4 hw4))
    rw [hZZ, HV.out]
    exact bodyPost_ret (v := .tuple #[.agg (NA Zi), .int .i64 61]) (results_R Tryz.results43 _ _ (w.heap.size + 1) _ 51 _ _ Tryz.underlying51 rfl (by rw [szI, NA_size, Zi_len]) rfl rfl hw4.here) rfl ⟨rfl, hw4.below HAC.out (by omega)⟩
   ·have hE' : EE = 0 := by rw [hE]; rfl
    subst hE'
    by_cases hq : SX = s
    ·have HV : Hid (rdIno ZZ s = (ZZ, 0)) := by show _ = _; rw [hrd]; simp [hq]
     have heq : ∀ w', (Op.equalIn 10000 33 (.agg (SA SX)) (.agg (SA s))).run Tryz.prog w' = .ok true w' := fun w' => by rw [eq_sec _ _ HLS.out hl, decide_eq_true hq]
     clear hq hE hrd
     go_wp2_with (first | refine load_R rfl 51 (.tmp 4) rfl (w.heap.size + 2) rfl 51 _ _ HR.out Tryz.underlying51 rfl (by rw [szI, NA_size, hzl]) ?_ | (go_at_call 47; go_must (refine (hsup _).mono ?_; rintro e w2 ⟨rfl, hb2⟩)) | (refine store_sec rfl (.tmp 8) _ rfl w2.heap.size rfl SX rfl HLS.out Zs Zs_len (heap_alloc_new _ _) ?_; intro w3 hw3; obtain ⟨HA1, HA2, HAR, HAC⟩ := after_new (t := 51) hb2 hw3 H1.out H2.out HR.out HC.out) | refine load_sec_g (.tmp 8) rfl w2.heap.size rfl SX HLS.out hw3.here rfl ?_ | refine load_sec_g (.tmp 1) rfl w.heap.size rfl s hl HA1.out rfl ?_ | refine load_R rfl 51 (.tmp 4) rfl (w.heap.size + 2) rfl 51 _ _ HAR.out Tryz.underlying51 rfl (by rw [szI, NA_size, hzl]) ?_ | (refine store_R rfl 51 (.tmp 2) _ rfl (w.heap.size + 1) (NA ZZ) rfl rfl 51 _ HA2.out (by rw [szI, NA_size, hzl]) (by rw [NA_size, NA_size, hzl]; rfl) (NA_one _) ?_; intro w4 hw4) | (refine store_R rfl 51 (.tmp 2) _ rfl (w.heap.size + 1) (NA Zi) rfl rfl 51 _ HA2.out (by rw [szI, NA_size, Zi_len]) rfl (NA_one _) ?_; intro w4 hw4))
     rw [hZZ, HV.out]
     exact bodyPost_ret (v := .tuple #[.agg (NA ZZ), .int .i64 0]) (results_R Tryz.results43 _ _ (w.heap.size + 1) _ 51 _ _ Tryz.underlying51 rfl (by rw [szI, NA_size, hzl]) rfl rfl hw4.here) rfl ⟨rfl, hw4.below HAC.out (by omega)⟩
    ·have HV : Hid (rdIno ZZ s = (Zi, 61)) := by show _ = _; rw [hrd]; simp [hq]
     have heq : ∀ w', (Op.equalIn 10000 33 (.agg (SA SX)) (.agg (SA s))).run Tryz.prog w' = .ok false w' := fun w' => by rw [eq_sec _ _ HLS.out hl, decide_eq_false hq]
     clear hq hE hrd
     go_wp2_with (first | refine load_R rfl 51 (.tmp 4) rfl (w.heap.size + 2) rfl 51 _ _ HR.out Tryz.underlying51 rfl (by rw [szI, NA_size, hzl]) ?_ | (go_at_call 47; go_must (refine (hsup _).mono ?_; rintro e w2 ⟨rfl, hb2⟩)) | (refine store_sec rfl (.tmp 8) _ rfl w2.heap.size rfl SX rfl HLS.out Zs Zs_len (heap_alloc_new _ _) ?_; intro w3 hw3; obtain ⟨HA1, HA2, HAR, HAC⟩ := after_new (t := 51) hb2 hw3 H1.out H2.out HR.out HC.out) | refine load_sec_g (.tmp 8) rfl w2.heap.size rfl SX HLS.out hw3.here rfl ?_ | refine load_sec_g (.tmp 1) rfl w.heap.size rfl s hl HA1.out rfl ?_ | refine load_R rfl 51 (.tmp 4) rfl (w.heap.size + 2) rfl 51 _ _ HAR.out Tryz.underlying51 rfl (by rw [szI, NA_size, hzl]) ?_ | (refine store_R rfl 51 (.tmp 2) _ rfl (w.heap.size + 1) (NA ZZ) rfl rfl 51 _ HA2.out (by rw [szI, NA_size, hzl]) (by rw [NA_size, NA_size, hzl]; rfl) (NA_one _) ?_; intro w4 hw4) | (refine store_R rfl 51 (.tmp 2) _ rfl (w.heap.size + 1) (NA Zi) rfl rfl 51 _ HA2.out (by rw [szI, NA_size, Zi_len]) rfl (NA_one _) ?_; intro w4 hw4))
     rw [hZZ, HV.out]
     exact bodyPost_ret (v := .tuple #[.agg (NA Zi), .int .i64 61]) (results_R Tryz.results43 _ _ (w.heap.size + 1) _ 51 _ _ Tryz.underlying51 rfl (by rw [szI, NA_size, Zi_len]) rfl rfl hw4.here) rfl ⟨rfl, hw4.below HAC.out (by omega)⟩

end Go.Proofs.YtpmignilhoihnaaGreat
