/-
 The document's takes, walked.
-/
import Derived.Test.YtpmignilhoihnaaGreatOC1
namespace Go.Proofs.YtpmignilhoihnaaGreat
open Go.RowKit Go.Shelf

theorem single_off {N M n : Int} {S : TS} {f p : Int} (h : (decide (f < n) && claimB N M S.cl p) = false) : singleF N M n S f p = (false, S) := tableF_off h
theorem single_on {N M n : Int} {S : TS} {f p : Int} (h : (decide (f < n) && claimB N M S.cl p) = true) : singleF N M n S f p = goF (innerF 1 f (blockF N M n)) p ⟨S.wt, putC S.cl p, S.sp⟩ := tableF_on h
theorem double_off {N M n : Int} {S : TS} {f p : Int} (h : (decide (f < n) && claimB N M S.cl p) = false) : doubleF N M n S f p = (false, S) := tableF_off h
theorem double_on {N M n : Int} {S : TS} {f p : Int} (h : (decide (f < n) && claimB N M S.cl p) = true) : doubleF N M n S f p = goF (innerF 32 f (singleF N M n)) p ⟨S.wt, putC S.cl p, S.sp⟩ := tableF_on h
theorem cl_zero {N : Int} {M : Nat} {cl : Int → Bool} : claimB N M cl 0 = false := by
 cases e : claimB N M cl 0 with
 | false => rfl
 | true => obtain ⟨_, h2, _⟩ := claimB_of.1 e; omega
theorem cl_nat {N M : Nat} {cl : Int → Bool} {y : Int} (h : claimB N M cl y = true) : ∃ m : Nat, y = (m : Int) ∧ m < N ∧ y ≠ 0 := by
 obtain ⟨h1, h2, h3⟩ := claimB_of.1 h
 exact ⟨y.toNat, by omega, by omega, by omega⟩
theorem GI.other {w0 W W' : World} {c : KC} {s : KT} {gx gt : Nat} {zz : List Int} {x : TS} (h : GI w0 W c s gx zz x) (h0 : IsK w0 c s) (hg : w0.heap.size ≤ gt) (hne : gt ≠ gx) (hc : Chg W W' (· = gt)) : GI w0 W' c s gx zz x :=
 ⟨h.k.away h0 rfl hg hc, hc.keep h.x (fun e => hne e.symm), h.ch.trans hc (fun _ _ e => e) (fun k hk e => by omega), h.l⟩
theorem GI.apart {w0 W : World} {c : KC} {s : KT} {gx gt : Nat} {zz : List Int} {x : TS} {A : Array Value} (h : GI w0 W c s gx zz x) (hg : W.heap[gt]? = some (.cells A 103 (0, 0))) : ¬ (gt = c.g ∨ gt = c.cb) ∧ gt ≠ gx := by
 obtain ⟨A1, e1⟩ := h.k.wt.isRow;obtain ⟨A2, e2, _⟩ := h.k.cl
 exact ⟨fun e => e.elim (obj_ne hg e1 (by intro e; cases e)) (obj_ne hg e2 (by intro e; cases e)), obj_ne hg h.x (by intro e; cases e)⟩
theorem ks_step (each f : Int) (F : KeepF) (t : List Int) (S : TS) (k : Nat) : goK (innerF each f F) t S (k + 1) = ((goK (innerF each f F) t S k).1.set k (leftF (F (goK (innerF each f F) t S k).2 (f + each * (k : Int)) (t.getD k 0)).1 (t.getD k 0)), (F (goK (innerF each f F) t S k).2 (f + each * (k : Int)) (t.getD k 0)).2) := rfl
theorem goF_nat (keep : KeepF) (at_ : Nat) (S : TS) : goF keep (at_ : Int) S = if (goK keep (ptrsTo (secI S.wt (at_ : Int)) 32) S 32).1 = Zp then (false, ⟨(goK keep (ptrsTo (secI S.wt (at_ : Int)) 32) S 32).2.wt, delC (goK keep (ptrsTo (secI S.wt (at_ : Int)) 32) S 32).2.cl (at_ : Int), (goK keep (ptrsTo (secI S.wt (at_ : Int)) 32) S 32).2.sp⟩) else (true, ⟨(goK keep (ptrsTo (secI S.wt (at_ : Int)) 32) S 32).2.wt.set at_ (ptrS (goK keep (ptrsTo (secI S.wt (at_ : Int)) 32) S 32).1), (goK keep (ptrsTo (secI S.wt (at_ : Int)) 32) S 32).2.cl, (goK keep (ptrsTo (secI S.wt (at_ : Int)) 32) S 32).2.sp⟩) := rfl
def takeKT (c : KC) (s : KT) (i : Nat) (z : List Int) (v' : Value) : KT :=
 { wt := if z.getD 0 0 = 2 then (dblT c.N c.M z s.wt s.cl).2.wt else wipeW (z.getD 2 0) (dblT c.N c.M z s.wt s.cl).2.sp (dblT c.N c.M z s.wt s.cl).2.wt, cl := (dblT c.N c.M z s.wt s.cl).2.cl, tk := fun x => if x = (i : Int) then true else s.tk x, ino := putF18 s.ino i ((inoT c.N c.M z s.wt s.cl).set 1 (z.getD 1 0)), en := s.en, v := v', row := if z.getD 0 0 = 2 then s.row ++ [(i : Int)] else s.row }
def KBl (c : KC) (v : Value) (k : Nat) : Prop := k = c.p ∨ k = c.g ∨ k = c.cb ∨ k = c.tb ∨ k = c.ib ∨ v.ownBlock = some k
def LastQ (N M : Nat) (z : List Int) (wt : Img) (cl : Int → Bool) : Prop :=
 ∃ q e, findQ ⟨(dblT N M z wt cl).2.wt, -1, 0⟩ ((inoT N M z wt cl).set 1 (z.getD 1 0)) (cntZ z - 1) = (q, e) ∧ ((q = 0 ∧ lastB (z.getD 2 0) (dblT N M z wt cl).2.sp = none) ∨ ∃ m : Nat, q = (m : Int) ∧ m ≠ 0 ∧ m < N ∧ ∃ j, lastB (z.getD 2 0) (dblT N M z wt cl).2.sp = some (j, (m : Int)))
theorem set_secI {im : Img} {m : Nat} (h : m < im.length) : im.set m (secI im (m : Int)) = im := by
 refine List.ext_getElem? fun j => ?_
 rw [List.getElem?_set]
 split
 ·rename_i e
  subst e
  exact (getD_at h).symm
 ·rfl
theorem GI.dirOff {w0 W : World} {c : KC} {s : KT} {gx : Nat} {z r : List Int} {x : TS} (h : GI w0 W c s gx (zD z r) x) (h0 : IsK w0 c s) (hg : w0.heap.size ≤ gx) (hz : z.length = 18) (hr : r.length = 12) {k : Nat} (hk : k < 12) : GI w0 (W.setCell ⟨gx, 4 + k, none⟩ (.int .i64 0)) c s gx (zD z (r.set k 0)) x := by
 rw [← zD_set hz hr hk]
 exact h.set h0 hg (4 + k) 0

set_option maxHeartbeats 4000000 in
set_option maxRecDepth 100000 in
theorem takes_any {c : KC} {s : KT} (i : Nat) (z : List Int) (w : World) (h : IsK w c s) (hz : z.length = 18) (i1 : 1 ≤ i) (i2 : i ≤ c.M) (h0 : 0 ≤ z.getD 2 0) (h1 : z.getD 2 0 ≤ 136704) (hr : s.row.length ≤ 5000) (hB : c.B ≤ w.heap.size) (hq : z.getD 0 0 ≠ 2 → z.getD 2 0 % 128 ≠ 0 → LastQ c.N c.M z s.wt s.cl) :
  Calls Tryz.prog 29 #[.pointer (some ⟨c.p, 0, none⟩), .int .i64 (i : Int), .agg (NA z)] w fun e w' => e = .returned (.tuple #[]) ∧ (∃ v', IsK w' c (takeKT c s i z v')) ∧ Chg w w' (KBl c s.v) := by
 have HQ := hid hq;have HB0 := hid hB;obtain ⟨KTf, hKTf⟩ : ∃ f, f = takeKT c s i z := ⟨_, rfl⟩;have HKTf := hid hKTf;rw [← hKTf];clear hq hKTf hB;have hA := Chg.alloc w (.cells (NA z) 51) No;have hN := heap_alloc_new w (.cells (NA z) 51);obtain ⟨w1, hw1⟩ : ∃ y, y = w.alloc (.cells (NA z) 51) := ⟨_, rfl⟩;obtain ⟨gx, hgx⟩ : ∃ y, y = w.heap.size := ⟨_, rfl⟩;have hK1 := h.call hA;rw [← hw1] at hA hN hK1;rw [← hgx] at hN;have HH := hid h;have HZ := hid hz;have HGx : Hid (w.heap.size ≤ gx) := hid (by omega);have HCt := hid (fun (W : World) => rcount_any z hz h0 (by omega) W);have HN1 := hid hN;obtain ⟨n, hn⟩ : ∃ y, y = cntZ z := ⟨_, rfl⟩;have HN := hid hn;rw [← hn] at HCt;have HNb : Hid (0 ≤ n ∧ n ≤ 1068) := hid (by rw [hn]; unfold cntZ; omega);obtain ⟨t0, ht0⟩ : ∃ y, y = (z.drop 4).take 12 := ⟨_, rfl⟩;have HT0 := hid ht0;have HTl : Hid (t0.length = 12) := hid (by rw [ht0, List.length_take, List.length_drop]; omega);obtain ⟨KF, hKF⟩ : ∃ y, y = innerF 1 0 (blockF c.N c.M n) := ⟨_, rfl⟩;have HKF := hid hKF;obtain ⟨S0, hS0⟩ : ∃ y : TS, y = ⟨s.wt, s.cl, []⟩ := ⟨_, rfl⟩;have HS0 := hid hS0
 have HDT : Hid (dirT c.N c.M z s.wt s.cl = goK KF t0 S0 12) := hid (by
  rw [hKF, inner_id, hS0, ht0, hn]
  rfl)
 have HI1 : Hid (GI w w1 c s gx z S0) := hid ⟨by rw [hS0]; exact hK1, hN, hA.mono fun _ _ e => e.elim, hz⟩;clear h hA hN hK1 hn ht0 hKF hS0
 go_enter Tryz.func29, Tryz.ntmps29
 go_upto_region 1 with fail
 rw [← hw1, ← hgx];clear hw1 hgx
 go_upto_region 2 with (first
  | (refine load_R rfl 51 _ rfl gx rfl 51 _ _ HN1.out Tryz.underlying51 rfl (by rw [szI, NA_size, HZ.out]) ?_)
  | (go_at_call 52; go_must (refine (HCt.out _).mono ?_; rintro e w2 ⟨rfl, hc2⟩))
  | fail)
 have G0 : Hid (GI w w2 c s gx (zD z (goK KF t0 S0 0).1) (goK KF t0 S0 0).2) := hid (by
  have hs : zD z (goK KF t0 S0 0).1 = z := by
   show zD z t0 = z
   rw [HT0.out]
   exact zD_self HZ.out
  rw [hs];have hI := HI1.out
  exact ⟨hI.k.call hc2, hc2.keep hI.x (fun e => e), hI.ch.trans hc2 (fun _ _ e => e) (fun _ _ e => e.elim), hI.l⟩)
 clear hc2 HN1 HI1
 go_wp2_with fail
 go_loopw [7] (fun x7 wr => ∃ k : Nat, k ≤ 12 ∧ x7 = .int .i64 k ∧ Hid (GI w wr c s gx (zD z (goK KF t0 S0 k).1) (goK KF t0 S0 k).2)) (fun x7 _ => 12 - (intOf x7).toNat)
 case atStart => exact ⟨0, by omega, rfl, G0⟩
 case round =>
  as_aux_lemma =>
  obtain ⟨k, hk, rfl, HV⟩ := hrel;clear G0
  by_cases hlt : k < 12
  ·have j0 : (0 : Int) ≤ (k : Int) := by omega
   have j1 : (k : Int) < 12 := by omega
   have hRl : (goK KF t0 S0 k).1.length = 12 := by rw [goK_len, HTl.out]
   have hgk := goK_get KF t0 S0 k k (by rw [HTl.out]; omega);rw [if_neg (by omega)] at hgk;have q := row_cell HV.out.x (4 + k) (by rw [HV.out.l]; omega);rw [zD_mid HZ.out hRl hlt, hgk] at q;obtain ⟨y, hy⟩ : ∃ y, y = t0.getD k 0 := ⟨_, rfl⟩;rw [← hy] at q
   have HDr : Hid ((decide ((k : Int) < n) && claimB c.N c.M (goK KF t0 S0 k).2.cl y) = false → goK KF t0 S0 (k + 1) = ((goK KF t0 S0 k).1.set k 0, (goK KF t0 S0 k).2)) := hid (fun e => by
    rw [hy] at e;rw [HKF.out] at e ⊢
    exact kb_drop (by rw [Int.one_mul, Int.zero_add]; exact e))
   have HKp : Hid ((decide ((k : Int) < n) && claimB c.N c.M (goK KF t0 S0 k).2.cl y) = true → goK KF t0 S0 (k + 1) = ((goK KF t0 S0 k).1, ⟨(goK KF t0 S0 k).2.wt, putC (goK KF t0 S0 k).2.cl y, (goK KF t0 S0 k).2.sp ++ [(0 + 1 * (k : Int), y)]⟩)) := hid (fun e => by
    rw [hy] at e ⊢;rw [HKF.out] at e ⊢
    exact kb_keep (by rw [HTl.out]; omega) (by rw [Int.one_mul, Int.zero_add]; exact e))
   have HZr : Hid (y = 0 → goK KF t0 S0 (k + 1) = goK KF t0 S0 k) := hid (fun e => by
    rw [HKF.out]
    exact kb_zero (Int.natCast_nonneg _) (by rw [HTl.out]; omega) (by rw [← hy]; exact e))
   have HRl := hid hRl;obtain ⟨r, hr⟩ : ∃ y, y = goK KF t0 S0 k := ⟨_, rfl⟩;rw [← hr] at HV HDr HKp HZr HRl;obtain ⟨r', hr'⟩ : ∃ y, y = goK KF t0 S0 (k + 1) := ⟨_, rfl⟩;have HR' := hid hr';rw [← hr'] at HDr HKp HZr;have HFz := hid (HV.out.cell (j := 4 + k) (by omega)).2;clear hgk hy hr hr' hRl
   by_cases hy0 : y = 0
   ·have HVn : Hid (GI w wr c s gx (zD z (goK KF t0 S0 (k + 1)).1) (goK KF t0 S0 (k + 1)).2) := hid (by rw [← HR'.out, HZr.out hy0]; exact HV.out)
    subst hy0;clear HDr HKp HZr
    go_wp2_with fail
    exact ⟨⟨k + 1, by omega, by go_num, HVn⟩, by simp [intOf]; omega⟩
   ·have hyb : (y == 0) = false := beq_eq_false_iff_ne.2 hy0
    have hyc : decide (y = 0) = false := decide_eq_false hy0
    have hyd : (y != 0) = true := by simpa using hy0
    have HOff : Hid (∀ W, GI w W c s gx (zD z r.1) r.2 → r' = (r.1.set k 0, r.2) → GI w (W.setCell ⟨gx, 4 + k, none⟩ (.int .i64 0)) c s gx (zD z (goK KF t0 S0 (k + 1)).1) (goK KF t0 S0 (k + 1)).2) := hid (fun W hG e1 => by
     rw [← HR'.out, e1]
     exact hG.dirOff HH.out HGx.out HZ.out HRl.out hlt)
    by_cases hfk : (k : Int) < n
    ·have g1 : ¬ ((k : Int) ≥ n) := by omega
     have g2 : decide ((k : Int) ≥ n) = false := decide_eq_false g1;have hGd := good_run y wr HV.out.k
     cases hcl : claimB c.N c.M r.2.cl y with
     | true =>
      rw [hcl, if_pos rfl] at hGd;have HE : Hid (goK KF t0 S0 (k + 1) = (r.1, ⟨r.2.wt, putC r.2.cl y, r.2.sp ++ [(0 + 1 * (k : Int), y)]⟩)) := hid (by rw [← HR'.out]; exact HKp.out (by rw [hcl, decide_eq_true hfk]; rfl))
      have HVn : Hid (∀ W, IsK W c (goneS s ⟨r.2.wt, putC r.2.cl y, r.2.sp⟩) → Chg wr W (fun k => k = c.g ∨ k = c.cb) → GI w W c s gx (zD z (goK KF t0 S0 (k + 1)).1) (goK KF t0 S0 (k + 1)).2) := hid (fun W h1 h2 => by
       rw [HE.out]
       exact HV.out.step HH.out HGx.out h1 h2)
      clear HDr HKp HZr hcl hy0
      go_wp2_with (first
       | (go_at_call 53; go_must (refine hGd.mono ?_; rintro e w3 ⟨rfl, hk3, hc3⟩))
       | fail)
      exact ⟨⟨k + 1, by omega, by go_num, hid (HVn.out w3 hk3 hc3)⟩, by simp [intOf]; omega⟩
     | false =>
      rw [hcl, if_neg Bool.false_ne_true] at hGd;have HN1 := hid (HDr.out (by rw [hcl, Bool.and_false]));have HVn : Hid (∀ W, IsK W c (goneS s ⟨r.2.wt, r.2.cl, r.2.sp⟩) → Chg wr W (fun k => k = c.g ∨ k = c.cb) → GI w W c s gx (zD z r.1) r.2) := hid (fun W h1 h2 => HV.out.step HH.out HGx.out h1 h2);clear HDr HKp HZr hcl hy0
      go_wp2_with (first
       | (go_at_call 53; go_must (refine hGd.mono ?_; rintro e w3 ⟨rfl, hk3, hc3⟩; have hv3 := HVn.out w3 hk3 hc3; have q3 := (hv3.cell (j := 4 + k) (by omega)).1; have q4 := (hv3.cell (j := 4 + k) (by omega)).2))
       | fail)
      exact ⟨⟨k + 1, by omega, by go_num, hid (HOff.out w3 hv3 HN1.out)⟩, by simp [intOf]; omega⟩
    ·have g1 : (k : Int) ≥ n := by omega
     have g2 : decide ((k : Int) ≥ n) = true := decide_eq_true g1;have HN1 := hid (HDr.out (by rw [decide_eq_false hfk, Bool.false_and]));have HZ1 := hid (HOff.out wr HV.out HN1.out);have q4 := HFz.out;clear HDr HKp HZr hy0
     go_wp2_with fail
     exact ⟨⟨k + 1, by omega, by go_num, HZ1⟩, by simp [intOf]; omega⟩
  ·have j1 : ¬ (k : Int) < 12 := by omega
   obtain rfl : k = 12 := by omega
   obtain ⟨r1, hr1⟩ : ∃ y, y = goK KF t0 S0 12 := ⟨_, rfl⟩;have HRl : Hid (r1.1.length = 12) := hid (by rw [hr1, goK_len, HTl.out]);rw [← hr1] at HV HDT;clear hr1 HTl HT0 HKF HS0;have HX := hid HV.out;obtain ⟨p, hp⟩ : ∃ y, y = z.getD 16 0 := ⟨_, rfl⟩;have HP := hid hp;have q16 := row_cell HV.out.x 16 (by rw [HV.out.l]; omega);rw [zD_hi HZ.out HRl.out (by omega), ← hp] at q16;obtain ⟨sn, hsn⟩ : ∃ y, y = sinT c.N c.M z s.wt s.cl := ⟨_, rfl⟩;have HSn : Hid (sn = singleF c.N c.M n r1.2 12 p) := hid (by rw [hsn, HN.out, hp]; unfold sinT; rw [HDT.out]);have HSnE := hid hsn;obtain ⟨z1, hz1⟩ : ∃ y, y = zD z r1.1 := ⟨_, rfl⟩;have HZ1 := hid hz1;rw [← hz1] at HV;have HZ1p : Hid (z1.getD 16 0 = p) := hid (by rw [hz1, zD_hi HZ.out HRl.out (by omega), hp]);clear hp hsn hz1 HX
   go_upto_region 7 with fail
   go_cut [63] (fun x63 wz => ∃ b : Bool, x63 = .bool b ∧ Hid (GI w wz c s gx z1 sn.2) ∧ Hid ((b = true → sn.1 = false) ∧ (b = false → sn.1 = true ∨ p = 0)))
   case first =>
    as_aux_lemma =>
    by_cases hy0 : p = 0
    ·have HE : Hid (sn = (false, r1.2)) := hid (by rw [HSn.out, hy0]; exact single_off (by rw [cl_zero, Bool.and_false]))
     subst hy0
     go_wp2_with fail
     go_meet
     case rel => exact ⟨false, rfl, hid (by rw [HE.out]; exact HV.out), hid ⟨fun e => (by cases e), fun _ => .inr (by first | rfl | trivial)⟩⟩
    ·have hyb : (p == 0) = false := beq_eq_false_iff_ne.2 hy0
     have hyc : decide (p = 0) = false := decide_eq_false hy0
     have hyd : (p != 0) = true := by simpa using hy0
     by_cases hn12 : n ≤ 12
     ·have HE : Hid (sn = (false, r1.2)) := hid (by rw [HSn.out]; exact single_off (by rw [decide_eq_false (by omega), Bool.false_and]))
      have g2 : decide (n ≤ 12) = true := decide_eq_true hn12;clear hy0
      go_wp2_with fail
      go_meet
      case rel => exact ⟨true, rfl, hid (by rw [HE.out]; exact HV.out), hid ⟨fun _ => by rw [HE.out], fun e => by cases e⟩⟩
     ·have g2 : decide (n ≤ 12) = false := decide_eq_false hn12
      have hGd := good_run p wr HV.out.k
      cases hcl : claimB c.N c.M r1.2.cl p with
      | false =>
       rw [hcl, if_neg Bool.false_ne_true] at hGd;have HE : Hid (sn = (false, r1.2)) := hid (by rw [HSn.out]; exact single_off (by rw [hcl, Bool.and_false]));have HVn : Hid (∀ W, IsK W c (goneS s ⟨r1.2.wt, r1.2.cl, r1.2.sp⟩) → Chg wr W (fun k => k = c.g ∨ k = c.cb) → GI w W c s gx z1 r1.2) := hid (fun W h1 h2 => HV.out.step HH.out HGx.out h1 h2);clear hcl hy0
       go_wp2_with (first
        | (go_at_call 53; go_must (refine hGd.mono ?_; rintro e w3 ⟨rfl, hk3, hc3⟩))
        | fail)
       go_meet
       case rel => exact ⟨true, rfl, hid (by rw [HE.out]; exact HVn.out _ hk3 hc3), hid ⟨fun _ => by rw [HE.out], fun e => by cases e⟩⟩
      | true =>
       rw [hcl, if_pos rfl] at hGd;have HE : Hid (sn = goF (innerF 1 12 (blockF c.N c.M n)) p ⟨r1.2.wt, putC r1.2.cl p, r1.2.sp⟩) := hid (by rw [HSn.out]; exact single_on (by rw [hcl, decide_eq_true (by omega)]; rfl));obtain ⟨m, hm, hmN, _⟩ := cl_nat hcl;have HVn : Hid (∀ W, IsK W c (goneS s ⟨r1.2.wt, putC r1.2.cl p, r1.2.sp⟩) → Chg wr W (fun k => k = c.g ∨ k = c.cb) → GI w W c s gx z1 ⟨r1.2.wt, putC r1.2.cl p, r1.2.sp⟩) := hid (fun W h1 h2 => HV.out.step HH.out HGx.out h1 h2);subst hm
       have HGn : Hid (∀ W, GI w W c s gx z1 ⟨r1.2.wt, putC r1.2.cl (m : Int), r1.2.sp⟩ → Calls Tryz.prog 54 #[.pointer (some ⟨c.p, 0, none⟩), .int .i64 (m : Int), .int .i64 12, .int .i64 n] W fun e w' => e = .returned (.bool sn.1) ∧ GI w w' c s gx z1 sn.2) := hid (fun W hG => by
        refine (gone_run m 12 n W hG.k hmN (by omega)).mono ?_
        rintro e w' ⟨rfl, h2, h3⟩
        rw [← HE.out] at h2 ⊢
        exact ⟨rfl, hG.step HH.out HGx.out h2 h3⟩)
       obtain ⟨sb, hsb⟩ : ∃ y, y = sn.1 := ⟨_, rfl⟩;have HSb := hid hsb;rw [← hsb] at HGn;clear hcl hy0 hmN hsb
       cases sb with
       | true =>
        go_wp2_with (first
         | (go_at_call 53; go_must (refine hGd.mono ?_; rintro e w3 ⟨rfl, hk3, hc3⟩; have hG3 := HVn.out _ hk3 hc3; have q3 := row_cell hG3.x 16 (by rw [hG3.l]; omega); rw [HZ1p.out] at q3; have hGn := HGn.out w3 hG3))
         | (go_at_call 54; go_must (refine hGn.mono ?_; rintro e w4 ⟨rfl, hG4⟩))
         | fail)
        go_meet
        case rel => exact ⟨false, rfl, hid hG4, hid ⟨fun e => (by cases e), fun _ => .inl HSb.out.symm⟩⟩
       | false =>
        go_wp2_with (first
         | (go_at_call 53; go_must (refine hGd.mono ?_; rintro e w3 ⟨rfl, hk3, hc3⟩; have hG3 := HVn.out _ hk3 hc3; have q3 := row_cell hG3.x 16 (by rw [hG3.l]; omega); rw [HZ1p.out] at q3; have hGn := HGn.out w3 hG3))
         | (go_at_call 54; go_must (refine hGn.mono ?_; rintro e w4 ⟨rfl, hG4⟩))
         | fail)
        go_meet
        case rel => exact ⟨true, rfl, hid hG4, hid ⟨fun _ => HSb.out.symm, fun e => (by cases e)⟩⟩
   case rest =>
    as_aux_lemma =>
    obtain ⟨b, rfl, HV2, HB⟩ := hcut;obtain ⟨w3, hw3⟩ : ∃ x : World, x = wc := ⟨_, rfl⟩;rw [← hw3] at HV2 ⊢;clear hw3 wc HV q16;obtain ⟨z2, hz2⟩ : ∃ y, y = z1.set 16 (leftF sn.1 p) := ⟨_, rfl⟩;have HZ2 := hid hz2;have HSet0 : Hid (b = true → z2 = z1.set 16 0) := hid (fun e => by rw [hz2, HB.out.1 e]; rfl)
    have HSet1 : Hid (b = false → z2 = z1) := hid (fun e => by
     rw [hz2];refine set_same ?_;rw [HZ1p.out]
     rcases HB.out.2 e with h | h
     ·rw [h]; rfl
     ·rw [h]; unfold leftF; split <;> rfl)
    obtain ⟨p7, hp7⟩ : ∃ y, y = z.getD 17 0 := ⟨_, rfl⟩;have HP7 := hid hp7;have HZ2p : Hid (z2.getD 17 0 = p7) := hid (by rw [hz2, getD_set_ne (by omega), HZ1.out, zD_hi HZ.out HRl.out (by omega), hp7]);obtain ⟨c16, f16⟩ := HV2.out.cell (j := 16) (by omega);clear hz2 hp7 HB
    go_upto_if 63 with fail
    go_cut [63] (fun _ wz => Hid (GI w wz c s gx z2 sn.2))
    case first =>
     as_aux_lemma =>
     cases b with
     | true =>
      have HS0 := hid (HSet0.out rfl)
      go_wp2_with fail
      go_meet
      case rel => exact hid (by rw [HS0.out]; exact HV2.out.set HH.out HGx.out 16 0)
     | false =>
      have HS0 := hid (HSet1.out rfl)
      go_wp2_with fail
      go_meet
      case rel => exact hid (by rw [HS0.out]; exact HV2.out)
    case rest =>
     as_aux_lemma =>
     have HV3 := hcut;obtain ⟨w4, hw4⟩ : ∃ x : World, x = wc := ⟨_, rfl⟩;rw [← hw4] at HV3 ⊢;clear hw4 wc hcut HV2 HSet0 HSet1 c16 f16 HZ1p HSn;obtain ⟨bD, hbD⟩ : ∃ y, y = (decide (44 < n) && claimB c.N c.M sn.2.cl p7) := ⟨_, rfl⟩;have HBD := hid hbD
     obtain ⟨X3, hX3⟩ : ∃ y : TS, y = if bD = true then ⟨sn.2.wt, putC sn.2.cl p7, sn.2.sp⟩ else sn.2 := ⟨_, rfl⟩
     have HXf : Hid (bD = false → X3 = sn.2) := hid (fun e => by rw [hX3, e, if_neg Bool.false_ne_true]);have HXt : Hid (bD = true → X3 = ⟨sn.2.wt, putC sn.2.cl p7, sn.2.sp⟩) := hid (fun e => by rw [hX3, e, if_pos rfl]);obtain ⟨db, hdb⟩ : ∃ y, y = dblT c.N c.M z s.wt s.cl := ⟨_, rfl⟩;have HDb0 := hid hdb;have HDb : Hid (db = doubleF c.N c.M n sn.2 44 p7) := hid (by rw [hdb, HN.out, HP7.out]; unfold dblT; rw [← HSnE.out]);have q17 := row_cell HV3.out.x 17 (by rw [HV3.out.l]; omega);rw [HZ2p.out] at q17;clear hbD hX3 hdb
     go_upto_region 9 with fail
     go_cut [78] (fun x78 wz => ∃ b : Bool, x78 = .bool b ∧ Hid (GI w wz c s gx z2 X3) ∧ Hid ((b = true → bD = false) ∧ (b = false → bD = true ∨ p7 = 0)))
     case first =>
      as_aux_lemma =>
      by_cases hy0 : p7 = 0
      ·have HE : Hid (bD = false) := hid (by rw [HBD.out, hy0, cl_zero, Bool.and_false])
       subst hy0
       go_wp2_with fail
       go_meet
       case rel => exact ⟨false, rfl, hid (by rw [HXf.out HE.out]; exact HV3.out), hid ⟨fun e => (by cases e), fun _ => .inr (by first | rfl | trivial)⟩⟩
      ·have hyb : (p7 == 0) = false := beq_eq_false_iff_ne.2 hy0
       have hyc : decide (p7 = 0) = false := decide_eq_false hy0
       have hyd : (p7 != 0) = true := by simpa using hy0
       by_cases hn44 : n ≤ 44
       ·have HE : Hid (bD = false) := hid (by rw [HBD.out, decide_eq_false (by omega), Bool.false_and])
        have g2 : decide (n ≤ 44) = true := decide_eq_true hn44;clear hy0
        go_wp2_with fail
        go_meet
        case rel => exact ⟨true, rfl, hid (by rw [HXf.out HE.out]; exact HV3.out), hid ⟨fun _ => HE.out, fun e => (by cases e)⟩⟩
       ·have g2 : decide (n ≤ 44) = false := decide_eq_false hn44
        have hGd := good_run p7 w4 HV3.out.k
        cases hcl : claimB c.N c.M sn.2.cl p7 with
        | false =>
         rw [hcl, if_neg Bool.false_ne_true] at hGd;have HE : Hid (bD = false) := hid (by rw [HBD.out, hcl, Bool.and_false]);have HVn : Hid (∀ W, IsK W c (goneS s ⟨sn.2.wt, sn.2.cl, sn.2.sp⟩) → Chg w4 W (fun k => k = c.g ∨ k = c.cb) → GI w W c s gx z2 sn.2) := hid (fun W h1 h2 => HV3.out.step HH.out HGx.out h1 h2);clear hcl hy0
         go_wp2_with (first
          | (go_at_call 53; go_must (refine hGd.mono ?_; rintro e w3 ⟨rfl, hk3, hc3⟩))
          | fail)
         go_meet
         case rel => exact ⟨true, rfl, hid (by rw [HXf.out HE.out]; exact HVn.out _ hk3 hc3), hid ⟨fun _ => HE.out, fun e => (by cases e)⟩⟩
        | true =>
         rw [hcl, if_pos rfl] at hGd;have HE : Hid (bD = true) := hid (by rw [HBD.out, hcl, decide_eq_true (by omega)]; rfl);have HVn : Hid (∀ W, IsK W c (goneS s ⟨sn.2.wt, putC sn.2.cl p7, sn.2.sp⟩) → Chg w4 W (fun k => k = c.g ∨ k = c.cb) → GI w W c s gx z2 X3) := hid (fun W h1 h2 => by rw [HXt.out HE.out]; exact HV3.out.step HH.out HGx.out h1 h2);clear hcl hy0
         go_wp2_with (first
          | (go_at_call 53; go_must (refine hGd.mono ?_; rintro e w3 ⟨rfl, hk3, hc3⟩))
          | fail)
         go_meet
         case rel => exact ⟨false, rfl, hid (HVn.out _ hk3 hc3), hid ⟨fun e => (by cases e), fun _ => .inl HE.out⟩⟩
     case rest =>
      as_aux_lemma =>
      obtain ⟨b2, rfl, HV4, HB⟩ := hcut;obtain ⟨w5, hw5⟩ : ∃ x : World, x = wc := ⟨_, rfl⟩;rw [← hw5] at HV4 ⊢;clear hw5 wc HV3 q17;obtain ⟨v7, hv7⟩ : ∃ y, y = leftF bD p7 := ⟨_, rfl⟩;obtain ⟨z3, hz3⟩ : ∃ y, y = z2.set 17 v7 := ⟨_, rfl⟩;have HZ3 := hid hz3;have HSet0 : Hid (b2 = true → z3 = z2.set 17 0) := hid (fun e => by rw [hz3, hv7, HB.out.1 e]; rfl)
      have HSet1 : Hid (b2 = false → z3 = z2) := hid (fun e => by
       rw [hz3];refine set_same ?_;rw [HZ2p.out, hv7]
       rcases HB.out.2 e with h | h
       ·rw [h]; rfl
       ·rw [h]; unfold leftF; split <;> rfl)
      have HV7 := hid hv7;have HZ3p : Hid (z3.getD 17 0 = v7) := hid (by rw [hz3, getD_set_eq (by rw [HV4.out.l]; omega)]);obtain ⟨c17, f17⟩ := HV4.out.cell (j := 17) (by omega);clear hv7 hz3 HB
      go_upto_if 78 with fail
      go_cut [78] (fun _ wz => Hid (GI w wz c s gx z3 X3))
      case first =>
       as_aux_lemma =>
       cases b2 with
       | true =>
        have HS0 := hid (HSet0.out rfl)
        go_wp2_with fail
        go_meet
        case rel => exact hid (by rw [HS0.out]; exact HV4.out.set HH.out HGx.out 17 0)
       | false =>
        have HS0 := hid (HSet1.out rfl)
        go_wp2_with fail
        go_meet
        case rel => exact hid (by rw [HS0.out]; exact HV4.out)
      case rest =>
       as_aux_lemma =>
       have HV5 := hcut;obtain ⟨w6, hw6⟩ : ∃ x : World, x = wc := ⟨_, rfl⟩;rw [← hw6] at HV5 ⊢;clear hw6 wc hcut HV4 HSet0 HSet1 c17 f17;have q17 := row_cell HV5.out.x 17 (by rw [HV5.out.l]; omega);rw [HZ3p.out] at q17;obtain ⟨z4, hz4⟩ : ∃ y, y = z2.set 17 (leftF db.1 p7) := ⟨_, rfl⟩;have HZ4 := hid hz4;clear hz4
       go_upto_if 82 with fail
       go_cut [82] (fun _ wz => Hid (GI w wz c s gx z4 db.2))
       case first =>
        as_aux_lemma =>
        cases bD with
        | false =>
         obtain rfl : v7 = 0 := HV7.out;have HXe := hid (HXf.out rfl);have HE : Hid (db = (false, sn.2)) := hid (by rw [HDb.out]; exact double_off HBD.out.symm)
         go_wp2_with fail
         go_meet
         case rel => exact hid (by rw [HE.out, HZ4.out, HE.out, ← HXe.out]; rw [HZ3.out] at HV5; exact HV5.out)
        | true =>
         have e7 : p7 = v7 := by rw [HV7.out]; rfl
         subst e7;have HBD2 := HBD.out.symm
         have hn44 : 44 < n := by
          have := HBD2
          simp at this
          exact this.1
         have hcl : claimB c.N c.M sn.2.cl p7 = true := by
          rw [decide_eq_true hn44, Bool.true_and] at HBD2
          exact HBD2
         obtain ⟨m, hm, hmN, hm0⟩ := cl_nat hcl;have HDb2 : Hid (db = goF (innerF 32 44 (singleF c.N c.M n)) p7 X3) := hid (by rw [HDb.out, HXt.out rfl]; exact double_on HBD.out.symm);clear HBD HBD2 HXf HXt hcl HDb;subst hm;have hmb : ((m : Int) == 0) = false := beq_eq_false_iff_ne.2 hm0;have hmc : decide ((m : Int) = 0) = false := decide_eq_false hm0
         have hmd : ((m : Int) != 0) = true := by simpa using hm0
         obtain ⟨KD, hKD⟩ : ∃ y, y = innerF 32 44 (singleF c.N c.M n) := ⟨_, rfl⟩;have HKD := hid hKD;rw [← hKD] at HDb2;have hwX : (goneS s X3).wt = X3.wt := rfl;obtain ⟨sk, hsk⟩ : ∃ y, y = secI X3.wt (m : Int) := ⟨_, rfl⟩;have HSk : Hid (IsSec sk) := hid (by rw [hsk]; exact HV5.out.k.wt.sec _);have HC3 : Hid (∀ W', Chg w6 W' No → W'.cell? ⟨c.p, 3, none⟩ = some (.slice (some ⟨c.g, 0, none⟩) c.N c.wc)) := hid (fun W' hW => (HV5.out.k.call hW).cW)
         have HC7 : Hid (∀ W', Chg w6 W' No → W'.cell? ⟨gx, 17, none⟩ = some (.int .i64 (m : Int))) := hid (fun W' hW => by
          have := row_cell (hW.keep HV5.out.x (fun e => e)) 17 (by rw [HV5.out.l]; omega);rw [HZ3p.out] at this
          exact this)
         have HRg : Hid (∀ W', Chg w6 W' No → W'.rangeAt c.g (m * 128) (sk.map (Value.int .u8))) := hid (fun W' hW => by
          rw [hsk]
          exact (HV5.out.k.call hW).wt.range (by rw [HV5.out.k.wl]; exact hmN))
         obtain ⟨t, ht⟩ : ∃ y, y = ptrsTo sk 32 := ⟨_, rfl⟩;have HTl : Hid (t.length = 32) := hid (by rw [ht]; exact ptrsTo_len _ _)
         have HGF : Hid (db = if (goK KD t X3 32).1 = Zp then (false, ⟨(goK KD t X3 32).2.wt, delC (goK KD t X3 32).2.cl (m : Int), (goK KD t X3 32).2.sp⟩) else (true, ⟨(goK KD t X3 32).2.wt.set m (ptrS (goK KD t X3 32).1), (goK KD t X3 32).2.cl, (goK KD t X3 32).2.sp⟩)) := hid (by
          rw [HDb2.out, ht, hsk]
          exact goF_nat KD m X3)
         have HRP : Hid (∀ W', Calls Tryz.prog 55 #[.agg (SA sk)] W' fun e w' => e = .returned (.agg (NA t)) ∧ Chg W' w' No) := hid (fun W' => by
          refine (rreadPointers_any sk HSk.out W').mono ?_
          rintro e w' ⟨rfl, hb⟩
          exact ⟨by rw [ht], Chg.of_below hb No⟩)
         have hzp := zero_ptrs
         have k0 : (0 : Int) ≤ (m : Int) := by omega
         have k1 : (m : Int) < (c.N : Int) := by omega
         clear hsk ht hKD hwX HDb2
         go_upto_region 12 with fail
         go_cut [8] (fun x wc => ∃ gt : Nat, x = .pointer (some ⟨gt, 0, none⟩) ∧ Hid (w6.heap.size ≤ gt ∧ wc.heap[gt]? = some (.cells (NA t) 103 (0, 0)) ∧ Chg w6 wc No))
         case first =>
          as_aux_lemma =>
          refine wp_region_noPanic ?_;refine wp_region_held_drew (S := fun w' => Chg w6 w' No) (by kernel_rfl) (Chg.refl _ _).drew (fun hH => ?_);refine tV 0 83 (.pointer (some ⟨c.p, 0, none⟩)) rfl (by kernel_rfl) rfl (by rfl) hH (fun W' hw' => rfl) ?_;simp only [sS];refine tV 1 84 (.pointer (some ⟨c.p, 0, none⟩)) rfl (by kernel_rfl) rfl (by rfl) hH (fun W' hw' => by go_simp) ?_;simp only [sS];refine tV 2 85 (.pointer (some ⟨c.p, 3, none⟩)) rfl (by kernel_rfl) rfl (by rfl) hH (fun W' hw' => by go_simp) ?_;simp only [sS];refine tV 3 86 (.slice (some ⟨c.g, 0, none⟩) c.N c.wc) rfl (by kernel_rfl) rfl (by rfl) hH (fun W' hw' => by have hc := HC3.out _ hw'; go_simp) ?_;simp only [sS];refine tV 4 87 (.pointer (some ⟨gx, 17, none⟩)) rfl (by kernel_rfl) rfl (by rfl) hH (fun W' hw' => by go_simp) ?_;simp only [sS];refine tV 5 88 (.int .i64 (m : Int)) rfl (by kernel_rfl) rfl (by rfl) hH (fun W' hw' => by have hc := HC7.out _ hw'; go_simp) ?_;simp only [sS];refine tV 6 89 (.pointer (some ⟨c.g, m * 128, none⟩)) rfl (by kernel_rfl) rfl (by rfl) hH (fun W' hw' => by go_simp) ?_;simp only [sS];refine takeMid 7 90 (.tmp 89) c.g (m * 128) sk HSk.out.1 rfl (by kernel_rfl) (by kernel_rfl) (by kernel_rfl) rfl rfl rfl (by rfl) (fun _ _ _ h => h) hH (fun _ hw' => HRg.out _ hw') ?_;simp only [sS];refine step2 8 9 (by kernel_rfl) ?_ ?_
          ·refine stCall 8 91 55 #[.agg (SA sk)] _ rfl rfl (by rfl) (by go_simp) (HRP.out _) ?_
           rintro e w7 ⟨rfl, hb7⟩
           have hH6 : Chg w6 w7 No := hH.trans hb7 (fun _ _ e => e) (fun _ _ e => e);refine ⟨_, rfl, hH6, ?_⟩;simp only [sS];refine step1 9 (by kernel_rfl) ?_;refine stNew 9 8 (.pointer (some ⟨w7.heap.size, 0, none⟩)) (.cells (NA Zp) 103) rfl rfl (by rfl) (by go_simp) ?_;have hA6 : Chg w6 (w7.alloc (.cells (NA Zp) 103)) No := hH6.trans (Chg.alloc w7 _ No) (fun _ _ e => e) (fun _ _ e => e);refine ⟨hA6, ?_⟩;simp only [sS];refine step1 10 (by kernel_rfl) ?_;refine stStoreR 10 103 (.tmp 8) (.tmp 91) w7.heap.size (NA t) 103 (NA Zp) rfl rfl (by rfl) rfl rfl rfl (heap_alloc_new _ _) (by rw [szP, NA_size, HTl.out]) (by rw [NA_size, NA_size, HTl.out]; rfl) (NA_one _) ?_
           intro w8 hw8
           have h8 : Chg w6 w8 No := hA6.trans (putR_chg hw8) (fun _ _ e => e) (fun j hj e => by have := hH6.size; omega);refine ⟨h8, ?_⟩;refine wpAnyH_done (by kernel_rfl) ?_ _;refine NoPanic.normal ?_;have hP := hid (And.intro hH6.size (And.intro hw8.here h8));clear hH hH6 hA6 hw8 h8 hb7
           go_wp2_with fail
           go_meet
           case rel => exact ⟨_, rfl, hP⟩
          ·obtain ⟨wd, hwd⟩ : ∃ y, y = w6.drew := ⟨_, rfl⟩
           rw [← hwd] at hH ⊢;clear hwd;refine stNew 9 8 (.pointer (some ⟨wd.heap.size, 0, none⟩)) (.cells (NA Zp) 103) rfl rfl (by rfl) (by go_simp) ?_;have hA6 : Chg w6 (wd.alloc (.cells (NA Zp) 103)) No := hH.trans (Chg.alloc wd _ No) (fun _ _ e => e) (fun _ _ e => e);refine ⟨hA6, ?_⟩;simp only [sS];refine step1 8 (by kernel_rfl) ?_;refine stCall 8 91 55 #[.agg (SA sk)] _ rfl rfl (by rfl) (by go_simp) (HRP.out _) ?_
           rintro e w7 ⟨rfl, hb7⟩
           have hH6 : Chg w6 w7 No := hA6.trans hb7 (fun _ _ e => e) (fun _ _ e => e);refine ⟨_, rfl, hH6, ?_⟩;simp only [sS];refine step1 10 (by kernel_rfl) ?_;refine stStoreR 10 103 (.tmp 8) (.tmp 91) wd.heap.size (NA t) 103 (NA Zp) rfl rfl (by rfl) rfl rfl rfl (hb7.keep (heap_alloc_new _ _) (fun e => e)) (by rw [szP, NA_size, HTl.out]) (by rw [NA_size, NA_size, HTl.out]; rfl) (NA_one _) ?_
           intro w8 hw8
           have h8 : Chg w6 w8 No := hH6.trans (putR_chg hw8) (fun _ _ e => e) (fun j hj e => by have := hH.size; omega);refine ⟨h8, ?_⟩;refine wpAnyH_done (by kernel_rfl) ?_ _;refine NoPanic.normal ?_;have hP := hid (And.intro hH.size (And.intro hw8.here h8));clear hH hH6 hA6 hw8 h8 hb7
           go_wp2_with fail
           go_meet
           case rel => exact ⟨_, rfl, hP⟩
         case rest =>
          as_aux_lemma =>
          obtain ⟨gt, rfl, HG⟩ := hcut;obtain ⟨w7, hw7⟩ : ∃ x : World, x = wc := ⟨_, rfl⟩;rw [← hw7] at HG ⊢;have HGt : Hid (w.heap.size ≤ gt) := hid (by have := HV5.out.ch.size; have := HG.out.1; omega);have G0 : Hid (GI w w7 c s gx z3 (goK KD t X3 0).2 ∧ w7.heap[gt]? = some (.cells (NA (goK KD t X3 0).1) 103 (0, 0))) := hid ⟨⟨HV5.out.k.call HG.out.2.2, HG.out.2.2.keep HV5.out.x (fun e => e), HV5.out.ch.trans HG.out.2.2 (fun _ _ e => e) (fun _ _ e => e.elim), HV5.out.l⟩, HG.out.2.1⟩;clear hw7 wc HG HV5 HC3 HC7 HRg HRP hzp q17
          go_wp2_with fail
          go_loopw [9, 10] (fun x9 x10 wr => ∃ k : Nat, k ≤ 32 ∧ x10 = .int .i64 k ∧ x9 = .bool (lfB (goK KD t X3 k).1 k) ∧ Hid (GI w wr c s gx z3 (goK KD t X3 k).2 ∧ wr.heap[gt]? = some (.cells (NA (goK KD t X3 k).1) 103 (0, 0)))) (fun _ x10 _ => 32 - (intOf x10).toNat)
          case atStart => exact ⟨0, by omega, rfl, rfl, G0⟩
          case round =>
           as_aux_lemma =>
           obtain ⟨k, hk, rfl, rfl, HJ⟩ := hrel;clear G0
           by_cases hlt : k < 32
           ·have j0 : (0 : Int) ≤ (k : Int) := by omega
            have j1 : (k : Int) < 32 := by omega
            have hRl : (goK KD t X3 k).1.length = 32 := by rw [goK_len, HTl.out]
            have HRl2 := hid hRl;have hgk := goK_get KD t X3 k k (by rw [HTl.out]; omega);rw [if_neg (by omega)] at hgk;have q := row_cell HJ.out.2 k (by rw [hRl]; omega);rw [hgk] at q;obtain ⟨y, hy⟩ : ∃ y, y = t.getD k 0 := ⟨_, rfl⟩;rw [← hy] at q hgk;have HGy := hid hgk;obtain ⟨v, hv⟩ : ∃ y, y = singleF c.N c.M n (goK KD t X3 k).2 (44 + 32 * (k : Int)) (t.getD k 0) := ⟨_, rfl⟩
            have HSt : Hid (goK KD t X3 (k + 1) = ((goK KD t X3 k).1.set k (leftF v.1 y), v.2)) := hid (by
             rw [hv, hy, HKD.out]
             exact ks_step 32 44 _ t X3 k)
            rw [← hy] at hv;have HVv := hid hv;obtain ⟨lf, hlf⟩ : ∃ y, y = lfB (goK KD t X3 k).1 k := ⟨_, rfl⟩
            have HL1 : Hid (lfB (goK KD t X3 (k + 1)).1 (k + 1) = (lf || decide (leftF v.1 y ≠ 0))) := hid (by
             rw [HSt.out, lfB_succ, lfB_ext (u := (goK KD t X3 k).1) (fun j hj => by rw [getD_set_ne (by omega)]), getD_set_eq (by rw [hRl]; exact hlt), hlf])
            rw [← hlf];obtain ⟨r, hr⟩ : ∃ y, y = goK KD t X3 k := ⟨_, rfl⟩;rw [← hr] at HJ HSt HVv HGy HRl2;have HFz := hid (frozen_of_row wr gt k _ 103 HJ.out.2)
            -- zero is laid
            have HOff : Hid (∀ W, GI w W c s gx z3 v.2 → W.heap[gt]? = some (.cells (NA r.1) 103 (0, 0)) → v.1 = false → GI w (W.setCell ⟨gt, k, none⟩ (.int .i64 0)) c s gx z3 (goK KD t X3 (k + 1)).2 ∧ (W.setCell ⟨gt, k, none⟩ (.int .i64 0)).heap[gt]? = some (.cells (NA (goK KD t X3 (k + 1)).1) 103 (0, 0)) ∧ (W.setCell ⟨gt, k, none⟩ (.int .i64 0)).cell? ⟨gt, k, none⟩ = some (.int .i64 0)) := hid (fun W hG hT e1 => by
             rw [HSt.out, e1];have hrow : (W.setCell ⟨gt, k, none⟩ (.int .i64 0)).heap[gt]? = some (.cells (NA (r.1.set k 0)) 103 (0, 0)) := row_set hT;refine ⟨hG.other HH.out HGt.out (hG.apart hT).2 Chg.setCell, hrow, ?_⟩;have := row_cell hrow k (by rw [List.length_set, HRl2.out]; exact hlt);rw [getD_set_eq (by rw [HRl2.out]; exact hlt)] at this
             exact this)
            have HOn : Hid (∀ W, GI w W c s gx z3 v.2 → W.heap[gt]? = some (.cells (NA r.1) 103 (0, 0)) → leftF v.1 y = y → GI w W c s gx z3 (goK KD t X3 (k + 1)).2 ∧ W.heap[gt]? = some (.cells (NA (goK KD t X3 (k + 1)).1) 103 (0, 0))) := hid (fun W hG hT e1 => by
             rw [HSt.out, e1, set_same HGy.out]
             exact ⟨hG, hT⟩)
            clear hgk hv hlf hr hRl hy
            by_cases hy0 : y = 0
            ·have HE : Hid (v = (false, r.2)) := hid (by rw [HVv.out, hy0]; exact single_off (by rw [cl_zero, Bool.and_false]))
             have HNx : Hid (GI w wr c s gx z3 (goK KD t X3 (k + 1)).2 ∧ wr.heap[gt]? = some (.cells (NA (goK KD t X3 (k + 1)).1) 103 (0, 0))) := hid (HOn.out wr (by rw [HE.out]; exact HJ.out.1) HJ.out.2 (by rw [HE.out, hy0]; rfl));have HLn : Hid (lfB (goK KD t X3 (k + 1)).1 (k + 1) = lf) := hid (by rw [HL1.out, HE.out]; show (lf || decide ((0 : Int) ≠ 0)) = lf; simp);subst hy0;clear HOff HOn HL1
             cases lf with
             | true =>
              go_wp2_with fail
              exact ⟨⟨k + 1, by omega, by go_num, by rw [HLn.out], HNx⟩, by simp [intOf]; omega⟩
             | false =>
              go_wp2_with fail
              exact ⟨⟨k + 1, by omega, by go_num, by rw [HLn.out], HNx⟩, by simp [intOf]; omega⟩
            ·have hyb : (y == 0) = false := beq_eq_false_iff_ne.2 hy0
             have hyc : decide (y = 0) = false := decide_eq_false hy0
             have hyd : (y != 0) = true := by simpa using hy0
             by_cases hfk : n ≤ 44 + 32 * (k : Int)
             ·have HE : Hid (v = (false, r.2)) := hid (by rw [HVv.out]; exact single_off (by rw [decide_eq_false (by omega), Bool.false_and]))
              have g1 : 44 + 32 * (k : Int) ≥ n := hfk;have g2 : decide (44 + 32 * (k : Int) ≥ n) = true := decide_eq_true g1;have HZ1 := hid (HOff.out wr (by rw [HE.out]; exact HJ.out.1) HJ.out.2 (by rw [HE.out]));have HLn : Hid (lfB (goK KD t X3 (k + 1)).1 (k + 1) = lf) := hid (by rw [HL1.out, HE.out]; show (lf || decide ((0 : Int) ≠ 0)) = lf; simp);have q3 := HZ1.out.2.2;have q4 := HFz.out;clear HOff HOn HL1 hy0
              cases lf with
              | true =>
               go_wp2_with fail
               exact ⟨⟨k + 1, by omega, by go_num, by rw [HLn.out], hid ⟨HZ1.out.1, HZ1.out.2.1⟩⟩, by simp [intOf]; omega⟩
              | false =>
               go_wp2_with fail
               exact ⟨⟨k + 1, by omega, by go_num, by rw [HLn.out], hid ⟨HZ1.out.1, HZ1.out.2.1⟩⟩, by simp [intOf]; omega⟩
             ·have g1 : ¬ (44 + 32 * (k : Int) ≥ n) := by omega
              have g2 : decide (44 + 32 * (k : Int) ≥ n) = false := decide_eq_false g1;have hGd := good_run y wr HJ.out.1.k
              cases hcl : claimB c.N c.M r.2.cl y with
              | false =>
               rw [hcl, if_neg Bool.false_ne_true] at hGd;have HE : Hid (v = (false, r.2)) := hid (by rw [HVv.out]; exact single_off (by rw [hcl, Bool.and_false]))
               have HVn : Hid (∀ W, IsK W c (goneS s ⟨r.2.wt, r.2.cl, r.2.sp⟩) → Chg wr W (fun k => k = c.g ∨ k = c.cb) → W.heap[gt]? = some (.cells (NA r.1) 103 (0, 0)) ∧ (GI w (W.setCell ⟨gt, k, none⟩ (.int .i64 0)) c s gx z3 (goK KD t X3 (k + 1)).2 ∧ (W.setCell ⟨gt, k, none⟩ (.int .i64 0)).heap[gt]? = some (.cells (NA (goK KD t X3 (k + 1)).1) 103 (0, 0)) ∧ (W.setCell ⟨gt, k, none⟩ (.int .i64 0)).cell? ⟨gt, k, none⟩ = some (.int .i64 0))) := hid (fun W h1 h2 => by
                have hT := h2.keep HJ.out.2 (HJ.out.1.apart HJ.out.2).1
                exact ⟨hT, HOff.out W (by rw [HE.out]; exact HJ.out.1.step HH.out HGx.out h1 h2) hT (by rw [HE.out])⟩)
               have HLn : Hid (lfB (goK KD t X3 (k + 1)).1 (k + 1) = lf) := hid (by rw [HL1.out, HE.out]; show (lf || decide ((0 : Int) ≠ 0)) = lf; simp);clear HOff HOn HL1 hcl hy0
               cases lf with
               | true =>
                go_wp2_with (first
                 | (go_at_call 53; go_must (refine hGd.mono ?_; rintro e w8 ⟨rfl, hk8, hc8⟩; obtain ⟨hT8, z81, z82, z83⟩ := HVn.out w8 hk8 hc8; have f8 := frozen_of_row w8 gt k _ 103 hT8; have q8 := row_cell hT8 k (by rw [HRl2.out]; exact hlt)))
                 | fail)
                exact ⟨⟨k + 1, by omega, by go_num, by rw [HLn.out], hid ⟨z81, z82⟩⟩, by simp [intOf]; omega⟩
               | false =>
                go_wp2_with (first
                 | (go_at_call 53; go_must (refine hGd.mono ?_; rintro e w8 ⟨rfl, hk8, hc8⟩; obtain ⟨hT8, z81, z82, z83⟩ := HVn.out w8 hk8 hc8; have f8 := frozen_of_row w8 gt k _ 103 hT8; have q8 := row_cell hT8 k (by rw [HRl2.out]; exact hlt)))
                 | fail)
                exact ⟨⟨k + 1, by omega, by go_num, by rw [HLn.out], hid ⟨z81, z82⟩⟩, by simp [intOf]; omega⟩
              | true =>
               rw [hcl, if_pos rfl] at hGd;obtain ⟨m2, hm2, hm2N, _⟩ := cl_nat hcl;have HE : Hid (v = goF (innerF 1 (44 + 32 * (k : Int)) (blockF c.N c.M n)) y ⟨r.2.wt, putC r.2.cl y, r.2.sp⟩) := hid (by rw [HVv.out]; exact single_on (by rw [hcl, decide_eq_true (by omega)]; rfl));subst hm2
               have HVn : Hid (∀ W, IsK W c (goneS s ⟨r.2.wt, putC r.2.cl (m2 : Int), r.2.sp⟩) → Chg wr W (fun k => k = c.g ∨ k = c.cb) → (W.heap[gt]? = some (.cells (NA r.1) 103 (0, 0)) ∧ W.cell? ⟨gt, k, none⟩ = some (.int .i64 (m2 : Int))) ∧ Calls Tryz.prog 54 #[.pointer (some ⟨c.p, 0, none⟩), .int .i64 (m2 : Int), .int .i64 (44 + 32 * (k : Int)), .int .i64 n] W fun e w' => e = .returned (.bool v.1) ∧ GI w w' c s gx z3 v.2 ∧ w'.heap[gt]? = some (.cells (NA r.1) 103 (0, 0))) := hid (fun W h1 h2 => by
                have hT := h2.keep HJ.out.2 (HJ.out.1.apart HJ.out.2).1;have hG := HJ.out.1.step HH.out HGx.out h1 h2;have hc := row_cell hT k (by rw [HRl2.out]; exact hlt);rw [HGy.out] at hc;refine ⟨⟨hT, hc⟩, (gone_run m2 (44 + 32 * (k : Int)) n W hG.k hm2N (by omega)).mono ?_⟩
                rintro e w' ⟨rfl, h3, h4⟩
                rw [← HE.out] at h3 ⊢
                exact ⟨rfl, hG.step HH.out HGx.out h3 h4, h4.keep hT (hG.apart hT).1⟩)
               obtain ⟨vb, hvb⟩ : ∃ y, y = v.1 := ⟨_, rfl⟩;have HVb := hid hvb;rw [← hvb] at HVn;clear hcl hm2N hvb
               cases vb with
               | true =>
                have HLn : Hid (lfB (goK KD t X3 (k + 1)).1 (k + 1) = true) := hid (by rw [HL1.out, ← HVb.out]; show (lf || decide ((m2 : Int) ≠ 0)) = true; rw [decide_eq_true hy0, Bool.or_true])
                have HNx : Hid (∀ W, GI w W c s gx z3 v.2 → W.heap[gt]? = some (.cells (NA r.1) 103 (0, 0)) → (GI w W c s gx z3 (goK KD t X3 (k + 1)).2 ∧ W.heap[gt]? = some (.cells (NA (goK KD t X3 (k + 1)).1) 103 (0, 0))) ∧ W.cell? ⟨gt, k, none⟩ = some (.int .i64 (m2 : Int))) := hid (fun W h1 h2 => by
                 have hc := row_cell h2 k (by rw [HRl2.out]; exact hlt);rw [HGy.out] at hc
                 exact ⟨HOn.out W h1 h2 (by rw [← HVb.out]; rfl), hc⟩)
                clear HOff HOn HL1 hy0
                cases lf with
                | true =>
                 go_wp2_with (first
                  | (go_at_call 53; go_must (refine hGd.mono ?_; rintro e w8 ⟨rfl, hk8, hc8⟩; obtain ⟨⟨hT8, q8⟩, hGn⟩ := HVn.out w8 hk8 hc8; clear hT8 hk8 hc8))
                  | (go_at_call 54; go_must (refine hGn.mono ?_; rintro e w9 ⟨rfl, hG9, hT9⟩; obtain ⟨hN9, q9⟩ := HNx.out w9 hG9 hT9))
                  | fail)
                 exact ⟨⟨k + 1, by omega, by go_num, by rw [HLn.out], hid hN9⟩, by simp [intOf]; omega⟩
                | false =>
                 go_wp2_with (first
                  | (go_at_call 53; go_must (refine hGd.mono ?_; rintro e w8 ⟨rfl, hk8, hc8⟩; obtain ⟨⟨hT8, q8⟩, hGn⟩ := HVn.out w8 hk8 hc8; clear hT8 hk8 hc8))
                  | (go_at_call 54; go_must (refine hGn.mono ?_; rintro e w9 ⟨rfl, hG9, hT9⟩; obtain ⟨hN9, q9⟩ := HNx.out w9 hG9 hT9))
                  | fail)
                 exact ⟨⟨k + 1, by omega, by go_num, by rw [HLn.out], hid hN9⟩, by simp [intOf]; omega⟩
               | false =>
                have HLn : Hid (lfB (goK KD t X3 (k + 1)).1 (k + 1) = lf) := hid (by rw [HL1.out, ← HVb.out]; show (lf || decide ((0 : Int) ≠ 0)) = lf; simp)
                have HNx : Hid (∀ W, GI w W c s gx z3 v.2 → W.heap[gt]? = some (.cells (NA r.1) 103 (0, 0)) → (W.cell? ⟨gt, k, none⟩ = some (.int .i64 (m2 : Int)) ∧ W.frozen? ⟨gt, k, none⟩ = false) ∧ (GI w (W.setCell ⟨gt, k, none⟩ (.int .i64 0)) c s gx z3 (goK KD t X3 (k + 1)).2 ∧ (W.setCell ⟨gt, k, none⟩ (.int .i64 0)).heap[gt]? = some (.cells (NA (goK KD t X3 (k + 1)).1) 103 (0, 0)) ∧ (W.setCell ⟨gt, k, none⟩ (.int .i64 0)).cell? ⟨gt, k, none⟩ = some (.int .i64 0))) := hid (fun W h1 h2 => by
                 have hc := row_cell h2 k (by rw [HRl2.out]; exact hlt);rw [HGy.out] at hc
                 exact ⟨⟨hc, frozen_of_row W gt k _ 103 h2⟩, HOff.out W h1 h2 HVb.out.symm⟩)
                clear HOff HOn HL1 hy0
                cases lf with
                | true =>
                 go_wp2_with (first
                  | (go_at_call 53; go_must (refine hGd.mono ?_; rintro e w8 ⟨rfl, hk8, hc8⟩; obtain ⟨⟨hT8, q8⟩, hGn⟩ := HVn.out w8 hk8 hc8; clear hT8 hk8 hc8))
                  | (go_at_call 54; go_must (refine hGn.mono ?_; rintro e w9 ⟨rfl, hG9, hT9⟩; obtain ⟨⟨q9, f9⟩, z91, z92, z93⟩ := HNx.out w9 hG9 hT9))
                  | fail)
                 exact ⟨⟨k + 1, by omega, by go_num, by rw [HLn.out], hid ⟨z91, z92⟩⟩, by simp [intOf]; omega⟩
                | false =>
                 go_wp2_with (first
                  | (go_at_call 53; go_must (refine hGd.mono ?_; rintro e w8 ⟨rfl, hk8, hc8⟩; obtain ⟨⟨hT8, q8⟩, hGn⟩ := HVn.out w8 hk8 hc8; clear hT8 hk8 hc8))
                  | (go_at_call 54; go_must (refine hGn.mono ?_; rintro e w9 ⟨rfl, hG9, hT9⟩; obtain ⟨⟨q9, f9⟩, z91, z92, z93⟩ := HNx.out w9 hG9 hT9))
                  | fail)
                 exact ⟨⟨k + 1, by omega, by go_num, by rw [HLn.out], hid ⟨z91, z92⟩⟩, by simp [intOf]; omega⟩
           ·have j1 : ¬ (k : Int) < 32 := by omega
            obtain rfl : k = 32 := by omega
            have HL := hid (lfB_end (t := (goK KD t X3 32).1) (by rw [goK_len, HTl.out]));have HRl2 : Hid ((goK KD t X3 32).1.length = 32) := hid (by rw [goK_len, HTl.out]);obtain ⟨r, hr⟩ : ∃ y, y = goK KD t X3 32 := ⟨_, rfl⟩;rw [← hr] at HJ HGF HL HRl2 ⊢;obtain ⟨lf, hlf⟩ : ∃ y, y = lfB r.1 32 := ⟨_, rfl⟩;have hLv := leaves_any m r.1 lf wr HJ.out.1.k hmN HRl2.out
            have HR1 : Hid (db.1 = lf) := hid (by
             rw [HGF.out, hlf, HL.out]
             by_cases e : r.1 = Zp
             ·rw [if_pos e, decide_eq_true e]; rfl
             ·rw [if_neg e, decide_eq_false e]; rfl)
            have HR2 : Hid (leavesS (goneS s r.2) m r.1 lf = goneS s db.2) := hid (by
             unfold leavesS goneS;rw [HGF.out, hlf, HL.out]
             by_cases e : r.1 = Zp
             ·rw [if_pos e, decide_eq_true e, if_neg (by decide)]
             ·rw [if_neg e, decide_eq_false e, if_pos (by decide)])
            rw [HR2.out] at hLv;rw [← hlf];have HGI : Hid (∀ W, IsK W c (goneS s db.2) → Chg wr W (fun k => k = c.g ∨ k = c.cb) → GI w W c s gx z3 db.2) := hid (fun W h1 h2 => HJ.out.1.step HH.out HGx.out h1 h2);have HTt := hid HJ.out.2;have q17 := row_cell HJ.out.1.x 17 (by rw [HJ.out.1.l]; omega);rw [HZ3p.out] at q17;have HZl : Hid (z3.length = 18) := hid HJ.out.1.l;clear hlf hr HJ HGF HL HR2
            cases lf with
            | true =>
             have HZe : Hid (z4 = z3) := hid (by rw [HZ4.out, HR1.out, HZ3.out]; rfl)
             go_wp2_with (first
              | (refine load_R rfl 103 _ rfl gt rfl 103 _ _ HTt.out Tryz.underlying103 rfl (by rw [szP, NA_size, HRl2.out]) ?_)
              | (go_at_call 56; go_must (refine hLv.mono ?_; rintro e w8 ⟨rfl, hk8, hc8⟩))
              | fail)
             go_meet
             case rel => exact hid (by rw [HZe.out]; exact HGI.out _ hk8 hc8)
            | false =>
             have HZe : Hid (z4 = z3.set 17 0) := hid (by rw [HZ4.out, HR1.out, HZ3.out, List.set_set]; rfl)
             go_wp2_with (first
              | (refine load_R rfl 103 _ rfl gt rfl 103 _ _ HTt.out Tryz.underlying103 rfl (by rw [szP, NA_size, HRl2.out]) ?_)
              | (go_at_call 56; go_must (refine hLv.mono ?_; rintro e w8 ⟨rfl, hk8, hc8⟩; have hG8 := HGI.out w8 hk8 hc8; have q8 := (hG8.cell (j := 17) (by omega)).1; have f8 := (hG8.cell (j := 17) (by omega)).2))
              | fail)
             go_meet
             case rel => exact hid (by rw [HZe.out]; exact hG8.set HH.out HGx.out 17 0)
       case rest =>
        as_aux_lemma =>
        have HV6 := hcut;obtain ⟨w7, hw7⟩ : ∃ x : World, x = wc := ⟨_, rfl⟩;rw [← hw7] at HV6 ⊢;clear hw7 wc hcut HV5 q17
        have HZ4e : Hid (z4 = (inoT c.N c.M z s.wt s.cl).set 1 (z.getD 1 0)) := hid (by
         rw [← ino_zD HZ.out s.wt s.cl, HDT.out, ← HSnE.out, ← HDb0.out, ← HP.out, ← HP7.out, HZ4.out, HZ2.out, HZ1.out])
        have HZ4l : Hid (z4.length = 18) := hid HV6.out.l
        have HZ40 : Hid (z4.getD 0 0 = z.getD 0 0 ∧ z4.getD 2 0 = z.getD 2 0) := hid (by
         obtain ⟨e0, e1, e2, e3⟩ := inoT_0 c.N c.M z s.wt s.cl;rw [HZ4e.out, getD_set_ne (by omega), getD_set_ne (by omega)]
         exact ⟨e0, e2⟩)
        clear HDT HSnE HZ4 HZ3 HZ2 HZ1 HP HP7 HV7 HXf HXt HBD HDb HZ2p HZ3p HRl;have c5 := HV6.out.k.cT;obtain ⟨d1, d2⟩ := HV6.out.k.tk.cell (k := i) (by omega)
        have i0 : (0 : Int) ≤ (i : Int) := by omega
        have i3 : (i : Int) < ((c.M + 1 : Nat) : Int) := by omega
        have i4 : (i : Int) < (c.M : Int) + 1 := by omega
        obtain ⟨w8, hw8⟩ : ∃ y, y = w7.setCell ⟨c.tb, i, none⟩ (.bool true) := ⟨_, rfl⟩;obtain ⟨sT, hsT⟩ : ∃ y : KT, y = { goneS s db.2 with tk := fun x => if x = (i : Int) then true else s.tk x } := ⟨_, rfl⟩;have HST := hid hsT;have HK8 : Hid (IsK w8 c sT) := hid (by rw [hw8, hsT]; exact HV6.out.k.setT (by omega) true)
        have hch8 : Chg w7 w8 (· = c.tb) := by rw [hw8]; exact Chg.setCell
        have HTb : Hid (c.tb < w.heap.size ∧ c.ib < w.heap.size ∧ c.p < w.heap.size) := hid (by
         obtain ⟨A3, e3, _⟩ := HH.out.tk
         exact ⟨slt e3, HH.out.inn.lt, slt HH.out.me⟩)
        have HX8 : Hid (w8.heap[gx]? = some (.cells (NA z4) 51 (0, 0))) := hid (hch8.keep HV6.out.x (by have := HTb.out.1; have := HGx.out; omega));have HC8 : Hid (Chg w w8 (KBl c s.v)) := hid (HV6.out.ch.trans hch8 (fun _ _ e => e.elim (fun e => .inr (.inl e)) (fun e => .inr (.inr (.inl e)))) (fun _ _ e => .inr (.inr (.inr (.inl e)))))
        go_upto_region 23 with fail
        rw [← hw8];clear hw8 hsT hch8 HV6 c5 d1 d2;refine wp_region_noPanic ?_;refine wp_region_held_drew (S := fun w' => Chg w8 w' (· = c.ib)) (by kernel_rfl) (Chg.refl _ _).drew (fun hH => ?_)
        have HC : Hid (∀ W', Chg w8 W' (· = c.ib) → W'.cell? ⟨c.p, 6, none⟩ = some (.slice (some ⟨c.ib, 0, none⟩) (c.M + 1) (c.M + 1)) ∧ W'.heap[gx]? = some (.cells (NA z4) 51 (0, 0))) := hid (fun W' hW => by
         have hne := HK8.out.ne.2.2.2.1
         exact ⟨(cell_of_row _ _ _ _ _ _ (hW.keep HK8.out.me hne)).trans rfl, hW.keep HX8.out (by have := HTb.out.2.1; have := HGx.out; omega)⟩)
        refine tV 0 150 (.pointer (some ⟨c.p, 0, none⟩)) rfl (by kernel_rfl) rfl (by rfl) hH (fun W' hw' => rfl) ?_;simp only [sS];refine tV 1 151 (.pointer (some ⟨c.p, 0, none⟩)) rfl (by kernel_rfl) rfl (by rfl) hH (fun W' hw' => by go_simp) ?_;simp only [sS];refine tV 2 152 (.pointer (some ⟨c.p, 6, none⟩)) rfl (by kernel_rfl) rfl (by rfl) hH (fun W' hw' => by go_simp) ?_;simp only [sS];refine tV 3 153 (.slice (some ⟨c.ib, 0, none⟩) (c.M + 1) (c.M + 1)) rfl (by kernel_rfl) rfl (by rfl) hH (fun W' hw' => by have hc := (HC.out W' hw').1; go_simp) ?_;simp only [sS];refine tV 4 154 (.int .i64 (i : Int)) rfl (by kernel_rfl) rfl (by rfl) hH (fun W' hw' => rfl) ?_;simp only [sS];refine takeR 5 155 51 (.tmp 5) gx 51 (NA z4) _ rfl (by kernel_rfl) (by kernel_rfl) (by kernel_rfl) rfl rfl rfl Tryz.underlying51 rfl (by rw [szI, NA_size, HZ4l.out]) (by rfl) (fun _ _ _ h => h) hH (fun W' hw' => (HC.out W' hw').2) ?_;simp only [sS];refine tV 6 156 (.pointer (some ⟨c.ib, i * 18, none⟩)) rfl (by kernel_rfl) rfl (by rfl) hH (fun W' hw' => by go_simp) ?_;simp only [sS];have HK8d : Hid (IsK w8.drew c sT) := hid (HK8.out.call ((Chg.refl w8 No).drew));refine step1 7 (by kernel_rfl) ?_;refine stStoreNK 7 (.tmp 156) (.tmp 155) c.ib i (c.M + 1) z4 sT.ino rfl rfl (by rfl) rfl rfl rfl HZ4l.out HK8d.out.inn (by omega) ?_
        intro w9 hw9 hc9
        have hH9 : Chg w8 w9 (· = c.ib) := hH.trans hc9 (fun _ _ e => e) (fun _ _ e => e);refine ⟨hH9, ?_⟩;refine wpAnyH_done (by kernel_rfl) ?_ _;refine NoPanic.normal ?_;obtain ⟨s9, hs9⟩ : ∃ y : KT, y = { sT with ino := putF18 sT.ino i z4 } := ⟨_, rfl⟩;have HS9 : Hid (s9 = { wt := db.2.wt, cl := db.2.cl, tk := fun x => if x = (i : Int) then true else s.tk x, ino := putF18 s.ino i z4, en := s.en, v := s.v, row := s.row }) := hid (by rw [hs9, HST.out]; rfl)
        have HK9 : Hid (IsK w9 c s9) := hid (by
         rw [hs9];refine HK8d.out.setI hw9 (fun j => ?_) hc9
         show (if j = i then z4 else sT.ino j).length = 18
         split
         ·exact HZ4l.out
         ·exact HK8.out.i18 j)
        have HX9 : Hid (w9.heap[gx]? = some (.cells (NA z4) 51 (0, 0))) := hid (HC.out w9 hH9).2;have HC9 : Hid (Chg w w9 (KBl c s.v)) := hid (HC8.out.trans hH9 (fun _ _ e => e) (fun _ _ e => .inr (.inr (.inr (.inr (.inl e))))))
        have HKT2 : Hid (z.getD 0 0 = 2 → ∀ v', KTf v' = { s9 with v := v', row := s.row ++ [(i : Int)] }) := hid (fun e v' => by
         rw [HKTf.out, HS9.out, HZ4e.out, HDb0.out];unfold takeKT
         rw [if_pos e, if_pos e])
        have HKT1 : Hid (z.getD 0 0 ≠ 2 → ∀ wt', wt' = wipeW (z.getD 2 0) db.2.sp db.2.wt → KTf s.v = { s9 with wt := wt' }) := hid (fun e wt' e2 => by
         rw [HKTf.out, HS9.out, HZ4e.out, e2, HDb0.out];unfold takeKT
         rw [if_neg e, if_neg e])
        have HW9 : Hid (s9.wt = db.2.wt ∧ s9.v = s.v ∧ s9.row = s.row) := hid (by rw [HS9.out]; exact ⟨rfl, rfl, rfl⟩);have HRw := hid hr;clear hw9 hc9 hH9 hH HC HC8 HX8 HK8 HK8d HST hs9 HS9 HKTf hr;have qk := (row_cell HX9.out 0 (by rw [HZ4l.out]; omega)).trans (congrArg (fun x => some (Value.int .i64 x)) HZ40.out.1);have qs := (row_cell HX9.out 2 (by rw [HZ4l.out]; omega)).trans (congrArg (fun x => some (Value.int .i64 x)) HZ40.out.2);obtain ⟨K0, hK0⟩ : ∃ y, y = z.getD 0 0 := ⟨_, rfl⟩;obtain ⟨Sz, hSz⟩ : ∃ y, y = z.getD 2 0 := ⟨_, rfl⟩;rw [← hK0] at qk HKT1 HKT2 HQ;rw [← hSz] at qs HKT1 HQ h0 h1;have HSz := hid hSz;clear hK0 hSz
        by_cases hk2 : K0 = 2
        ·subst hk2
         have HKT := hid (HKT2.out rfl);clear HKT1 HKT2 HQ;obtain ⟨wA, hwA⟩ : ∃ y, y = w9.alloc (.cells #[.int .i64 (i : Int)] 3) := ⟨_, rfl⟩
         have hAc : Chg w9 wA No := by rw [hwA]; exact Chg.alloc w9 _ No
         have HKA := hid (HK9.out.call hAc)
         have e2 : wA.cell? ⟨w9.heap.size, 0, none⟩ = some (.int .i64 (i : Int)) := by rw [hwA]; exact (cell_of_row _ _ _ _ _ _ (heap_alloc_new w9 (.cells #[.int .i64 (i : Int)] 3))).trans rfl
         have HCA : Hid (Chg w wA (KBl c s.v)) := hid (HC9.out.trans hAc (fun _ _ e => e) (fun _ _ e => e.elim));have HBA : Hid (c.B ≤ wA.heap.size ∨ True) := hid (.inr trivial);have c8 := HK9.out.cR;obtain ⟨vv, hvv⟩ : ∃ y, y = s9.v := ⟨_, rfl⟩;rw [← hvv] at c8;have HRo : Hid (IOwn wA c.B vv s9.row) := hid (by rw [hvv]; exact HKA.out.row);have HLn : Hid (s9.row.length ≤ 1000000000000) := hid (by rw [HW9.out.2.2]; have := HRw.out; omega)
         have HSt : Hid (∀ v' w', IOwn w' c.B v' (s9.row ++ [(i : Int)]) → Chg wA w' (fun k => vv.ownBlock = some k) → (v'.ownBlock = vv.ownBlock ∨ v'.ownBlock = some wA.heap.size) → (IsK (w'.setCell ⟨c.p, 8, none⟩ v') c (KTf v') ∧ Chg w (w'.setCell ⟨c.p, 8, none⟩ v') (KBl c s.v)) ∧ w'.cell? ⟨c.p, 8, none⟩ = some vv ∧ w'.frozen? ⟨c.p, 8, none⟩ = false) := hid (fun v' w' h1 h2 h3 => by
          rw [hvv] at h2 h3;obtain ⟨k1, k2⟩ := HKA.out.setV h1 h2 h3;have hme := h2.keep HKA.out.me (fun e => (HKA.out.rowNe e).1 rfl);refine ⟨⟨?_, HCA.out.trans k2 (fun _ _ e => e) (fun _ _ e => ?_)⟩, ?_, frozen_of_row w' c.p 8 _ 67 hme⟩
          ·rw [HKT.out v', ← HW9.out.2.2]
           exact k1
          ·rcases e with e | e
           ·rw [HW9.out.2.1] at e
            exact .inr (.inr (.inr (.inr (.inr e))))
           ·exact .inl e
          ·rw [hvv]
           exact (cell_of_row _ _ _ _ _ _ hme).trans rfl)
         have HBs : Hid (c.B ≤ wA.heap.size) := hid (by have h1 := HC9.out.size; have h2 := hAc.size; have h3 := HB0.out; omega);obtain ⟨va, vc, hvs, _⟩ := HRo.out.lat
         have c8a : wA.cell? ⟨c.p, 8, none⟩ = some vv := by rw [hvv]; exact HKA.out.cR
         subst hvs;clear hvv hAc HKA HCA HBA HK9 HC9 HKT;rw [hwA] at e2 HRo HSt HBs c8a;clear hwA
         go_wp2_with (first
          | (at_builtin; go_must (refine wp_appI2 rfl _ _ rfl c.B w9.heap.size 1 _ _ (i : Int) rfl rfl HRo.out e2 HLn.out HBs.out ?_; intro v' w10 hI10 hc10 hn10; obtain ⟨⟨k10, k11⟩, q10, f10⟩ := HSt.out v' w10 hI10 hc10 hn10; obtain ⟨na, nc, hv', _⟩ := hI10.lat; obtain ⟨nn, hnn⟩ : ∃ n : Nat, n = (s9.row ++ [(i : Int)]).length := ⟨_, rfl⟩; rw [← hnn] at hv'; subst hv'; have HF := hid (And.intro k10 k11); clear k10 k11 hI10 hc10 hn10 hnn e2 c8 c8a qk qs))
          | fail)
         exact bodyPost_ret (results_none rfl _ _ _) rfl ⟨rfl, ⟨_, HF.out.1⟩, HF.out.2⟩
        ·have hk2b : (K0 == 2) = false := beq_eq_false_iff_ne.2 hk2
         have hk2c : decide (K0 = 2) = false := decide_eq_false hk2;have HKT := hid (HKT1.out hk2);have HQ2 := hid (HQ.out hk2);clear HKT1 HKT2 HQ hk2;have hmod : Sz.tmod 128 = Sz % 128 := Int.tmod_eq_emod_of_nonneg h0;have HWs : Hid (({ s9 with wt := db.2.wt } : KT) = s9) := hid (by rw [← HW9.out.1])
         by_cases hz0 : Sz % 128 = 0
         ·have hbq : (Sz % 128 == 0) = true := by simpa using hz0
          have hbr : (Sz % 128 != 0) = false := by simpa using hz0
          have hbs : decide (Sz % 128 = 0) = true := decide_eq_true hz0
          have HF : Hid (IsK w9 c (KTf s.v)) := hid (by
           rw [HKT.out db.2.wt (by unfold wipeW; rw [lastB_none (.inl hz0)]), HWs.out]
           exact HK9.out)
          clear HQ2 HKT HWs HK9
          go_wp2_with fail
          go_end0
          exact ⟨rfl, ⟨_, HF.out⟩, HC9.out⟩
         ·have hbq : (Sz % 128 == 0) = false := by simpa using hz0
          have hbr : (Sz % 128 != 0) = true := by simpa using hz0
          have hbs : decide (Sz % 128 = 0) = false := decide_eq_false hz0;obtain ⟨q, qe, hfq, hq2⟩ := HQ2.out hz0;rw [← HDb0.out, ← HZ4e.out, ← HN.out] at hfq;rw [← HDb0.out, ← HSz.out] at hq2;have HQ3 := hid hq2
          have HSr : Hid (∀ W, Chg w9 W No → Calls Tryz.prog 58 #[.pointer (some ⟨c.p, 0, none⟩)] W fun e w' => e = .returned (.agg (srcV (some ⟨c.g, 0, none⟩) c.wc ⟨db.2.wt, -1, 0⟩)) ∧ Chg W w' No) := hid (fun W hW => by
           have := source_any W (HK9.out.call hW);rw [HW9.out.1] at this
           exact this)
          have HFd : Hid (∀ W, Chg w9 W No → Calls Tryz.prog 57 #[.agg (srcV (some ⟨c.g, 0, none⟩) c.wc ⟨db.2.wt, -1, 0⟩), .agg (NA z4), .int .i64 (n - 1)] W fun e w' => e = .returned (.tuple #[.int .i64 q, .int .i64 qe]) ∧ Chg W w' No) := hid (fun W hW => by
           have hi : ImgAt W (some ⟨c.g, 0, none⟩) db.2.wt := by
            have := ImgAt.of_wt (HK9.out.call hW).wt;rw [HW9.out.1] at this
            exact this
           refine (rFind_any (some ⟨c.g, 0, none⟩) c.wc ⟨db.2.wt, -1, 0⟩ z4 (n - 1) W HZ4l.out hi).mono ?_
           rintro e w' ⟨rfl, hb⟩
           rw [hfq]
           exact ⟨rfl, Chg.of_below hb No⟩)
          obtain ⟨SV, hSV⟩ : ∃ y, y = srcV (some ⟨c.g, 0, none⟩) c.wc ⟨db.2.wt, -1, 0⟩ := ⟨_, rfl⟩;rw [← hSV] at HSr HFd;have n0 := HNb.out.1;have n1 := HNb.out.2;clear hSV hfq hq2 HQ2
          go_upto_region 27 with fail
          refine wp_region_noPanic ?_;refine wp_region_held_drew (S := fun w' => Chg w9 w' No) (by kernel_rfl) (Chg.refl _ _).drew (fun hH => ?_);refine tV 0 175 (.pointer (some ⟨c.p, 0, none⟩)) rfl (by kernel_rfl) rfl (by rfl) hH (fun W' hw' => rfl) ?_;simp only [sS];refine takeR 2 177 51 (.tmp 5) gx 51 (NA z4) _ rfl (by kernel_rfl) (by kernel_rfl) (by kernel_rfl) rfl rfl rfl Tryz.underlying51 rfl (by rw [szI, NA_size, HZ4l.out]) (by rfl) (fun _ _ _ h => h) hH (fun W' hw' => hw'.keep HX9.out (fun e => e)) ?_;simp only [sS];refine tV 3 178 (.int .i64 n) rfl (by kernel_rfl) rfl (by rfl) hH (fun W' hw' => rfl) ?_;simp only [sS]
          have wN : IntKind.i64.wrap (n - 1) = n - 1 := by rw [IntKind.wrap_i64] <;> omega
          refine tV 4 179 (.int .i64 (n - 1)) rfl (by kernel_rfl) rfl (by rfl) hH (fun W' hw' => by go_simp <;> exact wN) ?_
          simp only [sS];refine step1 1 (by kernel_rfl) ?_;refine stCall 1 176 58 #[.pointer (some ⟨c.p, 0, none⟩)] _ rfl rfl (by rfl) (by go_simp) (HSr.out _ hH) ?_
          rintro e w10 ⟨rfl, hb10⟩
          have hH10 : Chg w9 w10 No := hH.trans hb10 (fun _ _ e => e) (fun _ _ e => e);refine ⟨_, rfl, hH10, ?_⟩;simp only [sS];refine step1 5 (by kernel_rfl) ?_;refine stCall 5 180 57 #[.agg SV, .agg (NA z4), .int .i64 (n - 1)] _ rfl rfl (by rfl) (by go_simp) (HFd.out _ hH10) ?_
          rintro e w11 ⟨rfl, hb11⟩
          have hH11 : Chg w9 w11 No := hH10.trans hb11 (fun _ _ e => e) (fun _ _ e => e);refine ⟨_, rfl, hH11, ?_⟩;simp only [sS];refine tV 6 174 (.tuple #[.int .i64 q, .int .i64 qe]) rfl (by kernel_rfl) rfl (by rfl) hH11 (fun W' hw' => rfl) ?_;simp only [sS];refine tV 7 181 (.int .i64 q) rfl (by kernel_rfl) rfl (by rfl) hH11 (fun W' hw' => rfl) ?_;simp only [sS];refine tV 8 182 (.int .i64 qe) rfl (by kernel_rfl) rfl (by rfl) hH11 (fun W' hw' => rfl) ?_;simp only [sS];refine tV 9 11 (.int .i64 q) rfl (by kernel_rfl) rfl (by rfl) hH11 (fun W' hw' => rfl) ?_;simp only [sS];refine tV 10 12 (.int .i64 qe) rfl (by kernel_rfl) rfl (by rfl) hH11 (fun W' hw' => rfl) ?_;simp only [sS];refine wpAnyH_done (by kernel_rfl) ?_ _;refine NoPanic.normal ?_;have HK11 := hid (HK9.out.call hH11);have HC11 : Hid (Chg w w11 (KBl c s.v)) := hid (HC9.out.trans hH11 (fun _ _ e => e) (fun _ _ e => e.elim));have qz := (row_cell (hH11.keep HX9.out (fun e => e)) 2 (by rw [HZ4l.out]; omega)).trans (congrArg (fun x => some (Value.int .i64 x)) (HZ40.out.2.trans HSz.out.symm));clear hH hH10 hH11 hb10 hb11 HSr HFd HK9 HC9 qs qk
          rcases HQ3.out with ⟨rfl, hl⟩ | ⟨m, rfl, hm0, hmN, j, hl⟩
          ·have HF : Hid (IsK w11 c (KTf s.v)) := hid (by
            rw [HKT.out db.2.wt (by unfold wipeW; rw [hl]), HWs.out]
            exact HK11.out)
           clear HKT HWs HK11 HQ3 hl
           go_wp2_with fail
           go_end0
           exact ⟨rfl, ⟨_, HF.out⟩, HC11.out⟩
          ·have hmb : ((m : Int) == 0) = false := beq_eq_false_iff_ne.2 (by omega)
           have hmc : decide ((m : Int) = 0) = false := decide_eq_false (by omega)
           have hme : ((m : Int) != 0) = true := by rw [bne, hmb]; rfl
           obtain ⟨f, hf⟩ : ∃ f : Nat, Sz % 128 = (f : Int) := ⟨(Sz % 128).toNat, by omega⟩
           have hf1 : f < 128 := by omega
           have HKe : Hid (KTf s.v = { s9 with wt := db.2.wt.set m (wipK (secI db.2.wt (m : Int)) (f : Int) 128) }) := hid (by
            refine HKT.out _ ?_;unfold wipeW;rw [hl]
            show _ = db.2.wt.set ((m : Int)).toNat (wip (secI db.2.wt (m : Int)) (Sz % 128))
            rw [hf, Int.toNat_natCast]
            rfl)
           have HWl : Hid (db.2.wt.length = c.N) := hid (by rw [← HW9.out.1]; exact HK11.out.wl)
           have k0 : (0 : Int) ≤ (m : Int) := by omega
           have k1 : (m : Int) < (c.N : Int) := by omega
           rw [hf] at hmod hbq hbr hbs;clear hz0 HKT HQ3 hl
           have G0 : Hid (IsK w11 c { s9 with wt := db.2.wt.set m (wipK (secI db.2.wt (m : Int)) (f : Int) f) } ∧ Chg w w11 (KBl c s.v)) := hid ⟨by
            rw [wipK_low _ f (Int.le_refl _), set_secI (by rw [HWl.out]; exact hmN), HWs.out]
            exact HK11.out, HC11.out⟩
           clear HK11 HC11 HWs
           go_wp2_with fail
           go_loopw [13] (fun x13 wr => ∃ k : Nat, f ≤ k ∧ k ≤ 128 ∧ x13 = .int .i64 k ∧ Hid (IsK wr c { s9 with wt := db.2.wt.set m (wipK (secI db.2.wt (m : Int)) (f : Int) k) } ∧ Chg w wr (KBl c s.v))) (fun x13 _ => 128 - (intOf x13).toNat)
           case atStart => exact ⟨f, by omega, by omega, by first | rfl | go_num, G0⟩
           case round =>
            as_aux_lemma =>
            obtain ⟨k, hkf, hk, rfl, HJ⟩ := hrel;clear G0
            by_cases hlt : k < 128
            ·have j0 : (0 : Int) ≤ (k : Int) := by omega
             have j1 : (k : Int) < 128 := by omega
             have c3 := HJ.out.1.cW
             have hwl : m < (db.2.wt.set m (wipK (secI db.2.wt (m : Int)) (f : Int) k)).length := by rw [List.length_set, HWl.out]; exact hmN
             have hW := HJ.out.1.wt
             have hrg := hW.range hwl k (.int .u8 ((secI (db.2.wt.set m (wipK (secI db.2.wt (m : Int)) (f : Int) k)) (m : Int)).getD k 0)) (by
              have hsl := (hW.sec (m : Int)).1;rw [List.getElem?_map, List.getD_eq_getElem?_getD, List.getElem?_eq_getElem (by rw [hsl]; exact hlt)]
              rfl)
             obtain ⟨A, hA⟩ := hW.isRow;have hfr := frozen_of_row wr c.g (m * 128 + k) A 33 hA
             have HN2 : Hid (IsK (wr.setCell ⟨c.g, m * 128 + k, none⟩ (.int .u8 0)) c { s9 with wt := db.2.wt.set m (wipK (secI db.2.wt (m : Int)) (f : Int) (k + 1)) } ∧ Chg w (wr.setCell ⟨c.g, m * 128 + k, none⟩ (.int .u8 0)) (KBl c s.v)) := hid (by
              have hb := hW.byteK (x := 0) hwl hlt (by omega)
              have hb2 : WtAt (wr.setCell ⟨c.g, m * 128 + k, none⟩ (.int .u8 0)) c.g (db.2.wt.set m (wipK (secI db.2.wt (m : Int)) (f : Int) (k + 1))) := by
               rw [← wip_up db.2.wt (by rw [HWl.out]; exact hmN) (by omega)]
               exact hb
              exact ⟨HJ.out.1.setW hb2 (by rw [List.length_set]; exact HWl.out) Chg.setCell, HJ.out.2.trans Chg.setCell (fun _ _ e => e) (fun _ _ e => .inr (.inl e))⟩)
             generalize (secI (db.2.wt.set m (wipK (secI db.2.wt (m : Int)) (f : Int) k)) (m : Int)).getD k 0 = by_ at hrg
             clear hW hA
             go_wp2_with fail
             exact ⟨⟨k + 1, by omega, by omega, by go_num, HN2⟩, by simp [intOf]; omega⟩
            ·have j1 : ¬ (k : Int) < 128 := by omega
             obtain rfl : k = 128 := by omega
             have HF : Hid (IsK wr c (KTf s.v)) := hid (by rw [HKe.out]; exact HJ.out.1)
             go_wp2_with fail
             go_end0
             exact ⟨rfl, ⟨_, HF.out⟩, HJ.out.2⟩
end Go.Proofs.YtpmignilhoihnaaGreat
