/-
 layout.inodeMayBe tells whether an inode's fields may stand together.
-/
import Derived.Test.YtpmignilhoihnabGreatLI0
namespace Go.Proofs.YtpmignilhoihnabGreat
open Go.RowKit

theorem list18 {z : List Int} (h : z.length = 18) : ∃ a0 a1 a2 a3 a4 a5 a6 a7 a8 a9 a10 a11 a12 a13 a14 a15 a16 a17, z = [a0, a1, a2, a3, a4, a5, a6, a7, a8, a9, a10, a11, a12, a13, a14, a15, a16, a17] := by
 match z, h with
 | [a0, a1, a2, a3, a4, a5, a6, a7, a8, a9, a10, a11, a12, a13, a14, a15, a16, a17], _ => exact ⟨a0, a1, a2, a3, a4, a5, a6, a7, a8, a9, a10, a11, a12, a13, a14, a15, a16, a17, rfl⟩

theorem eqFields_run (d : Nat) (xs ys : Array Value) (E : Field → Bool) : ∀ (fs : List Field) (w : World), (∀ f ∈ fs, f.name ≠ "_" ∧ ∀ w, ∃ a b, (part f.type xs f.offset).run Tryz.prog w = .ok a w ∧ (part f.type ys f.offset).run Tryz.prog w = .ok b w ∧ (Op.equalIn d f.type a b).run Tryz.prog w = .ok (E f) w) →
  (Op.eqFields d xs ys fs).run Tryz.prog w = .ok (fs.all E) w
 | [], w, _ => by simp [Op.eqFields]
 | f :: fs, w, h => by
  obtain ⟨hn, hf⟩ := h f (by simp);obtain ⟨a, b, h1, h2, h3⟩ := hf w
  simp only [Op.eqFields, hn, ne_eq, not_false_eq_true, if_true, Sem.run_bind, h1, h2, h3, Result.andThen_ok]
  cases hE : E f
  ·simp [hE]
  ·simp only [Bool.not_true, Bool.false_eq_true, if_false, List.all_cons, hE, Bool.true_and]
   exact eqFields_run d xs ys E fs w fun g hg => h g (by simp [hg])
theorem part_int (z : List Int) (j : Nat) (h : j < z.length) (w : World) : (part 3 (NA z) j).run Tryz.prog w = .ok (.int .i64 (z.getD j 0)) w := by
 have hag : (isAgg 3).run Tryz.prog w = .ok false w := by kernel_rfl
 simp only [part, Sem.run_bind, hag, Result.andThen_ok, Bool.false_eq_true, if_false, NA_get z j h, Sem.run_pure, Sem.run_ite]
theorem eqItems_int (a b : List Int) (d : Nat) : ∀ (is : List Nat) (w : World), (∀ i ∈ is, i < a.length ∧ i < b.length) →
  (Op.eqItems (d + 1) 3 1 (NA a) (NA b) is).run Tryz.prog w = .ok (is.all fun i => a.getD i 0 == b.getD i 0) w
 | [], w, _ => by simp [Op.eqItems]
 | i :: is, w, h => by
  have hi := h i (by simp)
  simp only [Op.eqItems, Sem.run_bind, Nat.mul_one, part_int a i hi.1, part_int b i hi.2, Result.andThen_ok, run_equalIn_int _ d 3 .i64 .i64 _ _ Tryz.underlying3]
  cases hq : (a.getD i 0 == b.getD i 0)
  ·simp only [Bool.not_false, if_true, Sem.run_pure, List.all_cons, hq, Bool.false_and]
  ·simp only [Bool.not_true, Bool.false_eq_true, if_false, List.all_cons, hq, Bool.true_and]
   exact eqItems_int a b d is w fun j hj => h j (by simp [hj])
theorem cells3 : Tryz.prog.cellsOf 3 = 1 := by kernel_rfl
theorem info3 : ∃ i, Tryz.prog.info? 3 = some i := by
 cases h : Tryz.prog.info? 3 with
 | some i => exact ⟨i, rfl⟩
 | none =>
  have : (Tryz.prog.info? 3).isSome = true := by kernel_rfl
  rw [h] at this
  cases this
theorem eq_arr (t : TypeId) (n : Nat) (ht : Tryz.prog.underlying t = some (.array n 3)) (d : Nat) (a b : List Int) (ha : a.length = n) (hb : b.length = n) (w : World) :
  (Op.equalIn (d + 2) t (.agg (NA a)) (.agg (NA b))).run Tryz.prog w = .ok (decide (a = b)) w := by
 obtain ⟨i, hi⟩ := info3;rw [run_equalIn_array w (d + 1) (NA a) (NA b) ht hi, cells3, eqItems_int a b d _ w (by simp [ha, hb]), ← ha, all_eq a b (by omega)]
set_option maxRecDepth 100000 in
theorem part_arr (z : List Int) (hz : z.length = 18) (w : World) : (part 37 (NA z) 4).run Tryz.prog w = .ok (.agg (NA ((z.drop 4).take 12))) w := by
 have hag : (isAgg 37).run Tryz.prog w = .ok true w := by kernel_rfl
 have hsz : (sizeOf 37).run Tryz.prog w = .ok 12 w := by kernel_rfl
 simp only [part, Sem.run_bind, hag, hsz, Result.andThen_ok, if_true, Sem.run_pure, Sem.run_ite]
 congr 2
 obtain ⟨a0, a1, a2, a3, a4, a5, a6, a7, a8, a9, a10, a11, a12, a13, a14, a15, a16, a17, rfl⟩ := list18 hz
 rfl
set_option maxRecDepth 100000 in
theorem eq_inode (z y : List Int) (hz : z.length = 18) (hy : y.length = 18) (w : World) :
  (Op.equalIn 10000 39 (.agg (NA z)) (.agg (NA y))).run Tryz.prog w = .ok (decide (z = y)) w := by
 have hfm : ((Tryz.prog.fieldsOf 39).toList.map fun f => (f.type, f.offset)) = [(3, 0), (3, 1), (3, 2), (3, 3), (37, 4), (3, 16), (3, 17)] := by kernel_rfl
 have hnm : ((Tryz.prog.fieldsOf 39).toList.all fun f => f.name != "_") = true := by kernel_rfl
 let E' : Nat × Nat → Bool := fun p => if p.1 = 3 then z.getD p.2 0 == y.getD p.2 0 else decide ((z.drop 4).take 12 = (y.drop 4).take 12)
 rw [run_equalIn_struct w 9999 39 (NA z) (NA y) (by kernel_rfl) (by kernel_rfl), eqFields_run 9999 (NA z) (NA y) (fun f => E' (f.type, f.offset))]
 ·have e : ((Tryz.prog.fieldsOf 39).toList.all fun f => E' (f.type, f.offset)) = (((Tryz.prog.fieldsOf 39).toList.map fun f => (f.type, f.offset)).all E') := by rw [List.all_map]; rfl
  rw [e, hfm]
  congr 1
  obtain ⟨a0, a1, a2, a3, a4, a5, a6, a7, a8, a9, a10, a11, a12, a13, a14, a15, a16, a17, rfl⟩ := list18 hz;obtain ⟨b0, b1, b2, b3, b4, b5, b6, b7, b8, b9, b10, b11, b12, b13, b14, b15, b16, b17, rfl⟩ := list18 hy;rw [Bool.eq_iff_iff]
  simp [E']
  intros
  simp [and_assoc]
 ·intro f hf
  refine ⟨by simpa using List.all_eq_true.1 hnm f hf, fun w => ?_⟩;have hm : (f.type, f.offset) ∈ ((Tryz.prog.fieldsOf 39).toList.map fun f => (f.type, f.offset)) := List.mem_map.2 ⟨f, hf, rfl⟩;rw [hfm] at hm
  by_cases h4 : f.type = 37
  ·have h5 : f.offset = 4 := by
    simp only [List.mem_cons, Prod.mk.injEq, List.not_mem_nil, or_false] at hm
    rw [h4] at hm
    rcases hm with h | h | h | h | h | h | h
    ·exact absurd h.1 (by decide)
    ·exact absurd h.1 (by decide)
    ·exact absurd h.1 (by decide)
    ·exact absurd h.1 (by decide)
    ·exact h.2
    ·exact absurd h.1 (by decide)
    ·exact absurd h.1 (by decide)
   rw [h4, h5]
   exact ⟨_, _, part_arr z hz w, part_arr y hy w, eq_arr 37 12 (by kernel_rfl) 9997 _ _ (by simp [hz]) (by simp [hy]) w⟩
  ·have h5 : f.type = 3 ∧ f.offset < 18 := by
    simp only [List.mem_cons, Prod.mk.injEq, List.not_mem_nil, or_false] at hm
    rcases hm with h | h | h | h | h | h | h
    ·exact ⟨h.1, by rw [h.2]; decide⟩
    ·exact ⟨h.1, by rw [h.2]; decide⟩
    ·exact ⟨h.1, by rw [h.2]; decide⟩
    ·exact ⟨h.1, by rw [h.2]; decide⟩
    ·exact absurd h.1 h4
    ·exact ⟨h.1, by rw [h.2]; decide⟩
    ·exact ⟨h.1, by rw [h.2]; decide⟩
   rw [h5.1]
   exact ⟨_, _, part_int z _ (by omega) w, part_int y _ (by omega) w, run_equalIn_int _ 9998 3 .i64 .i64 _ _ Tryz.underlying3⟩
theorem guard_inode : Tryz.prog.eqGuardType Tryz.prog.depth 39 = false := by kernel_rfl

def most : List Int := [2, 100, 136704, 1099511627776, 4294967295, 4294967295, 4294967295, 4294967295, 4294967295, 4294967295, 4294967295, 4294967295, 4294967295, 4294967295, 4294967295, 4294967295, 4294967295, 4294967295]
def allB (z : List Int) : Bool := (List.range 18).all fun m => decide (0 ≤ z.getD m 0 ∧ z.getD m 0 ≤ most.getD m 0)
theorem allB_true {z : List Int} (h : ∀ m, m < 18 → 0 ≤ z.getD m 0 ∧ z.getD m 0 ≤ most.getD m 0) : allB z = true := by
 rw [allB, List.all_eq_true]
 intro m hm
 exact decide_eq_true (h m (List.mem_range.1 hm))
theorem allB_of {z : List Int} (h : allB z = true) (m : Nat) (hm : m < 18) : 0 ≤ z.getD m 0 ∧ z.getD m 0 ≤ most.getD m 0 := of_decide_eq_true (List.all_eq_true.1 h m (List.mem_range.2 hm))
theorem allB_false {z : List Int} {m : Nat} (hm : m < 18) (h : ¬ (0 ≤ z.getD m 0 ∧ z.getD m 0 ≤ most.getD m 0)) : allB z = false := by
 cases e : allB z
 ·rfl
 ·exact absurd (allB_of e m hm) h
def inoB (z : List Int) : Bool := if z.getD 0 0 = 0 then decide (z = Zi) else allB z && (z.getD 0 0 != 2 || z.getD 2 0 % 128 == 0)

theorem fld_facts {j : Nat} {f : Fld} (h : flds[j]? = some f) : base (j + 1) = base j + f.ct ∧ f.ct ≤ 12 ∧ 1 ≤ f.ct ∧ 0 ≤ f.ms ∧ f.ms ≤ 1099511627776 ∧ (∀ i, i < f.ct → most.getD (base j + i) 0 = f.ms) ∧ base j + f.ct ≤ 18 := by
 have hj := fld_cases h
 match j, hj, h with
 | 0, _, h | 1, _, h | 2, _, h | 3, _, h | 4, _, h | 5, _, h | 6, _, h => cases h; decide

set_option maxRecDepth 100000 in
set_option maxHeartbeats 2000000 in
theorem inodeMayBe_any (z : List Int) (hz : z.length = 18) (w : World) :
  Calls Tryz.prog 68 #[.agg (NA z)] w fun e w' => e = .returned (.bool (inoB z)) ∧ Below w.heap.size w w' := by
 have hg1 : (w.alloc (.cells (NA z) 39)).heap[w.heap.size]? = some (.cells (NA z) 39 (0, 0)) := heap_alloc_new _ _;have hb : Below w.heap.size w (w.alloc (.cells (NA z) 39)) := (Below.refl _ _).alloc (Nat.le_refl _) _;have hbi := build_inode;have heq := hid (eq_inode z Zi hz Zi_len);have hgd := hid guard_inode;have hk := row_cell hg1 0 (by omega)
 generalize hK : z.getD 0 0 = K at *
 have HG1 := hid hg1
 by_cases h0 : K = 0
 ·have HV : Hid (inoB z = decide (z = Zi)) := by show _ = _; rw [inoB, hK, if_pos h0]
  subst h0;clear hg1
  go_enter Tryz.func68, Tryz.ntmps68
  go_wp2_with (first | refine load_R rfl 39 (.tmp 1) rfl w.heap.size rfl 39 _ _ HG1.out Tryz.underlying39 rfl (by rw [szI, NA_size, hz]) ?_ | refine eql_R rfl 39 (.tmp 10) (.tmp 11) rfl (NA z) (NA Zi) _ rfl rfl heq.out hgd.out ?_)
  go_ret
  exact ⟨by rw [HV.out]; rfl, hb⟩
 ·have HV : Hid (inoB z = (allB z && (K != 2 || z.getD 2 0 % 128 == 0))) := by show _ = _; rw [inoB, hK, if_neg h0]
  have h0' : (K == 0) = false := by simp [h0]
  clear hg1 heq
  go_enter Tryz.func68, Tryz.ntmps68
  go_upto_region 4 with (go_at_call 56; refine (inodeFields_any _).mono ?_; rintro e w1 ⟨rfl, hF, hb1⟩)
  have hF' : FldsAt w1 (w.heap.size + 1) := by simpa using hF
  have hg1 : w1.heap[w.heap.size]? = some (.cells (NA z) 39 (0, 0)) := by rw [hb1.block _ (by simp)]; exact HG1.out
  have hbw : Below w.heap.size w w1 := btr hb hb1 (by simp)
  have HOK : Hid (∀ m, m < base 0 → 0 ≤ z.getD m 0 ∧ z.getD m 0 ≤ most.getD m 0) := fun m hm => absurd hm (Nat.not_lt_zero _)
  clear hF hb hb1 hk HG1 hbi hgd
  go_loopw [15] (fun i wr => ∃ j : Nat, j ≤ 7 ∧ i = .int .i64 j ∧ FldsAt wr (w.heap.size + 1) ∧ wr.heap[w.heap.size]? = some (.cells (NA z) 39 (0, 0)) ∧ Below w.heap.size w wr ∧ Hid (∀ m, m < base j → 0 ≤ z.getD m 0 ∧ z.getD m 0 ≤ most.getD m 0)) (fun i _ => 7 - (intOf i).toNat)
  case atStart => exact ⟨0, by omega, rfl, hF', hg1, hbw, HOK⟩
  case round =>
   obtain ⟨j, hj, rfl, hF, hg, hbr, HJ⟩ := hrel;obtain ⟨wo, hwo⟩ : ∃ x, x = wr := ⟨_, rfl⟩;subst hwo;clear hF' hg1 hbw HOK
   by_cases hlt : j < 7
   ·obtain ⟨f, hf⟩ : ∃ f, flds[j]? = some f := ⟨flds[j]'(by simpa [flds] using hlt), List.getElem?_eq_getElem (by simpa [flds] using hlt)⟩
    obtain ⟨q1, q2, q3, q4, q5, q6, q7⟩ := fld_facts hf;have hr := hF.range hf
    have hgf := fun w' i hi => getF_any hf z hz w' i hi
    have hen := enters_gf hf;have hsF := slt hF;have HR := hid hr;have HF := hid hF;have HG := hid hg;have HB := hid hbr;have HGF := hid hgf;have HQ6 := hid q6;have HFL := hid hf;clear hr hF hg hbr hgf q6 hf;unfold cellF at *
    go_upto_region 6 with (first | (refine wpList_load_mid rfl 111 (.tmp 17) rfl (w.heap.size + 1) (j * 6) rfl _ _ HR.out Tryz.underlying111 rfl (by rw [szF]; rfl) ?_) | (refine store_R rfl 111 (.tmp 4) _ rfl wo.heap.size _ rfl rfl 111 _ (heap_alloc_new _ _) (by rw [szF]; rfl) rfl (by simp [Value.oneCell']) ?_; intro W hW))
    have zW : W.heap.size = wo.heap.size + 1 := by rw [hW.size]; simp
    have HW1 : Hid (W.heap[w.heap.size]? = some (.cells (NA z) 39 (0, 0))) := by show _ = _; rw [hW.other _ (by omega), Below.heap_alloc _ _ _ (by omega)]; exact HG.out
    have HWF : Hid (FldsAt W (w.heap.size + 1)) := by show _ = _; rw [hW.other _ (by omega), Below.heap_alloc _ _ _ (by omega)]; exact HF.out
    have HWB : Hid (Below w.heap.size w W) := hW.below (HB.out.alloc (by omega) _) (by omega);have hW4 := hW.here;have HI0 : Hid (∀ m, m < base j + 0 → 0 ≤ z.getD m 0 ∧ z.getD m 0 ≤ most.getD m 0) := HJ.out;have hc2 := cell_of_row W wo.heap.size 2 _ _ _ hW4;have HW4 := hid hW4;clear hW hW4 HG HF HB HR
    go_upto_region 7 with fail
    clear hc2
    go_loopw [21] (fun i wi => ∃ m : Nat, m ≤ f.ct ∧ i = .int .i64 m ∧ wi.heap[wo.heap.size]? = some (.cells (cellF f).toArray 111 (0, 0)) ∧ Below W.heap.size W wi ∧ Hid (∀ k, k < base j + m → 0 ≤ z.getD k 0 ∧ z.getD k 0 ≤ most.getD k 0)) (fun i _ => f.ct - (intOf i).toNat)
    case atStart => exact ⟨0, by omega, rfl, HW4.out, Below.refl _ _, HI0⟩
    case round =>
     obtain ⟨m, hm, rfl, hC, hbi, HM⟩ := hrel
     have h1 : wr.heap[w.heap.size]? = some (.cells (NA z) 39 (0, 0)) := by rw [hbi.block _ (by omega)]; exact HW1.out
     by_cases hlm : m < f.ct
     ·have hC4 := cell_of_row wr wo.heap.size 4 _ _ _ hC
      have hC3 := fun (w' : World) (h : w'.heap[wo.heap.size]? = some (.cells (cellF f).toArray 111 (0, 0))) => cell_of_row w' wo.heap.size 3 _ _ _ h
      have HC := hid hC;have H1 := hid h1
      have hcall := fun w' => HGF.out w' m hlm
      have hX := HQ6.out m hlm
      generalize hXX : z.getD (base j + m) 0 = X at *
      have hcz : wo.heap.size < wr.heap.size := slt hC;have HX := hid hX;have HXX := hid hXX;have HBI := hid hbi;have HC3 := hid hC3;have HCL := hid hcall;clear hC h1 hX hXX hbi hC3 hcall;unfold cellF at hC4 HC
      by_cases hx0 : X < 0
      ·go_wp2_with (first | refine load_R rfl 39 (.tmp 1) rfl w.heap.size rfl 39 _ _ H1.out Tryz.underlying39 rfl (by rw [szI, NA_size, hz]) ?_ | (go_at_fn f.gf; refine (HCL.out _).mono ?_; rintro e w2 ⟨rfl, hb2⟩))
       go_ret
       refine ⟨?_, btr HWB.out (btr HBI.out hb2 (by have := HBI.out.size; omega)) (by omega)⟩;rw [HV.out, allB_false (m := base j + m) (by omega) (by rw [HXX.out]; omega)]
       rfl
      ·by_cases hx1 : f.ms < X
       ·go_wp2_with (first | refine load_R rfl 39 (.tmp 1) rfl w.heap.size rfl 39 _ _ H1.out Tryz.underlying39 rfl (by rw [szI, NA_size, hz]) ?_ | (go_at_fn f.gf; refine (HCL.out _).mono ?_; rintro e w2 ⟨rfl, hb2⟩; have hC3' := HC3.out w2 (by rw [hb2.block _ hcz]; exact HC.out); unfold cellF at hC3'))
        go_ret
        refine ⟨?_, btr HWB.out (btr HBI.out hb2 (by have := HBI.out.size; omega)) (by omega)⟩;rw [HV.out, allB_false (m := base j + m) (by omega) (by rw [HXX.out, HX.out]; omega)]
        rfl
       ·go_wp2_with (first | refine load_R rfl 39 (.tmp 1) rfl w.heap.size rfl 39 _ _ H1.out Tryz.underlying39 rfl (by rw [szI, NA_size, hz]) ?_ | (go_at_fn f.gf; refine (HCL.out _).mono ?_; rintro e w2 ⟨rfl, hb2⟩; have hC3' := HC3.out w2 (by rw [hb2.block _ hcz]; exact HC.out); unfold cellF at hC3'))
        refine ⟨⟨m + 1, by omega, by go_num, by rw [hb2.block _ hcz]; exact HC.out, btr HBI.out hb2 (by have := HBI.out.size; omega), fun k hk => ?_⟩, by simp [intOf]; omega⟩
        by_cases e : k = base j + m
        ·subst e; rw [HXX.out, HX.out]; omega
        ·exact HM.out k (by omega)
     ·have e : m = f.ct := by omega
      subst e;have zr := hbi.size
      have k1 : FldsAt wr (w.heap.size + 1) := by show _ = _; rw [hbi.block _ (by omega)]; exact HWF.out
      have k2 := btr HWB.out hbi (by omega)
      have HJ1 : Hid (∀ k, k < base (j + 1) → 0 ≤ z.getD k 0 ∧ z.getD k 0 ≤ most.getD k 0) := by rw [q1]; exact HM
      clear hC
      go_wp2
      exact ⟨⟨j + 1, by omega, by go_num, k1, h1, k2, HJ1⟩, by simp [intOf]; omega⟩
   ·have e : j = 7 := by omega
    subst e;have hk0 := row_cell hg 0 (by omega);have hk2 := row_cell hg 2 (by omega);have HA : Hid (allB z = true) := allB_true HJ.out;have hb2 := HJ.out 2 (by decide);rw [hK] at hk0;have hm2 : most.getD 2 0 = 136704 := rfl;rw [hm2] at hb2
    generalize hS : z.getD 2 0 = S at *
    by_cases h2 : K = 2
    ·subst h2
     have h5 : S.tmod 128 = S % 128 := Int.tmod_eq_emod_of_nonneg hb2.1
     by_cases h6 : S % 128 = 0
     ·go_wp2
      go_ret
      exact ⟨by rw [HV.out, HA.out]; simp [h6], hbr⟩
     ·go_wp2
      go_ret
      exact ⟨by rw [HV.out, HA.out]; simp, hbr⟩
    ·have h2' : (K != 2) = true := by simp [h2]
     go_wp2
     go_ret
     exact ⟨by rw [HV.out, HA.out, h2']; rfl, hbr⟩

end Go.Proofs.YtpmignilhoihnabGreat
