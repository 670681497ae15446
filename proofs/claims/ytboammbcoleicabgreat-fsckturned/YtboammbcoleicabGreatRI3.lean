/-
 The document's ReadInode.
-/
import Derived.Test.YtboammbcoleicabGreatLF1
import Derived.Test.YtboammbcoleicabGreatLI1
import Derived.Test.YtboammbcoleicabGreatLI2
import Derived.Test.YtboammbcoleicabGreatL3
import Derived.Test.YtboammbcoleicabGreatLI4
namespace Go.Proofs.YtboammbcoleicabGreat
open Go.RowKit

theorem wi_of {n a b : Int} (h : wiB n a b = true) : a ≤ n ∧ n ≤ b := of_decide_eq_true h
theorem wi_not {n a b : Int} (h : wiB n a b = false) : ¬ (a ≤ n ∧ n ≤ b) := of_decide_eq_false h
theorem most_dir {i : Nat} (h : i < 12) : most.getD (4 + i) 0 = 4294967295 := by
 have : ∀ i, i < 12 → most.getD (4 + i) 0 = 4294967295 := by decide
 exact this i h

set_option maxRecDepth 100000 in
set_option maxHeartbeats 4000000 in
theorem rinodeMay_any (z : List Int) (hz : z.length = 18) (w : World) :
  Calls Tryz.prog 61 #[.agg (NA z)] w fun e w' => e = .returned (.bool (inoB z)) ∧ Below w.heap.size w w' := by
 have hg1 : (w.alloc (.cells (NA z) 66)).heap[w.heap.size]? = some (.cells (NA z) 66 (0, 0)) := heap_alloc_new _ _;have HBW := hid (show Below w.heap.size w (w.alloc (.cells (NA z) 66)) from (Below.refl _ _).alloc (Nat.le_refl _) _);have hbi := build_inode;have heq := hid (eq_inode z Zi hz Zi_len);have hgd := hid guard_inode
 have HCell := hid fun j (h : j < 18) => row_cell hg1 j (by omega)
 have HG1 := hid hg1;clear hg1;have k0 := HCell.out 0 (by decide);have k1 := HCell.out 1 (by decide);have k2 := HCell.out 2 (by decide);have k3 := HCell.out 3 (by decide);have k16 := HCell.out 16 (by decide);have k17 := HCell.out 17 (by decide)
 have HInB : Hid (z.getD 0 0 ≠ 0 → inoB z = (allB z && (z.getD 0 0 != 2 || z.getD 2 0 % 128 == 0))) := fun h => if_neg h
 have HIn0 : Hid (z.getD 0 0 = 0 → inoB z = decide (z = Zi)) := fun h => if_pos h
 have HBad := hid fun m (h : m < 18) hb => allB_false (z := z) (m := m) h hb
 have HAll : Hid ((0 ≤ z.getD 0 0 ∧ z.getD 0 0 ≤ 2) → (0 ≤ z.getD 1 0 ∧ z.getD 1 0 ≤ 100) → (0 ≤ z.getD 2 0 ∧ z.getD 2 0 ≤ 136704) → (0 ≤ z.getD 3 0 ∧ z.getD 3 0 ≤ 1099511627776) → (∀ i, i < 12 → 0 ≤ z.getD (4 + i) 0 ∧ z.getD (4 + i) 0 ≤ 4294967295) → (0 ≤ z.getD 16 0 ∧ z.getD 16 0 ≤ 4294967295) → (0 ≤ z.getD 17 0 ∧ z.getD 17 0 ≤ 4294967295) → allB z = true) := fun h0 h1 h2 h3 h4 h5 h6 => allB_true fun m hm => by
  match m, hm with
  | 0, _ => exact h0
  | 1, _ => exact h1
  | 2, _ => exact h2
  | 3, _ => exact h3
  | 16, _ => exact h5
  | 17, _ => exact h6
  | 4, _ => exact h4 0 (by decide)
  | 5, _ => exact h4 1 (by decide)
  | 6, _ => exact h4 2 (by decide)
  | 7, _ => exact h4 3 (by decide)
  | 8, _ => exact h4 4 (by decide)
  | 9, _ => exact h4 5 (by decide)
  | 10, _ => exact h4 6 (by decide)
  | 11, _ => exact h4 7 (by decide)
  | 12, _ => exact h4 8 (by decide)
  | 13, _ => exact h4 9 (by decide)
  | 14, _ => exact h4 10 (by decide)
  | 15, _ => exact h4 11 (by decide)
  | n + 18, hn => exact absurd hn (by omega)
 have hb0 := HBad.out 0 (by decide);have hb1 := HBad.out 1 (by decide);have hb2 := HBad.out 2 (by decide);have hb3 := HBad.out 3 (by decide);have hb16 := HBad.out 16 (by decide);have hb17 := HBad.out 17 (by decide)
 have hbd := hid fun i (h : i < 12) hb => HBad.out (4 + i) (by omega) hb
 replace hb0 := hid hb0;replace hb1 := hid hb1;replace hb2 := hid hb2;replace hb3 := hid hb3;replace hb16 := hid hb16;replace hb17 := hid hb17
 generalize z.getD 0 0 = K at *
 generalize z.getD 1 0 = a1 at *
 generalize z.getD 2 0 = a2 at *
 generalize z.getD 3 0 = a3 at *
 generalize z.getD 16 0 = a16 at *
 generalize z.getD 17 0 = a17 at *
 clear HBad
 by_cases h0 : K = 0
 ·have HV := hid (HIn0.out h0)
  subst h0
  go_enter Tryz.func61, Tryz.ntmps61
  go_wp2_with (first | refine load_R rfl 66 (.tmp 1) rfl w.heap.size rfl 66 _ _ HG1.out Tryz.underlying66 rfl (by rw [szI, NA_size, hz]) ?_ | refine eql_R rfl 66 (.tmp 7) (.tmp 8) rfl (NA z) (NA Zi) _ rfl rfl heq.out hgd.out ?_)
  go_ret
  exact ⟨by rw [HV.out]; rfl, HBW.out⟩
 ·have h0' : (K == 0) = false := beq_false_of_ne h0
  have HV := hid (HInB.out h0);clear heq HIn0 HInB hbi
  have HW1 := hid fun w => rwithin_any a1 0 100 w
  have HW2 := hid fun w => rwithin_any a2 0 136704 w
  have HW3 := hid fun w => rwithin_any a3 0 1099511627776 w
  have HW16 := hid fun w => rwithin_any a16 0 4294967295 w
  have HW17 := hid fun w => rwithin_any a17 0 4294967295 w
  by_cases hK : K = 1 ∨ K = 2
  ·have hk12 : ((K != 1) && (K != 2)) = false := by rcases hK with e | e <;> simp [e]
   have HK02 : Hid (0 ≤ K ∧ K ≤ 2) := ⟨by omega, by omega⟩
   cases q1 : wiB a1 0 100
   ·have HA := hid (hb1.out (wi_not q1))
    rw [q1] at HW1
    rcases hK with rfl | rfl
    all_goals
     go_enter Tryz.func61, Tryz.ntmps61
     go_wp2_with (go_at_call 59; refine (HW1.out _).mono ?_; rintro e w2 ⟨rfl, rfl⟩)
     go_ret
     exact ⟨by rw [HV.out, HA.out]; rfl, HBW.out⟩
   ·cases q2 : wiB a2 0 136704
    ·have HA := hid (hb2.out (wi_not q2))
     rw [q1] at HW1;rw [q2] at HW2
     rcases hK with rfl | rfl
     all_goals
      go_enter Tryz.func61, Tryz.ntmps61
      go_wp2_with (first | (go_at_call 59; refine (HW1.out _).mono ?_; rintro e w2 ⟨rfl, rfl⟩; clear HW1) | (go_at_call 59; refine (HW2.out _).mono ?_; rintro e w2 ⟨rfl, rfl⟩; clear HW2))
      go_ret
      exact ⟨by rw [HV.out, HA.out]; rfl, HBW.out⟩
    ·cases q3 : wiB a3 0 1099511627776
     ·have HA := hid (hb3.out (wi_not q3))
      rw [q1] at HW1;rw [q2] at HW2;rw [q3] at HW3
      rcases hK with rfl | rfl
      all_goals
       go_enter Tryz.func61, Tryz.ntmps61
       go_wp2_with (first | (go_at_call 59; refine (HW1.out _).mono ?_; rintro e w2 ⟨rfl, rfl⟩; clear HW1) | (go_at_call 59; refine (HW2.out _).mono ?_; rintro e w2 ⟨rfl, rfl⟩; clear HW2) | (go_at_call 59; refine (HW3.out _).mono ?_; rintro e w2 ⟨rfl, rfl⟩; clear HW3))
       go_ret
       exact ⟨by rw [HV.out, HA.out]; rfl, HBW.out⟩
     ·have hs2 := wi_of q2
      have HP1 := hid (wi_of q1);have HP2 := hid (wi_of q2);have HP3 := hid (wi_of q3);rw [q1] at HW1;rw [q2] at HW2;rw [q3] at HW3
      by_cases hr : K = 2 ∧ ¬ a2 % 128 = 0
      ·obtain ⟨rfl, hr⟩ := hr
       have HA : Hid (((2 : Int) != 2 || a2 % 128 == 0) = false) := by
        show _ = false
        simp [hr]
       have hr2 : (a2 % 128 != 0) = true := by simpa using hr
       clear hr
       go_enter Tryz.func61, Tryz.ntmps61
       go_wp2_with (first | (go_at_call 59; refine (HW1.out _).mono ?_; rintro e w2 ⟨rfl, rfl⟩; clear HW1) | (go_at_call 59; refine (HW2.out _).mono ?_; rintro e w2 ⟨rfl, rfl⟩; clear HW2) | (go_at_call 59; refine (HW3.out _).mono ?_; rintro e w2 ⟨rfl, rfl⟩; clear HW3))
       go_ret
       exact ⟨by rw [HV.out, HA.out, Bool.and_false]; rfl, HBW.out⟩
      ·have HA : Hid ((K != 2 || a2 % 128 == 0) = true) := by
        show _ = true
        by_cases e : K = 2
        ·have : a2 % 128 = 0 := by
          by_cases f : a2 % 128 = 0
          ·exact f
          ·exact absurd ⟨e, f⟩ hr
         simp [this]
        ·simp [e]
       have hrr : (K == 2 && a2 % 128 != 0) = false := by
        by_cases e : K = 2
        ·have : a2 % 128 = 0 := by
          by_cases f : a2 % 128 = 0
          ·exact f
          ·exact absurd ⟨e, f⟩ hr
         simp [this]
        ·simp [e]
       rw [HA.out, Bool.and_true] at HV;clear HA
       have hcase : (K = 1) ∨ (K = 2 ∧ (a2 % 128 != 0) = false) := by
        rcases hK with e | e
        ·exact .inl e
        ·rw [e] at hrr
         exact .inr ⟨e, by simpa using hrr⟩
       clear hr hK hrr hk12
       go_enter Tryz.func61, Tryz.ntmps61
       rcases hcase with rfl | ⟨rfl, hm0⟩
       all_goals
        go_wp2_with (first | (go_at_call 59; refine (HW1.out _).mono ?_; rintro e w2 ⟨rfl, rfl⟩; clear HW1) | (go_at_call 59; refine (HW2.out _).mono ?_; rintro e w2 ⟨rfl, rfl⟩; clear HW2) | (go_at_call 59; refine (HW3.out _).mono ?_; rintro e w2 ⟨rfl, rfl⟩; clear HW3))
        go_loop [3] (fun i => ∃ q : Nat, q ≤ 12 ∧ i = .int .i64 q ∧ Hid (∀ j, j < q → 0 ≤ z.getD (4 + j) 0 ∧ z.getD (4 + j) 0 ≤ 4294967295)) (fun i => 12 - (intOf i).toNat)
        case atStart => exact ⟨0, by omega, rfl, hid (fun j hj => absurd hj (Nat.not_lt_zero _))⟩
        case round =>
         obtain ⟨q, hq, rfl, HD⟩ := hrel
         by_cases hlt : q < 12
         ·have hqi : (q : Int) < 12 := by omega
          have kd := HCell.out (4 + q) (by omega)
          have HWd := hid fun w => rwithin_any (z.getD (4 + q) 0) 0 4294967295 w
          cases qd : wiB (z.getD (4 + q) 0) 0 4294967295
          ·have HA := hid (hbd.out q hlt (by rw [most_dir hlt]; exact wi_not qd))
           rw [qd] at HWd
           generalize z.getD (4 + q) 0 = x at *
           clear qd hlt
           go_wp2_with (go_at_call 59; refine (HWd.out _).mono ?_; rintro e w2 ⟨rfl, rfl⟩)
           go_ret
           exact ⟨by rw [HV.out, HA.out]; rfl, HBW.out⟩
          ·have HD2 : Hid (∀ j, j < q + 1 → 0 ≤ z.getD (4 + j) 0 ∧ z.getD (4 + j) 0 ≤ 4294967295) := fun j hj => by
            by_cases e : j < q
            ·exact HD.out j e
            ·rw [show j = q by omega]; exact wi_of qd
           rw [qd] at HWd
           generalize z.getD (4 + q) 0 = x at *
           clear qd hlt
           go_wp2_with (go_at_call 59; refine (HWd.out _).mono ?_; rintro e w2 ⟨rfl, rfl⟩)
           exact ⟨⟨q + 1, by omega, by go_num, HD2⟩, by simp [intOf]; omega⟩
         ·obtain rfl : q = 12 := by omega
          clear hlt hq
          cases q16 : wiB a16 0 4294967295
          ·have HA := hid (hb16.out (wi_not q16))
           rw [q16] at HW16;clear q16
           go_wp2_with (go_at_call 59; refine (HW16.out _).mono ?_; rintro e w2 ⟨rfl, rfl⟩)
           go_ret
           exact ⟨by rw [HV.out, HA.out]; rfl, HBW.out⟩
          ·cases q17 : wiB a17 0 4294967295
           ·have HA := hid (hb17.out (wi_not q17))
            rw [q16] at HW16;rw [q17] at HW17;clear q16 q17
            go_wp2_with (first | (go_at_call 59; refine (HW16.out _).mono ?_; rintro e w2 ⟨rfl, rfl⟩; clear HW16) | (go_at_call 59; refine (HW17.out _).mono ?_; rintro e w2 ⟨rfl, rfl⟩; clear HW17))
            go_ret
            exact ⟨by rw [HV.out, HA.out]; rfl, HBW.out⟩
           ·have HA := hid (HAll.out HK02.out HP1.out HP2.out HP3.out HD.out (wi_of q16) (wi_of q17))
            rw [q16] at HW16;rw [q17] at HW17;clear q16 q17
            go_wp2_with (first | (go_at_call 59; refine (HW16.out _).mono ?_; rintro e w2 ⟨rfl, rfl⟩; clear HW16) | (go_at_call 59; refine (HW17.out _).mono ?_; rintro e w2 ⟨rfl, rfl⟩; clear HW17))
            go_ret
            exact ⟨by rw [HV.out, HA.out]; rfl, HBW.out⟩
  ·have HA := hid (hb0.out (fun e => by
    have e2 : K ≤ 2 := e.2
    omega))
   have hk1 : (K != 1) = true := by simpa using fun e => hK (.inl e)
   have hk2 : (K != 2) = true := by simpa using fun e => hK (.inr e)
   clear hK
   go_enter Tryz.func61, Tryz.ntmps61
   go_wp2
   go_ret
   exact ⟨by rw [HV.out, HA.out]; rfl, HBW.out⟩

end Go.Proofs.YtboammbcoleicabGreat

namespace Go.Proofs.YtboammbcoleicabGreat
open Go.RowKit

theorem lay_next (z : List Int) (m P L : Nat) (hp : pls.getD m (0, 0) = ((P : Int), (L : Int))) : layS (numsIno z (m + 1)) = putN (layS (numsIno z m)) P (z.getD m 0) L := by
 rw [numsIno_succ, layS_snoc];unfold numI;rw [hp]
 simp
theorem pls_dir {i : Nat} (h : i < 12) : pls.getD (4 + i) (0, 0) = (((16 + 4 * i : Nat) : Int), ((4 : Nat) : Int)) := by
 have : ∀ i, i < 12 → pls.getD (4 + i) (0, 0) = (((16 + 4 * i : Nat) : Int), ((4 : Nat) : Int)) := by decide
 exact this i h
theorem most_le : ∀ m, m < 18 → most.getD m 0 ≤ 1099511627776 := by decide
def IRq (w : World) (z : List Int) (g m : Nat) (wr : World) : Prop :=
 wr.heap[w.heap.size]? = some (.cells (NA z) 66 (0, 0)) ∧ wr.heap[w.heap.size + 1]? = some (.cells (SA Zs) 46 (0, 0)) ∧ wr.heap[g]? = some (.cells (SA (layS (numsIno z m))) 46 (0, 0)) ∧ w.heap.size + 1 < g ∧ Below w.heap.size w wr
theorem IRq.put {w wr w1 w2 : World} {z : List Int} {g m P L : Nat} {x : Int} (h : IRq w z g m wr) (hx : z.getD m 0 = x) (hb : Below wr.heap.size wr w1) (hp : pls.getD m (0, 0) = ((P : Int), (L : Int))) (h2 : PutR w1 g (SA (putN (layS (numsIno z m)) P x L)) 46 w2) : IRq w z g (m + 1) w2 := by
 subst hx;obtain ⟨h1, h3, h4, h5, h6⟩ := h;have hs := slt h4;refine ⟨?_, ?_, ?_, h5, h2.below (btr h6 hb h6.size) (by omega)⟩
 ·rw [h2.other _ (by omega), hb.block _ (slt h1)]; exact h1
 ·rw [h2.other _ (by omega), hb.block _ (slt h3)]; exact h3
 ·rw [lay_next z m P L hp]; exact h2.here
theorem layN_len (z : List Int) (m : Nat) : (layS (numsIno z m)).length = 128 := (layS_sec _).1
theorem store_secR {ops : Array Oper} {rest : List Oper} {o : Oper} {a : Act} {w : World} {Q : Exit → Act → World → Prop} (hgd : o.guard = none) (x y : Operand) (ho : o.op = .store 46 x y) (g : Nat) (hx : a.eval x = .pointer (some ⟨g, 0, none⟩)) (c : List Int) (hy : a.eval y = .agg (SA c)) (hc : c.length = 128) (old : List Int) (hold : old.length = 128) (hg : w.heap[g]? = some (.cells (SA old) 46 (0, 0)))
  (h : ∀ w', PutR w g (SA c) 46 w' → wpList Tryz.prog ops Q rest (a.put o.dst undef) w') : wpList Tryz.prog ops Q (o :: rest) a w :=
 store_R hgd 46 x y ho g (SA c) hx hy 46 (SA old) hg (by rw [sz26, SA_size, hc]) (by rw [SA_size, SA_size, hc, hold]) (SA_one c) h

section
variable {ops : Array Oper} {Q : Exit → Act → World → Prop} {S : World → Prop} {fuel : Nat} {listed : Array Bool} {a : Act} {w : World}
theorem stR (i d : Nat) (t : TypeId) (x : Operand) (g : Nat) (tb : TypeId) (c : Array Value) (td : TypeDesc) {o : Oper} (hop : ops[i]? = some o) (hd : o.dst = some d) (hw : Region.wanted o (yielded ops a.tmps) = true) (ho : o.op = .load t x) (hx : a.eval x = .pointer (some ⟨g, 0, none⟩)) (hu : Tryz.prog.underlying t = some td) (htd : td.isRow = true) (hi : (Tryz.prog.info? t).map (·.size) = some c.size)
  (hg : w.heap[g]? = some (.cells c tb (0, 0))) (hS : S w)
  (h : wpAnyH Tryz.prog .any ops Q S fuel (listed.setIfInBounds i true) { a with tmps := a.tmps.setIfInBounds d (.agg c) } w) : St ops Q S fuel listed a w i := by
 refine wpOp_step hop (fun K hK => ?_);rw [if_pos hw];unfold Oper.wp execOp
 simp only [ho, hx, Instr.loadAt, Instr.sureAddr, Sem.run_bind, Sem.run_pure, Result.andThen_ok, run_loadR w g t tb c td hg hu htd hi]
 refine hK _ _ ⟨hS, ?_⟩;unfold Act.put;rw [hd]
 exact h
end
set_option maxRecDepth 100000 in
set_option maxHeartbeats 500000 in
theorem rinodeSector_any (z : List Int) (hz : z.length = 18) (w : World) :
  Calls Tryz.prog 37 #[.agg (NA z)] w fun e w' => e = .returned (.tuple #[.agg (SA (inoS z)), .int .i64 (inoE z)]) ∧ Below w.heap.size w w' := by
 have hzs := zero_sec;have hbs := build_sec;have HB0 : Hid (((w.alloc (.cells (NA z) 66)).alloc (.cells (SA Zs) 46)).heap[w.heap.size]? = some (.cells (NA z) 66 (0, 0))) := heap_alloc2_old w _ _;have HB1 : Hid (((w.alloc (.cells (NA z) 66)).alloc (.cells (SA Zs) 46)).heap[w.heap.size + 1]? = some (.cells (SA Zs) 46 (0, 0))) := heap_alloc2_new w _ _;have HBW : Hid (Below w.heap.size w ((w.alloc (.cells (NA z) 66)).alloc (.cells (SA Zs) 46))) := ((Below.refl _ _).alloc (Nat.le_refl _) _).alloc (by simp) _
 have HSz : Hid (((w.alloc (.cells (NA z) 66)).alloc (.cells (SA Zs) 46)).heap.size = w.heap.size + 2) := by show _ = _; simp
 have HM := hid fun w => rinodeMay_any z hz w
 cases hi : inoB z
 ·have HE : Hid (inoS z = Zs ∧ inoE z = 61) := ⟨by simp [inoS, hi], by simp [inoE, hi]⟩
  rw [hi] at HM;clear hi
  go_enter Tryz.func37, Tryz.ntmps37
  go_upto_region 2 with (first | refine load_R rfl 66 (.tmp 1) rfl w.heap.size rfl 66 _ _ HB0.out Tryz.underlying66 rfl (by rw [szI, NA_size, hz]) ?_ | (go_at_call 61; refine (HM.out _).mono ?_; rintro e w1 ⟨rfl, b1⟩; have B1 := hid b1; clear b1))
  have HR1 : Hid (w1.heap[w.heap.size + 1]? = some (.cells (SA Zs) 46 (0, 0))) := by
   show _ = _
   rw [B1.out.block _ (slt HB1.out)]
   exact HB1.out
  have HC1 := hid (btr HBW.out B1.out HBW.out.size)
  go_wp2_with (refine store_secR rfl (.tmp 2) _ rfl (w.heap.size + 1) rfl Zs rfl Zs_len Zs Zs_len HR1.out ?_; intro w3 hw3; have H3 := hid hw3; clear hw3)
  rw [HE.out.1, HE.out.2]
  exact bodyPost_ret (v := .tuple #[.agg (SA Zs), .int .i64 61]) (results_sec Tryz.results37 _ _ (w.heap.size + 1) Zs Zs_len _ rfl rfl H3.out.here) rfl ⟨rfl, H3.out.below HC1.out (by omega)⟩
 ·have HE : Hid (inoS z = layS (numsIno z 18) ∧ inoE z = 0) := ⟨by simp [inoS, hi], by simp [inoE, hi]⟩
  have HV : Hid (∀ m, m < 18 → 0 ≤ z.getD m 0 ∧ z.getD m 0 ≤ 9223372036854775807) := fun m hm => ⟨(ino_le hi m hm).1, by have := (ino_le hi m hm).2; have := most_le m hm; omega⟩
  rw [hi] at HM;clear hi
  go_enter Tryz.func37, Tryz.ntmps37
  go_upto_region 3 with (first | refine load_R rfl 66 (.tmp 1) rfl w.heap.size rfl 66 _ _ HB0.out Tryz.underlying66 rfl (by rw [szI, NA_size, hz]) ?_ | (go_at_call 61; refine (HM.out _).mono ?_; rintro e w1 ⟨rfl, b1⟩; have B1 := hid b1; clear b1))
  go_upto_region 4 with (fail)
  have I0 : Hid (IRq w z w1.heap.size 0 (w1.alloc (.cells (SA Zs) 46))) := by
   have hb2 : Below w1.heap.size w1 (w1.alloc (.cells (SA Zs) 46)) := (Below.refl _ _).alloc (Nat.le_refl _) _;have e0 := slt HB0.out;have e1 := slt HB1.out;have e2 := B1.out.size;have hs1 := HSz.out;refine ⟨?_, ?_, heap_alloc_new w1 _, by omega, btr (btr HBW.out B1.out HBW.out.size) hb2 (Nat.le_trans HBW.out.size B1.out.size)⟩
   ·rw [hb2.block _ (by omega), B1.out.block _ e0]; exact HB0.out
   ·rw [hb2.block _ (by omega), B1.out.block _ e1]; exact HB1.out
  clear HB0 HB1 HBW HSz HM B1 hzs hbs
  generalize w1.alloc (.cells (SA Zs) 46) = v0 at *
  generalize w1.heap.size = g at *
  have kf0 := row_cell I0.out.1 0 (by omega)
  have HL0 := hid fun w => rlay_any (layS (numsIno z 0)) 0 1 (z.getD 0 0) w (layN_len z 0) (by decide) (HV.out 0 (by decide)).1 (HV.out 0 (by decide)).2
  obtain ⟨x0, hx0⟩ : ∃ x, z.getD 0 0 = x := ⟨_, rfl⟩;rw [hx0] at kf0 HL0;replace hx0 := hid hx0
  have hpl0 : Hid ((putN (layS (numsIno z 0)) 0 x0 1).length = 128) := by show _ = _; rw [putN_len, layN_len]
  go_upto_region 5 with (first | refine load_sec rfl (.tmp 4) rfl g rfl (layS (numsIno z 0)) (layN_len z 0) I0.out.2.2.1 ?_ | (go_at_call 60; refine (HL0.out _).mono ?_; rintro e u0 ⟨rfl, c0⟩; have C0 := hid c0; clear c0) | (refine store_secR rfl (.tmp 4) _ rfl g rfl (putN (layS (numsIno z 0)) 0 x0 1) rfl hpl0.out (layS (numsIno z 0)) (layN_len z 0) (by rw [C0.out.block _ (slt I0.out.2.2.1)]; exact I0.out.2.2.1) ?_; intro v1 p0; have I1 := hid (I0.out.put hx0.out C0.out (P := 0) (L := 1) (by decide) p0); clear p0))
  clear kf0 HL0 hpl0 C0 I0;have kf1 := row_cell I1.out.1 1 (by omega)
  have HL1 := hid fun w => rlay_any (layS (numsIno z 1)) 1 1 (z.getD 1 0) w (layN_len z 1) (by decide) (HV.out 1 (by decide)).1 (HV.out 1 (by decide)).2
  obtain ⟨x1, hx1⟩ : ∃ x, z.getD 1 0 = x := ⟨_, rfl⟩;rw [hx1] at kf1 HL1;replace hx1 := hid hx1
  have hpl1 : Hid ((putN (layS (numsIno z 1)) 1 x1 1).length = 128) := by show _ = _; rw [putN_len, layN_len]
  go_upto_region 6 with (first | refine load_sec rfl (.tmp 4) rfl g rfl (layS (numsIno z 1)) (layN_len z 1) I1.out.2.2.1 ?_ | (go_at_call 60; refine (HL1.out _).mono ?_; rintro e u1 ⟨rfl, c1⟩; have C1 := hid c1; clear c1) | (refine store_secR rfl (.tmp 4) _ rfl g rfl (putN (layS (numsIno z 1)) 1 x1 1) rfl hpl1.out (layS (numsIno z 1)) (layN_len z 1) (by rw [C1.out.block _ (slt I1.out.2.2.1)]; exact I1.out.2.2.1) ?_; intro v2 p1; have I2 := hid (I1.out.put hx1.out C1.out (P := 1) (L := 1) (by decide) p1); clear p1))
  clear kf1 HL1 hpl1 C1 I1;have kf2 := row_cell I2.out.1 2 (by omega)
  have HL2 := hid fun w => rlay_any (layS (numsIno z 2)) 4 4 (z.getD 2 0) w (layN_len z 2) (by decide) (HV.out 2 (by decide)).1 (HV.out 2 (by decide)).2
  obtain ⟨x2, hx2⟩ : ∃ x, z.getD 2 0 = x := ⟨_, rfl⟩;rw [hx2] at kf2 HL2;replace hx2 := hid hx2
  have hpl2 : Hid ((putN (layS (numsIno z 2)) 4 x2 4).length = 128) := by show _ = _; rw [putN_len, layN_len]
  go_upto_region 7 with (first | refine load_sec rfl (.tmp 4) rfl g rfl (layS (numsIno z 2)) (layN_len z 2) I2.out.2.2.1 ?_ | (go_at_call 60; refine (HL2.out _).mono ?_; rintro e u2 ⟨rfl, c2⟩; have C2 := hid c2; clear c2) | (refine store_secR rfl (.tmp 4) _ rfl g rfl (putN (layS (numsIno z 2)) 4 x2 4) rfl hpl2.out (layS (numsIno z 2)) (layN_len z 2) (by rw [C2.out.block _ (slt I2.out.2.2.1)]; exact I2.out.2.2.1) ?_; intro v3 p2; have I3 := hid (I2.out.put hx2.out C2.out (P := 4) (L := 4) (by decide) p2); clear p2))
  clear kf2 HL2 hpl2 C2 I2;have kf3 := row_cell I3.out.1 3 (by omega)
  have HL3 := hid fun w => rlay_any (layS (numsIno z 3)) 8 8 (z.getD 3 0) w (layN_len z 3) (by decide) (HV.out 3 (by decide)).1 (HV.out 3 (by decide)).2
  obtain ⟨x3, hx3⟩ : ∃ x, z.getD 3 0 = x := ⟨_, rfl⟩;rw [hx3] at kf3 HL3;replace hx3 := hid hx3
  have hpl3 : Hid ((putN (layS (numsIno z 3)) 8 x3 8).length = 128) := by show _ = _; rw [putN_len, layN_len]
  go_upto_region 8 with (first | refine load_sec rfl (.tmp 4) rfl g rfl (layS (numsIno z 3)) (layN_len z 3) I3.out.2.2.1 ?_ | (go_at_call 60; refine (HL3.out _).mono ?_; rintro e u3 ⟨rfl, c3⟩; have C3 := hid c3; clear c3) | (refine store_secR rfl (.tmp 4) _ rfl g rfl (putN (layS (numsIno z 3)) 8 x3 8) rfl hpl3.out (layS (numsIno z 3)) (layN_len z 3) (by rw [C3.out.block _ (slt I3.out.2.2.1)]; exact I3.out.2.2.1) ?_; intro v4 p3; have I4 := hid (I3.out.put hx3.out C3.out (P := 8) (L := 8) (by decide) p3); clear p3))
  clear kf3 HL3 hpl3 C3 I3
  go_wp2
  go_loopw [5] (fun i wr => ∃ q : Nat, q ≤ 12 ∧ i = .int .i64 q ∧ Hid (IRq w z g (4 + q) wr)) (fun i _ => 12 - (intOf i).toNat)
  case atStart => exact ⟨0, by omega, rfl, I4⟩
  case round =>
   clear I4;obtain ⟨q, hq, rfl, HI⟩ := hrel
   by_cases hlt : q < 12
   ·have hqi : (q : Int) < 12 := by omega
    have HL := hid fun w => rlay_any (layS (numsIno z (4 + q))) (16 + 4 * q) 4 (z.getD (4 + q) 0) w (layN_len z (4 + q)) (by omega) (HV.out (4 + q) (by omega)).1 (HV.out (4 + q) (by omega)).2
    rw [show ((16 + 4 * q : Nat) : Int) = 16 + 4 * (q : Int) by omega] at HL
    have HCq : Hid (∀ w' : World, w'.heap[w.heap.size]? = some (.cells (NA z) 66 (0, 0)) → w'.cell? ⟨w.heap.size, 4 + q, none⟩ = some (.int .i64 (z.getD (4 + q) 0))) := fun w' h => row_cell h (4 + q) (by omega)
    obtain ⟨x, hx⟩ : ∃ x, z.getD (4 + q) 0 = x := ⟨_, rfl⟩;rw [hx] at HL HCq;replace hx := hid hx
    have hpl : Hid ((putN (layS (numsIno z (4 + q))) (16 + 4 * q) x 4).length = 128) := by show _ = _; rw [putN_len, layN_len]
    have hpd := hid (pls_dir hlt);have HIL := hid (layN_len z (4 + q))
    go_upto_region 11 with (fail)
    refine wp_region_noPanic ?_;refine wp_region_held_drew (S := fun w' => w'.heap[w.heap.size]? = some (.cells (NA z) 66 (0, 0))) (by kernel_rfl) HI.out.1 (fun hH => ?_);refine tV 1 31 (.int .i64 (q : Int)) rfl (by kernel_rfl) rfl (by rfl) hH (fun _ hw' => rfl) ?_;simp only [sS];refine tV 2 32 (.int .i64 (4 * (q : Int))) rfl (by kernel_rfl) rfl (by rfl) hH (fun _ hw' => by go_simp; exact IntWalk.i64_in _ (by omega)) ?_;simp only [sS];refine tV 3 33 (.int .i64 (16 + 4 * (q : Int))) rfl (by kernel_rfl) rfl (by rfl) hH (fun _ hw' => by go_simp; exact IntWalk.i64_in _ (by omega)) ?_;simp only [sS];refine tV 4 34 (.int .i64 (q : Int)) rfl (by kernel_rfl) rfl (by rfl) hH (fun _ hw' => rfl) ?_;simp only [sS];refine tV 5 35 (.pointer (some ⟨w.heap.size, 4, none⟩)) rfl (by kernel_rfl) rfl (by rfl) hH (fun _ hw' => by go_simp) ?_;simp only [sS];refine tV 6 36 (.pointer (some ⟨w.heap.size, 4 + q, none⟩)) rfl (by kernel_rfl) rfl (by rfl) hH (fun _ hw' => by go_simp) ?_;simp only [sS];refine tV 7 37 (.int .i64 x) rfl (by kernel_rfl) rfl (by rfl) hH (fun _ hw' => by have cc := HCq.out _ hw'; go_simp) ?_;simp only [sS];refine step1 0 (by kernel_rfl) ?_;refine stR 0 30 46 (.tmp 4) g 46 (SA (layS (numsIno z (4 + q)))) _ rfl rfl (by rfl) rfl rfl Tryz.underlying46 rfl (by rw [sz26, SA_size, HIL.out]) HI.out.2.2.1 hH ?_;simp only [sS];refine step1 8 (by kernel_rfl) ?_;refine stCall 8 38 60 #[.agg (SA (layS (numsIno z (4 + q)))), .int .i64 (16 + 4 * (q : Int)), .int .i64 4, .int .i64 x] _ rfl rfl (by rfl) (by go_simp) (HL.out _) ?_
    rintro e wa ⟨rfl, bwa⟩
    have hH : wa.heap[w.heap.size]? = some (.cells (NA z) 66 (0, 0)) := by rw [bwa.block _ (slt hH)]; exact hH
    have hG : wa.heap[g]? = some (.cells (SA (layS (numsIno z (4 + q)))) 46 (0, 0)) := by rw [bwa.block _ (slt HI.out.2.2.1)]; exact HI.out.2.2.1
    refine ⟨_, rfl, hH, ?_⟩;simp only [sS];refine step1 9 (by kernel_rfl) ?_;refine stStoreR 9 46 (.tmp 4) (.tmp 38) g (SA (putN (layS (numsIno z (4 + q))) (16 + 4 * q) x 4)) 46 (SA (layS (numsIno z (4 + q)))) rfl rfl (by rfl) rfl rfl rfl hG (by rw [sz26, SA_size, hpl.out]) (by rw [SA_size, SA_size, hpl.out, HIL.out]) (SA_one _) ?_
    intro wT hT
    have hwr : Below wr.heap.size wr wr.drew := ⟨rfl, rfl, rfl, Nat.le_refl _, fun _ _ => rfl⟩;have IN := hid (HI.out.put hx.out (btr hwr bwa (Nat.le_refl _)) hpd.out hT);refine ⟨by rw [hT.other _ (by have := HI.out.2.2.2.1; omega)]; exact hH, ?_⟩;refine wpAnyH_done (by kernel_rfl) ?_ _;refine NoPanic.normal ?_;clear hH
    go_wp2_with fail
    exact ⟨⟨q + 1, by omega, by go_num, IN⟩, by simp [intOf]; omega⟩
   ·obtain rfl : q = 12 := by omega
    have I16 : Hid (IRq w z g 16 wr) := HI;clear hlt hq HI;have kf16 := row_cell I16.out.1 16 (by omega)
    have HL16 := hid fun w => rlay_any (layS (numsIno z 16)) 64 4 (z.getD 16 0) w (layN_len z 16) (by decide) (HV.out 16 (by decide)).1 (HV.out 16 (by decide)).2
    obtain ⟨x16, hx16⟩ : ∃ x, z.getD 16 0 = x := ⟨_, rfl⟩;rw [hx16] at kf16 HL16;replace hx16 := hid hx16
    have hpl16 : Hid ((putN (layS (numsIno z 16)) 64 x16 4).length = 128) := by show _ = _; rw [putN_len, layN_len]
    go_upto_region 13 with (first | refine load_sec rfl (.tmp 4) rfl g rfl (layS (numsIno z 16)) (layN_len z 16) I16.out.2.2.1 ?_ | (go_at_call 60; refine (HL16.out _).mono ?_; rintro e u16 ⟨rfl, c16⟩; have C16 := hid c16; clear c16) | (refine store_secR rfl (.tmp 4) _ rfl g rfl (putN (layS (numsIno z 16)) 64 x16 4) rfl hpl16.out (layS (numsIno z 16)) (layN_len z 16) (by rw [C16.out.block _ (slt I16.out.2.2.1)]; exact I16.out.2.2.1) ?_; intro v17 p16; have I17 := hid (I16.out.put hx16.out C16.out (P := 64) (L := 4) (by decide) p16); clear p16))
    clear kf16 HL16 hpl16 C16 I16;have kf := row_cell I17.out.1 17 (by omega)
    have HL := hid fun w => rlay_any (layS (numsIno z 17)) 68 4 (z.getD 17 0) w (layN_len z 17) (by decide) (HV.out 17 (by decide)).1 (HV.out 17 (by decide)).2
    have HF0 := lay_next z 17 68 4 (by decide);obtain ⟨x, hx⟩ : ∃ x, z.getD 17 0 = x := ⟨_, rfl⟩;rw [hx] at kf HL HF0;clear hx
    have hpl : Hid ((putN (layS (numsIno z 17)) 68 x 4).length = 128) := by show _ = _; rw [putN_len, layN_len]
    have HF : Hid (putN (layS (numsIno z 17)) 68 x 4 = layS (numsIno z 18)) := HF0.symm;clear HF0
    go_wp2_with (first | refine load_sec rfl (.tmp 4) rfl g rfl (layS (numsIno z 17)) (layN_len z 17) I17.out.2.2.1 ?_ | (go_at_call 60; refine (HL.out _).mono ?_; rintro e u ⟨rfl, c⟩; have C := hid c; clear c) | (refine store_secR rfl (.tmp 2) _ rfl (w.heap.size + 1) rfl (putN (layS (numsIno z 17)) 68 x 4) rfl hpl.out Zs Zs_len (by rw [C.out.block _ (slt I17.out.2.1)]; exact I17.out.2.1) ?_; intro v pp; have PP := hid pp; clear pp))
    rw [HE.out.1, HE.out.2, ← HF.out]
    exact bodyPost_ret (v := .tuple #[.agg (SA (putN (layS (numsIno z 17)) 68 x 4)), .int .i64 0]) (results_sec Tryz.results37 _ _ (w.heap.size + 1) _ hpl.out _ rfl rfl PP.out.here) rfl ⟨rfl, PP.out.below (btr I17.out.2.2.2.2 C.out I17.out.2.2.2.2.size) (by omega)⟩

end Go.Proofs.YtboammbcoleicabGreat

namespace Go.Proofs.YtboammbcoleicabGreat
open Go.RowKit

def pv (s : List Int) (m : Nat) : Int := sayV s (pls.getD m (0, 0)).1 (pls.getD m (0, 0)).2
def yTo (s : List Int) (q : Nat) : List Int := (List.range 18).map fun m => if m < 4 + q ∨ 16 ≤ m then pv s m else 0
theorem yTo_len (s : List Int) (q : Nat) : (yTo s q).length = 18 := by simp [yTo]
theorem yTo_zero (s : List Int) : yTo s 0 = [(sayV s 0 1), (sayV s 1 1), (sayV s 4 4), (sayV s 8 8), 0, 0, 0, 0, 0, 0, 0, 0, 0, 0, 0, 0, (sayV s 64 4), (sayV s 68 4)] := by
 unfold yTo pv
 rfl
theorem yTo_step (s : List Int) (q : Nat) : (yTo s q).set (4 + q) (pv s (4 + q)) = yTo s (q + 1) := by
 apply List.ext_getElem
 ·simp [yTo]
 ·intro i h1 h2
  simp only [yTo, List.getElem_set, List.getElem_map, List.getElem_range]
  by_cases e : 4 + q = i
  ·rw [if_pos e, if_pos (by omega), e]
  ·rw [if_neg e]
   by_cases c : i < 4 + q ∨ 16 ≤ i
   ·rw [if_pos c, if_pos (by omega)]
   ·rw [if_neg c, if_neg (by omega)]
def yA (s : List Int) : List Int := yTo s 12
theorem build_ino6 (a b c d e f : Int) (w : World) : (Instr.build 66 #[(0, .int .i64 a), (1, .int .i64 b), (2, .int .i64 c), (3, .int .i64 d), (5, .int .i64 e), (6, .int .i64 f)]).run Tryz.prog w = .ok (.agg (NA [a, b, c, d, 0, 0, 0, 0, 0, 0, 0, 0, 0, 0, 0, 0, e, f])) w := by kernel_rfl
theorem inoS_len (z : List Int) : (inoS z).length = 128 := by
 unfold inoS
 split
 ·exact (layS_sec _).1
 ·exact Zs_len

set_option maxRecDepth 100000 in
set_option maxHeartbeats 6000000 in
theorem rreadInode_any (s : List Int) (hs : IsSec s) (w : World) :
  Calls Tryz.prog 21 #[.agg (SA s)] w fun e w' => e = .returned (.tuple #[.agg (NA (rdIno (yA s) s).1), .int .i64 (rdIno (yA s) s).2]) ∧ Below w.heap.size w w' := by
 have hz := zero_sec;have hzs := zero_inode;have hbs := build_inode;obtain ⟨W, hW⟩ : ∃ x, x = (w.alloc (.cells (SA s) 46)).alloc (.cells (NA Zi) 66) := ⟨_, rfl⟩
 have hg1 : W.heap[w.heap.size]? = some (.cells (SA s) 46 (0, 0)) := by rw [hW]; exact heap_alloc2_old w _ _
 have hg2 : W.heap[w.heap.size + 1]? = some (.cells (NA Zi) 66 (0, 0)) := by rw [hW]; exact heap_alloc2_new w _ _
 obtain ⟨B, hB⟩ : ∃ x, x = W.heap.size := ⟨_, rfl⟩
 have hB2 : B = w.heap.size + 2 := by rw [hB, hW]; simp
 have hbW : Below w.heap.size w W := by rw [hW]; exact ((Below.refl _ _).alloc (Nat.le_refl _) _).alloc (by simp) _
 go_enter Tryz.func21, Tryz.ntmps21
 go_upto_region 1 with fail
 rw [← hW]
 go_cut [4] (fun x wc => ∃ g : Nat, x = .pointer (some ⟨g, 0, none⟩) ∧ Hid (B ≤ g ∧ wc.heap[g]? = some (.cells (NA (yTo s 0)) 66 (0, 0)) ∧ Below B W wc))
 case first =>
   refine wp_region_noPanic ?_;refine wp_region_held_drew (S := fun w' => w'.heap[w.heap.size]? = some (.cells (SA s) 46 (0, 0))) (by as_aux_lemma => kernel_rfl) (hg1) (fun hH => ?_);have b0 : Below B W W.drew := below_drew (Below.refl _ _)
   have z0 : B ≤ W.drew.heap.size := by rw [hB]; exact Nat.le_refl _
   refine takeSec 0 8 (.tmp 1) w.heap.size s hs.1 rfl (by as_aux_lemma => kernel_rfl) (by as_aux_lemma => kernel_rfl) (by as_aux_lemma => kernel_rfl) rfl rfl rfl (by rfl) (fun _ _ _ h => h) hH (fun _ h => h) ?_;simp only [sS];refine takeSec 2 10 (.tmp 1) w.heap.size s hs.1 rfl (by as_aux_lemma => kernel_rfl) (by as_aux_lemma => kernel_rfl) (by as_aux_lemma => kernel_rfl) rfl rfl rfl (by rfl) (fun _ _ _ h => h) hH (fun _ h => h) ?_;simp only [sS];refine takeSec 4 12 (.tmp 1) w.heap.size s hs.1 rfl (by as_aux_lemma => kernel_rfl) (by as_aux_lemma => kernel_rfl) (by as_aux_lemma => kernel_rfl) rfl rfl rfl (by rfl) (fun _ _ _ h => h) hH (fun _ h => h) ?_;simp only [sS];refine takeSec 6 14 (.tmp 1) w.heap.size s hs.1 rfl (by as_aux_lemma => kernel_rfl) (by as_aux_lemma => kernel_rfl) (by as_aux_lemma => kernel_rfl) rfl rfl rfl (by rfl) (fun _ _ _ h => h) hH (fun _ h => h) ?_;simp only [sS];refine takeSec 8 16 (.tmp 1) w.heap.size s hs.1 rfl (by as_aux_lemma => kernel_rfl) (by as_aux_lemma => kernel_rfl) (by as_aux_lemma => kernel_rfl) rfl rfl rfl (by rfl) (fun _ _ _ h => h) hH (fun _ h => h) ?_;simp only [sS];refine takeSec 10 18 (.tmp 1) w.heap.size s hs.1 rfl (by as_aux_lemma => kernel_rfl) (by as_aux_lemma => kernel_rfl) (by as_aux_lemma => kernel_rfl) rfl rfl rfl (by rfl) (fun _ _ _ h => h) hH (fun _ h => h) ?_;simp only [sS];refine step2 1 13 (by as_aux_lemma => kernel_rfl) ?_ ?_
   ·refine stCall 1 9 35 #[.agg (SA s), .int .i64 0, .int .i64 1] _ rfl rfl (by rfl) (by go_simp) (says_any s 0 1 _ hs (by decide) (by decide) (by decide) (by decide)) ?_
    rintro e w1c ⟨rfl, hb1c⟩
    have b1c : Below B W w1c := btr b0 hb1c (by have := b0.size; omega)
    have z1c : B ≤ w1c.heap.size := by have := b1c.size; omega
    have hH : w1c.heap[w.heap.size]? = some (.cells (SA s) 46 (0, 0)) := by rw [b1c.block _ (by omega)]; exact hg1
    refine ⟨_, rfl, hH, ?_⟩;simp only [sS];refine step2 3 13 (by as_aux_lemma => kernel_rfl) ?_ ?_
    ·refine stCall 3 11 35 #[.agg (SA s), .int .i64 1, .int .i64 1] _ rfl rfl (by rfl) (by go_simp) (says_any s 1 1 _ hs (by decide) (by decide) (by decide) (by decide)) ?_
     rintro e w2c ⟨rfl, hb2c⟩
     have b2c : Below B W w2c := btr b1c hb2c (by have := b1c.size; omega)
     have z2c : B ≤ w2c.heap.size := by have := b2c.size; omega
     have hH : w2c.heap[w.heap.size]? = some (.cells (SA s) 46 (0, 0)) := by rw [b2c.block _ (by omega)]; exact hg1
     refine ⟨_, rfl, hH, ?_⟩;simp only [sS];refine step2 5 13 (by as_aux_lemma => kernel_rfl) ?_ ?_
     ·refine stCall 5 13 35 #[.agg (SA s), .int .i64 4, .int .i64 4] _ rfl rfl (by rfl) (by go_simp) (says_any s 4 4 _ hs (by decide) (by decide) (by decide) (by decide)) ?_
      rintro e w3c ⟨rfl, hb3c⟩
      have b3c : Below B W w3c := btr b2c hb3c (by have := b2c.size; omega)
      have z3c : B ≤ w3c.heap.size := by have := b3c.size; omega
      have hH : w3c.heap[w.heap.size]? = some (.cells (SA s) 46 (0, 0)) := by rw [b3c.block _ (by omega)]; exact hg1
      refine ⟨_, rfl, hH, ?_⟩;simp only [sS];refine step2 7 13 (by as_aux_lemma => kernel_rfl) ?_ ?_
      ·refine stCall 7 15 35 #[.agg (SA s), .int .i64 8, .int .i64 8] _ rfl rfl (by rfl) (by go_simp) (says_any s 8 8 _ hs (by decide) (by decide) (by decide) (by decide)) ?_
       rintro e w4c ⟨rfl, hb4c⟩
       have b4c : Below B W w4c := btr b3c hb4c (by have := b3c.size; omega)
       have z4c : B ≤ w4c.heap.size := by have := b4c.size; omega
       have hH : w4c.heap[w.heap.size]? = some (.cells (SA s) 46 (0, 0)) := by rw [b4c.block _ (by omega)]; exact hg1
       refine ⟨_, rfl, hH, ?_⟩;simp only [sS];refine step2 9 13 (by as_aux_lemma => kernel_rfl) ?_ ?_
       ·refine stCall 9 17 35 #[.agg (SA s), .int .i64 64, .int .i64 4] _ rfl rfl (by rfl) (by go_simp) (says_any s 64 4 _ hs (by decide) (by decide) (by decide) (by decide)) ?_
        rintro e w5c ⟨rfl, hb5c⟩
        have b5c : Below B W w5c := btr b4c hb5c (by have := b4c.size; omega)
        have z5c : B ≤ w5c.heap.size := by have := b5c.size; omega
        have hH : w5c.heap[w.heap.size]? = some (.cells (SA s) 46 (0, 0)) := by rw [b5c.block _ (by omega)]; exact hg1
        refine ⟨_, rfl, hH, ?_⟩;simp only [sS];refine step2 11 13 (by as_aux_lemma => kernel_rfl) ?_ ?_
        ·refine stCall 11 19 35 #[.agg (SA s), .int .i64 68, .int .i64 4] _ rfl rfl (by rfl) (by go_simp) (says_any s 68 4 _ hs (by decide) (by decide) (by decide) (by decide)) ?_
         rintro e w6c ⟨rfl, hb6c⟩
         have b6c : Below B W w6c := btr b5c hb6c (by have := b5c.size; omega)
         have z6c : B ≤ w6c.heap.size := by have := b6c.size; omega
         have hH : w6c.heap[w.heap.size]? = some (.cells (SA s) 46 (0, 0)) := by rw [b6c.block _ (by omega)]; exact hg1
         refine ⟨_, rfl, hH, ?_⟩;simp only [sS];refine takeVal 12 20 (.agg (NA (yTo s 0))) rfl (by as_aux_lemma => kernel_rfl) (by as_aux_lemma => kernel_rfl) (by as_aux_lemma => kernel_rfl) rfl (by rfl) (fun _ _ _ h => h) hH (fun _ hw' => by clear hzs hbs; have e := build_ino6 (sayV s 0 1) (sayV s 1 1) (sayV s 4 4) (sayV s 8 8) (sayV s 64 4) (sayV s 68 4); rw [yTo_zero]; go_simp; rfl) ?_;simp only [sS];refine step1 13 (by as_aux_lemma => kernel_rfl) ?_;refine stNew 13 4 (.pointer (some ⟨w6c.heap.size, 0, none⟩)) (.cells (NA Zi) 66) rfl rfl (by rfl) (by go_simp) ?_;have b7a : Below B W (w6c.alloc (.cells (NA Zi) 66)) := b6c.alloc (by have := b6c.size; omega) _
         have p7a : B ≤ w6c.heap.size := by have := b6c.size; omega
         have q7a : (w6c.alloc (.cells (NA Zi) 66)).heap[w6c.heap.size]? = some (.cells (NA Zi) 66 (0, 0)) := heap_alloc_new _ _
         have hH : (w6c.alloc (.cells (NA Zi) 66)).heap[w.heap.size]? = some (.cells (SA s) 46 (0, 0)) := by rw [b7a.block _ (by omega)]; exact hg1
         refine ⟨hH, ?_⟩;simp only [sS];refine step1 14 (by as_aux_lemma => kernel_rfl) ?_;refine stStoreR 14 66 (.tmp 4) (.tmp 20) (w6c.heap.size) (NA (yTo s 0)) 66 (NA Zi) rfl rfl (by rfl) rfl rfl rfl q7a (by rw [szI, NA_size, yTo_len]) (by rw [NA_size, NA_size, yTo_len]; rfl) (NA_one _) ?_
         intro wT hT
         have bT := hT.below b7a (by omega);refine ⟨by rw [bT.block _ (by omega)]; exact hg1, ?_⟩;refine wpAnyH_done (by as_aux_lemma => kernel_rfl) ?_ _;refine NoPanic.normal ?_;clear hH;have hP := hid (And.intro (show B ≤ w6c.heap.size by omega) (And.intro hT.here bT))
         go_wp2_with fail
         go_meet
         case rel => exact ⟨_, rfl, hP⟩
        ·refine stNew 13 4 (.pointer (some ⟨w5c.heap.size, 0, none⟩)) (.cells (NA Zi) 66) rfl rfl (by rfl) (by go_simp) ?_
         have b8a : Below B W (w5c.alloc (.cells (NA Zi) 66)) := b5c.alloc (by have := b5c.size; omega) _
         have p8a : B ≤ w5c.heap.size := by have := b5c.size; omega
         have q8a : (w5c.alloc (.cells (NA Zi) 66)).heap[w5c.heap.size]? = some (.cells (NA Zi) 66 (0, 0)) := heap_alloc_new _ _
         have hH : (w5c.alloc (.cells (NA Zi) 66)).heap[w.heap.size]? = some (.cells (SA s) 46 (0, 0)) := by rw [b8a.block _ (by omega)]; exact hg1
         refine ⟨hH, ?_⟩;simp only [sS];refine step1 11 (by as_aux_lemma => kernel_rfl) ?_;refine stCall 11 19 35 #[.agg (SA s), .int .i64 68, .int .i64 4] _ rfl rfl (by rfl) (by go_simp) (says_any s 68 4 _ hs (by decide) (by decide) (by decide) (by decide)) ?_
         rintro e w9c ⟨rfl, hb9c⟩
         have b9c : Below B W w9c := btr b8a hb9c (by have := b8a.size; omega)
         have z9c : B ≤ w9c.heap.size := by have := b9c.size; omega
         have hH : w9c.heap[w.heap.size]? = some (.cells (SA s) 46 (0, 0)) := by rw [b9c.block _ (by omega)]; exact hg1
         have q9c : w9c.heap[w5c.heap.size]? = some (.cells (NA Zi) 66 (0, 0)) := by rw [hb9c.block _ (slt q8a)]; exact q8a
         refine ⟨_, rfl, hH, ?_⟩;simp only [sS];refine takeVal 12 20 (.agg (NA (yTo s 0))) rfl (by as_aux_lemma => kernel_rfl) (by as_aux_lemma => kernel_rfl) (by as_aux_lemma => kernel_rfl) rfl (by rfl) (fun _ _ _ h => h) hH (fun _ hw' => by clear hzs hbs; have e := build_ino6 (sayV s 0 1) (sayV s 1 1) (sayV s 4 4) (sayV s 8 8) (sayV s 64 4) (sayV s 68 4); rw [yTo_zero]; go_simp; rfl) ?_;simp only [sS];refine step1 14 (by as_aux_lemma => kernel_rfl) ?_;refine stStoreR 14 66 (.tmp 4) (.tmp 20) (w5c.heap.size) (NA (yTo s 0)) 66 (NA Zi) rfl rfl (by rfl) rfl rfl rfl q9c (by rw [szI, NA_size, yTo_len]) (by rw [NA_size, NA_size, yTo_len]; rfl) (NA_one _) ?_
         intro wT hT
         have bT := hT.below b9c (by omega);refine ⟨by rw [bT.block _ (by omega)]; exact hg1, ?_⟩;refine wpAnyH_done (by as_aux_lemma => kernel_rfl) ?_ _;refine NoPanic.normal ?_;clear hH;have hP := hid (And.intro (show B ≤ w5c.heap.size by omega) (And.intro hT.here bT))
         go_wp2_with fail
         go_meet
         case rel => exact ⟨_, rfl, hP⟩
       ·refine stNew 13 4 (.pointer (some ⟨w4c.heap.size, 0, none⟩)) (.cells (NA Zi) 66) rfl rfl (by rfl) (by go_simp) ?_
        have b10a : Below B W (w4c.alloc (.cells (NA Zi) 66)) := b4c.alloc (by have := b4c.size; omega) _
        have p10a : B ≤ w4c.heap.size := by have := b4c.size; omega
        have q10a : (w4c.alloc (.cells (NA Zi) 66)).heap[w4c.heap.size]? = some (.cells (NA Zi) 66 (0, 0)) := heap_alloc_new _ _
        have hH : (w4c.alloc (.cells (NA Zi) 66)).heap[w.heap.size]? = some (.cells (SA s) 46 (0, 0)) := by rw [b10a.block _ (by omega)]; exact hg1
        refine ⟨hH, ?_⟩;simp only [sS];refine step1 9 (by as_aux_lemma => kernel_rfl) ?_;refine stCall 9 17 35 #[.agg (SA s), .int .i64 64, .int .i64 4] _ rfl rfl (by rfl) (by go_simp) (says_any s 64 4 _ hs (by decide) (by decide) (by decide) (by decide)) ?_
        rintro e w11c ⟨rfl, hb11c⟩
        have b11c : Below B W w11c := btr b10a hb11c (by have := b10a.size; omega)
        have z11c : B ≤ w11c.heap.size := by have := b11c.size; omega
        have hH : w11c.heap[w.heap.size]? = some (.cells (SA s) 46 (0, 0)) := by rw [b11c.block _ (by omega)]; exact hg1
        have q11c : w11c.heap[w4c.heap.size]? = some (.cells (NA Zi) 66 (0, 0)) := by rw [hb11c.block _ (slt q10a)]; exact q10a
        refine ⟨_, rfl, hH, ?_⟩;simp only [sS];refine step1 11 (by as_aux_lemma => kernel_rfl) ?_;refine stCall 11 19 35 #[.agg (SA s), .int .i64 68, .int .i64 4] _ rfl rfl (by rfl) (by go_simp) (says_any s 68 4 _ hs (by decide) (by decide) (by decide) (by decide)) ?_
        rintro e w12c ⟨rfl, hb12c⟩
        have b12c : Below B W w12c := btr b11c hb12c (by have := b11c.size; omega)
        have z12c : B ≤ w12c.heap.size := by have := b12c.size; omega
        have hH : w12c.heap[w.heap.size]? = some (.cells (SA s) 46 (0, 0)) := by rw [b12c.block _ (by omega)]; exact hg1
        have q12c : w12c.heap[w4c.heap.size]? = some (.cells (NA Zi) 66 (0, 0)) := by rw [hb12c.block _ (slt q11c)]; exact q11c
        refine ⟨_, rfl, hH, ?_⟩;simp only [sS];refine takeVal 12 20 (.agg (NA (yTo s 0))) rfl (by as_aux_lemma => kernel_rfl) (by as_aux_lemma => kernel_rfl) (by as_aux_lemma => kernel_rfl) rfl (by rfl) (fun _ _ _ h => h) hH (fun _ hw' => by clear hzs hbs; have e := build_ino6 (sayV s 0 1) (sayV s 1 1) (sayV s 4 4) (sayV s 8 8) (sayV s 64 4) (sayV s 68 4); rw [yTo_zero]; go_simp; rfl) ?_;simp only [sS];refine step1 14 (by as_aux_lemma => kernel_rfl) ?_;refine stStoreR 14 66 (.tmp 4) (.tmp 20) (w4c.heap.size) (NA (yTo s 0)) 66 (NA Zi) rfl rfl (by rfl) rfl rfl rfl q12c (by rw [szI, NA_size, yTo_len]) (by rw [NA_size, NA_size, yTo_len]; rfl) (NA_one _) ?_
        intro wT hT
        have bT := hT.below b12c (by omega);refine ⟨by rw [bT.block _ (by omega)]; exact hg1, ?_⟩;refine wpAnyH_done (by as_aux_lemma => kernel_rfl) ?_ _;refine NoPanic.normal ?_;clear hH;have hP := hid (And.intro (show B ≤ w4c.heap.size by omega) (And.intro hT.here bT))
        go_wp2_with fail
        go_meet
        case rel => exact ⟨_, rfl, hP⟩
      ·refine stNew 13 4 (.pointer (some ⟨w3c.heap.size, 0, none⟩)) (.cells (NA Zi) 66) rfl rfl (by rfl) (by go_simp) ?_
       have b13a : Below B W (w3c.alloc (.cells (NA Zi) 66)) := b3c.alloc (by have := b3c.size; omega) _
       have p13a : B ≤ w3c.heap.size := by have := b3c.size; omega
       have q13a : (w3c.alloc (.cells (NA Zi) 66)).heap[w3c.heap.size]? = some (.cells (NA Zi) 66 (0, 0)) := heap_alloc_new _ _
       have hH : (w3c.alloc (.cells (NA Zi) 66)).heap[w.heap.size]? = some (.cells (SA s) 46 (0, 0)) := by rw [b13a.block _ (by omega)]; exact hg1
       refine ⟨hH, ?_⟩;simp only [sS];refine step1 7 (by as_aux_lemma => kernel_rfl) ?_;refine stCall 7 15 35 #[.agg (SA s), .int .i64 8, .int .i64 8] _ rfl rfl (by rfl) (by go_simp) (says_any s 8 8 _ hs (by decide) (by decide) (by decide) (by decide)) ?_
       rintro e w14c ⟨rfl, hb14c⟩
       have b14c : Below B W w14c := btr b13a hb14c (by have := b13a.size; omega)
       have z14c : B ≤ w14c.heap.size := by have := b14c.size; omega
       have hH : w14c.heap[w.heap.size]? = some (.cells (SA s) 46 (0, 0)) := by rw [b14c.block _ (by omega)]; exact hg1
       have q14c : w14c.heap[w3c.heap.size]? = some (.cells (NA Zi) 66 (0, 0)) := by rw [hb14c.block _ (slt q13a)]; exact q13a
       refine ⟨_, rfl, hH, ?_⟩;simp only [sS];refine step1 9 (by as_aux_lemma => kernel_rfl) ?_;refine stCall 9 17 35 #[.agg (SA s), .int .i64 64, .int .i64 4] _ rfl rfl (by rfl) (by go_simp) (says_any s 64 4 _ hs (by decide) (by decide) (by decide) (by decide)) ?_
       rintro e w15c ⟨rfl, hb15c⟩
       have b15c : Below B W w15c := btr b14c hb15c (by have := b14c.size; omega)
       have z15c : B ≤ w15c.heap.size := by have := b15c.size; omega
       have hH : w15c.heap[w.heap.size]? = some (.cells (SA s) 46 (0, 0)) := by rw [b15c.block _ (by omega)]; exact hg1
       have q15c : w15c.heap[w3c.heap.size]? = some (.cells (NA Zi) 66 (0, 0)) := by rw [hb15c.block _ (slt q14c)]; exact q14c
       refine ⟨_, rfl, hH, ?_⟩;simp only [sS];refine step1 11 (by as_aux_lemma => kernel_rfl) ?_;refine stCall 11 19 35 #[.agg (SA s), .int .i64 68, .int .i64 4] _ rfl rfl (by rfl) (by go_simp) (says_any s 68 4 _ hs (by decide) (by decide) (by decide) (by decide)) ?_
       rintro e w16c ⟨rfl, hb16c⟩
       have b16c : Below B W w16c := btr b15c hb16c (by have := b15c.size; omega)
       have z16c : B ≤ w16c.heap.size := by have := b16c.size; omega
       have hH : w16c.heap[w.heap.size]? = some (.cells (SA s) 46 (0, 0)) := by rw [b16c.block _ (by omega)]; exact hg1
       have q16c : w16c.heap[w3c.heap.size]? = some (.cells (NA Zi) 66 (0, 0)) := by rw [hb16c.block _ (slt q15c)]; exact q15c
       refine ⟨_, rfl, hH, ?_⟩;simp only [sS];refine takeVal 12 20 (.agg (NA (yTo s 0))) rfl (by as_aux_lemma => kernel_rfl) (by as_aux_lemma => kernel_rfl) (by as_aux_lemma => kernel_rfl) rfl (by rfl) (fun _ _ _ h => h) hH (fun _ hw' => by clear hzs hbs; have e := build_ino6 (sayV s 0 1) (sayV s 1 1) (sayV s 4 4) (sayV s 8 8) (sayV s 64 4) (sayV s 68 4); rw [yTo_zero]; go_simp; rfl) ?_;simp only [sS];refine step1 14 (by as_aux_lemma => kernel_rfl) ?_;refine stStoreR 14 66 (.tmp 4) (.tmp 20) (w3c.heap.size) (NA (yTo s 0)) 66 (NA Zi) rfl rfl (by rfl) rfl rfl rfl q16c (by rw [szI, NA_size, yTo_len]) (by rw [NA_size, NA_size, yTo_len]; rfl) (NA_one _) ?_
       intro wT hT
       have bT := hT.below b16c (by omega);refine ⟨by rw [bT.block _ (by omega)]; exact hg1, ?_⟩;refine wpAnyH_done (by as_aux_lemma => kernel_rfl) ?_ _;refine NoPanic.normal ?_;clear hH;have hP := hid (And.intro (show B ≤ w3c.heap.size by omega) (And.intro hT.here bT))
       go_wp2_with fail
       go_meet
       case rel => exact ⟨_, rfl, hP⟩
     ·refine stNew 13 4 (.pointer (some ⟨w2c.heap.size, 0, none⟩)) (.cells (NA Zi) 66) rfl rfl (by rfl) (by go_simp) ?_
      have b17a : Below B W (w2c.alloc (.cells (NA Zi) 66)) := b2c.alloc (by have := b2c.size; omega) _
      have p17a : B ≤ w2c.heap.size := by have := b2c.size; omega
      have q17a : (w2c.alloc (.cells (NA Zi) 66)).heap[w2c.heap.size]? = some (.cells (NA Zi) 66 (0, 0)) := heap_alloc_new _ _
      have hH : (w2c.alloc (.cells (NA Zi) 66)).heap[w.heap.size]? = some (.cells (SA s) 46 (0, 0)) := by rw [b17a.block _ (by omega)]; exact hg1
      refine ⟨hH, ?_⟩;simp only [sS];refine step1 5 (by as_aux_lemma => kernel_rfl) ?_;refine stCall 5 13 35 #[.agg (SA s), .int .i64 4, .int .i64 4] _ rfl rfl (by rfl) (by go_simp) (says_any s 4 4 _ hs (by decide) (by decide) (by decide) (by decide)) ?_
      rintro e w18c ⟨rfl, hb18c⟩
      have b18c : Below B W w18c := btr b17a hb18c (by have := b17a.size; omega)
      have z18c : B ≤ w18c.heap.size := by have := b18c.size; omega
      have hH : w18c.heap[w.heap.size]? = some (.cells (SA s) 46 (0, 0)) := by rw [b18c.block _ (by omega)]; exact hg1
      have q18c : w18c.heap[w2c.heap.size]? = some (.cells (NA Zi) 66 (0, 0)) := by rw [hb18c.block _ (slt q17a)]; exact q17a
      refine ⟨_, rfl, hH, ?_⟩;simp only [sS];refine step1 7 (by as_aux_lemma => kernel_rfl) ?_;refine stCall 7 15 35 #[.agg (SA s), .int .i64 8, .int .i64 8] _ rfl rfl (by rfl) (by go_simp) (says_any s 8 8 _ hs (by decide) (by decide) (by decide) (by decide)) ?_
      rintro e w19c ⟨rfl, hb19c⟩
      have b19c : Below B W w19c := btr b18c hb19c (by have := b18c.size; omega)
      have z19c : B ≤ w19c.heap.size := by have := b19c.size; omega
      have hH : w19c.heap[w.heap.size]? = some (.cells (SA s) 46 (0, 0)) := by rw [b19c.block _ (by omega)]; exact hg1
      have q19c : w19c.heap[w2c.heap.size]? = some (.cells (NA Zi) 66 (0, 0)) := by rw [hb19c.block _ (slt q18c)]; exact q18c
      refine ⟨_, rfl, hH, ?_⟩;simp only [sS];refine step1 9 (by as_aux_lemma => kernel_rfl) ?_;refine stCall 9 17 35 #[.agg (SA s), .int .i64 64, .int .i64 4] _ rfl rfl (by rfl) (by go_simp) (says_any s 64 4 _ hs (by decide) (by decide) (by decide) (by decide)) ?_
      rintro e w20c ⟨rfl, hb20c⟩
      have b20c : Below B W w20c := btr b19c hb20c (by have := b19c.size; omega)
      have z20c : B ≤ w20c.heap.size := by have := b20c.size; omega
      have hH : w20c.heap[w.heap.size]? = some (.cells (SA s) 46 (0, 0)) := by rw [b20c.block _ (by omega)]; exact hg1
      have q20c : w20c.heap[w2c.heap.size]? = some (.cells (NA Zi) 66 (0, 0)) := by rw [hb20c.block _ (slt q19c)]; exact q19c
      refine ⟨_, rfl, hH, ?_⟩;simp only [sS];refine step1 11 (by as_aux_lemma => kernel_rfl) ?_;refine stCall 11 19 35 #[.agg (SA s), .int .i64 68, .int .i64 4] _ rfl rfl (by rfl) (by go_simp) (says_any s 68 4 _ hs (by decide) (by decide) (by decide) (by decide)) ?_
      rintro e w21c ⟨rfl, hb21c⟩
      have b21c : Below B W w21c := btr b20c hb21c (by have := b20c.size; omega)
      have z21c : B ≤ w21c.heap.size := by have := b21c.size; omega
      have hH : w21c.heap[w.heap.size]? = some (.cells (SA s) 46 (0, 0)) := by rw [b21c.block _ (by omega)]; exact hg1
      have q21c : w21c.heap[w2c.heap.size]? = some (.cells (NA Zi) 66 (0, 0)) := by rw [hb21c.block _ (slt q20c)]; exact q20c
      refine ⟨_, rfl, hH, ?_⟩;simp only [sS];refine takeVal 12 20 (.agg (NA (yTo s 0))) rfl (by as_aux_lemma => kernel_rfl) (by as_aux_lemma => kernel_rfl) (by as_aux_lemma => kernel_rfl) rfl (by rfl) (fun _ _ _ h => h) hH (fun _ hw' => by clear hzs hbs; have e := build_ino6 (sayV s 0 1) (sayV s 1 1) (sayV s 4 4) (sayV s 8 8) (sayV s 64 4) (sayV s 68 4); rw [yTo_zero]; go_simp; rfl) ?_;simp only [sS];refine step1 14 (by as_aux_lemma => kernel_rfl) ?_;refine stStoreR 14 66 (.tmp 4) (.tmp 20) (w2c.heap.size) (NA (yTo s 0)) 66 (NA Zi) rfl rfl (by rfl) rfl rfl rfl q21c (by rw [szI, NA_size, yTo_len]) (by rw [NA_size, NA_size, yTo_len]; rfl) (NA_one _) ?_
      intro wT hT
      have bT := hT.below b21c (by omega);refine ⟨by rw [bT.block _ (by omega)]; exact hg1, ?_⟩;refine wpAnyH_done (by as_aux_lemma => kernel_rfl) ?_ _;refine NoPanic.normal ?_;clear hH;have hP := hid (And.intro (show B ≤ w2c.heap.size by omega) (And.intro hT.here bT))
      go_wp2_with fail
      go_meet
      case rel => exact ⟨_, rfl, hP⟩
    ·refine stNew 13 4 (.pointer (some ⟨w1c.heap.size, 0, none⟩)) (.cells (NA Zi) 66) rfl rfl (by rfl) (by go_simp) ?_
     have b22a : Below B W (w1c.alloc (.cells (NA Zi) 66)) := b1c.alloc (by have := b1c.size; omega) _
     have p22a : B ≤ w1c.heap.size := by have := b1c.size; omega
     have q22a : (w1c.alloc (.cells (NA Zi) 66)).heap[w1c.heap.size]? = some (.cells (NA Zi) 66 (0, 0)) := heap_alloc_new _ _
     have hH : (w1c.alloc (.cells (NA Zi) 66)).heap[w.heap.size]? = some (.cells (SA s) 46 (0, 0)) := by rw [b22a.block _ (by omega)]; exact hg1
     refine ⟨hH, ?_⟩;simp only [sS];refine step1 3 (by as_aux_lemma => kernel_rfl) ?_;refine stCall 3 11 35 #[.agg (SA s), .int .i64 1, .int .i64 1] _ rfl rfl (by rfl) (by go_simp) (says_any s 1 1 _ hs (by decide) (by decide) (by decide) (by decide)) ?_
     rintro e w23c ⟨rfl, hb23c⟩
     have b23c : Below B W w23c := btr b22a hb23c (by have := b22a.size; omega)
     have z23c : B ≤ w23c.heap.size := by have := b23c.size; omega
     have hH : w23c.heap[w.heap.size]? = some (.cells (SA s) 46 (0, 0)) := by rw [b23c.block _ (by omega)]; exact hg1
     have q23c : w23c.heap[w1c.heap.size]? = some (.cells (NA Zi) 66 (0, 0)) := by rw [hb23c.block _ (slt q22a)]; exact q22a
     refine ⟨_, rfl, hH, ?_⟩;simp only [sS];refine step1 5 (by as_aux_lemma => kernel_rfl) ?_;refine stCall 5 13 35 #[.agg (SA s), .int .i64 4, .int .i64 4] _ rfl rfl (by rfl) (by go_simp) (says_any s 4 4 _ hs (by decide) (by decide) (by decide) (by decide)) ?_
     rintro e w24c ⟨rfl, hb24c⟩
     have b24c : Below B W w24c := btr b23c hb24c (by have := b23c.size; omega)
     have z24c : B ≤ w24c.heap.size := by have := b24c.size; omega
     have hH : w24c.heap[w.heap.size]? = some (.cells (SA s) 46 (0, 0)) := by rw [b24c.block _ (by omega)]; exact hg1
     have q24c : w24c.heap[w1c.heap.size]? = some (.cells (NA Zi) 66 (0, 0)) := by rw [hb24c.block _ (slt q23c)]; exact q23c
     refine ⟨_, rfl, hH, ?_⟩;simp only [sS];refine step1 7 (by as_aux_lemma => kernel_rfl) ?_;refine stCall 7 15 35 #[.agg (SA s), .int .i64 8, .int .i64 8] _ rfl rfl (by rfl) (by go_simp) (says_any s 8 8 _ hs (by decide) (by decide) (by decide) (by decide)) ?_
     rintro e w25c ⟨rfl, hb25c⟩
     have b25c : Below B W w25c := btr b24c hb25c (by have := b24c.size; omega)
     have z25c : B ≤ w25c.heap.size := by have := b25c.size; omega
     have hH : w25c.heap[w.heap.size]? = some (.cells (SA s) 46 (0, 0)) := by rw [b25c.block _ (by omega)]; exact hg1
     have q25c : w25c.heap[w1c.heap.size]? = some (.cells (NA Zi) 66 (0, 0)) := by rw [hb25c.block _ (slt q24c)]; exact q24c
     refine ⟨_, rfl, hH, ?_⟩;simp only [sS];refine step1 9 (by as_aux_lemma => kernel_rfl) ?_;refine stCall 9 17 35 #[.agg (SA s), .int .i64 64, .int .i64 4] _ rfl rfl (by rfl) (by go_simp) (says_any s 64 4 _ hs (by decide) (by decide) (by decide) (by decide)) ?_
     rintro e w26c ⟨rfl, hb26c⟩
     have b26c : Below B W w26c := btr b25c hb26c (by have := b25c.size; omega)
     have z26c : B ≤ w26c.heap.size := by have := b26c.size; omega
     have hH : w26c.heap[w.heap.size]? = some (.cells (SA s) 46 (0, 0)) := by rw [b26c.block _ (by omega)]; exact hg1
     have q26c : w26c.heap[w1c.heap.size]? = some (.cells (NA Zi) 66 (0, 0)) := by rw [hb26c.block _ (slt q25c)]; exact q25c
     refine ⟨_, rfl, hH, ?_⟩;simp only [sS];refine step1 11 (by as_aux_lemma => kernel_rfl) ?_;refine stCall 11 19 35 #[.agg (SA s), .int .i64 68, .int .i64 4] _ rfl rfl (by rfl) (by go_simp) (says_any s 68 4 _ hs (by decide) (by decide) (by decide) (by decide)) ?_
     rintro e w27c ⟨rfl, hb27c⟩
     have b27c : Below B W w27c := btr b26c hb27c (by have := b26c.size; omega)
     have z27c : B ≤ w27c.heap.size := by have := b27c.size; omega
     have hH : w27c.heap[w.heap.size]? = some (.cells (SA s) 46 (0, 0)) := by rw [b27c.block _ (by omega)]; exact hg1
     have q27c : w27c.heap[w1c.heap.size]? = some (.cells (NA Zi) 66 (0, 0)) := by rw [hb27c.block _ (slt q26c)]; exact q26c
     refine ⟨_, rfl, hH, ?_⟩;simp only [sS];refine takeVal 12 20 (.agg (NA (yTo s 0))) rfl (by as_aux_lemma => kernel_rfl) (by as_aux_lemma => kernel_rfl) (by as_aux_lemma => kernel_rfl) rfl (by rfl) (fun _ _ _ h => h) hH (fun _ hw' => by clear hzs hbs; have e := build_ino6 (sayV s 0 1) (sayV s 1 1) (sayV s 4 4) (sayV s 8 8) (sayV s 64 4) (sayV s 68 4); rw [yTo_zero]; go_simp; rfl) ?_;simp only [sS];refine step1 14 (by as_aux_lemma => kernel_rfl) ?_;refine stStoreR 14 66 (.tmp 4) (.tmp 20) (w1c.heap.size) (NA (yTo s 0)) 66 (NA Zi) rfl rfl (by rfl) rfl rfl rfl q27c (by rw [szI, NA_size, yTo_len]) (by rw [NA_size, NA_size, yTo_len]; rfl) (NA_one _) ?_
     intro wT hT
     have bT := hT.below b27c (by omega);refine ⟨by rw [bT.block _ (by omega)]; exact hg1, ?_⟩;refine wpAnyH_done (by as_aux_lemma => kernel_rfl) ?_ _;refine NoPanic.normal ?_;clear hH;have hP := hid (And.intro (show B ≤ w1c.heap.size by omega) (And.intro hT.here bT))
     go_wp2_with fail
     go_meet
     case rel => exact ⟨_, rfl, hP⟩
   ·refine stNew 13 4 (.pointer (some ⟨W.drew.heap.size, 0, none⟩)) (.cells (NA Zi) 66) rfl rfl (by rfl) (by go_simp) ?_
    have b28a : Below B W (W.drew.alloc (.cells (NA Zi) 66)) := b0.alloc (by have := b0.size; omega) _
    have p28a : B ≤ W.drew.heap.size := by have := b0.size; omega
    have q28a : (W.drew.alloc (.cells (NA Zi) 66)).heap[W.drew.heap.size]? = some (.cells (NA Zi) 66 (0, 0)) := heap_alloc_new _ _
    have hH : (W.drew.alloc (.cells (NA Zi) 66)).heap[w.heap.size]? = some (.cells (SA s) 46 (0, 0)) := by rw [b28a.block _ (by omega)]; exact hg1
    refine ⟨hH, ?_⟩;simp only [sS];refine step1 1 (by as_aux_lemma => kernel_rfl) ?_;refine stCall 1 9 35 #[.agg (SA s), .int .i64 0, .int .i64 1] _ rfl rfl (by rfl) (by go_simp) (says_any s 0 1 _ hs (by decide) (by decide) (by decide) (by decide)) ?_
    rintro e w29c ⟨rfl, hb29c⟩
    have b29c : Below B W w29c := btr b28a hb29c (by have := b28a.size; omega)
    have z29c : B ≤ w29c.heap.size := by have := b29c.size; omega
    have hH : w29c.heap[w.heap.size]? = some (.cells (SA s) 46 (0, 0)) := by rw [b29c.block _ (by omega)]; exact hg1
    have q29c : w29c.heap[W.drew.heap.size]? = some (.cells (NA Zi) 66 (0, 0)) := by rw [hb29c.block _ (slt q28a)]; exact q28a
    refine ⟨_, rfl, hH, ?_⟩;simp only [sS];refine step1 3 (by as_aux_lemma => kernel_rfl) ?_;refine stCall 3 11 35 #[.agg (SA s), .int .i64 1, .int .i64 1] _ rfl rfl (by rfl) (by go_simp) (says_any s 1 1 _ hs (by decide) (by decide) (by decide) (by decide)) ?_
    rintro e w30c ⟨rfl, hb30c⟩
    have b30c : Below B W w30c := btr b29c hb30c (by have := b29c.size; omega)
    have z30c : B ≤ w30c.heap.size := by have := b30c.size; omega
    have hH : w30c.heap[w.heap.size]? = some (.cells (SA s) 46 (0, 0)) := by rw [b30c.block _ (by omega)]; exact hg1
    have q30c : w30c.heap[W.drew.heap.size]? = some (.cells (NA Zi) 66 (0, 0)) := by rw [hb30c.block _ (slt q29c)]; exact q29c
    refine ⟨_, rfl, hH, ?_⟩;simp only [sS];refine step1 5 (by as_aux_lemma => kernel_rfl) ?_;refine stCall 5 13 35 #[.agg (SA s), .int .i64 4, .int .i64 4] _ rfl rfl (by rfl) (by go_simp) (says_any s 4 4 _ hs (by decide) (by decide) (by decide) (by decide)) ?_
    rintro e w31c ⟨rfl, hb31c⟩
    have b31c : Below B W w31c := btr b30c hb31c (by have := b30c.size; omega)
    have z31c : B ≤ w31c.heap.size := by have := b31c.size; omega
    have hH : w31c.heap[w.heap.size]? = some (.cells (SA s) 46 (0, 0)) := by rw [b31c.block _ (by omega)]; exact hg1
    have q31c : w31c.heap[W.drew.heap.size]? = some (.cells (NA Zi) 66 (0, 0)) := by rw [hb31c.block _ (slt q30c)]; exact q30c
    refine ⟨_, rfl, hH, ?_⟩;simp only [sS];refine step1 7 (by as_aux_lemma => kernel_rfl) ?_;refine stCall 7 15 35 #[.agg (SA s), .int .i64 8, .int .i64 8] _ rfl rfl (by rfl) (by go_simp) (says_any s 8 8 _ hs (by decide) (by decide) (by decide) (by decide)) ?_
    rintro e w32c ⟨rfl, hb32c⟩
    have b32c : Below B W w32c := btr b31c hb32c (by have := b31c.size; omega)
    have z32c : B ≤ w32c.heap.size := by have := b32c.size; omega
    have hH : w32c.heap[w.heap.size]? = some (.cells (SA s) 46 (0, 0)) := by rw [b32c.block _ (by omega)]; exact hg1
    have q32c : w32c.heap[W.drew.heap.size]? = some (.cells (NA Zi) 66 (0, 0)) := by rw [hb32c.block _ (slt q31c)]; exact q31c
    refine ⟨_, rfl, hH, ?_⟩;simp only [sS];refine step1 9 (by as_aux_lemma => kernel_rfl) ?_;refine stCall 9 17 35 #[.agg (SA s), .int .i64 64, .int .i64 4] _ rfl rfl (by rfl) (by go_simp) (says_any s 64 4 _ hs (by decide) (by decide) (by decide) (by decide)) ?_
    rintro e w33c ⟨rfl, hb33c⟩
    have b33c : Below B W w33c := btr b32c hb33c (by have := b32c.size; omega)
    have z33c : B ≤ w33c.heap.size := by have := b33c.size; omega
    have hH : w33c.heap[w.heap.size]? = some (.cells (SA s) 46 (0, 0)) := by rw [b33c.block _ (by omega)]; exact hg1
    have q33c : w33c.heap[W.drew.heap.size]? = some (.cells (NA Zi) 66 (0, 0)) := by rw [hb33c.block _ (slt q32c)]; exact q32c
    refine ⟨_, rfl, hH, ?_⟩;simp only [sS];refine step1 11 (by as_aux_lemma => kernel_rfl) ?_;refine stCall 11 19 35 #[.agg (SA s), .int .i64 68, .int .i64 4] _ rfl rfl (by rfl) (by go_simp) (says_any s 68 4 _ hs (by decide) (by decide) (by decide) (by decide)) ?_
    rintro e w34c ⟨rfl, hb34c⟩
    have b34c : Below B W w34c := btr b33c hb34c (by have := b33c.size; omega)
    have z34c : B ≤ w34c.heap.size := by have := b34c.size; omega
    have hH : w34c.heap[w.heap.size]? = some (.cells (SA s) 46 (0, 0)) := by rw [b34c.block _ (by omega)]; exact hg1
    have q34c : w34c.heap[W.drew.heap.size]? = some (.cells (NA Zi) 66 (0, 0)) := by rw [hb34c.block _ (slt q33c)]; exact q33c
    refine ⟨_, rfl, hH, ?_⟩;simp only [sS];refine takeVal 12 20 (.agg (NA (yTo s 0))) rfl (by as_aux_lemma => kernel_rfl) (by as_aux_lemma => kernel_rfl) (by as_aux_lemma => kernel_rfl) rfl (by rfl) (fun _ _ _ h => h) hH (fun _ hw' => by clear hzs hbs; have e := build_ino6 (sayV s 0 1) (sayV s 1 1) (sayV s 4 4) (sayV s 8 8) (sayV s 64 4) (sayV s 68 4); rw [yTo_zero]; go_simp; rfl) ?_;simp only [sS];refine step1 14 (by as_aux_lemma => kernel_rfl) ?_;refine stStoreR 14 66 (.tmp 4) (.tmp 20) (W.drew.heap.size) (NA (yTo s 0)) 66 (NA Zi) rfl rfl (by rfl) rfl rfl rfl q34c (by rw [szI, NA_size, yTo_len]) (by rw [NA_size, NA_size, yTo_len]; rfl) (NA_one _) ?_
    intro wT hT
    have bT := hT.below b34c (by omega);refine ⟨by rw [bT.block _ (by omega)]; exact hg1, ?_⟩;refine wpAnyH_done (by as_aux_lemma => kernel_rfl) ?_ _;refine NoPanic.normal ?_;clear hH;have hP := hid (And.intro (show B ≤ W.drew.heap.size by omega) (And.intro hT.here bT))
    go_wp2_with fail
    go_meet
    case rel => exact ⟨_, rfl, hP⟩
 case rest =>
  obtain ⟨g, rfl, HG⟩ := hcut;obtain ⟨hge, hgr, hbc⟩ := HG.out;have hJ : Hid (wc.heap[w.heap.size]? = some (.cells (SA s) 46 (0, 0)) ∧ wc.heap[w.heap.size + 1]? = some (.cells (NA Zi) 66 (0, 0)) ∧ wc.heap[g]? = some (.cells (NA (yTo s 0)) 66 (0, 0)) ∧ Below w.heap.size w wc) := ⟨by rw [hbc.block _ (by omega)]; exact hg1, by rw [hbc.block _ (by omega)]; exact hg2, hgr, btr hbW hbc (by omega)⟩
  have hgg : w.heap.size + 2 ≤ g := by omega
  obtain ⟨w0, hw0⟩ : ∃ w0, w0 = wc := ⟨_, rfl⟩;subst hw0;clear hg1 hg2 hbW hW hB hB2 hgr hbc HG hge
  go_wp2
  go_loopw [5] (fun i wr => ∃ q : Nat, q ≤ 12 ∧ i = .int .i64 q ∧ Hid (wr.heap[w.heap.size]? = some (.cells (SA s) 46 (0, 0)) ∧ wr.heap[w.heap.size + 1]? = some (.cells (NA Zi) 66 (0, 0)) ∧ wr.heap[g]? = some (.cells (NA (yTo s q)) 66 (0, 0)) ∧ Below w.heap.size w wr)) (fun i _ => 12 - (intOf i).toNat)
  case atStart => exact ⟨0, by omega, rfl, hJ⟩
  case round =>
   clear hJ;obtain ⟨q, hq, rfl, HI⟩ := hrel
   by_cases hlt : q < 12
   ·have hqi : (q : Int) < 12 := by omega
    have HSy := hid fun w => says_any s (16 + 4 * (q : Int)) 4 w hs (by decide) (by decide) (by omega) (by omega)
    have hpv : sayV s (16 + 4 * (q : Int)) 4 = pv s (4 + q) := by unfold pv; rw [pls_dir hlt]; congr 1
    rw [hpv] at HSy;have HSt := hid (yTo_step s q)
    generalize pv s (4 + q) = x at *
    clear hpv hlt;have hl := hs.1
    go_upto_region 4 with (first | refine load_sec rfl (.tmp 1) rfl w.heap.size rfl s hl HI.out.1 ?_ | (go_at_call 35; refine (HSy.out _).mono ?_; rintro e w1 ⟨rfl, b1⟩; have B1 := hid b1; have hcx := row_cell (show w1.heap[g]? = some (.cells (NA (yTo s q)) 66 (0, 0)) by rw [b1.block _ (slt HI.out.2.2.1)]; exact HI.out.2.2.1) (4 + q) (by rw [yTo_len]; omega); have hfx := row_free (show w1.heap[g]? = some (.cells (NA (yTo s q)) 66 (0, 0)) by rw [b1.block _ (slt HI.out.2.2.1)]; exact HI.out.2.2.1) (4 + q); generalize (yTo s q).getD (4 + q) 0 = o0 at hcx; clear b1))
    have hP := row_setCell (show w1.heap[g]? = some (.cells (NA (yTo s q)) 66 (0, 0)) by rw [B1.out.block _ (slt HI.out.2.2.1)]; exact HI.out.2.2.1) (4 + q) x;rw [HSt.out] at hP;have HN : Hid ((w1.setCell ⟨g, 4 + q, none⟩ (.int .i64 x)).heap[w.heap.size]? = some (.cells (SA s) 46 (0, 0)) ∧ (w1.setCell ⟨g, 4 + q, none⟩ (.int .i64 x)).heap[w.heap.size + 1]? = some (.cells (NA Zi) 66 (0, 0)) ∧ (w1.setCell ⟨g, 4 + q, none⟩ (.int .i64 x)).heap[g]? = some (.cells (NA (yTo s (q + 1))) 66 (0, 0)) ∧ Below w.heap.size w (w1.setCell ⟨g, 4 + q, none⟩ (.int .i64 x))) := ⟨by rw [hP.other _ (by omega), B1.out.block _ (slt HI.out.1)]; exact HI.out.1, by rw [hP.other _ (by omega), B1.out.block _ (slt HI.out.2.1)]; exact HI.out.2.1, hP.here, hP.below (btr HI.out.2.2.2 B1.out HI.out.2.2.2.size) (by omega)⟩;clear hP hcx hfx B1 HSy HSt
    generalize w1.setCell ⟨g, 4 + q, none⟩ (.int .i64 x) = w2 at *
    go_wp2
    exact ⟨⟨q + 1, by omega, by go_num, HN⟩, by simp [intOf]; omega⟩
   ·obtain rfl : q = 12 := by omega
    obtain ⟨ZZ, hZZ⟩ : ∃ z, yA s = z := ⟨_, rfl⟩
    have hzl : ZZ.length = 18 := by rw [← hZZ]; exact yTo_len s 12
    have H1 := hid HI.out.1;have H2 := hid HI.out.2.1
    have HR : Hid (wr.heap[g]? = some (.cells (NA ZZ) 66 (0, 0))) := by rw [← hZZ]; exact HI.out.2.2.1
    have HC := hid HI.out.2.2.2
    have hsup := fun w' => rinodeSector_any ZZ hzl w'
    have hE : inoE ZZ = if inoB ZZ = true then 0 else 61 := rfl
    have hrd : rdIno ZZ s = if inoB ZZ = true ∧ inoS ZZ = s then (ZZ, 0) else (Zi, 61) := rfl
    have HLS := hid (inoS_len ZZ);have hgd := guard_sec;have hl := hs.1;replace hZZ := hid hZZ;clear hlt hq HI
    generalize inoS ZZ = SX at *
    generalize inoE ZZ = EE at *
    generalize inoB ZZ = BB at *
    cases BB
    ·have hE' : EE = 61 := by rw [hE]; rfl
     subst hE'
     have HV : Hid (rdIno ZZ s = (Zi, 61)) := by show _ = _; rw [hrd]; simp
     clear hE hrd
     go_wp2_with (first | refine load_R rfl 66 (.tmp 4) rfl g rfl 66 _ _ HR.out Tryz.underlying66 rfl (by rw [szI, NA_size, hzl]) ?_ | (go_at_call 37; go_must (refine (hsup _).mono ?_; rintro e w2 ⟨rfl, hb2⟩)) | (refine store_sec rfl (.tmp 6) _ rfl w2.heap.size rfl SX rfl HLS.out Zs Zs_len (heap_alloc_new _ _) ?_; intro w3 hw3; obtain ⟨HA1, HA2, HAR, HAC⟩ := after_new (t := 66) hb2 hw3 H1.out H2.out HR.out HC.out) | refine load_sec_g (.tmp 6) rfl w2.heap.size rfl SX HLS.out hw3.here rfl ?_ | refine load_sec_g (.tmp 1) rfl w.heap.size rfl s hl HA1.out rfl ?_ | refine load_R rfl 66 (.tmp 4) rfl g rfl 66 _ _ HAR.out Tryz.underlying66 rfl (by rw [szI, NA_size, hzl]) ?_ | (refine store_R rfl 66 (.tmp 2) _ rfl (w.heap.size + 1) (NA ZZ) rfl rfl 66 _ HA2.out (by rw [szI, NA_size, hzl]) (by rw [NA_size, NA_size, hzl]; rfl) (NA_one _) ?_; intro w4 hw4) | (refine store_R rfl 66 (.tmp 2) _ rfl (w.heap.size + 1) (NA Zi) rfl rfl 66 _ HA2.out (by rw [szI, NA_size, Zi_len]) rfl (NA_one _) ?_; intro w4 hw4))
     rw [hZZ.out, HV.out]
     exact bodyPost_ret (v := .tuple #[.agg (NA Zi), .int .i64 61]) (results_R Tryz.results21 _ _ (w.heap.size + 1) _ 66 _ _ Tryz.underlying66 rfl (by rw [szI, NA_size, Zi_len]) rfl rfl hw4.here) rfl ⟨rfl, hw4.below HAC.out (by omega)⟩
    ·have hE' : EE = 0 := by rw [hE]; rfl
     subst hE'
     by_cases hq : SX = s
     ·have HV : Hid (rdIno ZZ s = (ZZ, 0)) := by show _ = _; rw [hrd]; simp [hq]
      have heq : ∀ w', (Op.equalIn 10000 46 (.agg (SA SX)) (.agg (SA s))).run Tryz.prog w' = .ok true w' := fun w' => by rw [eq_sec _ _ HLS.out hl, decide_eq_true hq]
      clear hq hE hrd
      go_wp2_with (first | refine load_R rfl 66 (.tmp 4) rfl g rfl 66 _ _ HR.out Tryz.underlying66 rfl (by rw [szI, NA_size, hzl]) ?_ | (go_at_call 37; go_must (refine (hsup _).mono ?_; rintro e w2 ⟨rfl, hb2⟩)) | (refine store_sec rfl (.tmp 6) _ rfl w2.heap.size rfl SX rfl HLS.out Zs Zs_len (heap_alloc_new _ _) ?_; intro w3 hw3; obtain ⟨HA1, HA2, HAR, HAC⟩ := after_new (t := 66) hb2 hw3 H1.out H2.out HR.out HC.out) | refine load_sec_g (.tmp 6) rfl w2.heap.size rfl SX HLS.out hw3.here rfl ?_ | refine load_sec_g (.tmp 1) rfl w.heap.size rfl s hl HA1.out rfl ?_ | refine load_R rfl 66 (.tmp 4) rfl g rfl 66 _ _ HAR.out Tryz.underlying66 rfl (by rw [szI, NA_size, hzl]) ?_ | (refine store_R rfl 66 (.tmp 2) _ rfl (w.heap.size + 1) (NA ZZ) rfl rfl 66 _ HA2.out (by rw [szI, NA_size, hzl]) (by rw [NA_size, NA_size, hzl]; rfl) (NA_one _) ?_; intro w4 hw4) | (refine store_R rfl 66 (.tmp 2) _ rfl (w.heap.size + 1) (NA Zi) rfl rfl 66 _ HA2.out (by rw [szI, NA_size, Zi_len]) rfl (NA_one _) ?_; intro w4 hw4))
      rw [hZZ.out, HV.out]
      exact bodyPost_ret (v := .tuple #[.agg (NA ZZ), .int .i64 0]) (results_R Tryz.results21 _ _ (w.heap.size + 1) _ 66 _ _ Tryz.underlying66 rfl (by rw [szI, NA_size, hzl]) rfl rfl hw4.here) rfl ⟨rfl, hw4.below HAC.out (by omega)⟩
     ·have HV : Hid (rdIno ZZ s = (Zi, 61)) := by show _ = _; rw [hrd]; simp [hq]
      have heq : ∀ w', (Op.equalIn 10000 46 (.agg (SA SX)) (.agg (SA s))).run Tryz.prog w' = .ok false w' := fun w' => by rw [eq_sec _ _ HLS.out hl, decide_eq_false hq]
      clear hq hE hrd
      go_wp2_with (first | refine load_R rfl 66 (.tmp 4) rfl g rfl 66 _ _ HR.out Tryz.underlying66 rfl (by rw [szI, NA_size, hzl]) ?_ | (go_at_call 37; go_must (refine (hsup _).mono ?_; rintro e w2 ⟨rfl, hb2⟩)) | (refine store_sec rfl (.tmp 6) _ rfl w2.heap.size rfl SX rfl HLS.out Zs Zs_len (heap_alloc_new _ _) ?_; intro w3 hw3; obtain ⟨HA1, HA2, HAR, HAC⟩ := after_new (t := 66) hb2 hw3 H1.out H2.out HR.out HC.out) | refine load_sec_g (.tmp 6) rfl w2.heap.size rfl SX HLS.out hw3.here rfl ?_ | refine load_sec_g (.tmp 1) rfl w.heap.size rfl s hl HA1.out rfl ?_ | refine load_R rfl 66 (.tmp 4) rfl g rfl 66 _ _ HAR.out Tryz.underlying66 rfl (by rw [szI, NA_size, hzl]) ?_ | (refine store_R rfl 66 (.tmp 2) _ rfl (w.heap.size + 1) (NA ZZ) rfl rfl 66 _ HA2.out (by rw [szI, NA_size, hzl]) (by rw [NA_size, NA_size, hzl]; rfl) (NA_one _) ?_; intro w4 hw4) | (refine store_R rfl 66 (.tmp 2) _ rfl (w.heap.size + 1) (NA Zi) rfl rfl 66 _ HA2.out (by rw [szI, NA_size, Zi_len]) rfl (NA_one _) ?_; intro w4 hw4))
      rw [hZZ.out, HV.out]
      exact bodyPost_ret (v := .tuple #[.agg (NA Zi), .int .i64 61]) (results_R Tryz.results21 _ _ (w.heap.size + 1) _ 66 _ _ Tryz.underlying66 rfl (by rw [szI, NA_size, Zi_len]) rfl rfl hw4.here) rfl ⟨rfl, hw4.below HAC.out (by omega)⟩

end Go.Proofs.YtboammbcoleicabGreat
