/-
 The document's InodeSector.
-/
import Derived.Test.YtpmignilhoihnaaGreatLF1
import Derived.Test.YtpmignilhoihnaaGreatLI2
namespace Go.Proofs.YtpmignilhoihnaaGreat
open Go.RowKit

theorem wi_of {n a b : Int} (h : wiB n a b = true) : a ≤ n ∧ n ≤ b := of_decide_eq_true h
theorem wi_not {n a b : Int} (h : wiB n a b = false) : ¬ (a ≤ n ∧ n ≤ b) := of_decide_eq_false h
theorem most_dir {i : Nat} (h : i < 12) : most.getD (4 + i) 0 = 4294967295 := by
 have : ∀ i, i < 12 → most.getD (4 + i) 0 = 4294967295 := by decide
 exact this i h

set_option maxRecDepth 100000 in
set_option maxHeartbeats 4000000 in
theorem rinodeMay_any (z : List Int) (hz : z.length = 18) (w : World) :
  Calls Tryz.prog 62 #[.agg (NA z)] w fun e w' => e = .returned (.bool (inoB z)) ∧ Below w.heap.size w w' := by
 have hg1 : (w.alloc (.cells (NA z) 51)).heap[w.heap.size]? = some (.cells (NA z) 51 (0, 0)) := heap_alloc_new _ _;have HBW := hid (show Below w.heap.size w (w.alloc (.cells (NA z) 51)) from (Below.refl _ _).alloc (Nat.le_refl _) _);have hbi := build_inode;have heq := hid (eq_inode z Zi hz Zi_len);have hgd := hid guard_inode
 have HCell := hid fun j (h : j < 18) => row_cell hg1 j (by omega)
 have HG1 := hid hg1;clear hg1;have k0 := HCell.out 0 (by decide);have k1 := HCell.out 1 (by decide);have k2 := HCell.out 2 (by decide);have k3 := HCell.out 3 (by decide);have k16 := HCell.out 16 (by decide);have k17 := HCell.out 17 (by decide)
 have HInB : Hid (z.getD 0 0 ≠ 0 → inoB z = (allB z && (z.getD 0 0 != 2 || z.getD 2 0 % 128 == 0))) := fun h => if_neg h
 have HIn0 : Hid (z.getD 0 0 = 0 → inoB z = decide (z = Zi)) := fun h => if_pos h
 have HBad := hid fun m (h : m < 18) hb => allB_false (z := z) (m := m) h hb
 have HAll : Hid ((0 ≤ z.getD 0 0 ∧ z.getD 0 0 ≤ 2) → (0 ≤ z.getD 1 0 ∧ z.getD 1 0 ≤ 100) → (0 ≤ z.getD 2 0 ∧ z.getD 2 0 ≤ 136704) → (0 ≤ z.getD 3 0 ∧ z.getD 3 0 ≤ 1099511627776) → (∀ i, i < 12 → 0 ≤ z.getD (4 + i) 0 ∧ z.getD (4 + i) 0 ≤ 4294967295) → (0 ≤ z.getD 16 0 ∧ z.getD 16 0 ≤ 4294967295) → (0 ≤ z.getD 17 0 ∧ z.getD 17 0 ≤ 4294967295) → allB z = true) := fun h0 h1 h2 h3 h4 h5 h6 => allB_true fun m hm => by
  match m, hm with
  | 0, _ => exact h0
  | 1, _ => exact h1
  | 2, _ => exact h2
  | 3, _ => exact h3
  | 16, _ => exact h5
  | 17, _ => exact h6
  | 4, _ => exact h4 0 (by decide)
  | 5, _ => exact h4 1 (by decide)
  | 6, _ => exact h4 2 (by decide)
  | 7, _ => exact h4 3 (by decide)
  | 8, _ => exact h4 4 (by decide)
  | 9, _ => exact h4 5 (by decide)
  | 10, _ => exact h4 6 (by decide)
  | 11, _ => exact h4 7 (by decide)
  | 12, _ => exact h4 8 (by decide)
  | 13, _ => exact h4 9 (by decide)
  | 14, _ => exact h4 10 (by decide)
  | 15, _ => exact h4 11 (by decide)
  | n + 18, hn => exact absurd hn (by omega)
 have hb0 := HBad.out 0 (by decide);have hb1 := HBad.out 1 (by decide);have hb2 := HBad.out 2 (by decide);have hb3 := HBad.out 3 (by decide);have hb16 := HBad.out 16 (by decide);have hb17 := HBad.out 17 (by decide)
 have hbd := hid fun i (h : i < 12) hb => HBad.out (4 + i) (by omega) hb
 replace hb0 := hid hb0;replace hb1 := hid hb1;replace hb2 := hid hb2;replace hb3 := hid hb3;replace hb16 := hid hb16;replace hb17 := hid hb17
 generalize z.getD 0 0 = K at *
 generalize z.getD 1 0 = a1 at *
 generalize z.getD 2 0 = a2 at *
 generalize z.getD 3 0 = a3 at *
 generalize z.getD 16 0 = a16 at *
 generalize z.getD 17 0 = a17 at *
 clear HBad
 by_cases h0 : K = 0
 ·have HV := hid (HIn0.out h0)
  subst h0
  go_enter Tryz.func62, Tryz.ntmps62
  go_wp2_with (first | refine load_R rfl 51 (.tmp 1) rfl w.heap.size rfl 51 _ _ HG1.out Tryz.underlying51 rfl (by rw [szI, NA_size, hz]) ?_ | refine eql_R rfl 51 (.tmp 7) (.tmp 8) rfl (NA z) (NA Zi) _ rfl rfl heq.out hgd.out ?_)
  go_ret
  exact ⟨by rw [HV.out]; rfl, HBW.out⟩
 ·have h0' : (K == 0) = false := beq_false_of_ne h0
  have HV := hid (HInB.out h0);clear heq HIn0 HInB hbi
  have HW1 := hid fun w => rwithin_any a1 0 100 w
  have HW2 := hid fun w => rwithin_any a2 0 136704 w
  have HW3 := hid fun w => rwithin_any a3 0 1099511627776 w
  have HW16 := hid fun w => rwithin_any a16 0 4294967295 w
  have HW17 := hid fun w => rwithin_any a17 0 4294967295 w
  by_cases hK : K = 1 ∨ K = 2
  ·have hk12 : ((K != 1) && (K != 2)) = false := by rcases hK with e | e <;> simp [e]
   have HK02 : Hid (0 ≤ K ∧ K ≤ 2) := ⟨by omega, by omega⟩
   cases q1 : wiB a1 0 100
   ·have HA := hid (hb1.out (wi_not q1))
    rw [q1] at HW1
    rcases hK with rfl | rfl
    all_goals
     go_enter Tryz.func62, Tryz.ntmps62
     go_wp2_with (go_at_call 69; refine (HW1.out _).mono ?_; rintro e w2 ⟨rfl, rfl⟩)
     go_ret
     exact ⟨by rw [HV.out, HA.out]; rfl, HBW.out⟩
   ·cases q2 : wiB a2 0 136704
    ·have HA := hid (hb2.out (wi_not q2))
     rw [q1] at HW1;rw [q2] at HW2
     rcases hK with rfl | rfl
     all_goals
      go_enter Tryz.func62, Tryz.ntmps62
      go_wp2_with (first | (go_at_call 69; refine (HW1.out _).mono ?_; rintro e w2 ⟨rfl, rfl⟩; clear HW1) | (go_at_call 69; refine (HW2.out _).mono ?_; rintro e w2 ⟨rfl, rfl⟩; clear HW2))
      go_ret
      exact ⟨by rw [HV.out, HA.out]; rfl, HBW.out⟩
    ·cases q3 : wiB a3 0 1099511627776
     ·have HA := hid (hb3.out (wi_not q3))
      rw [q1] at HW1;rw [q2] at HW2;rw [q3] at HW3
      rcases hK with rfl | rfl
      all_goals
       go_enter Tryz.func62, Tryz.ntmps62
       go_wp2_with (first | (go_at_call 69; refine (HW1.out _).mono ?_; rintro e w2 ⟨rfl, rfl⟩; clear HW1) | (go_at_call 69; refine (HW2.out _).mono ?_; rintro e w2 ⟨rfl, rfl⟩; clear HW2) | (go_at_call 69; refine (HW3.out _).mono ?_; rintro e w2 ⟨rfl, rfl⟩; clear HW3))
       go_ret
       exact ⟨by rw [HV.out, HA.out]; rfl, HBW.out⟩
     ·have hs2 := wi_of q2
      have HP1 := hid (wi_of q1);have HP2 := hid (wi_of q2);have HP3 := hid (wi_of q3);rw [q1] at HW1;rw [q2] at HW2;rw [q3] at HW3
      by_cases hr : K = 2 ∧ ¬ a2 % 128 = 0
      ·obtain ⟨rfl, hr⟩ := hr
       have HA : Hid (((2 : Int) != 2 || a2 % 128 == 0) = false) := by
        show _ = false
        simp [hr]
       have hr2 : (a2 % 128 != 0) = true := by simpa using hr
       clear hr
       go_enter Tryz.func62, Tryz.ntmps62
       go_wp2_with (first | (go_at_call 69; refine (HW1.out _).mono ?_; rintro e w2 ⟨rfl, rfl⟩; clear HW1) | (go_at_call 69; refine (HW2.out _).mono ?_; rintro e w2 ⟨rfl, rfl⟩; clear HW2) | (go_at_call 69; refine (HW3.out _).mono ?_; rintro e w2 ⟨rfl, rfl⟩; clear HW3))
       go_ret
       exact ⟨by rw [HV.out, HA.out, Bool.and_false]; rfl, HBW.out⟩
      ·have HA : Hid ((K != 2 || a2 % 128 == 0) = true) := by
        show _ = true
        by_cases e : K = 2
        ·have : a2 % 128 = 0 := by
          by_cases f : a2 % 128 = 0
          ·exact f
          ·exact absurd ⟨e, f⟩ hr
         simp [this]
        ·simp [e]
       have hrr : (K == 2 && a2 % 128 != 0) = false := by
        by_cases e : K = 2
        ·have : a2 % 128 = 0 := by
          by_cases f : a2 % 128 = 0
          ·exact f
          ·exact absurd ⟨e, f⟩ hr
         simp [this]
        ·simp [e]
       rw [HA.out, Bool.and_true] at HV;clear HA
       have hcase : (K = 1) ∨ (K = 2 ∧ (a2 % 128 != 0) = false) := by
        rcases hK with e | e
        ·exact .inl e
        ·rw [e] at hrr
         exact .inr ⟨e, by simpa using hrr⟩
       clear hr hK hrr hk12
       go_enter Tryz.func62, Tryz.ntmps62
       rcases hcase with rfl | ⟨rfl, hm0⟩
       all_goals
        go_wp2_with (first | (go_at_call 69; refine (HW1.out _).mono ?_; rintro e w2 ⟨rfl, rfl⟩; clear HW1) | (go_at_call 69; refine (HW2.out _).mono ?_; rintro e w2 ⟨rfl, rfl⟩; clear HW2) | (go_at_call 69; refine (HW3.out _).mono ?_; rintro e w2 ⟨rfl, rfl⟩; clear HW3))
        go_loop [3] (fun i => ∃ q : Nat, q ≤ 12 ∧ i = .int .i64 q ∧ Hid (∀ j, j < q → 0 ≤ z.getD (4 + j) 0 ∧ z.getD (4 + j) 0 ≤ 4294967295)) (fun i => 12 - (intOf i).toNat)
        case atStart => exact ⟨0, by omega, rfl, hid (fun j hj => absurd hj (Nat.not_lt_zero _))⟩
        case round =>
         obtain ⟨q, hq, rfl, HD⟩ := hrel
         by_cases hlt : q < 12
         ·have hqi : (q : Int) < 12 := by omega
          have kd := HCell.out (4 + q) (by omega)
          have HWd := hid fun w => rwithin_any (z.getD (4 + q) 0) 0 4294967295 w
          cases qd : wiB (z.getD (4 + q) 0) 0 4294967295
          ·have HA := hid (hbd.out q hlt (by rw [most_dir hlt]; exact wi_not qd))
           rw [qd] at HWd
           generalize z.getD (4 + q) 0 = x at *
           clear qd hlt
           go_wp2_with (go_at_call 69; refine (HWd.out _).mono ?_; rintro e w2 ⟨rfl, rfl⟩)
           go_ret
           exact ⟨by rw [HV.out, HA.out]; rfl, HBW.out⟩
          ·have HD2 : Hid (∀ j, j < q + 1 → 0 ≤ z.getD (4 + j) 0 ∧ z.getD (4 + j) 0 ≤ 4294967295) := fun j hj => by
            by_cases e : j < q
            ·exact HD.out j e
            ·rw [show j = q by omega]; exact wi_of qd
           rw [qd] at HWd
           generalize z.getD (4 + q) 0 = x at *
           clear qd hlt
           go_wp2_with (go_at_call 69; refine (HWd.out _).mono ?_; rintro e w2 ⟨rfl, rfl⟩)
           exact ⟨⟨q + 1, by omega, by go_num, HD2⟩, by simp [intOf]; omega⟩
         ·obtain rfl : q = 12 := by omega
          clear hlt hq
          cases q16 : wiB a16 0 4294967295
          ·have HA := hid (hb16.out (wi_not q16))
           rw [q16] at HW16;clear q16
           go_wp2_with (go_at_call 69; refine (HW16.out _).mono ?_; rintro e w2 ⟨rfl, rfl⟩)
           go_ret
           exact ⟨by rw [HV.out, HA.out]; rfl, HBW.out⟩
          ·cases q17 : wiB a17 0 4294967295
           ·have HA := hid (hb17.out (wi_not q17))
            rw [q16] at HW16;rw [q17] at HW17;clear q16 q17
            go_wp2_with (first | (go_at_call 69; refine (HW16.out _).mono ?_; rintro e w2 ⟨rfl, rfl⟩; clear HW16) | (go_at_call 69; refine (HW17.out _).mono ?_; rintro e w2 ⟨rfl, rfl⟩; clear HW17))
            go_ret
            exact ⟨by rw [HV.out, HA.out]; rfl, HBW.out⟩
           ·have HA := hid (HAll.out HK02.out HP1.out HP2.out HP3.out HD.out (wi_of q16) (wi_of q17))
            rw [q16] at HW16;rw [q17] at HW17;clear q16 q17
            go_wp2_with (first | (go_at_call 69; refine (HW16.out _).mono ?_; rintro e w2 ⟨rfl, rfl⟩; clear HW16) | (go_at_call 69; refine (HW17.out _).mono ?_; rintro e w2 ⟨rfl, rfl⟩; clear HW17))
            go_ret
            exact ⟨by rw [HV.out, HA.out]; rfl, HBW.out⟩
  ·have HA := hid (hb0.out (fun e => by
    have e2 : K ≤ 2 := e.2
    omega))
   have hk1 : (K != 1) = true := by simpa using fun e => hK (.inl e)
   have hk2 : (K != 2) = true := by simpa using fun e => hK (.inr e)
   clear hK
   go_enter Tryz.func62, Tryz.ntmps62
   go_wp2
   go_ret
   exact ⟨by rw [HV.out, HA.out]; rfl, HBW.out⟩

end Go.Proofs.YtpmignilhoihnaaGreat

namespace Go.Proofs.YtpmignilhoihnaaGreat
open Go.RowKit

theorem lay_next (z : List Int) (m P L : Nat) (hp : pls.getD m (0, 0) = ((P : Int), (L : Int))) : layS (numsIno z (m + 1)) = putN (layS (numsIno z m)) P (z.getD m 0) L := by
 rw [numsIno_succ, layS_snoc];unfold numI;rw [hp]
 simp
theorem pls_dir {i : Nat} (h : i < 12) : pls.getD (4 + i) (0, 0) = (((16 + 4 * i : Nat) : Int), ((4 : Nat) : Int)) := by
 have : ∀ i, i < 12 → pls.getD (4 + i) (0, 0) = (((16 + 4 * i : Nat) : Int), ((4 : Nat) : Int)) := by decide
 exact this i h
theorem most_le : ∀ m, m < 18 → most.getD m 0 ≤ 1099511627776 := by decide
def IRq (w : World) (z : List Int) (g m : Nat) (wr : World) : Prop :=
 wr.heap[w.heap.size]? = some (.cells (NA z) 51 (0, 0)) ∧ wr.heap[w.heap.size + 1]? = some (.cells (SA Zs) 33 (0, 0)) ∧ wr.heap[g]? = some (.cells (SA (layS (numsIno z m))) 33 (0, 0)) ∧ w.heap.size + 1 < g ∧ Below w.heap.size w wr
theorem IRq.put {w wr w1 w2 : World} {z : List Int} {g m P L : Nat} {x : Int} (h : IRq w z g m wr) (hx : z.getD m 0 = x) (hb : Below wr.heap.size wr w1) (hp : pls.getD m (0, 0) = ((P : Int), (L : Int))) (h2 : PutR w1 g (SA (putN (layS (numsIno z m)) P x L)) 33 w2) : IRq w z g (m + 1) w2 := by
 subst hx;obtain ⟨h1, h3, h4, h5, h6⟩ := h;have hs := slt h4;refine ⟨?_, ?_, ?_, h5, h2.below (btr h6 hb h6.size) (by omega)⟩
 ·rw [h2.other _ (by omega), hb.block _ (slt h1)]; exact h1
 ·rw [h2.other _ (by omega), hb.block _ (slt h3)]; exact h3
 ·rw [lay_next z m P L hp]; exact h2.here
theorem layN_len (z : List Int) (m : Nat) : (layS (numsIno z m)).length = 128 := (layS_sec _).1
theorem store_secR {ops : Array Oper} {rest : List Oper} {o : Oper} {a : Act} {w : World} {Q : Exit → Act → World → Prop} (hgd : o.guard = none) (x y : Operand) (ho : o.op = .store 33 x y) (g : Nat) (hx : a.eval x = .pointer (some ⟨g, 0, none⟩)) (c : List Int) (hy : a.eval y = .agg (SA c)) (hc : c.length = 128) (old : List Int) (hold : old.length = 128) (hg : w.heap[g]? = some (.cells (SA old) 33 (0, 0)))
  (h : ∀ w', PutR w g (SA c) 33 w' → wpList Tryz.prog ops Q rest (a.put o.dst undef) w') : wpList Tryz.prog ops Q (o :: rest) a w :=
 store_R hgd 33 x y ho g (SA c) hx hy 33 (SA old) hg (by rw [sz26, SA_size, hc]) (by rw [SA_size, SA_size, hc, hold]) (SA_one c) h

section
variable {ops : Array Oper} {Q : Exit → Act → World → Prop} {S : World → Prop} {fuel : Nat} {listed : Array Bool} {a : Act} {w : World}
theorem stR (i d : Nat) (t : TypeId) (x : Operand) (g : Nat) (tb : TypeId) (c : Array Value) (td : TypeDesc) {o : Oper} (hop : ops[i]? = some o) (hd : o.dst = some d) (hw : Region.wanted o (yielded ops a.tmps) = true) (ho : o.op = .load t x) (hx : a.eval x = .pointer (some ⟨g, 0, none⟩)) (hu : Tryz.prog.underlying t = some td) (htd : td.isRow = true) (hi : (Tryz.prog.info? t).map (·.size) = some c.size)
  (hg : w.heap[g]? = some (.cells c tb (0, 0))) (hS : S w)
  (h : wpAnyH Tryz.prog .any ops Q S fuel (listed.setIfInBounds i true) { a with tmps := a.tmps.setIfInBounds d (.agg c) } w) : St ops Q S fuel listed a w i := by
 refine wpOp_step hop (fun K hK => ?_);rw [if_pos hw];unfold Oper.wp execOp
 simp only [ho, hx, Instr.loadAt, Instr.sureAddr, Sem.run_bind, Sem.run_pure, Result.andThen_ok, run_loadR w g t tb c td hg hu htd hi]
 refine hK _ _ ⟨hS, ?_⟩;unfold Act.put;rw [hd]
 exact h
end
set_option maxRecDepth 100000 in
set_option maxHeartbeats 500000 in
theorem rinodeSector_any (z : List Int) (hz : z.length = 18) (w : World) :
  Calls Tryz.prog 31 #[.agg (NA z)] w fun e w' => e = .returned (.tuple #[.agg (SA (inoS z)), .int .i64 (inoE z)]) ∧ Below w.heap.size w w' := by
 have hzs := zero_sec;have hbs := build_sec;have HB0 : Hid (((w.alloc (.cells (NA z) 51)).alloc (.cells (SA Zs) 33)).heap[w.heap.size]? = some (.cells (NA z) 51 (0, 0))) := heap_alloc2_old w _ _;have HB1 : Hid (((w.alloc (.cells (NA z) 51)).alloc (.cells (SA Zs) 33)).heap[w.heap.size + 1]? = some (.cells (SA Zs) 33 (0, 0))) := heap_alloc2_new w _ _;have HBW : Hid (Below w.heap.size w ((w.alloc (.cells (NA z) 51)).alloc (.cells (SA Zs) 33))) := ((Below.refl _ _).alloc (Nat.le_refl _) _).alloc (by simp) _
 have HSz : Hid (((w.alloc (.cells (NA z) 51)).alloc (.cells (SA Zs) 33)).heap.size = w.heap.size + 2) := by show _ = _; simp
 have HM := hid fun w => rinodeMay_any z hz w
 cases hi : inoB z
 ·have HE : Hid (inoS z = Zs ∧ inoE z = 61) := ⟨by simp [inoS, hi], by simp [inoE, hi]⟩
  rw [hi] at HM;clear hi
  go_enter Tryz.func31, Tryz.ntmps31
  go_upto_region 2 with (first | refine load_R rfl 51 (.tmp 1) rfl w.heap.size rfl 51 _ _ HB0.out Tryz.underlying51 rfl (by rw [szI, NA_size, hz]) ?_ | (go_at_call 62; refine (HM.out _).mono ?_; rintro e w1 ⟨rfl, b1⟩; have B1 := hid b1; clear b1))
  have HR1 : Hid (w1.heap[w.heap.size + 1]? = some (.cells (SA Zs) 33 (0, 0))) := by
   show _ = _
   rw [B1.out.block _ (slt HB1.out)]
   exact HB1.out
  have HC1 := hid (btr HBW.out B1.out HBW.out.size)
  go_wp2_with (refine store_secR rfl (.tmp 2) _ rfl (w.heap.size + 1) rfl Zs rfl Zs_len Zs Zs_len HR1.out ?_; intro w3 hw3; have H3 := hid hw3; clear hw3)
  rw [HE.out.1, HE.out.2]
  exact bodyPost_ret (v := .tuple #[.agg (SA Zs), .int .i64 61]) (results_sec Tryz.results31 _ _ (w.heap.size + 1) Zs Zs_len _ rfl rfl H3.out.here) rfl ⟨rfl, H3.out.below HC1.out (by omega)⟩
 ·have HE : Hid (inoS z = layS (numsIno z 18) ∧ inoE z = 0) := ⟨by simp [inoS, hi], by simp [inoE, hi]⟩
  have HV : Hid (∀ m, m < 18 → 0 ≤ z.getD m 0 ∧ z.getD m 0 ≤ 9223372036854775807) := fun m hm => ⟨(ino_le hi m hm).1, by have := (ino_le hi m hm).2; have := most_le m hm; omega⟩
  rw [hi] at HM;clear hi
  go_enter Tryz.func31, Tryz.ntmps31
  go_upto_region 3 with (first | refine load_R rfl 51 (.tmp 1) rfl w.heap.size rfl 51 _ _ HB0.out Tryz.underlying51 rfl (by rw [szI, NA_size, hz]) ?_ | (go_at_call 62; refine (HM.out _).mono ?_; rintro e w1 ⟨rfl, b1⟩; have B1 := hid b1; clear b1))
  go_upto_region 4 with (fail)
  have I0 : Hid (IRq w z w1.heap.size 0 (w1.alloc (.cells (SA Zs) 33))) := by
   have hb2 : Below w1.heap.size w1 (w1.alloc (.cells (SA Zs) 33)) := (Below.refl _ _).alloc (Nat.le_refl _) _;have e0 := slt HB0.out;have e1 := slt HB1.out;have e2 := B1.out.size;have hs1 := HSz.out;refine ⟨?_, ?_, heap_alloc_new w1 _, by omega, btr (btr HBW.out B1.out HBW.out.size) hb2 (Nat.le_trans HBW.out.size B1.out.size)⟩
   ·rw [hb2.block _ (by omega), B1.out.block _ e0]; exact HB0.out
   ·rw [hb2.block _ (by omega), B1.out.block _ e1]; exact HB1.out
  clear HB0 HB1 HBW HSz HM B1 hzs hbs
  generalize w1.alloc (.cells (SA Zs) 33) = v0 at *
  generalize w1.heap.size = g at *
  have kf0 := row_cell I0.out.1 0 (by omega)
  have HL0 := hid fun w => rlay_any (layS (numsIno z 0)) 0 1 (z.getD 0 0) w (layN_len z 0) (by decide) (HV.out 0 (by decide)).1 (HV.out 0 (by decide)).2
  obtain ⟨x0, hx0⟩ : ∃ x, z.getD 0 0 = x := ⟨_, rfl⟩;rw [hx0] at kf0 HL0;replace hx0 := hid hx0
  have hpl0 : Hid ((putN (layS (numsIno z 0)) 0 x0 1).length = 128) := by show _ = _; rw [putN_len, layN_len]
  go_upto_region 5 with (first | refine load_sec rfl (.tmp 4) rfl g rfl (layS (numsIno z 0)) (layN_len z 0) I0.out.2.2.1 ?_ | (go_at_call 63; refine (HL0.out _).mono ?_; rintro e u0 ⟨rfl, c0⟩; have C0 := hid c0; clear c0) | (refine store_secR rfl (.tmp 4) _ rfl g rfl (putN (layS (numsIno z 0)) 0 x0 1) rfl hpl0.out (layS (numsIno z 0)) (layN_len z 0) (by rw [C0.out.block _ (slt I0.out.2.2.1)]; exact I0.out.2.2.1) ?_; intro v1 p0; have I1 := hid (I0.out.put hx0.out C0.out (P := 0) (L := 1) (by decide) p0); clear p0))
  clear kf0 HL0 hpl0 C0 I0;have kf1 := row_cell I1.out.1 1 (by omega)
  have HL1 := hid fun w => rlay_any (layS (numsIno z 1)) 1 1 (z.getD 1 0) w (layN_len z 1) (by decide) (HV.out 1 (by decide)).1 (HV.out 1 (by decide)).2
  obtain ⟨x1, hx1⟩ : ∃ x, z.getD 1 0 = x := ⟨_, rfl⟩;rw [hx1] at kf1 HL1;replace hx1 := hid hx1
  have hpl1 : Hid ((putN (layS (numsIno z 1)) 1 x1 1).length = 128) := by show _ = _; rw [putN_len, layN_len]
  go_upto_region 6 with (first | refine load_sec rfl (.tmp 4) rfl g rfl (layS (numsIno z 1)) (layN_len z 1) I1.out.2.2.1 ?_ | (go_at_call 63; refine (HL1.out _).mono ?_; rintro e u1 ⟨rfl, c1⟩; have C1 := hid c1; clear c1) | (refine store_secR rfl (.tmp 4) _ rfl g rfl (putN (layS (numsIno z 1)) 1 x1 1) rfl hpl1.out (layS (numsIno z 1)) (layN_len z 1) (by rw [C1.out.block _ (slt I1.out.2.2.1)]; exact I1.out.2.2.1) ?_; intro v2 p1; have I2 := hid (I1.out.put hx1.out C1.out (P := 1) (L := 1) (by decide) p1); clear p1))
  clear kf1 HL1 hpl1 C1 I1;have kf2 := row_cell I2.out.1 2 (by omega)
  have HL2 := hid fun w => rlay_any (layS (numsIno z 2)) 4 4 (z.getD 2 0) w (layN_len z 2) (by decide) (HV.out 2 (by decide)).1 (HV.out 2 (by decide)).2
  obtain ⟨x2, hx2⟩ : ∃ x, z.getD 2 0 = x := ⟨_, rfl⟩;rw [hx2] at kf2 HL2;replace hx2 := hid hx2
  have hpl2 : Hid ((putN (layS (numsIno z 2)) 4 x2 4).length = 128) := by show _ = _; rw [putN_len, layN_len]
  go_upto_region 7 with (first | refine load_sec rfl (.tmp 4) rfl g rfl (layS (numsIno z 2)) (layN_len z 2) I2.out.2.2.1 ?_ | (go_at_call 63; refine (HL2.out _).mono ?_; rintro e u2 ⟨rfl, c2⟩; have C2 := hid c2; clear c2) | (refine store_secR rfl (.tmp 4) _ rfl g rfl (putN (layS (numsIno z 2)) 4 x2 4) rfl hpl2.out (layS (numsIno z 2)) (layN_len z 2) (by rw [C2.out.block _ (slt I2.out.2.2.1)]; exact I2.out.2.2.1) ?_; intro v3 p2; have I3 := hid (I2.out.put hx2.out C2.out (P := 4) (L := 4) (by decide) p2); clear p2))
  clear kf2 HL2 hpl2 C2 I2;have kf3 := row_cell I3.out.1 3 (by omega)
  have HL3 := hid fun w => rlay_any (layS (numsIno z 3)) 8 8 (z.getD 3 0) w (layN_len z 3) (by decide) (HV.out 3 (by decide)).1 (HV.out 3 (by decide)).2
  obtain ⟨x3, hx3⟩ : ∃ x, z.getD 3 0 = x := ⟨_, rfl⟩;rw [hx3] at kf3 HL3;replace hx3 := hid hx3
  have hpl3 : Hid ((putN (layS (numsIno z 3)) 8 x3 8).length = 128) := by show _ = _; rw [putN_len, layN_len]
  go_upto_region 8 with (first | refine load_sec rfl (.tmp 4) rfl g rfl (layS (numsIno z 3)) (layN_len z 3) I3.out.2.2.1 ?_ | (go_at_call 63; refine (HL3.out _).mono ?_; rintro e u3 ⟨rfl, c3⟩; have C3 := hid c3; clear c3) | (refine store_secR rfl (.tmp 4) _ rfl g rfl (putN (layS (numsIno z 3)) 8 x3 8) rfl hpl3.out (layS (numsIno z 3)) (layN_len z 3) (by rw [C3.out.block _ (slt I3.out.2.2.1)]; exact I3.out.2.2.1) ?_; intro v4 p3; have I4 := hid (I3.out.put hx3.out C3.out (P := 8) (L := 8) (by decide) p3); clear p3))
  clear kf3 HL3 hpl3 C3 I3
  go_wp2
  go_loopw [5] (fun i wr => ∃ q : Nat, q ≤ 12 ∧ i = .int .i64 q ∧ Hid (IRq w z g (4 + q) wr)) (fun i _ => 12 - (intOf i).toNat)
  case atStart => exact ⟨0, by omega, rfl, I4⟩
  case round =>
   clear I4;obtain ⟨q, hq, rfl, HI⟩ := hrel
   by_cases hlt : q < 12
   ·have hqi : (q : Int) < 12 := by omega
    have HL := hid fun w => rlay_any (layS (numsIno z (4 + q))) (16 + 4 * q) 4 (z.getD (4 + q) 0) w (layN_len z (4 + q)) (by omega) (HV.out (4 + q) (by omega)).1 (HV.out (4 + q) (by omega)).2
    rw [show ((16 + 4 * q : Nat) : Int) = 16 + 4 * (q : Int) by omega] at HL
    have HCq : Hid (∀ w' : World, w'.heap[w.heap.size]? = some (.cells (NA z) 51 (0, 0)) → w'.cell? ⟨w.heap.size, 4 + q, none⟩ = some (.int .i64 (z.getD (4 + q) 0))) := fun w' h => row_cell h (4 + q) (by omega)
    obtain ⟨x, hx⟩ : ∃ x, z.getD (4 + q) 0 = x := ⟨_, rfl⟩;rw [hx] at HL HCq;replace hx := hid hx
    have hpl : Hid ((putN (layS (numsIno z (4 + q))) (16 + 4 * q) x 4).length = 128) := by show _ = _; rw [putN_len, layN_len]
    have hpd := hid (pls_dir hlt);have HIL := hid (layN_len z (4 + q))
    go_upto_region 11 with (fail)
    refine wp_region_noPanic ?_;refine wp_region_held_drew (S := fun w' => w'.heap[w.heap.size]? = some (.cells (NA z) 51 (0, 0))) (by kernel_rfl) HI.out.1 (fun hH => ?_);refine tV 1 31 (.int .i64 (q : Int)) rfl (by kernel_rfl) rfl (by rfl) hH (fun _ hw' => rfl) ?_;simp only [sS];refine tV 2 32 (.int .i64 (4 * (q : Int))) rfl (by kernel_rfl) rfl (by rfl) hH (fun _ hw' => by go_simp; exact IntWalk.i64_in _ (by omega)) ?_;simp only [sS];refine tV 3 33 (.int .i64 (16 + 4 * (q : Int))) rfl (by kernel_rfl) rfl (by rfl) hH (fun _ hw' => by go_simp; exact IntWalk.i64_in _ (by omega)) ?_;simp only [sS];refine tV 4 34 (.int .i64 (q : Int)) rfl (by kernel_rfl) rfl (by rfl) hH (fun _ hw' => rfl) ?_;simp only [sS];refine tV 5 35 (.pointer (some ⟨w.heap.size, 4, none⟩)) rfl (by kernel_rfl) rfl (by rfl) hH (fun _ hw' => by go_simp) ?_;simp only [sS];refine tV 6 36 (.pointer (some ⟨w.heap.size, 4 + q, none⟩)) rfl (by kernel_rfl) rfl (by rfl) hH (fun _ hw' => by go_simp) ?_;simp only [sS];refine tV 7 37 (.int .i64 x) rfl (by kernel_rfl) rfl (by rfl) hH (fun _ hw' => by have cc := HCq.out _ hw'; go_simp) ?_;simp only [sS];refine step1 0 (by kernel_rfl) ?_;refine stR 0 30 33 (.tmp 4) g 33 (SA (layS (numsIno z (4 + q)))) _ rfl rfl (by rfl) rfl rfl Tryz.underlying33 rfl (by rw [sz26, SA_size, HIL.out]) HI.out.2.2.1 hH ?_;simp only [sS];refine step1 8 (by kernel_rfl) ?_;refine stCall 8 38 63 #[.agg (SA (layS (numsIno z (4 + q)))), .int .i64 (16 + 4 * (q : Int)), .int .i64 4, .int .i64 x] _ rfl rfl (by rfl) (by go_simp) (HL.out _) ?_
    rintro e wa ⟨rfl, bwa⟩
    have hH : wa.heap[w.heap.size]? = some (.cells (NA z) 51 (0, 0)) := by rw [bwa.block _ (slt hH)]; exact hH
    have hG : wa.heap[g]? = some (.cells (SA (layS (numsIno z (4 + q)))) 33 (0, 0)) := by rw [bwa.block _ (slt HI.out.2.2.1)]; exact HI.out.2.2.1
    refine ⟨_, rfl, hH, ?_⟩;simp only [sS];refine step1 9 (by kernel_rfl) ?_;refine stStoreR 9 33 (.tmp 4) (.tmp 38) g (SA (putN (layS (numsIno z (4 + q))) (16 + 4 * q) x 4)) 33 (SA (layS (numsIno z (4 + q)))) rfl rfl (by rfl) rfl rfl rfl hG (by rw [sz26, SA_size, hpl.out]) (by rw [SA_size, SA_size, hpl.out, HIL.out]) (SA_one _) ?_
    intro wT hT
    have hwr : Below wr.heap.size wr wr.drew := ⟨rfl, rfl, rfl, Nat.le_refl _, fun _ _ => rfl⟩;have IN := hid (HI.out.put hx.out (btr hwr bwa (Nat.le_refl _)) hpd.out hT);refine ⟨by rw [hT.other _ (by have := HI.out.2.2.2.1; omega)]; exact hH, ?_⟩;refine wpAnyH_done (by kernel_rfl) ?_ _;refine NoPanic.normal ?_;clear hH
    go_wp2_with fail
    exact ⟨⟨q + 1, by omega, by go_num, IN⟩, by simp [intOf]; omega⟩
   ·obtain rfl : q = 12 := by omega
    have I16 : Hid (IRq w z g 16 wr) := HI;clear hlt hq HI;have kf16 := row_cell I16.out.1 16 (by omega)
    have HL16 := hid fun w => rlay_any (layS (numsIno z 16)) 64 4 (z.getD 16 0) w (layN_len z 16) (by decide) (HV.out 16 (by decide)).1 (HV.out 16 (by decide)).2
    obtain ⟨x16, hx16⟩ : ∃ x, z.getD 16 0 = x := ⟨_, rfl⟩;rw [hx16] at kf16 HL16;replace hx16 := hid hx16
    have hpl16 : Hid ((putN (layS (numsIno z 16)) 64 x16 4).length = 128) := by show _ = _; rw [putN_len, layN_len]
    go_upto_region 13 with (first | refine load_sec rfl (.tmp 4) rfl g rfl (layS (numsIno z 16)) (layN_len z 16) I16.out.2.2.1 ?_ | (go_at_call 63; refine (HL16.out _).mono ?_; rintro e u16 ⟨rfl, c16⟩; have C16 := hid c16; clear c16) | (refine store_secR rfl (.tmp 4) _ rfl g rfl (putN (layS (numsIno z 16)) 64 x16 4) rfl hpl16.out (layS (numsIno z 16)) (layN_len z 16) (by rw [C16.out.block _ (slt I16.out.2.2.1)]; exact I16.out.2.2.1) ?_; intro v17 p16; have I17 := hid (I16.out.put hx16.out C16.out (P := 64) (L := 4) (by decide) p16); clear p16))
    clear kf16 HL16 hpl16 C16 I16;have kf := row_cell I17.out.1 17 (by omega)
    have HL := hid fun w => rlay_any (layS (numsIno z 17)) 68 4 (z.getD 17 0) w (layN_len z 17) (by decide) (HV.out 17 (by decide)).1 (HV.out 17 (by decide)).2
    have HF0 := lay_next z 17 68 4 (by decide);obtain ⟨x, hx⟩ : ∃ x, z.getD 17 0 = x := ⟨_, rfl⟩;rw [hx] at kf HL HF0;clear hx
    have hpl : Hid ((putN (layS (numsIno z 17)) 68 x 4).length = 128) := by show _ = _; rw [putN_len, layN_len]
    have HF : Hid (putN (layS (numsIno z 17)) 68 x 4 = layS (numsIno z 18)) := HF0.symm;clear HF0
    go_wp2_with (first | refine load_sec rfl (.tmp 4) rfl g rfl (layS (numsIno z 17)) (layN_len z 17) I17.out.2.2.1 ?_ | (go_at_call 63; refine (HL.out _).mono ?_; rintro e u ⟨rfl, c⟩; have C := hid c; clear c) | (refine store_secR rfl (.tmp 2) _ rfl (w.heap.size + 1) rfl (putN (layS (numsIno z 17)) 68 x 4) rfl hpl.out Zs Zs_len (by rw [C.out.block _ (slt I17.out.2.1)]; exact I17.out.2.1) ?_; intro v pp; have PP := hid pp; clear pp))
    rw [HE.out.1, HE.out.2, ← HF.out]
    exact bodyPost_ret (v := .tuple #[.agg (SA (putN (layS (numsIno z 17)) 68 x 4)), .int .i64 0]) (results_sec Tryz.results31 _ _ (w.heap.size + 1) _ hpl.out _ rfl rfl PP.out.here) rfl ⟨rfl, PP.out.below (btr I17.out.2.2.2.2 C.out I17.out.2.2.2.2.size) (by omega)⟩

end Go.Proofs.YtpmignilhoihnaaGreat
