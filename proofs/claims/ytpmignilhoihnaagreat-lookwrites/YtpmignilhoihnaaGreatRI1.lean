/-
  The document's inodeMay: whether an inode's fields may stand together.
-/
import Derived.Test.YtpmignilhoihnaaGreatLF1
import Derived.Test.YtpmignilhoihnaaGreatLI1
namespace Go.Proofs.YtpmignilhoihnaaGreat
open Go.RowKit

theorem wi_of {n a b : Int} (h : wiB n a b = true) : a ≤ n ∧ n ≤ b := of_decide_eq_true h
theorem wi_not {n a b : Int} (h : wiB n a b = false) : ¬ (a ≤ n ∧ n ≤ b) := of_decide_eq_false h
theorem most_at : most.getD 1 0 = 100 ∧ most.getD 2 0 = 136704 ∧ most.getD 3 0 = 1099511627776 ∧ most.getD 16 0 = 4294967295 ∧ most.getD 17 0 = 4294967295 := by decide
theorem most_dir {i : Nat} (h : i < 12) : most.getD (4 + i) 0 = 4294967295 := by
  have : ∀ i, i < 12 → most.getD (4 + i) 0 = 4294967295 := by decide
  exact this i h

set_option maxRecDepth 100000 in
set_option maxHeartbeats 4000000 in
theorem rinodeMay_any (z : List Int) (hz : z.length = 18) (w : World) :
    Calls Tryz.prog 62 #[.agg (NA z)] w fun e w' => e = .returned (.bool (inoB z)) ∧ Below w.heap.size w w' := by
  have hg1 : (w.alloc (.cells (NA z) 51)).heap[w.heap.size]? = some (.cells (NA z) 51 (0, 0)) := heap_alloc_new _ _
  have HBW := hid (show Below w.heap.size w (w.alloc (.cells (NA z) 51)) from (Below.refl _ _).alloc (Nat.le_refl _) _)
  have hbi := build_inode
  have heq := hid (eq_inode z Zi hz Zi_len)
  have hgd := hid guard_inode
  have HCell := hid fun j (h : j < 18) => row_cell hg1 j (by omega)
  have HG1 := hid hg1
  clear hg1
  have k0 := HCell.out 0 (by decide)
  have k1 := HCell.out 1 (by decide)
  have k2 := HCell.out 2 (by decide)
  have k3 := HCell.out 3 (by decide)
  have k16 := HCell.out 16 (by decide)
  have k17 := HCell.out 17 (by decide)
  have HInB : Hid (z.getD 0 0 ≠ 0 → inoB z = (allB z && (z.getD 0 0 != 2 || z.getD 2 0 % 128 == 0))) := fun h => if_neg h
  have HIn0 : Hid (z.getD 0 0 = 0 → inoB z = decide (z = Zi)) := fun h => if_pos h
  have HBad := hid fun m (h : m < 18) hb => allB_false (z := z) (m := m) h hb
  have HAll : Hid ((0 ≤ z.getD 0 0 ∧ z.getD 0 0 ≤ 2) → (0 ≤ z.getD 1 0 ∧ z.getD 1 0 ≤ 100) → (0 ≤ z.getD 2 0 ∧ z.getD 2 0 ≤ 136704) → (0 ≤ z.getD 3 0 ∧ z.getD 3 0 ≤ 1099511627776) → (∀ i, i < 12 → 0 ≤ z.getD (4 + i) 0 ∧ z.getD (4 + i) 0 ≤ 4294967295) → (0 ≤ z.getD 16 0 ∧ z.getD 16 0 ≤ 4294967295) → (0 ≤ z.getD 17 0 ∧ z.getD 17 0 ≤ 4294967295) → allB z = true) := fun h0 h1 h2 h3 h4 h5 h6 => allB_true fun m hm => by
    match m, hm with
    | 0, _ => exact h0
    | 1, _ => exact h1
    | 2, _ => exact h2
    | 3, _ => exact h3
    | 16, _ => exact h5
    | 17, _ => exact h6
    | 4, _ => exact h4 0 (by decide)
    | 5, _ => exact h4 1 (by decide)
    | 6, _ => exact h4 2 (by decide)
    | 7, _ => exact h4 3 (by decide)
    | 8, _ => exact h4 4 (by decide)
    | 9, _ => exact h4 5 (by decide)
    | 10, _ => exact h4 6 (by decide)
    | 11, _ => exact h4 7 (by decide)
    | 12, _ => exact h4 8 (by decide)
    | 13, _ => exact h4 9 (by decide)
    | 14, _ => exact h4 10 (by decide)
    | 15, _ => exact h4 11 (by decide)
    | n + 18, hn => exact absurd hn (by omega)
  have hb0 := HBad.out 0 (by decide)
  have hb1 := HBad.out 1 (by decide)
  have hb2 := HBad.out 2 (by decide)
  have hb3 := HBad.out 3 (by decide)
  have hb16 := HBad.out 16 (by decide)
  have hb17 := HBad.out 17 (by decide)
  have hbd := hid fun i (h : i < 12) hb => HBad.out (4 + i) (by omega) hb
  replace hb0 := hid hb0
  replace hb1 := hid hb1
  replace hb2 := hid hb2
  replace hb3 := hid hb3
  replace hb16 := hid hb16
  replace hb17 := hid hb17
  generalize z.getD 0 0 = K at *
  generalize z.getD 1 0 = a1 at *
  generalize z.getD 2 0 = a2 at *
  generalize z.getD 3 0 = a3 at *
  generalize z.getD 16 0 = a16 at *
  generalize z.getD 17 0 = a17 at *
  clear HBad
  by_cases h0 : K = 0
  · have HV := hid (HIn0.out h0)
    subst h0
    go_enter Tryz.func62, Tryz.ntmps62
    go_wp2_with (first | refine load_R rfl 51 (.tmp 1) rfl w.heap.size rfl 51 _ _ HG1.out Tryz.underlying51 rfl (by rw [szI, NA_size, hz]) ?_ | refine eql_R rfl 51 (.tmp 7) (.tmp 8) rfl (NA z) (NA Zi) _ rfl rfl heq.out hgd.out ?_)
    go_ret
    exact ⟨by rw [HV.out]; rfl, HBW.out⟩
  · have h0' : (K == 0) = false := beq_false_of_ne h0
    have HV := hid (HInB.out h0)
    clear heq HIn0 HInB hbi
    have HW1 := hid fun w => rwithin_any a1 0 100 w
    have HW2 := hid fun w => rwithin_any a2 0 136704 w
    have HW3 := hid fun w => rwithin_any a3 0 1099511627776 w
    have HW16 := hid fun w => rwithin_any a16 0 4294967295 w
    have HW17 := hid fun w => rwithin_any a17 0 4294967295 w
    by_cases hK : K = 1 ∨ K = 2
    · have hk12 : ((K != 1) && (K != 2)) = false := by rcases hK with e | e <;> simp [e]
      have HK02 : Hid (0 ≤ K ∧ K ≤ 2) := ⟨by omega, by omega⟩
      cases q1 : wiB a1 0 100
      · have HA := hid (hb1.out (wi_not q1))
        rw [q1] at HW1
        rcases hK with rfl | rfl
        all_goals
          go_enter Tryz.func62, Tryz.ntmps62
          go_wp2_with (go_at_call 69; refine (HW1.out _).mono ?_; rintro e w2 ⟨rfl, rfl⟩)
          go_ret
          exact ⟨by rw [HV.out, HA.out]; rfl, HBW.out⟩
      · cases q2 : wiB a2 0 136704
        · have HA := hid (hb2.out (wi_not q2))
          rw [q1] at HW1
          rw [q2] at HW2
          rcases hK with rfl | rfl
          all_goals
            go_enter Tryz.func62, Tryz.ntmps62
            go_wp2_with (first | (go_at_call 69; refine (HW1.out _).mono ?_; rintro e w2 ⟨rfl, rfl⟩; clear HW1) | (go_at_call 69; refine (HW2.out _).mono ?_; rintro e w2 ⟨rfl, rfl⟩; clear HW2))
            go_ret
            exact ⟨by rw [HV.out, HA.out]; rfl, HBW.out⟩
        · cases q3 : wiB a3 0 1099511627776
          · have HA := hid (hb3.out (wi_not q3))
            rw [q1] at HW1
            rw [q2] at HW2
            rw [q3] at HW3
            rcases hK with rfl | rfl
            all_goals
              go_enter Tryz.func62, Tryz.ntmps62
              go_wp2_with (first | (go_at_call 69; refine (HW1.out _).mono ?_; rintro e w2 ⟨rfl, rfl⟩; clear HW1) | (go_at_call 69; refine (HW2.out _).mono ?_; rintro e w2 ⟨rfl, rfl⟩; clear HW2) | (go_at_call 69; refine (HW3.out _).mono ?_; rintro e w2 ⟨rfl, rfl⟩; clear HW3))
              go_ret
              exact ⟨by rw [HV.out, HA.out]; rfl, HBW.out⟩
          · have hs2 := wi_of q2
            have HP1 := hid (wi_of q1)
            have HP2 := hid (wi_of q2)
            have HP3 := hid (wi_of q3)
            rw [q1] at HW1
            rw [q2] at HW2
            rw [q3] at HW3
            by_cases hr : K = 2 ∧ ¬ a2 % 128 = 0
            · obtain ⟨rfl, hr⟩ := hr
              have HA : Hid (((2 : Int) != 2 || a2 % 128 == 0) = false) := by
                show _ = false
                simp [hr]
              have hr2 : (a2 % 128 != 0) = true := by simpa using hr
              clear hr
              go_enter Tryz.func62, Tryz.ntmps62
              go_wp2_with (first | (go_at_call 69; refine (HW1.out _).mono ?_; rintro e w2 ⟨rfl, rfl⟩; clear HW1) | (go_at_call 69; refine (HW2.out _).mono ?_; rintro e w2 ⟨rfl, rfl⟩; clear HW2) | (go_at_call 69; refine (HW3.out _).mono ?_; rintro e w2 ⟨rfl, rfl⟩; clear HW3))
              go_ret
              exact ⟨by rw [HV.out, HA.out, Bool.and_false]; rfl, HBW.out⟩
            · have HA : Hid ((K != 2 || a2 % 128 == 0) = true) := by
                show _ = true
                by_cases e : K = 2
                · have : a2 % 128 = 0 := by
                    by_cases f : a2 % 128 = 0
                    · exact f
                    · exact absurd ⟨e, f⟩ hr
                  simp [this]
                · simp [e]
              have hrr : (K == 2 && a2 % 128 != 0) = false := by
                by_cases e : K = 2
                · have : a2 % 128 = 0 := by
                    by_cases f : a2 % 128 = 0
                    · exact f
                    · exact absurd ⟨e, f⟩ hr
                  simp [this]
                · simp [e]
              rw [HA.out, Bool.and_true] at HV
              clear HA
              have hcase : (K = 1) ∨ (K = 2 ∧ (a2 % 128 != 0) = false) := by
                rcases hK with e | e
                · exact .inl e
                · rw [e] at hrr
                  exact .inr ⟨e, by simpa using hrr⟩
              clear hr hK hrr hk12
              go_enter Tryz.func62, Tryz.ntmps62
              rcases hcase with rfl | ⟨rfl, hm0⟩
              all_goals
                go_wp2_with (first | (go_at_call 69; refine (HW1.out _).mono ?_; rintro e w2 ⟨rfl, rfl⟩; clear HW1) | (go_at_call 69; refine (HW2.out _).mono ?_; rintro e w2 ⟨rfl, rfl⟩; clear HW2) | (go_at_call 69; refine (HW3.out _).mono ?_; rintro e w2 ⟨rfl, rfl⟩; clear HW3))
                go_loop [3] (fun i => ∃ q : Nat, q ≤ 12 ∧ i = .int .i64 q ∧ Hid (∀ j, j < q → 0 ≤ z.getD (4 + j) 0 ∧ z.getD (4 + j) 0 ≤ 4294967295)) (fun i => 12 - (intOf i).toNat)
                case atStart => exact ⟨0, by omega, rfl, hid (fun j hj => absurd hj (Nat.not_lt_zero _))⟩
                case round =>
                  obtain ⟨q, hq, rfl, HD⟩ := hrel
                  by_cases hlt : q < 12
                  · have hqi : (q : Int) < 12 := by omega
                    have kd := HCell.out (4 + q) (by omega)
                    have HWd := hid fun w => rwithin_any (z.getD (4 + q) 0) 0 4294967295 w
                    cases qd : wiB (z.getD (4 + q) 0) 0 4294967295
                    · have HA := hid (hbd.out q hlt (by rw [most_dir hlt]; exact wi_not qd))
                      rw [qd] at HWd
                      generalize z.getD (4 + q) 0 = x at *
                      clear qd hlt
                      go_wp2_with (go_at_call 69; refine (HWd.out _).mono ?_; rintro e w2 ⟨rfl, rfl⟩)
                      go_ret
                      exact ⟨by rw [HV.out, HA.out]; rfl, HBW.out⟩
                    · have HD2 : Hid (∀ j, j < q + 1 → 0 ≤ z.getD (4 + j) 0 ∧ z.getD (4 + j) 0 ≤ 4294967295) := fun j hj => by
                        by_cases e : j < q
                        · exact HD.out j e
                        · rw [show j = q by omega]; exact wi_of qd
                      rw [qd] at HWd
                      generalize z.getD (4 + q) 0 = x at *
                      clear qd hlt
                      go_wp2_with (go_at_call 69; refine (HWd.out _).mono ?_; rintro e w2 ⟨rfl, rfl⟩)
                      exact ⟨⟨q + 1, by omega, by go_num, HD2⟩, by simp [intOf]; omega⟩
                  · obtain rfl : q = 12 := by omega
                    clear hlt hq
                    cases q16 : wiB a16 0 4294967295
                    · have HA := hid (hb16.out (wi_not q16))
                      rw [q16] at HW16
                      clear q16
                      go_wp2_with (go_at_call 69; refine (HW16.out _).mono ?_; rintro e w2 ⟨rfl, rfl⟩)
                      go_ret
                      exact ⟨by rw [HV.out, HA.out]; rfl, HBW.out⟩
                    · cases q17 : wiB a17 0 4294967295
                      · have HA := hid (hb17.out (wi_not q17))
                        rw [q16] at HW16
                        rw [q17] at HW17
                        clear q16 q17
                        go_wp2_with (first | (go_at_call 69; refine (HW16.out _).mono ?_; rintro e w2 ⟨rfl, rfl⟩; clear HW16) | (go_at_call 69; refine (HW17.out _).mono ?_; rintro e w2 ⟨rfl, rfl⟩; clear HW17))
                        go_ret
                        exact ⟨by rw [HV.out, HA.out]; rfl, HBW.out⟩
                      · have HA := hid (HAll.out HK02.out HP1.out HP2.out HP3.out HD.out (wi_of q16) (wi_of q17))
                        rw [q16] at HW16
                        rw [q17] at HW17
                        clear q16 q17
                        go_wp2_with (first | (go_at_call 69; refine (HW16.out _).mono ?_; rintro e w2 ⟨rfl, rfl⟩; clear HW16) | (go_at_call 69; refine (HW17.out _).mono ?_; rintro e w2 ⟨rfl, rfl⟩; clear HW17))
                        go_ret
                        exact ⟨by rw [HV.out, HA.out]; rfl, HBW.out⟩
    · have HA := hid (hb0.out (fun e => by
        have e2 : K ≤ 2 := e.2
        omega))
      have hk1 : (K != 1) = true := by simpa using fun e => hK (.inl e)
      have hk2 : (K != 2) = true := by simpa using fun e => hK (.inr e)
      clear hK
      go_enter Tryz.func62, Tryz.ntmps62
      go_wp2
      go_ret
      exact ⟨by rw [HV.out, HA.out]; rfl, HBW.out⟩

end Go.Proofs.YtpmignilhoihnaaGreat
