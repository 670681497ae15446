/-
  BitsCounts returns true: the walk.
-/
import Derived.Test.YthhhobjdplgcpaaWRefused
namespace Go.Proofs.Ythhhobjdplgcpaa
open Go.RowKit

/-- What has been copied so far: the first k truths. -/
def mkB (L : List Bool) (k : Nat) : List Bool := L.take k ++ noneL (L.length - k)
theorem mkB_len (L : List Bool) (k : Nat) (h : k ≤ L.length) : (mkB L k).length = L.length := by simp [mkB, noneL]; omega
theorem mkB_0 (L : List Bool) : mkB L 0 = noneL L.length := by simp [mkB]
theorem mkB_all (L : List Bool) : mkB L L.length = L := by simp [mkB, noneL]
theorem mkB_succ (L : List Bool) (k : Nat) (h : k < L.length) : (mkB L k).set k (hasL L (k : Int)) = mkB L (k + 1) := by
  apply List.ext_getElem?
  intro i
  unfold mkB noneL
  rw [List.getElem?_set, hasL_get L k h]
  by_cases e : k = i
  · subst e
    rw [if_pos rfl, if_pos (by simp; omega), List.getElem?_append_left (by simp; omega), List.getElem?_take_of_lt (by omega), List.getElem?_eq_getElem h]
  · rw [if_neg e]
    rcases Nat.lt_or_ge i k with c | c
    · rw [List.getElem?_append_left (by simp; omega), List.getElem?_append_left (by simp; omega), List.getElem?_take_of_lt c, List.getElem?_take_of_lt (by omega)]
    · rw [List.getElem?_append_right (by simp; omega), List.getElem?_append_right (by simp; omega), List.length_take, List.length_take, List.getElem?_replicate, List.getElem?_replicate, Nat.min_eq_left (by omega), Nat.min_eq_left (by omega)]
      by_cases d : i < L.length
      · rw [if_pos (by omega), if_pos (by omega)]
      · rw [if_neg (by omega), if_neg (by omega)]
theorem BA_cell {w : World} {u : Nat} {L : List Bool} (h : w.heap[u]? = some (.cells (BA L) 4 (0, 0))) (j : Nat) (hj : j < L.length) : w.cell? ⟨u, j, none⟩ = some (.bool (hasL L (j : Int))) := by
  rw [cell_of_row _ _ _ _ _ _ h, BA_get L j hj, hasL_nat]

set_option maxRecDepth 100000 in
set_option maxHeartbeats 2000000 in
theorem counts_walkN (sc ag : Int) (xs : List Int) (len : Nat) (hlen : Hid (xs.length = len)) (a : Option Addr) (cap : Nat) (w : World) (hsc : I64 sc) (hag : I64 ag) (hl : len ≤ 140737488355328) (IX : Hid (IntsAt w a xs)) (H64 : Hid (∀ x, x ∈ xs → I64 x)) (N0 N : Nat) (hN : pickN sc 4096 = (N0 : Int)) (hN0 : 1 + (N0 : Int) = (N : Int)) (hN2 : N ≤ 4096) (hN1 : 1 ≤ N) :
    Calls Try.prog 6 #[.int .i64 sc, .slice a len cap, .int .i64 ag] w fun e w' => e = .returned (.bool true) ∧ Below w.heap.size w w' := by
  have HPN := hid fun w => pick_any sc 4096 w hsc (by decide) (by decide)
  rw [hN] at HPN
  clear hN
  go_enter Try.func6, Try.ntmps6
  go_upto_region 3 with (first | (go_at_call 9; refine (awake_any _).mono ?_; rintro e w1 ⟨rfl, hb1⟩; have B1 := hid hb1; clear hb1) | (go_at_call 16; refine (HPN.out _).mono ?_; rintro e w2 ⟨rfl, rfl⟩))
  clear hN0 HPN
  go_upto_region 4 with (go_at_call 24; refine (row_any N xs [] a none cap 0 len 0 _ (by omega) hlen rfl hl (by decide) (hid (IX.out.call B1.out)) (IntsAt.nil _) H64 (hid (by simp))).mono ?_; rintro e w3 ⟨p, g, L, rfl, hp, hg, hL, h3, hb3⟩; have H3 := hid h3; have B3 := hid (B1.out.trans (hb3.mono B1.out.size)); have HG0 := hid (Nat.le_trans B1.out.size hg); have HLn := hid hL; clear hp hg hL h3 hb3)
  have hmk := make_bools N hN2
  go_wp2
  have HU0 : Hid ((w3.alloc (.cells (BA (noneL N)) 4)).heap[w3.heap.size]? = some (.cells (BA (mkB L 0)) 4 (0, 0))) := by show _ = _; rw [mkB_0, HLn.out]; exact heap_alloc_new w3 _
  have H4 := hid (H3.out.call ((Below.refl _ _).alloc (Nat.le_refl _) (.cells (BA (noneL N)) 4)))
  have B4 := hid (B3.out.alloc B3.out.size (.cells (BA (noneL N)) 4))
  have HUp : Hid (¬ p = w3.heap.size) := Nat.ne_of_lt (slt H3.out.me)
  have HUg : Hid (¬ g = w3.heap.size) := by obtain ⟨W, hW, _⟩ := H3.out.words; exact Nat.ne_of_lt (slt hW)
  have HUw : Hid (w.heap.size ≤ w3.heap.size) := B3.out.size
  clear H3 B3
  generalize hu : w3.heap.size = u at *
  clear hu
  go_loopw [9, 11] (fun c i wr => ∃ k m : Nat, k ≤ N ∧ i = .int .i64 k ∧ c = .int .i64 m ∧ m ≤ k ∧ Hid (m = cntL L k) ∧ Hid (IsB wr p g L) ∧ Hid (wr.heap[u]? = some (.cells (BA (mkB L k)) 4 (0, 0))) ∧ Hid (Below w.heap.size w wr)) (fun _ i _ => N - (intOf i).toNat)
  case atStart => exact ⟨0, 0, by omega, rfl, rfl, by omega, hid (by simp [cntL]), H4, HU0, B4⟩
  case round =>
    clear H4 B4 HU0 hmk
    obtain ⟨k, m, hk, rfl, rfl, hm, HM, H3, HU, B3⟩ := hrel
    by_cases hlt : k < N
    · have hkl : (k : Int) < (N : Int) := by omega
      have HkL : Hid (k < L.length) := by show _ < _; rw [HLn.out]; exact hlt
      have HS := hid (cntL_succ L k HkL.out)
      have hlen2 : k < (mkB L k).length := by rw [mkB_len L k (Nat.le_of_lt HkL.out)]; exact HkL.out
      have hc := BA_cell HU.out k hlen2
      have hf := frozen_of_row wr u k _ _ HU.out
      clear hlen2
      have HB4 := hid (B3.out)
      have HW1 : Hid ((wr.setCell ⟨u, k, none⟩ (.bool (hasL L (k : Int)))).heap[u]? = some (.cells (BA (mkB L (k + 1))) 4 (0, 0))) := by
        show _ = _
        rw [heap_setCell_same wr u k _ 4 _ HU.out, BA_set, mkB_succ L k HkL.out]
      have HI1 : Hid (IsB (wr.setCell ⟨u, k, none⟩ (.bool (hasL L (k : Int)))) p g L) := H3.out.keep Chg.setCell HUp.out HUg.out
      have HB1 : Hid (Below w.heap.size w (wr.setCell ⟨u, k, none⟩ (.bool (hasL L (k : Int))))) := Chg.setCell.to B3.out B3.out.size (fun j e => by rw [e]; exact HUw.out)
      have hc1 : (wr.setCell ⟨u, k, none⟩ (.bool (hasL L (k : Int)))).cell? ⟨u, k, none⟩ = some (.bool (hasL L (k : Int))) := by
        rw [cell_of_row _ _ _ _ _ _ HW1.out, BA_get _ k (by rw [mkB_len L (k + 1) HkL.out]; exact HkL.out), ← mkB_succ L k HkL.out, List.getD_eq_getElem?_getD, List.getElem?_set_self (by rw [mkB_len L k (Nat.le_of_lt HkL.out)]; exact HkL.out)]
        rfl
      cases hh : hasL L (k : Int)
      · rw [hh] at HS HW1 HI1 HB1 hc1
        have HH : Hid (Calls Try.prog 15 #[.pointer (some ⟨p, 0, none⟩), .int .i64 (k : Int)] wr fun e w' => e = .returned (.bool false) ∧ wr = w') := by rw [← hh]; exact has_any _ _ H3.out
        clear hh hlt
        go_wp2_with (go_at_call 15; refine HH.out.mono ?_; rintro e w4 ⟨rfl, rfl⟩)
        exact ⟨⟨k + 1, m, by omega, by go_num, rfl, by omega, hid (by rw [HS.out, HM.out]; rfl), HI1, HW1, HB1⟩, by simp [intOf]; omega⟩
      · rw [hh] at HS HW1 HI1 HB1 hc1
        have HH : Hid (Calls Try.prog 15 #[.pointer (some ⟨p, 0, none⟩), .int .i64 (k : Int)] wr fun e w' => e = .returned (.bool true) ∧ wr = w') := by rw [← hh]; exact has_any _ _ H3.out
        clear hh hlt
        go_wp2_with (go_at_call 15; refine HH.out.mono ?_; rintro e w4 ⟨rfl, rfl⟩)
        exact ⟨⟨k + 1, m + 1, by omega, by go_num, by go_num, by omega, hid (by rw [HS.out, HM.out]; rfl), HI1, HW1, HB1⟩, by simp [intOf]; omega⟩
    · have e : N = k := by omega
      subst e
      have HCm : Hid (L.count true = m) := by show _ = _; rw [count_cnt, HLn.out, HM.out]
      rw [← HLn.out, mkB_all] at HU
      have hmN : m ≤ N := hm
      clear hk HM hlt hm
      have HPA := hid fun w => pick_any ag N w hag (by omega) (by omega)
      obtain ⟨P, hP, hPN⟩ := pickNat (c := ag) (show (1 : Int) ≤ (N : Int) by omega)
      rw [hP] at HPA
      clear hP
      have HIn : Hid (0 ≤ (P : Int) ∧ (P : Int) < (L.length : Int)) := ⟨by omega, by rw [HLn.out]; exact hPN⟩
      have HE1 : Hid (putE L P = 0) := if_pos HIn.out
      obtain ⟨D, hDe⟩ : ∃ D : Nat, D = (putL L P false).count true := ⟨_, rfl⟩
      have hcp := count_put L P false HIn.out
      have hct := count_put L P true HIn.out
      rw [← hDe, HCm.out] at hcp
      rw [HCm.out] at hct
      have HD := hid hDe.symm
      clear hDe
      have HT : Hid ((putL L P true).count true = D + 1) := by
        show _ = _
        cases hh : hasL L (P : Int) <;> rw [hh] at hcp hct <;> simp at hcp hct <;> omega
      have HTT : Hid (putL (putL L P true) P true = putL L P true) := by show _ = _; rw [putL_in, putL_in, List.set_set]
      have HTF : Hid (putL (putL L P true) P false = putL L P false) := by show _ = _; rw [putL_in, putL_in, putL_in, List.set_set]
      have HFF : Hid (putL (putL L P false) P false = putL L P false) := by show _ = _; rw [putL_in, putL_in, List.set_set]
      have HE2 : Hid (putE (putL L P true) P = 0) := by show putE _ _ = 0; unfold putE; rw [putL_len]; exact if_pos HIn.out
      have HE3 : Hid (putE (putL L P false) P = 0) := by show putE _ _ = 0; unfold putE; rw [putL_len]; exact if_pos HIn.out
      have HPL : Hid (P < L.length) := by have := HIn.out.2; show _ < _; omega
      have hmD : (hasL L (P : Int) = true ∧ m = D + 1) ∨ (hasL L (P : Int) = false ∧ m = D) := by
        cases hh : hasL L (P : Int) <;> rw [hh] at hcp <;> simp at hcp
        · exact .inr ⟨rfl, by omega⟩
        · exact .inl ⟨rfl, by omega⟩
      have hDN : D ≤ N := by rcases hmD with ⟨_, e⟩ | ⟨_, e⟩ <;> omega
      clear hcp hct
      go_upto_region 17 with (first | (go_at_call 14; refine (count_any _ H3.out).mono ?_; rintro e w4 ⟨rfl, rfl⟩; rw [HCm.out]) | (go_at_call 16; refine (HPA.out _).mono ?_; rintro e w4 ⟨rfl, rfl⟩))
      go_upto_region 19 with (first | (go_at_call 17; refine (set_any P _ H3.out).mono ?_; rintro e w4 ⟨rfl, h4, c4⟩; have H4 := hid h4; have B4 := hid (c4.to B3.out B3.out.size (fun k e => by rw [e]; exact HG0.out)); have HU4 := hid (c4.keep HU.out (fun e => HUg.out e.symm)); clear h4 c4; rw [HE1.out]) | (go_at_call 14; refine (count_any _ H4.out).mono ?_; rintro e w5 ⟨rfl, rfl⟩; rw [HT.out]))
      go_upto_region 21 with (first | (go_at_call 17; refine (set_any P _ H4.out).mono ?_; rintro e w5 ⟨rfl, h4, c4⟩; rw [HTT.out] at h4; have H5 := hid h4; have B5 := hid (c4.to B4.out B4.out.size (fun k e => by rw [e]; exact HG0.out)); have HU5 := hid (c4.keep HU4.out (fun e => HUg.out e.symm)); clear h4 c4; rw [HE2.out]) | (go_at_call 14; refine (count_any _ H5.out).mono ?_; rintro e w6 ⟨rfl, rfl⟩; rw [HT.out]))
      go_upto_region 23 with (first | (go_at_call 19; refine (clear_any P _ H5.out).mono ?_; rintro e w6 ⟨rfl, h4, c4⟩; rw [HTF.out] at h4; have H6 := hid h4; have B6 := hid (c4.to B5.out B5.out.size (fun k e => by rw [e]; exact HG0.out)); have HU6 := hid (c4.keep HU5.out (fun e => HUg.out e.symm)); clear h4 c4; rw [HE2.out]) | (go_at_call 14; refine (count_any _ H6.out).mono ?_; rintro e w7 ⟨rfl, rfl⟩; rw [HD.out]))
      go_upto_region 24 with (go_at_call 19; refine (clear_any P _ H6.out).mono ?_; rintro e w7 ⟨rfl, h4, c4⟩; rw [HFF.out] at h4; have H7 := hid h4; have B7 := hid (c4.to B6.out B6.out.size (fun k e => by rw [e]; exact HG0.out)); have HU7 := hid (c4.keep HU6.out (fun e => HUg.out e.symm)); clear h4 c4; rw [HE3.out])
      have hcp := BA_cell HU7.out P HPL.out
      rcases hmD with ⟨hh, rfl⟩ | ⟨hh, rfl⟩
      all_goals
        rw [hh] at hcp
        clear hh
        try simp only [Int.natCast_add, Int.natCast_one]
        go_wp2
        go_loop [19] (fun i => ∃ q : Nat, q ≤ N ∧ i = .int .i64 q) (fun i => N - (intOf i).toNat)
        case atStart => exact ⟨0, by omega, rfl⟩
        case round =>
          obtain ⟨q, hq, rfl⟩ := hrel
          by_cases hq2 : q < N
          · have hqN : (q : Int) < (N : Int) := by omega
            have hcq := BA_cell HU7.out q (by rw [HLn.out]; exact hq2)
            have HV := hid (hasL_put L P q false HIn.out)
            clear hq2 hcp
            by_cases e : q = P
            · have HV2 : Hid (hasL (putL L P false) (P : Int) = false) := by show _ = _; rw [hasL_put L P P false HIn.out, if_pos rfl]
              subst e
              clear HV
              generalize hasL L (q : Int) = y at *
              cases y
              · go_wp2_with (go_at_call 15; refine (has_any _ _ H7.out).mono ?_; rintro e w8 ⟨rfl, rfl⟩; rw [HV2.out])
                go_round
                case rel => exact ⟨q + 1, by omega, by go_num⟩
                case measure => simp [intOf]; omega
              · go_wp2_with (go_at_call 15; refine (has_any _ _ H7.out).mono ?_; rintro e w8 ⟨rfl, rfl⟩; rw [HV2.out])
                go_round
                case rel => exact ⟨q + 1, by omega, by go_num⟩
                case measure => simp [intOf]; omega
            · have HV2 : Hid (hasL (putL L P false) (q : Int) = hasL L (q : Int)) := by show _ = _; rw [HV.out, if_neg (by omega)]
              have hne : ((q : Int) == (P : Int)) = false := by simp; omega
              have hne2 : ((q : Int) != (P : Int)) = true := by rw [bne, hne]; rfl
              clear HV
              generalize hasL L (q : Int) = y at *
              cases y
              · go_wp2_with (go_at_call 15; refine (has_any _ _ H7.out).mono ?_; rintro e w8 ⟨rfl, rfl⟩; rw [HV2.out])
                go_round
                case rel => exact ⟨q + 1, by omega, by go_num⟩
                case measure => simp [intOf]; omega
              · go_wp2_with (go_at_call 15; refine (has_any _ _ H7.out).mono ?_; rintro e w8 ⟨rfl, rfl⟩; rw [HV2.out])
                go_round
                case rel => exact ⟨q + 1, by omega, by go_num⟩
                case measure => simp [intOf]; omega
          · have hqN : ¬ (q : Int) < (N : Int) := by omega
            clear hq2
            go_wp2_with (go_at_call 14; refine (count_any _ H7.out).mono ?_; rintro e w8 ⟨rfl, rfl⟩; rw [HD.out])
            go_ret
            exact ⟨rfl, B7.out⟩
theorem counts_walk (sc : Int) (xs : List Int) (ag : Int) (len : Nat) (hlen : xs.length = len) (a : Option Addr) (cap : Nat) (w : World) (hsc : I64 sc) (hag : I64 ag) (hl : len ≤ 140737488355328) (HX : IntsAt w a xs) (H64 : ∀ x, x ∈ xs → I64 x) :
    Calls Try.prog 6 #[.int .i64 sc, .slice a len cap, .int .i64 ag] w fun e w' => e = .returned (.bool true) ∧ Below w.heap.size w w' := by
  obtain ⟨N, hN, h1⟩ := pickNat (c := sc) (show (1 : Int) ≤ 4096 by decide)
  exact counts_walkN sc ag xs len hlen a cap w hsc hag hl HX H64 N (N + 1) hN (by omega) (by omega) (by omega)

end Go.Proofs.Ythhhobjdplgcpaa
