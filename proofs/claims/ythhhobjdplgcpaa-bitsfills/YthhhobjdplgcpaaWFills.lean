/-
  BitsFills returns true: the walk.
-/
import Derived.Test.YthhhobjdplgcpaaWRefused
namespace Go.Proofs.Ythhhobjdplgcpaa
open Go.RowKit

set_option maxRecDepth 100000 in
set_option maxHeartbeats 2000000 in
theorem fills_walkN (sc ag : Int) (xs : List Int) (len : Nat) (hlen : Hid (xs.length = len)) (a : Option Addr) (cap : Nat) (w : World) (hsc : I64 sc) (hag : I64 ag) (hl : len ≤ 140737488355328) (IX : Hid (IntsAt w a xs)) (H64 : Hid (∀ x, x ∈ xs → I64 x)) (N : Nat) (hN : pickN sc 4097 = (N : Int)) (hN2 : N ≤ 4096) :
    Calls Try.prog 7 #[.int .i64 sc, .slice a len cap, .int .i64 ag] w fun e w' => e = .returned (.bool true) ∧ Below w.heap.size w w' := by
  have HPN := hid fun w => pick_any sc 4097 w hsc (by decide) (by decide)
  rw [hN] at HPN
  clear hN
  go_enter Try.func7, Try.ntmps7
  go_upto_region 4 with (first | (go_at_call 9; refine (awake_any _).mono ?_; rintro e w1 ⟨rfl, hb1⟩; have B1 := hid hb1; clear hb1) | (go_at_call 16; refine (HPN.out _).mono ?_; rintro e w2 ⟨rfl, rfl⟩) | (go_at_call 24; refine (row_any N xs [] a none cap 0 len 0 _ (by omega) hlen rfl hl (by decide) (hid (IX.out.call B1.out)) (IntsAt.nil _) H64 (hid (by simp))).mono ?_; rintro e w3 ⟨p, g, L, rfl, hp, hg, hL, h3, hb3⟩; have H3 := hid h3; have B3 := hid (B1.out.trans (hb3.mono B1.out.size)); have HG0 := hid (Nat.le_trans B1.out.size hg); have HLn := hid hL; clear hp hg hL h3 hb3))
  have hC : L.count true ≤ N := Nat.le_trans (count_top L) (by rw [HLn.out]; exact Nat.le_refl _)
  obtain ⟨C, hCe⟩ : ∃ C : Nat, C = L.count true := ⟨_, rfl⟩
  have HC := hid hCe
  rw [← hCe] at hC
  clear hCe
  go_wp2_with (go_at_call 14; refine (count_any _ H3.out).mono ?_; rintro e w4 ⟨rfl, rfl⟩; rw [← HC.out])
  go_loopw [10, 11] (fun l i wr => ∃ (k : Nat) (la : Int) (M : List Bool), k ≤ N - C ∧ i = .int .i64 k ∧ l = .int .i64 la ∧ -1 ≤ la ∧ la < (N : Int) ∧ Hid (M.length = N) ∧ Hid (M.count true = C + k) ∧ Hid (AllTo M 0 (la + 1)) ∧ Hid (IsB wr p g M) ∧ Hid (Below w.heap.size w wr)) (fun _ i _ => N - C - (intOf i).toNat)
  case atStart => exact ⟨0, -1, L, by omega, rfl, rfl, by omega, by omega, HLn, HC.out.symm, fun j _ h1 h2 => by omega, H3, B3⟩
  case round =>
    clear H3 B3 HLn HC
    obtain ⟨k, la, M, hk, rfl, rfl, hla, hla2, HLn, HC, HA, H3, B3⟩ := hrel
    by_cases hlt : k < N - C
    · have hki : (k : Int) < (N : Int) - (C : Int) := by omega
      obtain ⟨x, hF0⟩ := first_some M (by rw [HC.out, HLn.out]; omega)
      have hF := hid hF0
      obtain ⟨_, x0, x1, x2, x3⟩ := hF0.yes rfl
      have HX2 := hid x2
      have HX3 := hid x3
      rw [HLn.out] at x1
      have hxl : la < x := by
        rcases Int.lt_or_le la x with c | c
        · exact c
        · have := HA.out x x0 x0 (by omega) (by rw [HLn.out]; exact x1)
          rw [HX2.out] at this; cases this
      have HIn : Hid (0 ≤ x ∧ x < (M.length : Int)) := ⟨x0, by rw [HLn.out]; exact x1⟩
      have HE : Hid (putE M x = 0) := if_pos HIn.out
      have HA2 : Hid (AllTo (putL M x true) 0 (x + 1)) := by
        intro j j1 j2 j3 j4
        rw [hasL_put M x j true HIn.out]
        split
        · rfl
        · exact HX3.out j j1 j2 (by omega)
      have HC2 : Hid ((putL M x true).count true = C + (k + 1)) := by
        have := count_put M x true HIn.out
        rw [HX2.out, HC.out] at this
        simp at this
        show _ = _
        omega
      have HL2 : Hid ((putL M x true).length = N) := by show _ = _; rw [putL_len]; exact HLn.out
      clear hlt x2 x3 hF0
      go_wp2_with (first | (go_at_call 12; refine (first_to hF.out _ H3.out).mono ?_; rintro e w4 ⟨rfl, rfl⟩) | (go_at_call 17; refine (set_any x _ H3.out).mono ?_; rintro e w4 ⟨rfl, h4, c4⟩; have H4 := hid h4; have B4 := hid (c4.to B3.out B3.out.size (fun k e => by rw [e]; exact HG0.out)); clear h4 c4; rw [HE.out]))
      exact ⟨⟨k + 1, x, _, by omega, by go_num, rfl, by omega, by omega, HL2, HC2, HA2, H4, B4⟩, by simp [intOf]; omega⟩
    · have hki : ¬ (k : Int) < (N : Int) - (C : Int) := by omega
      have HCN : Hid (M.count true = N) := by show _ = _; rw [HC.out]; omega
      have HAll : Hid (∀ i : Int, 0 ≤ i → i < (N : Int) → hasL M i = true) := fun i h1 h2 => count_full M (by rw [HCN.out, HLn.out]) i ⟨h1, by rw [HLn.out]; exact h2⟩
      have hF : Hid (FirstIs M 0 0 false) := first_none M 0 (fun i _ h1 h2 => HAll.out i h1 (by rw [← HLn.out]; exact h2))
      clear hlt hk
      by_cases hN0 : N = 0
      · subst hN0
        go_wp2_with (first | (go_at_call 12; refine (first_to hF.out _ H3.out).mono ?_; rintro e w4 ⟨rfl, rfl⟩) | (go_at_call 14; refine (count_any _ H3.out).mono ?_; rintro e w4 ⟨rfl, rfl⟩; rw [HCN.out]))
        go_ret
        exact ⟨rfl, B3.out⟩
      · have hNi : ((N : Int) == 0) = false := by simp; omega
        have HPA := hid fun w => pick_any ag N w hag (by omega) (by omega)
        have hpb := pickN_bd ag (show (1 : Int) ≤ (N : Int) by omega)
        generalize pickN ag N = P at *
        obtain ⟨hp0, hp1⟩ := hpb
        have HIn : Hid (0 ≤ P ∧ P < (M.length : Int)) := ⟨hp0, by rw [HLn.out]; exact hp1⟩
        have HE : Hid (putE M P = 0) := if_pos HIn.out
        have HP : Hid (hasL (putL M P false) P = false) := by show _ = _; rw [hasL_put M P P false HIn.out, if_pos rfl]
        have HO : Hid (∀ j : Int, 0 ≤ j → j < (N : Int) → j ≠ P → hasL (putL M P false) j = true) := by
          intro j j1 j2 j3
          rw [hasL_put M P j false HIn.out, if_neg j3]
          exact HAll.out j j1 j2
        have HL2 : Hid ((putL M P false).length = N) := by show _ = _; rw [putL_len]; exact HLn.out
        have F1 : Hid (FirstIs (putL M P false) 0 P true) := ⟨fun _ => ⟨hp0, hp0, by rw [HL2.out]; exact hp1, HP.out, fun j j1 j2 j3 => HO.out j j1 (by omega) (by omega)⟩, fun e => Bool.noConfusion e⟩
        have F2 : Hid (FirstIs (putL M P false) P P true) := ⟨fun _ => ⟨Int.le_refl _, hp0, by rw [HL2.out]; exact hp1, HP.out, fun j j1 j2 j3 => HO.out j j2 (by omega) (by omega)⟩, fun e => Bool.noConfusion e⟩
        have F3 : Hid (FirstIs (putL M P false) (P + 1) 0 false) := first_none _ _ (fun i i1 i2 i3 => HO.out i i2 (by rw [← HL2.out]; exact i3) (by omega))
        clear hN0
        go_upto_region 21 with (first | (go_at_call 12; refine (first_to hF.out _ H3.out).mono ?_; rintro e w4 ⟨rfl, rfl⟩) | (go_at_call 14; refine (count_any _ H3.out).mono ?_; rintro e w4 ⟨rfl, rfl⟩; rw [HCN.out]) | (go_at_call 16; refine (HPA.out _).mono ?_; rintro e w4 ⟨rfl, rfl⟩) | (go_at_call 19; refine (clear_any P _ H3.out).mono ?_; rintro e w4 ⟨rfl, h4, c4⟩; have H4 := hid h4; have B4 := hid (c4.to B3.out B3.out.size (fun k e => by rw [e]; exact HG0.out)); clear h4 c4; rw [HE.out]))
        go_upto_region 22 with (go_at_call 12; refine (first_to F1.out _ H4.out).mono ?_; rintro e w5 ⟨rfl, rfl⟩)
        go_upto_region 23 with (go_at_call 12; refine (first_to F2.out _ H4.out).mono ?_; rintro e w5 ⟨rfl, rfl⟩)
        go_wp2_with (go_at_call 12; refine (first_to F3.out _ H4.out).mono ?_; rintro e w5 ⟨rfl, rfl⟩)
        go_ret
        exact ⟨rfl, B4.out⟩
theorem fills_walk (sc : Int) (xs : List Int) (ag : Int) (len : Nat) (hlen : xs.length = len) (a : Option Addr) (cap : Nat) (w : World) (hsc : I64 sc) (hag : I64 ag) (hl : len ≤ 140737488355328) (HX : IntsAt w a xs) (H64 : ∀ x, x ∈ xs → I64 x) :
    Calls Try.prog 7 #[.int .i64 sc, .slice a len cap, .int .i64 ag] w fun e w' => e = .returned (.bool true) ∧ Below w.heap.size w w' := by
  obtain ⟨N, hN, h1⟩ := pickNat (c := sc) (show (1 : Int) ≤ 4097 by decide)
  exact fills_walkN sc ag xs len hlen a cap w hsc hag hl HX H64 N hN (by omega)

end Go.Proofs.Ythhhobjdplgcpaa
