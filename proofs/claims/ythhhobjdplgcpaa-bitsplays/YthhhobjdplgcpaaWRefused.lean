/-
  BitsRefused returns true: the walk.
-/
import Derived.Test.YthhhobjdplgcpaaBLawP
namespace Go.Proofs.Ythhhobjdplgcpaa
open Go.RowKit

theorem IntsAt.nil (w : World) : IntsAt w none [] := .inl rfl
theorem pickNat {c : Int} {m : Int} (hm : 1 ≤ m) : ∃ N : Nat, pickN c m = (N : Int) ∧ (N : Int) < m := by
  have h := pickN_bd c hm
  obtain ⟨N, hN⟩ := Int.eq_ofNat_of_zero_le h.1
  exact ⟨N, hN, by omega⟩

set_option maxRecDepth 100000 in
set_option maxHeartbeats 600000 in
theorem refused_low (sc at_ : Int) (xs : List Int) (len : Nat) (hlen : Hid (xs.length = len)) (a : Option Addr) (cap : Nat) (w : World) (hsc : I64 sc) (hl : len ≤ 140737488355328) (IX : Hid (IntsAt w a xs)) (H64 : Hid (∀ x, x ∈ xs → I64 x)) (N : Nat) (hN : pickN sc 4097 = (N : Int)) (hN2 : N ≤ 4096) (h : at_ < 0) :
    Calls Try.prog 8 #[.int .i64 sc, .slice a len cap, .int .i64 at_] w fun e w' => e = .returned (.bool true) ∧ Below w.heap.size w w' := by
  have HPN := hid fun w => pick_any sc 4097 w hsc (by decide) (by decide)
  rw [hN] at HPN
  clear hN
  go_enter Try.func8, Try.ntmps8
  go_upto_region 4 with (first | (go_at_call 9; refine (awake_any _).mono ?_; rintro e w1 ⟨rfl, hb1⟩; have B1 := hid hb1; clear hb1) | (go_at_call 16; refine (HPN.out _).mono ?_; rintro e w2 ⟨rfl, rfl⟩) | (go_at_call 24; refine (row_any N xs [] a none cap 0 len 0 _ (by omega) hlen rfl hl (by decide) (hid (IX.out.call B1.out)) (IntsAt.nil _) H64 (hid (by simp))).mono ?_; rintro e w3 ⟨p, g, L, rfl, hp, hg, hL, h3, hb3⟩; have H3 := hid h3; have B3 := hid (B1.out.trans (hb3.mono B1.out.size)); have HG0 := hid (Nat.le_trans B1.out.size hg); have HLn := hid hL; clear hp hg hL h3 hb3))
  have HOut : Hid (¬ (0 ≤ at_ ∧ at_ < (L.length : Int))) := by show ¬ _; rw [HLn.out]; omega
  obtain ⟨x, b, hF⟩ := first_ex L 0
  replace hF := hid hF
  have hM : Hid (FirstIs L (N : Int) 0 false) := first_none L _ (fun i h1 h2 h3 => by rw [HLn.out] at h3; omega)
  have HC : L.count true ≤ 4096 := Nat.le_trans (count_top L) (by rw [HLn.out]; exact hN2)
  generalize L.count true = C at *
  have hmx : at_ < (N : Int) := by omega
  go_upto_region 14 with (first | (go_at_call 14; refine (count_any _ H3.out).mono ?_; rintro e w4 ⟨rfl, rfl⟩) | (go_at_call 12; refine (first_to hF.out _ H3.out).mono ?_; rintro e w4 ⟨rfl, rfl⟩) | (go_at_call 17; refine (set_out _ _ H3.out HOut.out).mono ?_; rintro e w4 ⟨rfl, rfl⟩) | (go_at_call 19; refine (clear_out _ _ H3.out HOut.out).mono ?_; rintro e w4 ⟨rfl, rfl⟩) | (go_at_call 15; refine (has_any _ _ H3.out).mono ?_; rintro e w4 ⟨rfl, rfl⟩; rw [hasL_out _ _ HOut.out]) | (go_at_call 13; refine (len_any _ H3.out).mono ?_; rintro e w4 ⟨rfl, rfl⟩; rw [HLn.out]))
  go_wp2_with (first | (go_at_call 14; refine (count_any _ H3.out).mono ?_; rintro e w4 ⟨rfl, rfl⟩) | (go_at_call 12; refine (first_to hM.out _ H3.out).mono ?_; rintro e w4 ⟨rfl, rfl⟩) | (go_at_call 17; refine (set_out _ _ H3.out HOut.out).mono ?_; rintro e w4 ⟨rfl, rfl⟩) | (go_at_call 19; refine (clear_out _ _ H3.out HOut.out).mono ?_; rintro e w4 ⟨rfl, rfl⟩) | (go_at_call 15; refine (has_any _ _ H3.out).mono ?_; rintro e w4 ⟨rfl, rfl⟩; rw [hasL_out _ _ HOut.out]) | (go_at_call 13; refine (len_any _ H3.out).mono ?_; rintro e w4 ⟨rfl, rfl⟩; rw [HLn.out]))
  go_ret
  exact ⟨rfl, B3.out⟩

set_option maxRecDepth 100000 in
set_option maxHeartbeats 600000 in
theorem refused_in (sc at_ : Int) (xs : List Int) (len : Nat) (hlen : Hid (xs.length = len)) (a : Option Addr) (cap : Nat) (w : World) (hsc : I64 sc) (hl : len ≤ 140737488355328) (IX : Hid (IntsAt w a xs)) (H64 : Hid (∀ x, x ∈ xs → I64 x)) (N : Nat) (hN : pickN sc 4097 = (N : Int)) (hN2 : N ≤ 4096) (h0 : 0 ≤ at_) (h1 : at_ < (N : Int)) :
    Calls Try.prog 8 #[.int .i64 sc, .slice a len cap, .int .i64 at_] w fun e w' => e = .returned (.bool true) ∧ Below w.heap.size w w' := by
  have HPN := hid fun w => pick_any sc 4097 w hsc (by decide) (by decide)
  rw [hN] at HPN
  clear hN
  go_enter Try.func8, Try.ntmps8
  go_upto_region 4 with (first | (go_at_call 9; refine (awake_any _).mono ?_; rintro e w1 ⟨rfl, hb1⟩; have B1 := hid hb1; clear hb1) | (go_at_call 16; refine (HPN.out _).mono ?_; rintro e w2 ⟨rfl, rfl⟩) | (go_at_call 24; refine (row_any N xs [] a none cap 0 len 0 _ (by omega) hlen rfl hl (by decide) (hid (IX.out.call B1.out)) (IntsAt.nil _) H64 (hid (by simp))).mono ?_; rintro e w3 ⟨p, g, L, rfl, hp, hg, hL, h3, hb3⟩; have H3 := hid h3; have B3 := hid (B1.out.trans (hb3.mono B1.out.size)); have HG0 := hid (Nat.le_trans B1.out.size hg); have HLn := hid hL; clear hp hg hL h3 hb3))
  have HOut : Hid (¬ (0 ≤ (at_ + (N : Int)) ∧ (at_ + (N : Int)) < (L.length : Int))) := by show ¬ _; rw [HLn.out]; omega
  obtain ⟨x, b, hF⟩ := first_ex L 0
  replace hF := hid hF
  have hM : Hid (FirstIs L (at_ + (N : Int)) 0 false) := first_none L _ (fun i h1 h2 h3 => by rw [HLn.out] at h3; omega)
  have HC : L.count true ≤ 4096 := Nat.le_trans (count_top L) (by rw [HLn.out]; exact hN2)
  generalize L.count true = C at *
  have hmx : ¬ (at_ + (N : Int) < (N : Int)) := by omega
  go_upto_region 14 with (first | (go_at_call 14; refine (count_any _ H3.out).mono ?_; rintro e w4 ⟨rfl, rfl⟩) | (go_at_call 12; refine (first_to hF.out _ H3.out).mono ?_; rintro e w4 ⟨rfl, rfl⟩) | (go_at_call 17; refine (set_out _ _ H3.out HOut.out).mono ?_; rintro e w4 ⟨rfl, rfl⟩) | (go_at_call 19; refine (clear_out _ _ H3.out HOut.out).mono ?_; rintro e w4 ⟨rfl, rfl⟩) | (go_at_call 15; refine (has_any _ _ H3.out).mono ?_; rintro e w4 ⟨rfl, rfl⟩; rw [hasL_out _ _ HOut.out]) | (go_at_call 13; refine (len_any _ H3.out).mono ?_; rintro e w4 ⟨rfl, rfl⟩; rw [HLn.out]))
  go_wp2_with (first | (go_at_call 14; refine (count_any _ H3.out).mono ?_; rintro e w4 ⟨rfl, rfl⟩) | (go_at_call 12; refine (first_to hM.out _ H3.out).mono ?_; rintro e w4 ⟨rfl, rfl⟩) | (go_at_call 17; refine (set_out _ _ H3.out HOut.out).mono ?_; rintro e w4 ⟨rfl, rfl⟩) | (go_at_call 19; refine (clear_out _ _ H3.out HOut.out).mono ?_; rintro e w4 ⟨rfl, rfl⟩) | (go_at_call 15; refine (has_any _ _ H3.out).mono ?_; rintro e w4 ⟨rfl, rfl⟩; rw [hasL_out _ _ HOut.out]) | (go_at_call 13; refine (len_any _ H3.out).mono ?_; rintro e w4 ⟨rfl, rfl⟩; rw [HLn.out]))
  go_ret
  exact ⟨rfl, B3.out⟩

set_option maxRecDepth 100000 in
set_option maxHeartbeats 600000 in
theorem refused_high (sc at_ : Int) (xs : List Int) (len : Nat) (hlen : Hid (xs.length = len)) (a : Option Addr) (cap : Nat) (w : World) (hsc : I64 sc) (hl : len ≤ 140737488355328) (IX : Hid (IntsAt w a xs)) (H64 : Hid (∀ x, x ∈ xs → I64 x)) (N : Nat) (hN : pickN sc 4097 = (N : Int)) (hN2 : N ≤ 4096) (h0 : 0 ≤ at_) (h1 : (N : Int) ≤ at_) :
    Calls Try.prog 8 #[.int .i64 sc, .slice a len cap, .int .i64 at_] w fun e w' => e = .returned (.bool true) ∧ Below w.heap.size w w' := by
  have HPN := hid fun w => pick_any sc 4097 w hsc (by decide) (by decide)
  rw [hN] at HPN
  clear hN
  go_enter Try.func8, Try.ntmps8
  go_upto_region 4 with (first | (go_at_call 9; refine (awake_any _).mono ?_; rintro e w1 ⟨rfl, hb1⟩; have B1 := hid hb1; clear hb1) | (go_at_call 16; refine (HPN.out _).mono ?_; rintro e w2 ⟨rfl, rfl⟩) | (go_at_call 24; refine (row_any N xs [] a none cap 0 len 0 _ (by omega) hlen rfl hl (by decide) (hid (IX.out.call B1.out)) (IntsAt.nil _) H64 (hid (by simp))).mono ?_; rintro e w3 ⟨p, g, L, rfl, hp, hg, hL, h3, hb3⟩; have H3 := hid h3; have B3 := hid (B1.out.trans (hb3.mono B1.out.size)); have HG0 := hid (Nat.le_trans B1.out.size hg); have HLn := hid hL; clear hp hg hL h3 hb3))
  have HOut : Hid (¬ (0 ≤ at_ ∧ at_ < (L.length : Int))) := by show ¬ _; rw [HLn.out]; omega
  obtain ⟨x, b, hF⟩ := first_ex L 0
  replace hF := hid hF
  have hM : Hid (FirstIs L at_ 0 false) := first_none L _ (fun i h1 h2 h3 => by rw [HLn.out] at h3; omega)
  have HC : L.count true ≤ 4096 := Nat.le_trans (count_top L) (by rw [HLn.out]; exact hN2)
  generalize L.count true = C at *
  have hmx : ¬ (at_ < (N : Int)) := by omega
  go_upto_region 14 with (first | (go_at_call 14; refine (count_any _ H3.out).mono ?_; rintro e w4 ⟨rfl, rfl⟩) | (go_at_call 12; refine (first_to hF.out _ H3.out).mono ?_; rintro e w4 ⟨rfl, rfl⟩) | (go_at_call 17; refine (set_out _ _ H3.out HOut.out).mono ?_; rintro e w4 ⟨rfl, rfl⟩) | (go_at_call 19; refine (clear_out _ _ H3.out HOut.out).mono ?_; rintro e w4 ⟨rfl, rfl⟩) | (go_at_call 15; refine (has_any _ _ H3.out).mono ?_; rintro e w4 ⟨rfl, rfl⟩; rw [hasL_out _ _ HOut.out]) | (go_at_call 13; refine (len_any _ H3.out).mono ?_; rintro e w4 ⟨rfl, rfl⟩; rw [HLn.out]))
  go_wp2_with (first | (go_at_call 14; refine (count_any _ H3.out).mono ?_; rintro e w4 ⟨rfl, rfl⟩) | (go_at_call 12; refine (first_to hM.out _ H3.out).mono ?_; rintro e w4 ⟨rfl, rfl⟩) | (go_at_call 17; refine (set_out _ _ H3.out HOut.out).mono ?_; rintro e w4 ⟨rfl, rfl⟩) | (go_at_call 19; refine (clear_out _ _ H3.out HOut.out).mono ?_; rintro e w4 ⟨rfl, rfl⟩) | (go_at_call 15; refine (has_any _ _ H3.out).mono ?_; rintro e w4 ⟨rfl, rfl⟩; rw [hasL_out _ _ HOut.out]) | (go_at_call 13; refine (len_any _ H3.out).mono ?_; rintro e w4 ⟨rfl, rfl⟩; rw [HLn.out]))
  go_ret
  exact ⟨rfl, B3.out⟩

theorem refused_walk (sc : Int) (xs : List Int) (at_ : Int) (len : Nat) (hlen : xs.length = len) (a : Option Addr) (cap : Nat) (w : World) (hsc : I64 sc) (hl : len ≤ 140737488355328) (HX : IntsAt w a xs) (H64 : ∀ x, x ∈ xs → I64 x) :
    Calls Try.prog 8 #[.int .i64 sc, .slice a len cap, .int .i64 at_] w fun e w' => e = .returned (.bool true) ∧ Below w.heap.size w w' := by
  obtain ⟨N, hN, h1⟩ := pickNat (c := sc) (show (1 : Int) ≤ 4097 by decide)
  by_cases c0 : at_ < 0
  · exact refused_low sc at_ xs len hlen a cap w hsc hl HX H64 N hN (by omega) c0
  · by_cases c1 : at_ < (N : Int)
    · exact refused_in sc at_ xs len hlen a cap w hsc hl HX H64 N hN (by omega) (by omega) c1
    · exact refused_high sc at_ xs len hlen a cap w hsc hl HX H64 N hN (by omega) (by omega) (by omega)

end Go.Proofs.Ythhhobjdplgcpaa
