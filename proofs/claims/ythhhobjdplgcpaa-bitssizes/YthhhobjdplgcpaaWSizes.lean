/-
  BitsSizes returns true: the walk.
-/
import Derived.Test.YthhhobjdplgcpaaBLawP
namespace Go.Proofs.Ythhhobjdplgcpaa
open Go.RowKit

set_option maxRecDepth 100000 in
set_option maxHeartbeats 2000000 in
theorem sizes_bad (n : Int) (w : World) (h : ¬ (0 ≤ n ∧ n ≤ 4096)) : Calls Try.prog 3 #[.int .i64 n] w fun e w' => e = .returned (.bool true) ∧ Below w.heap.size w w' := by
  have HN := hid fun w => new_bad n w h
  have HR := hid fun w => rnew_bad n w h
  clear h
  go_enter Try.func3, Try.ntmps3
  go_wp2_with (first | (go_at_call 9; refine (awake_any _).mono ?_; rintro e w1 ⟨rfl, hb1⟩) | (go_at_call 10; refine (HN.out _).mono ?_; rintro e w2 ⟨rfl, rfl⟩) | (go_at_call 11; refine (HR.out _).mono ?_; rintro e w2 ⟨rfl, rfl⟩))
  go_ret
  exact ⟨rfl, hb1⟩

set_option maxRecDepth 100000 in
set_option maxHeartbeats 2000000 in
theorem sizes_ok (n : Nat) (w : World) (h1 : n ≤ 4096) : Calls Try.prog 3 #[.int .i64 (n : Int)] w fun e w' => e = .returned (.bool true) ∧ Below w.heap.size w w' := by
  have HN := hid fun w => new_ok n w h1
  have HR := hid fun w => rnew_ok n w h1
  by_cases h0 : n = 0
  · subst h0
    have HF : Hid (FirstIs (noneL 0) 0 0 false) := first_none _ _ (fun i _ h1 h2 => by rw [noneL_len] at h2; omega)
    go_enter Try.func3, Try.ntmps3
    go_wp2_with (first | (go_at_call 9; refine (awake_any _).mono ?_; rintro e w1 ⟨rfl, hb1⟩; replace hb1 := hid hb1) | (go_at_call 10; refine (HN.out _).mono ?_; rintro e w2 ⟨p, g, rfl, hp, hg, h2, hb2⟩; replace hb2 := hid (hb1.out.trans (hb2.mono hb1.out.size)); replace h2 := hid h2; clear hp hg) | (go_at_call 11; refine (HR.out _).mono ?_; rintro e w3 ⟨r, k, rfl, hr, hk, h3, hb3⟩; have H3 := hid (h2.out.call hb3); have B3 := hid (hb2.out.trans (hb3.mono hb2.out.size)); clear hr hk hb3 h3) | (go_at_call 12; refine (first_to HF.out _ H3.out).mono ?_; rintro e w4 ⟨rfl, rfl⟩) | (go_at_call 13; refine (len_any _ H3.out).mono ?_; rintro e w4 ⟨rfl, rfl⟩; rw [noneL_len]) | (go_at_call 14; refine (count_any _ H3.out).mono ?_; rintro e w4 ⟨rfl, rfl⟩; rw [noneL_count]) | (go_at_call 15; refine (has_any _ _ H3.out).mono ?_; rintro e w4 ⟨rfl, rfl⟩; rw [noneL_has]))
    go_ret
    exact ⟨rfl, B3.out⟩
  · have hn0 : 0 < n := by omega
    have HF := hid (noneL_first n hn0)
    clear h0
    go_enter Try.func3, Try.ntmps3
    go_wp2_with (first | (go_at_call 9; refine (awake_any _).mono ?_; rintro e w1 ⟨rfl, hb1⟩; replace hb1 := hid hb1) | (go_at_call 10; refine (HN.out _).mono ?_; rintro e w2 ⟨p, g, rfl, hp, hg, h2, hb2⟩; replace hb2 := hid (hb1.out.trans (hb2.mono hb1.out.size)); replace h2 := hid h2; clear hp hg) | (go_at_call 11; refine (HR.out _).mono ?_; rintro e w3 ⟨r, k, rfl, hr, hk, h3, hb3⟩; have H3 := hid (h2.out.call hb3); have B3 := hid (hb2.out.trans (hb3.mono hb2.out.size)); clear hr hk hb3 h3) | (go_at_call 12; refine (first_to HF.out _ H3.out).mono ?_; rintro e w4 ⟨rfl, rfl⟩) | (go_at_call 13; refine (len_any _ H3.out).mono ?_; rintro e w4 ⟨rfl, rfl⟩; rw [noneL_len]) | (go_at_call 14; refine (count_any _ H3.out).mono ?_; rintro e w4 ⟨rfl, rfl⟩; rw [noneL_count]) | (go_at_call 15; refine (has_any _ _ H3.out).mono ?_; rintro e w4 ⟨rfl, rfl⟩; rw [noneL_has]))
    go_ret
    exact ⟨rfl, B3.out⟩

theorem sizes_walk (n : Int) (w : World) : Calls Try.prog 3 #[.int .i64 n] w fun e w' => e = .returned (.bool true) ∧ Below w.heap.size w w' := by
  by_cases h : 0 ≤ n ∧ n ≤ 4096
  · obtain ⟨N, rfl⟩ := Int.eq_ofNat_of_zero_le h.1
    exact sizes_ok N w (by omega)
  · exact sizes_bad n w h

end Go.Proofs.Ythhhobjdplgcpaa
