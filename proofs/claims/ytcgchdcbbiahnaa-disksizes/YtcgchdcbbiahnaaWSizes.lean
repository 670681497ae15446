/-
  DiskSizes returns true: the walk.
-/
import Derived.Test.YtcgchdcbbiahnaaLaw1
import Derived.Test.YtcgchdcbbiahnaaLawSame
import Derived.Test.YtcgchdcbbiahnaaDiskR
import Derived.Test.YtcgchdcbbiahnaaDiskF
namespace Go.Proofs.Ytcgchdcbbiahnaa
open Go.RowKit

set_option maxRecDepth 100000 in
set_option maxHeartbeats 4000000 in
theorem sizes_bad (n : Int) (w : World) (h : ¬ (1 ≤ n ∧ n ≤ 4096)) : Calls Try.prog 3 #[.int .i64 n] w fun e w' => e = .returned (.bool true) ∧ Below w.heap.size w w' := by
  have HN := hid fun w => new_bad n w h
  have HR := hid fun w => rnew_bad n w h
  clear h
  go_enter Try.func3, Try.ntmps3
  go_wp2_with (first | (go_at_call 9; refine (awake_any _).mono ?_; rintro e w1 ⟨rfl, hb1⟩) | (go_at_call 10; refine (HN.out _).mono ?_; rintro e w2 ⟨rfl, rfl⟩) | (go_at_call 11; refine (HR.out _).mono ?_; rintro e w2 ⟨rfl, rfl⟩))
  go_ret
  exact ⟨rfl, hb1⟩

set_option maxRecDepth 100000 in
set_option maxHeartbeats 4000000 in
theorem sizes_ok (n : Nat) (w : World) (h0 : 1 ≤ n) (h1 : n ≤ 4096) : Calls Try.prog 3 #[.int .i64 n] w fun e w' => e = .returned (.bool true) ∧ Below w.heap.size w w' := by
  have HN := hid fun w => new_ok n w h0 h1
  have HR := hid fun w => rnew_ok n w h0 h1
  have HZL := hid (zl_len (128 * n))
  have HBD : Hid (128 * n ≤ 140737488355328) := by show _ ≤ _; omega
  clear h0 h1
  generalize zl (128 * n) = Z at *
  go_enter Try.func3, Try.ntmps3
  go_wp2_with (first | (go_at_call 9; refine (awake_any _).mono ?_; rintro e w1 ⟨rfl, hb1⟩; replace hb1 := hid hb1) | (go_at_call 10; refine (HN.out _).mono ?_; rintro e w2 ⟨p, g, rfl, hp, hg, hd2, hb2⟩; replace hb2 := hid (hb1.out.trans (hb2.mono hb1.out.size)); replace hd2 := hid hd2; clear hp hg) | (go_at_call 11; refine (HR.out _).mono ?_; rintro e w3 ⟨r, k, rfl, hr, hk, hd3, hb3⟩; have HD3 := hid (hd2.out.call hb3); have HB3 := hid (hb2.out.trans (hb3.mono hb2.out.size)); replace hd3 := hid hd3; clear hr hk hb3) | (go_at_call 12; refine (image_any _ HD3.out).mono ?_; rintro e w4 ⟨q, rfl, hq0, hq1, hq2⟩; have HD4 := hid (HD3.out.call hq2); have HB4 := hid (HB3.out.trans (hq2.mono HB3.out.size)); have HR4 := hid (hd3.out.call hq2); have HQ4 := hid (row_bytes hq1); clear hq0 hq1 hq2) | (go_at_call 14; refine (rimage_any _ HR4.out).mono ?_; rintro e w5 ⟨u, rfl, hu, hb5⟩; obtain ⟨ua, uc, rfl, hul, hub⟩ := hu.at_; have HD5 := hid (HD4.out.call hb5); have HB5 := hid (HB4.out.trans (hb5.mono HB4.out.size)); have HQ5 := hid (bytes_below HQ4.out hb5); replace hub := hid hub; clear hu hul hb5) | (go_at_call 13; refine (same_any Z n _ _ _ _ _ HZL.out HBD.out HQ5.out hub.out).mono ?_; rintro e w6 ⟨rfl, j6, rfl⟩; have HD6 := hid (HD5.out.drewN j6); have HB6 := hid (HB5.out.trans (below_drewN _ _ j6))) | (go_at_call 15; refine (len_any _ HD6.out).mono ?_; rintro e w7 ⟨rfl, rfl⟩) | (go_at_call 16; refine (writes_any _ HD6.out).mono ?_; rintro e w7 ⟨rfl, rfl⟩) | (go_at_call 17; refine (down_any _ HD6.out).mono ?_; rintro e w7 ⟨rfl, rfl⟩))
  go_ret
  exact ⟨rfl, HB6.out⟩

theorem sizes_walk (n : Int) (w : World) : Calls Try.prog 3 #[.int .i64 n] w fun e w' => e = .returned (.bool true) ∧ Below w.heap.size w w' := by
  by_cases h : 1 ≤ n ∧ n ≤ 4096
  · obtain ⟨N, rfl⟩ := Int.eq_ofNat_of_zero_le (show 0 ≤ n by omega)
    exact sizes_ok N w (by omega) (by omega)
  · exact sizes_bad n w h

end Go.Proofs.Ytcgchdcbbiahnaa
