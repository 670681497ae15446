/-
  BitsFirst returns true: the walk.
-/
import Derived.Test.YthhhobjdplgcpaaWRefused
namespace Go.Proofs.Ythhhobjdplgcpaa
open Go.RowKit

theorem row_box (w w1 : World) (v0 v1 v2 v3 : Value) (hb : Below (w.alloc (.cells #[v0, v1, v2, v3] 45)).heap.size (w.alloc (.cells #[v0, v1, v2, v3] 45)) w1) :
    Below w.heap.size w w1 ∧ w1.cell? ⟨w.heap.size, 0, none⟩ = some v0 ∧ w1.cell? ⟨w.heap.size, 1, none⟩ = some v1 ∧ w1.cell? ⟨w.heap.size, 2, none⟩ = some v2 ∧ w1.cell? ⟨w.heap.size, 3, none⟩ = some v3 := by
  have h := (hb.block w.heap.size (by simp)).trans (heap_alloc_new w _)
  exact ⟨((Below.refl _ _).alloc (Nat.le_refl _) _).trans (hb.mono (by simp)), by rw [cell_of_row _ _ _ _ _ _ h]; rfl, by rw [cell_of_row _ _ _ _ _ _ h]; rfl, by rw [cell_of_row _ _ _ _ _ _ h]; rfl, by rw [cell_of_row _ _ _ _ _ _ h]; rfl⟩

set_option maxRecDepth 100000 in
set_option maxHeartbeats 2000000 in
theorem first_neg (sc : Int) (k : Int) (hk : k < 0) (xs ys : List Int) (a b : Option Addr) (cap cap' lx ly : Nat) (w : World) (hsc : I64 sc) (hlx : Hid (xs.length = lx)) (hly : Hid (ys.length = ly)) (hl : lx ≤ 140737488355328) (hl' : ly ≤ 140737488355328) (IX : Hid (IntsAt w a xs)) (H64 : Hid (∀ x, x ∈ xs → I64 x)) (IY : Hid (IntsAt w b ys)) (K64 : Hid (∀ x, x ∈ ys → I64 x)) (N : Nat) (hN : pickN sc 4097 = (N : Int)) (hN2 : N ≤ 4096) :
    Calls Try.prog 5 #[.agg #[.int .i64 sc, .slice a lx cap, .slice b ly cap', .int .i64 k]] w fun e w' => e = .returned (.bool true) ∧ Below w.heap.size w w' := by
  have HPN := hid fun w => pick_any sc 4097 w hsc (by decide) (by decide)
  rw [hN] at HPN
  clear hN
  go_enter Try.func5, Try.ntmps5
  go_upto_region 5 with (first | (go_at_call 9; refine (awake_any _).mono ?_; rintro e w1 ⟨rfl, hb1⟩; obtain ⟨hb1', c0, c1, c2, c3⟩ := row_box _ _ _ _ _ _ hb1; have B1 := hid hb1'; clear hb1 hb1') | (go_at_call 16; refine (HPN.out _).mono ?_; rintro e w2 ⟨rfl, rfl⟩) | (go_at_call 24; refine (row_any N xs ys a b cap cap' lx ly _ (by omega) hlx hly hl hl' (hid (IX.out.call B1.out)) (hid (IY.out.call B1.out)) H64 K64).mono ?_; rintro e w3 ⟨p, g, L, rfl, hp, hg, hL, h3, hb3⟩; have H3 := hid h3; have B3 := hid (B1.out.trans (hb3.mono B1.out.size)); have HLn := hid hL; clear hp hg hL h3 hb3))
  obtain ⟨x, bb, hF⟩ := first_ex L k
  replace hF := hid hF
  have hE : ∃ E : Nat, E ≤ N ∧ Hid (∀ j : Int, k ≤ j → 0 ≤ j → j < (E : Int) → hasL L j = true) ∧ (bb = true → x = (E : Int) ∧ 0 ≤ E ∧ E < N ∧ hasL L x = false) ∧ (bb = false → x = 0 ∧ E = N) := by
    cases bb
    · obtain ⟨e1, e2⟩ := hF.out.no rfl
      rw [HLn.out] at e2
      exact ⟨N, Nat.le_refl _, e2, fun e => Bool.noConfusion e, fun _ => ⟨e1, rfl⟩⟩
    · obtain ⟨e1, e2, e3, e4, e5⟩ := hF.out.yes rfl
      rw [HLn.out] at e3
      obtain ⟨X, rfl⟩ := Int.eq_ofNat_of_zero_le e2
      exact ⟨X, by omega, e5, fun _ => ⟨rfl, by omega, by omega, e4⟩, fun e => Bool.noConfusion e⟩
  obtain ⟨E, hEN, HAll, hyes, hno⟩ := hE
  clear c0 c1 c2 c3
  cases bb
  · obtain ⟨rfl, rfl⟩ := hno rfl
    clear hyes hno
    go_wp2_with (go_at_call 12; refine (first_to hF.out _ H3.out).mono ?_; rintro e w4 ⟨rfl, rfl⟩)
    go_loop [10] (fun i => ∃ q : Nat, 0 ≤ q ∧ q ≤ 9223372036854775807 ∧ i = .int .i64 q) (fun i => E - (intOf i).toNat)
    case atStart => exact ⟨0, Nat.le_refl _, by omega, rfl⟩
    case round =>
      obtain ⟨q, hq, hq2, rfl⟩ := hrel
      by_cases hlt : q < E
      · have hqE : (q : Int) < (E : Int) := by omega
        have HT := hid (HAll.out q (by omega) (by omega) hqE)
        go_wp2_with (go_at_call 15; refine (has_any _ _ H3.out).mono ?_; rintro e w4 ⟨rfl, rfl⟩; rw [HT.out])
        exact ⟨⟨q + 1, by omega, by omega, by go_num⟩, by simp [intOf]; omega⟩
      · have hqE : ¬ (q : Int) < (E : Int) := by omega
        clear hlt
        go_wp2
        go_ret
        exact ⟨rfl, B3.out⟩
  · obtain ⟨rfl, hle, hlt, HX0⟩ := hyes rfl
    replace HX0 := hid HX0
    clear hyes hno
    have hEi : (E : Int) < (N : Int) := by omega
    have hge : decide (N ≤ E) = false := decide_eq_false (by omega)
    clear hlt
    go_wp2_with (first | (go_at_call 12; refine (first_to hF.out _ H3.out).mono ?_; rintro e w4 ⟨rfl, rfl⟩) | (go_at_call 15; refine (has_any _ _ H3.out).mono ?_; rintro e w4 ⟨rfl, rfl⟩; rw [HX0.out]))
    go_loop [10] (fun i => ∃ q : Nat, 0 ≤ q ∧ q ≤ 9223372036854775807 ∧ i = .int .i64 q) (fun i => E - (intOf i).toNat)
    case atStart => exact ⟨0, Nat.le_refl _, by omega, rfl⟩
    case round =>
      obtain ⟨q, hq, hq2, rfl⟩ := hrel
      by_cases hlt : q < E
      · have hqE : (q : Int) < (E : Int) := by omega
        have HT := hid (HAll.out q (by omega) (by omega) hqE)
        go_wp2_with (go_at_call 15; refine (has_any _ _ H3.out).mono ?_; rintro e w4 ⟨rfl, rfl⟩; rw [HT.out])
        go_round
        case rel => exact ⟨q + 1, by omega, by omega, by go_num⟩
        case measure => simp [intOf]; omega
      · have hqE : ¬ (q : Int) < (E : Int) := by omega
        clear hlt
        go_wp2
        go_ret
        exact ⟨rfl, B3.out⟩

set_option maxRecDepth 100000 in
set_option maxHeartbeats 2000000 in
theorem first_nat (sc : Int) (K : Nat) (hK : (K : Int) ≤ 9223372036854775807) (xs ys : List Int) (a b : Option Addr) (cap cap' lx ly : Nat) (w : World) (hsc : I64 sc) (hlx : Hid (xs.length = lx)) (hly : Hid (ys.length = ly)) (hl : lx ≤ 140737488355328) (hl' : ly ≤ 140737488355328) (IX : Hid (IntsAt w a xs)) (H64 : Hid (∀ x, x ∈ xs → I64 x)) (IY : Hid (IntsAt w b ys)) (K64 : Hid (∀ x, x ∈ ys → I64 x)) (N : Nat) (hN : pickN sc 4097 = (N : Int)) (hN2 : N ≤ 4096) :
    Calls Try.prog 5 #[.agg #[.int .i64 sc, .slice a lx cap, .slice b ly cap', .int .i64 (K : Int)]] w fun e w' => e = .returned (.bool true) ∧ Below w.heap.size w w' := by
  have HPN := hid fun w => pick_any sc 4097 w hsc (by decide) (by decide)
  rw [hN] at HPN
  clear hN
  go_enter Try.func5, Try.ntmps5
  go_upto_region 5 with (first | (go_at_call 9; refine (awake_any _).mono ?_; rintro e w1 ⟨rfl, hb1⟩; obtain ⟨hb1', c0, c1, c2, c3⟩ := row_box _ _ _ _ _ _ hb1; have B1 := hid hb1'; clear hb1 hb1') | (go_at_call 16; refine (HPN.out _).mono ?_; rintro e w2 ⟨rfl, rfl⟩) | (go_at_call 24; refine (row_any N xs ys a b cap cap' lx ly _ (by omega) hlx hly hl hl' (hid (IX.out.call B1.out)) (hid (IY.out.call B1.out)) H64 K64).mono ?_; rintro e w3 ⟨p, g, L, rfl, hp, hg, hL, h3, hb3⟩; have H3 := hid h3; have B3 := hid (B1.out.trans (hb3.mono B1.out.size)); have HLn := hid hL; clear hp hg hL h3 hb3))
  obtain ⟨x, bb, hF⟩ := first_ex L (K : Int)
  replace hF := hid hF
  have hE : ∃ E : Nat, E ≤ N ∧ Hid (∀ j : Int, (K : Int) ≤ j → 0 ≤ j → j < (E : Int) → hasL L j = true) ∧ (bb = true → x = (E : Int) ∧ K ≤ E ∧ E < N ∧ hasL L x = false) ∧ (bb = false → x = 0 ∧ E = N) := by
    cases bb
    · obtain ⟨e1, e2⟩ := hF.out.no rfl
      rw [HLn.out] at e2
      exact ⟨N, Nat.le_refl _, e2, fun e => Bool.noConfusion e, fun _ => ⟨e1, rfl⟩⟩
    · obtain ⟨e1, e2, e3, e4, e5⟩ := hF.out.yes rfl
      rw [HLn.out] at e3
      obtain ⟨X, rfl⟩ := Int.eq_ofNat_of_zero_le e2
      exact ⟨X, by omega, e5, fun _ => ⟨rfl, by omega, by omega, e4⟩, fun e => Bool.noConfusion e⟩
  obtain ⟨E, hEN, HAll, hyes, hno⟩ := hE
  clear c0 c1 c2 c3
  cases bb
  · obtain ⟨rfl, rfl⟩ := hno rfl
    clear hyes hno
    go_wp2_with (go_at_call 12; refine (first_to hF.out _ H3.out).mono ?_; rintro e w4 ⟨rfl, rfl⟩)
    go_loop [10] (fun i => ∃ q : Nat, K ≤ q ∧ q ≤ 9223372036854775807 ∧ i = .int .i64 q) (fun i => E - (intOf i).toNat)
    case atStart => exact ⟨K, Nat.le_refl _, by omega, rfl⟩
    case round =>
      obtain ⟨q, hq, hq2, rfl⟩ := hrel
      by_cases hlt : q < E
      · have hqE : (q : Int) < (E : Int) := by omega
        have HT := hid (HAll.out q (by omega) (by omega) hqE)
        go_wp2_with (go_at_call 15; refine (has_any _ _ H3.out).mono ?_; rintro e w4 ⟨rfl, rfl⟩; rw [HT.out])
        exact ⟨⟨q + 1, by omega, by omega, by go_num⟩, by simp [intOf]; omega⟩
      · have hqE : ¬ (q : Int) < (E : Int) := by omega
        clear hlt
        go_wp2
        go_ret
        exact ⟨rfl, B3.out⟩
  · obtain ⟨rfl, hle, hlt, HX0⟩ := hyes rfl
    replace HX0 := hid HX0
    clear hyes hno
    have hEi : (E : Int) < (N : Int) := by omega
    have hge : decide (N ≤ E) = false := decide_eq_false (by omega)
    clear hlt
    have hgk : decide (E < K) = false := decide_eq_false (by omega)
    clear hle
    go_wp2_with (first | (go_at_call 12; refine (first_to hF.out _ H3.out).mono ?_; rintro e w4 ⟨rfl, rfl⟩) | (go_at_call 15; refine (has_any _ _ H3.out).mono ?_; rintro e w4 ⟨rfl, rfl⟩; rw [HX0.out]))
    go_loop [10] (fun i => ∃ q : Nat, K ≤ q ∧ q ≤ 9223372036854775807 ∧ i = .int .i64 q) (fun i => E - (intOf i).toNat)
    case atStart => exact ⟨K, Nat.le_refl _, by omega, rfl⟩
    case round =>
      obtain ⟨q, hq, hq2, rfl⟩ := hrel
      by_cases hlt : q < E
      · have hqE : (q : Int) < (E : Int) := by omega
        have HT := hid (HAll.out q (by omega) (by omega) hqE)
        go_wp2_with (go_at_call 15; refine (has_any _ _ H3.out).mono ?_; rintro e w4 ⟨rfl, rfl⟩; rw [HT.out])
        go_round
        case rel => exact ⟨q + 1, by omega, by omega, by go_num⟩
        case measure => simp [intOf]; omega
      · have hqE : ¬ (q : Int) < (E : Int) := by omega
        clear hlt
        go_wp2
        go_ret
        exact ⟨rfl, B3.out⟩

theorem first_walk (sc k : Int) (xs ys : List Int) (a b : Option Addr) (cap cap' : Nat) (w : World) (hsc : I64 sc) (hk : I64 k) (hl : xs.length ≤ 140737488355328) (hl' : ys.length ≤ 140737488355328) (HX : IntsAt w a xs) (H64 : ∀ x, x ∈ xs → I64 x) (HY : IntsAt w b ys) (K64 : ∀ x, x ∈ ys → I64 x) :
    Calls Try.prog 5 #[.agg #[.int .i64 sc, .slice a xs.length cap, .slice b ys.length cap', .int .i64 k]] w fun e w' => e = .returned (.bool true) ∧ Below w.heap.size w w' := by
  obtain ⟨N, hN, h1⟩ := pickNat (c := sc) (show (1 : Int) ≤ 4097 by decide)
  by_cases c0 : k < 0
  · exact first_neg sc k c0 xs ys a b cap cap' _ _ w hsc rfl rfl hl hl' HX H64 HY K64 N hN (by omega)
  · obtain ⟨K, rfl⟩ := Int.eq_ofNat_of_zero_le (show 0 ≤ k by omega)
    exact first_nat sc K hk.2 xs ys a b cap cap' _ _ w hsc rfl rfl hl hl' HX H64 HY K64 N hN (by omega)

end Go.Proofs.Ythhhobjdplgcpaa
