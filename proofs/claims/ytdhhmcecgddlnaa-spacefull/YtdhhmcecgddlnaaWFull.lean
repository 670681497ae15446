/-
  SpaceFull returns true: the walk.
-/
import Derived.Test.YtdhhmcecgddlnaaUF
namespace Go.Proofs.Ytdhhmcecgddlnaa
open Go.RowKit

theorem field_room0 (x y z : Int) (w : World) : (Instr.field 40 (.agg #[.int .i64 x, .int .i64 y, .int .i64 z]) 0).run Try.prog w = .ok (.int .i64 x) w := by kernel_rfl
theorem field_room1 (x y z : Int) (w : World) : (Instr.field 40 (.agg #[.int .i64 x, .int .i64 y, .int .i64 z]) 1).run Try.prog w = .ok (.int .i64 y) w := by kernel_rfl

set_option maxRecDepth 100000 in
set_option maxHeartbeats 4000000 in
theorem full_walk (sc ic : Int) (xs : List Int) (ad : Option Addr) (cap : Nat) (w : World) (hs : I64 sc) (hic : I64 ic) (hl : xs.length ≤ 17592186044416) (HX : IntsAt w ad xs) (H64 : ∀ x, x ∈ xs → I64 x) :
    Calls Try.prog 7 #[.int .i64 sc, .int .i64 ic, .slice ad xs.length cap] w fun e w' => e = .returned (.bool true) ∧ Below w.heap.size w w' := by
  have hpb := pickN_bd sc (show (1 : Int) ≤ 300 by decide)
  have HP0 := hid fun w => pick_any sc 300 w hs (by decide) (by decide)
  generalize pickN sc 300 = sc' at *
  obtain ⟨a, b, h, HSup⟩ := super_ex sc' ic ⟨by omega, by omega⟩ hic
  replace HSup := hid HSup
  replace HX := hid HX
  replace H64 := hid H64
  have HN := hid fun w => sNew_nil a b (mayB_of h) w
  have HH := hid h
  have hbb : b ≤ 512 := h.2.2.2.1
  have hb1 : 1 ≤ b := h.2.2.1
  have haa : a ≤ 4096 := h.2.1
  have hab : b + 2 ≤ a := h.2.2.2.2
  generalize hlen : xs.length = len at *
  replace hlen := hid hlen
  have hmk := hid (make_bools a (by omega))
  clear h hpb
  go_enter Try.func7, Try.ntmps7
  go_upto_region 2 with (go_at_call 9; refine (awake_any _).mono ?_; rintro e w1 ⟨rfl, b1⟩; have B1 := hid b1; clear b1)
  go_upto_region 3 with (first | (go_at_call 22; refine (HP0.out _).mono ?_; rintro e w2 ⟨rfl, rfl⟩) | (go_at_call 21; refine (HSup.out _).mono ?_; rintro e w2 ⟨rfl, b2⟩; have BW2 := hid (B1.out.trans (b2.mono B1.out.size)); clear b2))
  have y0 := heap_alloc_new w2 (.cells #[.int .i64 (a : Int), .int .i64 (b : Int)] 23)
  replace y0 := hid y0
  obtain ⟨z0, z1⟩ := cells2 y0.out
  go_upto_region 4 with (go_at_call 11; refine (HN.out _).mono ?_; rintro e w4 ⟨p, rfl, h4, b4⟩; have K4 := hid (kit_start BW2.out h4 b4); clear h4 b4)
  clear z0 z1 y0 BW2 B1 HN HSup HP0
  generalize w2.heap.size = X at *
  generalize hlo : X + 1 = lo at K4
  generalize hhi : w4.heap.size = hi at K4
  clear hlo hhi
  have I6 : Hid (InF w w4 X lo hi p a b (nil0 a b)) := ⟨K4.out, rfl, rfl⟩
  clear K4
  have k1 := I6.out.1.c1
  go_wp2
  clear k1
  go_loopw [11] (fun i wr => ∃ (k : Nat) (s : SS), b < k ∧ k ≤ a ∧ i = .int .i64 k ∧ Hid (s.T.count 1 + b + 1 = k ∧ s.T.count 2 = 0) ∧ Hid (∀ j : Nat, b < j → j < a → atT s.T j = if j < k then 1 else 0) ∧ Hid (InF w wr X lo hi p a b s)) (fun i _ => a - (intOf i).toNat)
  case atStart => exact ⟨b + 1, nil0 a b, by omega, by omega, by go_num, hid ⟨by rw [(nil_counts a b).1]; omega, (nil_counts a b).2⟩, hid (fun j h1 h2 => by rw [if_neg (by omega)]; exact zero_at a j), I6⟩
  case round =>
    clear I6
    obtain ⟨k, s, hk1, hk2, rfl, HCt, HAt, HI⟩ := hrel
    have k0 := HI.out.1.c0
    by_cases hlt : k < a
    · have hka : (k : Int) < (a : Int) := by omega
      have hat : atT s.T k = 0 := by rw [HAt.out k hk1 hlt, if_neg (by omega)]
      have hF := hid (first_at HI.out.1.s.ok k (by rw [HI.out.2.1]; exact hk1) (by rw [HI.out.2.2]; exact hlt) hat (fun j h1 h2 => by rw [HI.out.2.1] at h1; rw [HAt.out j h1 (by omega), if_pos h2]; decide))
      have HC2 : Hid ((s.setT k 1).T.count 1 + b + 1 = k + 1 ∧ (s.setT k 1).T.count 2 = 0) := by
        have e1 := setT_count HI.out.1.s.ok k 1 (by rw [HI.out.2.2]; exact hlt) 0 (by rw [← atT_nat]; exact hat) 1
        have e2 := setT_count HI.out.1.s.ok k 1 (by rw [HI.out.2.2]; exact hlt) 0 (by rw [← atT_nat]; exact hat) 2
        rw [HCt.out.2] at e2
        simp at e1 e2
        exact ⟨by rw [e1]; have := HCt.out.1; omega, by omega⟩
      have HA2 : Hid (∀ j : Nat, b < j → j < a → atT (s.setT k 1).T j = if j < k + 1 then 1 else 0) := fun j h1 h2 => by
        rw [setT_at HI.out.1.s.ok k 1 (by rw [HI.out.2.2]; exact hlt), HAt.out j h1 h2]
        by_cases e : j = k
        · rw [if_pos e, if_pos (by omega)]
        · rw [if_neg e]
          by_cases c : j < k
          · rw [if_pos c, if_pos (by omega)]
          · rw [if_neg c, if_neg (by omega)]
      have TK := hid (takeBlock_any (s := s) (lo := lo) (hi := hi) (p := p) k true wr HI.out.1.s hF)
      clear hat hF
      go_wp2_with (go_at_call 19; refine TK.out.mono ?_; rintro e w8 ⟨rfl, h8, c8⟩; rw [show errN true 80 = 0 from rfl]; rw [show s.takeS (k : Int) true = s.setT k 1 from rfl] at h8; have I8 := hid (HI.out.chg h8 c8 rfl rfl); clear h8 c8)
      exact ⟨⟨k + 1, _, by omega, by omega, by go_num, HC2, HA2, I8⟩, by simp [intOf]; omega⟩
    · obtain rfl : k = a := by omega
      clear hlt
      have HA1 : Hid (∀ j : Nat, b < j → j < k → atT s.T j = 1) := fun j h1 h2 => by rw [HAt.out j h1 h2, if_pos h2]
      have hF := hid (first_no HI.out.1.s.ok (fun j h1 h2 => by rw [HI.out.2.1] at h1; rw [HI.out.2.2] at h2; rw [HA1.out j h1 h2]; decide))
      have TK := hid (takeBlock_any (s := s) (lo := lo) (hi := hi) (p := p) 0 false wr HI.out.1.s hF)
      clear hF HAt
      go_upto_region 13 with (go_at_call 19; refine TK.out.mono ?_; rintro e w8 ⟨rfl, h8, c8⟩; rw [show errN false 80 = 80 from rfl]; rw [show s.takeS 0 false = s from rfl] at h8; have I8 := hid (HI.out.chg h8 c8 rfl rfl); clear h8 c8)
      clear k0 TK HI
      have HRo := hid (room_any (s := s) (lo := lo) (hi := hi) (p := p) w8 I8.out.1.s)
      rw [show roomV s = #[.int .i64 0, .int .i64 0, .int .i64 s.ri] by
        unfold roomV SS.rb SS.rl
        rw [I8.out.2.1, I8.out.2.2, HCt.out.2, show (k : Int) - (b : Int) - 1 - ((s.T.count 1 : Nat) : Int) = 0 by have := HCt.out.1; omega]
        rfl] at HRo
      generalize s.ri = RI at HRo
      have hfd := fun w => field_room0 0 0 RI w
      go_upto_region 15 with (go_at_call 17; refine HRo.out.mono ?_; rintro e w9 ⟨rfl, b9⟩; have I9 := hid (I8.out.call b9); clear b9)
      clear hfd HRo I8
      have k1 := I9.out.1.c1
      go_wp2
      clear k1
      go_loopw [16] (fun i wr => ∃ (q : Nat) (s : SS), b + 1 < q ∧ q ≤ k ∧ i = .int .i64 q ∧ Hid (s.T.count 1 + (q - (b + 2)) + b + 1 = k ∧ s.T.count 2 = q - (b + 2)) ∧ Hid (∀ j : Nat, b < j → j < k → atT s.T j = if b + 1 < j ∧ j < q then 2 else 1) ∧ Hid (InF w wr X lo hi p k b s)) (fun i _ => k - (intOf i).toNat)
      case atStart => exact ⟨b + 2, s, by omega, by omega, by go_num, hid ⟨by have := HCt.out.1; omega, by rw [HCt.out.2]; omega⟩, hid (fun j h1 h2 => by rw [if_neg (by omega)]; exact HA1.out j h1 h2), I9⟩
      case round =>
        clear I9 HCt HA1 s
        obtain ⟨q, s, hq1, hq2, rfl, HCt, HAt, HI⟩ := hrel
        have k0 := HI.out.1.c0
        by_cases hlt : q < k
        · have hqk : (q : Int) < (k : Int) := by omega
          have hat : atT s.T q = 1 := by rw [HAt.out q (by omega) hlt, if_neg (by omega)]
          have HC2 : Hid ((s.setT q 2).T.count 1 + (q + 1 - (b + 2)) + b + 1 = k ∧ (s.setT q 2).T.count 2 = q + 1 - (b + 2)) := by
            have e1 := setT_count HI.out.1.s.ok q 2 (by rw [HI.out.2.2]; exact hlt) 1 (by rw [← atT_nat]; exact hat) 1
            have e2 := setT_count HI.out.1.s.ok q 2 (by rw [HI.out.2.2]; exact hlt) 1 (by rw [← atT_nat]; exact hat) 2
            rw [HCt.out.2] at e2
            have e3 := HCt.out.1
            simp at e1 e2
            exact ⟨by omega, by omega⟩
          have HA2 : Hid (∀ j : Nat, b < j → j < k → atT (s.setT q 2).T j = if b + 1 < j ∧ j < q + 1 then 2 else 1) := fun j h1 h2 => by
            rw [setT_at HI.out.1.s.ok q 2 (by rw [HI.out.2.2]; exact hlt), HAt.out j h1 h2]
            by_cases e : j = q
            · rw [if_pos e, if_pos (by omega)]
            · rw [if_neg e]
              by_cases c : b + 1 < j ∧ j < q
              · rw [if_pos c, if_pos (by omega)]
              · rw [if_neg c, if_neg (by omega)]
          have LT := hid (later_any (s := s) (lo := lo) (hi := hi) (p := p) q ⟨by omega, by omega⟩ wr HI.out.1.s)
          rw [show s.laterE q = 0 from if_pos hat, show s.laterS q = s.setT q 2 from if_pos hat] at LT
          clear hat
          go_wp2_with (go_at_call 27; refine LT.out.mono ?_; rintro e w8 ⟨rfl, h8, c8⟩; have I8 := hid (HI.out.chg h8 c8 rfl rfl); clear h8 c8)
          exact ⟨⟨q + 1, _, by omega, by omega, by go_num, HC2, HA2, I8⟩, by simp [intOf]; omega⟩
        · obtain rfl : q = k := by omega
          clear hlt
          have HA1 : Hid (∀ j : Nat, b < j → j < q → atT s.T j = if j = b + 1 then 1 else 2) := fun j h1 h2 => by
            rw [HAt.out j h1 h2]
            by_cases c : j = b + 1
            · rw [if_neg (by omega), if_pos c]
            · rw [if_pos (by omega), if_neg c]
          have hF := hid (first_no HI.out.1.s.ok (fun j h1 h2 => by rw [HI.out.2.1] at h1; rw [HI.out.2.2] at h2; rw [HA1.out j h1 h2]; split <;> decide))
          have TK := hid (takeBlock_any (s := s) (lo := lo) (hi := hi) (p := p) 0 false wr HI.out.1.s hF)
          clear hF HAt
          go_upto_region 22 with (go_at_call 19; refine TK.out.mono ?_; rintro e w8 ⟨rfl, h8, c8⟩; rw [show errN false 80 = 80 from rfl]; rw [show s.takeS 0 false = s from rfl] at h8; have I8 := hid (HI.out.chg h8 c8 rfl rfl); clear h8 c8)
          clear k0 TK HI
          have HRo := hid fun w h => room_any (s := s) (lo := lo) (hi := hi) (p := p) w h
          rw [show roomV s = #[.int .i64 ((q : Int) - (b : Int) - 2), .int .i64 ((q : Int) - (b : Int) - 2), .int .i64 s.ri] by
            unfold roomV SS.rb SS.rl
            have e1 := HCt.out.1
            have e2 := HCt.out.2
            rw [I8.out.2.1, I8.out.2.2, show (q : Int) - (b : Int) - 1 - ((s.T.count 1 : Nat) : Int) = (q : Int) - (b : Int) - 2 by omega, show ((s.T.count 2 : Nat) : Int) = (q : Int) - (b : Int) - 2 by omega]] at HRo
          generalize s.ri = RI at HRo
          refine wp_region_noPanic ?_
          refine wp_region_held_drew (S := fun w' => InF w w' X lo hi p q b s) (by kernel_rfl) (I8.out.drewN 1) (fun hHeld => ?_)
          refine takeVal 0 99 (.int .i64 80) rfl (by kernel_rfl) (by kernel_rfl) (by kernel_rfl) rfl (by rfl) (fun _ _ _ h => h) hHeld (fun _ hw' => rfl) ?_
          simp only [List.setIfInBounds_toArray, List.set_cons_zero, List.set_cons_succ]
          refine takeVal 1 100 (.bool false) rfl (by kernel_rfl) (by kernel_rfl) (by kernel_rfl) rfl (by rfl) (fun _ _ _ h => h) hHeld (fun _ hw' => by go_simp) ?_
          simp only [List.setIfInBounds_toArray, List.set_cons_zero, List.set_cons_succ]
          refine takeVal 2 101 (.bool false) rfl (by kernel_rfl) (by kernel_rfl) (by kernel_rfl) rfl (by rfl) (fun _ _ _ h => h) hHeld (fun _ hw' => rfl) ?_
          simp only [List.setIfInBounds_toArray, List.set_cons_zero, List.set_cons_succ]
          refine takeVal 3 102 (.pointer (some ⟨p, 0, none⟩)) rfl (by kernel_rfl) (by kernel_rfl) (by kernel_rfl) rfl (by rfl) (fun _ _ _ h => h) hHeld (fun _ hw' => rfl) ?_
          simp only [List.setIfInBounds_toArray, List.set_cons_zero, List.set_cons_succ]
          refine takeVal 6 105 (.pointer (some ⟨X, 0, none⟩)) rfl (by kernel_rfl) (by kernel_rfl) (by kernel_rfl) rfl (by rfl) (fun _ _ _ h => h) hHeld (fun _ hw' => by go_simp) ?_
          simp only [List.setIfInBounds_toArray, List.set_cons_zero, List.set_cons_succ]
          refine takeVal 7 106 (.int .i64 (q : Int)) rfl (by kernel_rfl) (by kernel_rfl) (by kernel_rfl) rfl (by rfl) (fun _ _ _ h => h) hHeld (fun _ hw' => by have cc := hw'.1.c0; go_simp) ?_
          simp only [List.setIfInBounds_toArray, List.set_cons_zero, List.set_cons_succ]
          refine takeVal 8 107 (.pointer (some ⟨X, 1, none⟩)) rfl (by kernel_rfl) (by kernel_rfl) (by kernel_rfl) rfl (by rfl) (fun _ _ _ h => h) hHeld (fun _ hw' => by go_simp) ?_
          simp only [List.setIfInBounds_toArray, List.set_cons_zero, List.set_cons_succ]
          refine takeVal 9 108 (.int .i64 (b : Int)) rfl (by kernel_rfl) (by kernel_rfl) (by kernel_rfl) rfl (by rfl) (fun _ _ _ h => h) hHeld (fun _ hw' => by have cc := hw'.1.c1; go_simp) ?_
          simp only [List.setIfInBounds_toArray, List.set_cons_zero, List.set_cons_succ]
          refine takeVal 10 109 (.int .i64 ((q : Int) - (b : Int))) rfl (by kernel_rfl) (by kernel_rfl) (by kernel_rfl) rfl (by rfl) (fun _ _ _ h => h) hHeld (fun _ hw' => by go_simp; exact IntWalk.i64_in _ (by omega)) ?_
          simp only [List.setIfInBounds_toArray, List.set_cons_zero, List.set_cons_succ]
          refine takeVal 11 110 (.int .i64 ((q : Int) - (b : Int) - 2)) rfl (by kernel_rfl) (by kernel_rfl) (by kernel_rfl) rfl (by rfl) (fun _ _ _ h => h) hHeld (fun _ hw' => by go_simp; exact IntWalk.i64_in _ (by omega)) ?_
          simp only [List.setIfInBounds_toArray, List.set_cons_zero, List.set_cons_succ]
          refine step1 4 (by kernel_rfl) ?_
          refine stCall 4 103 17 #[.pointer (some ⟨p, 0, none⟩)] _ rfl rfl (by rfl) (by go_simp) (HRo.out _ hHeld.1.s) ?_
          rintro e wa ⟨rfl, bwa⟩
          replace hHeld := hHeld.call bwa
          refine ⟨_, rfl, hHeld, ?_⟩
          simp only [List.setIfInBounds_toArray, List.set_cons_zero, List.set_cons_succ]
          refine takeVal 5 104 (.int .i64 ((q : Int) - (b : Int) - 2)) rfl (by kernel_rfl) (by kernel_rfl) (by kernel_rfl) rfl (by rfl) (fun _ _ _ h => h) hHeld (fun _ hw' => by have e := field_room0 ((q : Int) - (b : Int) - 2) ((q : Int) - (b : Int) - 2) RI; go_simp) ?_
          simp only [List.setIfInBounds_toArray, List.set_cons_zero, List.set_cons_succ]
          refine takeVal 12 111 (.bool false) rfl (by kernel_rfl) (by kernel_rfl) (by kernel_rfl) rfl (by rfl) (fun _ _ _ h => h) hHeld (fun _ hw' => by go_simp) ?_
          simp only [List.setIfInBounds_toArray, List.set_cons_zero, List.set_cons_succ]
          refine takeVal 13 112 (.bool false) rfl (by kernel_rfl) (by kernel_rfl) (by kernel_rfl) rfl (by rfl) (fun _ _ _ h => h) hHeld (fun _ hw' => rfl) ?_
          simp only [List.setIfInBounds_toArray, List.set_cons_zero, List.set_cons_succ]
          refine takeVal 14 113 (.bool false) rfl (by kernel_rfl) (by kernel_rfl) (by kernel_rfl) rfl (by rfl) (fun _ _ _ h => h) hHeld (fun _ hw' => rfl) ?_
          simp only [List.setIfInBounds_toArray, List.set_cons_zero, List.set_cons_succ]
          refine takeVal 15 114 (.pointer (some ⟨p, 0, none⟩)) rfl (by kernel_rfl) (by kernel_rfl) (by kernel_rfl) rfl (by rfl) (fun _ _ _ h => h) hHeld (fun _ hw' => rfl) ?_
          simp only [List.setIfInBounds_toArray, List.set_cons_zero, List.set_cons_succ]
          refine takeVal 18 117 (.pointer (some ⟨p, 0, none⟩)) rfl (by kernel_rfl) (by kernel_rfl) (by kernel_rfl) rfl (by rfl) (fun _ _ _ h => h) hHeld (fun _ hw' => rfl) ?_
          simp only [List.setIfInBounds_toArray, List.set_cons_zero, List.set_cons_succ]
          refine step1 16 (by kernel_rfl) ?_
          refine stCall 16 115 17 #[.pointer (some ⟨p, 0, none⟩)] _ rfl rfl (by rfl) (by go_simp) (HRo.out _ hHeld.1.s) ?_
          rintro e wb ⟨rfl, bwb⟩
          replace hHeld := hHeld.call bwb
          refine ⟨_, rfl, hHeld, ?_⟩
          simp only [List.setIfInBounds_toArray, List.set_cons_zero, List.set_cons_succ]
          refine takeVal 17 116 (.int .i64 ((q : Int) - (b : Int) - 2)) rfl (by kernel_rfl) (by kernel_rfl) (by kernel_rfl) rfl (by rfl) (fun _ _ _ h => h) hHeld (fun _ hw' => by have e := field_room1 ((q : Int) - (b : Int) - 2) ((q : Int) - (b : Int) - 2) RI; go_simp) ?_
          simp only [List.setIfInBounds_toArray, List.set_cons_zero, List.set_cons_succ]
          refine step1 19 (by kernel_rfl) ?_
          refine stCall 19 118 17 #[.pointer (some ⟨p, 0, none⟩)] _ rfl rfl (by rfl) (by go_simp) (HRo.out _ hHeld.1.s) ?_
          rintro e wc ⟨rfl, bwc⟩
          replace hHeld := hHeld.call bwc
          refine ⟨_, rfl, hHeld, ?_⟩
          simp only [List.setIfInBounds_toArray, List.set_cons_zero, List.set_cons_succ]
          refine takeVal 20 119 (.int .i64 ((q : Int) - (b : Int) - 2)) rfl (by kernel_rfl) (by kernel_rfl) (by kernel_rfl) rfl (by rfl) (fun _ _ _ h => h) hHeld (fun _ hw' => by have e := field_room0 ((q : Int) - (b : Int) - 2) ((q : Int) - (b : Int) - 2) RI; go_simp) ?_
          simp only [List.setIfInBounds_toArray, List.set_cons_zero, List.set_cons_succ]
          refine takeVal 21 120 (.bool false) rfl (by kernel_rfl) (by kernel_rfl) (by kernel_rfl) rfl (by rfl) (fun _ _ _ h => h) hHeld (fun _ hw' => by go_simp) ?_
          simp only [List.setIfInBounds_toArray, List.set_cons_zero, List.set_cons_succ]
          refine takeVal 22 121 (.bool false) rfl (by kernel_rfl) (by kernel_rfl) (by kernel_rfl) rfl (by rfl) (fun _ _ _ h => h) hHeld (fun _ hw' => rfl) ?_
          simp only [List.setIfInBounds_toArray, List.set_cons_zero, List.set_cons_succ]
          refine wpAnyH_done (by kernel_rfl) ?_ _
          refine NoPanic.normal ?_
          have IE := hid hHeld
          clear hHeld HRo I8
          go_upto_region 24 with (fail)
          have k0 := IE.out.1.c0
          have hmk' := hmk.out
          go_upto_region 25 with (fail)
          clear hmk' k0
          have hU := hid (heap_alloc_new wc (.cells (BA (noneL q)) 4))
          have IF := hid (IE.out.call (below_box wc (.cells (BA (noneL q)) 4)))
          have HhU : Hid (hi ≤ wc.heap.size) := IE.out.1.s.top
          have HUB : Hid (wc.heap.size < (wc.alloc (.cells (BA (noneL q)) 4)).heap.size) := slt hU.out
          clear IE
          generalize wc.alloc (.cells (BA (noneL q)) 4) = wd at *
          generalize wc.heap.size = U at *
          generalize hBs : wd.heap.size = Bs at *
          have HBs : Hid (Bs ≤ wd.heap.size) := Nat.le_of_eq hBs.symm
          clear hBs
          rw [toldL_nil q b] at hU
          go_wp2
          go_loopw [19, 18] (fun i v wr => ∃ (t : Nat) (l : List Int), t ≤ len ∧ i = .int .i64 t ∧ Hid (l.length = t) ∧ Hid (∀ x, x ∈ l → ∃ n : Nat, x = (n : Int) ∧ b < n ∧ n < q) ∧ Hid (IOwn wr Bs v l) ∧ Hid (wr.heap[U]? = some (.cells (BA (toldL q b l)) 4 (0, 0))) ∧ Hid (Bs ≤ wr.heap.size) ∧ Hid (InF w wr X lo hi p q b s)) (fun i _ _ => len - (intOf i).toNat)
          case atStart => exact ⟨0, [], by omega, rfl, rfl, hid (fun x hx => by cases hx), IOwn.nil _ _, hU, HBs, IF⟩
          case round =>
            clear hU HBs IF
            obtain ⟨t, l, ht, rfl, HLl, HLd, HOw, HTo, HBs, HI⟩ := hrel
            by_cases hlt : t < len
            · obtain ⟨bk, o, rfl, hcell⟩ := HX.out.get HI.out.1.b t (by rw [hlen.out]; exact hlt)
              have hkl : (t : Int) < (len : Int) := by omega
              have hx64 := all64 H64.out t (by rw [hlen.out]; exact hlt)
              generalize xs.getD t 0 = x at *
              obtain ⟨n0, hn, hn2⟩ := pickNat (c := x) (show (1 : Int) ≤ (q : Int) - (b : Int) - 1 by omega)
              have HP1 := hid fun w => pick_any x ((q : Int) - (b : Int) - 1) w hx64 (by omega) (by omega)
              rw [hn] at HP1
              clear hn
              have k0 := HI.out.1.c0
              have k1 := HI.out.1.c1
              go_upto_region 29 with (fail)
              go_quiet (first | (go_at_call 22; exact Calls.quiet_of_same ((HP1.out _).mono fun e w' h => ⟨h.1, h.2.symm⟩)))
              have I7 := hid (HI.out.drewN nq)
              have HT7 : Hid ((wr.drewN nq).heap[U]? = some (.cells (BA (toldL q b l)) 4 (0, 0))) := HTo.out
              have HO7 : Hid (IOwn (wr.drewN nq) Bs u18 l) := HOw.out.keep (fun g _ => rfl)
              have HB7 : Hid (Bs ≤ (wr.drewN nq).heap.size) := HBs.out
              clear HI hcell k0 k1 HP1 HTo HOw HBs
              generalize wr.drewN nq = w7 at *
              generalize hnn : (b : Int) + 1 + (n0 : Int) = nn at *
              obtain ⟨n, rfl⟩ : ∃ n : Nat, nn = (n : Int) := ⟨b + 1 + n0, by omega⟩
              have hnb : b < n := by omega
              have hna : n < q := by omega
              clear hnn hn2
              have hbx := hid (below_box w7 (.cells #[.int .i64 (n : Int)] 3))
              have HO8 := hid (HO7.out.keep (w' := w7.alloc (.cells #[.int .i64 (n : Int)] 3)) (fun g hg => hbx.out.block g (HO7.out.lt hg).2))
              have hsr : Hid ((w7.alloc (.cells #[.int .i64 (n : Int)] 3)).heap[w7.heap.size]? = some (.cells #[.int .i64 (n : Int)] 3 (0, 0))) := heap_alloc_new _ _
              have HB8 : Hid (Bs ≤ (w7.alloc (.cells #[.int .i64 (n : Int)] 3)).heap.size) := Nat.le_trans HB7.out hbx.out.size
              have hlb : l.length + 1 ≤ 17592186044416 := by rw [HLl.out]; omega
              replace hlb := hid hlb
              go_upto_region 31 with (at_builtin; go_must (refine wp_appI rfl _ _ rfl Bs w7.heap.size 1 u18 l (n : Int) rfl rfl HO8.out hsr.out hlb.out HB8.out ?_; intro v9 w9 o9 g9 e9; have O9 := hid o9; have G9 := hid g9; have E9 := hid e9; clear o9 g9 e9))
              have C9 : Hid (Chg w7 w9 (fun g => some g = u18.ownBlock)) := (Chg.of_below hbx.out _).trans (Chg.grown G9.out) (fun _ _ e => e) (fun _ _ e => e)
              have hoff : Hid (∀ g, g < Bs → ¬ some g = u18.ownBlock) := fun g hg e => by have := (HO7.out.lt e.symm).1; omega
              have I9 : Hid (InF w w9 X lo hi p q b s) := ⟨⟨I7.out.1.s.keep C9.out (fun k hk => hoff.out k (by have := hk.2; have := HhU.out; have := HUB.out; omega)), C9.out.keep I7.out.1.x (hoff.out X (by have := I7.out.1.l.1; have := I7.out.1.s.rp; have := this.1; have := this; have := I7.out.1.s.rp.2; have := HhU.out; have := HUB.out; omega)), C9.out.to I7.out.1.b I7.out.1.b.size (fun k e => by have := (HO7.out.lt e.symm).1; have := I7.out.1.l.2; have := I7.out.1.s.rp.1; have := I7.out.1.s.rp.2; have := HhU.out; have := HUB.out; omega), I7.out.1.l⟩, I7.out.2⟩
              have HT9 := hid (C9.out.keep HT7.out (hoff.out U HUB.out))
              have HB9 : Hid (Bs ≤ w9.heap.size) := Nat.le_trans HB7.out C9.out.size
              have k1 := I9.out.1.c1
              have hcu : w9.cell? ⟨U, n, none⟩ = some (.bool ((toldL q b l).getD n false)) := by rw [cell_of_row _ _ _ _ _ _ HT9.out, BA_get _ _ (by rw [toldL_len]; exact hna)]
              have hfu := frozen_of_row w9 U n _ _ HT9.out
              have hna2 : (n : Int) < (q : Int) := by omega
              have HLd2 : Hid (∀ x, x ∈ l ++ [(n : Int)] → ∃ n : Nat, x = (n : Int) ∧ b < n ∧ n < q) := fun x hx => by
                rcases List.mem_append.1 hx with e | e
                · exact HLd.out x e
                · exact ⟨n, List.mem_singleton.1 e, hnb, hna⟩
              have HTN := hid (BA_put HT9.out n (decide (b + 1 < n)))
              rw [toldL_snoc l n] at HTN
              have HON := hid (O9.out.keep (w' := w9.setCell ⟨U, n, none⟩ (.bool (decide (b + 1 < n)))) (fun g hg => by
                have := (O9.out.lt hg).1
                exact heap_setCell_other w9 ⟨U, n, none⟩ g _ (show g ≠ U by have := HUB.out; omega)))
              have HIN : Hid (InF w (w9.setCell ⟨U, n, none⟩ (.bool (decide (b + 1 < n)))) X lo hi p q b s) := ⟨I9.out.1.set HhU.out n _, I9.out.2⟩
              have HBN : Hid (Bs ≤ (w9.setCell ⟨U, n, none⟩ (.bool (decide (b + 1 < n)))).heap.size) := by show _ ≤ _; simp [World.setCell]; exact HB9.out
              have HLN : Hid ((l ++ [(n : Int)]).length = t + 1) := by show _ = _; rw [List.length_append, HLl.out]; rfl
              clear HO8 hsr HB8 hlb O9 G9 E9 C9 hoff I9 HT9 HB9 hbx HT7 HO7 HB7 I7
              by_cases hgt : b + 1 < n
              · have hgi : (b : Int) + 1 < (n : Int) := by omega
                rw [decide_eq_true hgt] at HTN HON HIN HBN
                clear hgt
                go_wp2
                exact ⟨⟨t + 1, _, by omega, by go_num, HLN, HLd2, HON, HTN, HBN, HIN⟩, by simp [intOf]; omega⟩
              · have hgi : ¬ (b : Int) + 1 < (n : Int) := by omega
                rw [decide_eq_false hgt] at HTN HON HIN HBN
                clear hgt
                go_wp2
                exact ⟨⟨t + 1, _, by omega, by go_num, HLN, HLd2, HON, HTN, HBN, HIN⟩, by simp [intOf]; omega⟩
            · have hll : Hid (l.length ≤ 140737488355328) := by show _ ≤ _; rw [HLl.out]; omega
              have htn : ¬ (t : Int) < (len : Int) := by omega
              clear ht hlt
              obtain ⟨al, cl, rfl, HLi, HLo⟩ := HOw.out.slice
              replace HLi := hid HLi
              have HLoff : Hid (Off al lo hi) := fun b' o' e r => by have := HLo b' o' e; have := r.2; have := HhU.out; have := HUB.out; omega
              clear HLo
              have HOk : Hid (s.landOk l = true) := by
                unfold Hid SS.landOk
                rw [List.all_eq_true]
                intro x hx
                obtain ⟨n, rfl, h1, h2⟩ := HLd.out x hx
                exact decide_eq_true (by rw [HI.out.2.1, HI.out.2.2]; omega)
              have LD := hid (landed_any (s := s) (lo := lo) (hi := hi) (p := p) l al l.length cl wr HI.out.1.s rfl hll.out HLi (hid (fun x hx => by obtain ⟨n, rfl, h1, h2⟩ := HLd.out x hx; exact ⟨by omega, by omega⟩)) HLoff)
              rw [show s.landE l = 0 by unfold SS.landE; rw [HOk.out]; rfl, show s.landS l = { s with T := landL s.T l } by unfold SS.landS; rw [HOk.out, if_pos rfl]] at LD
              go_upto_region 33 with (go_at_call 29; refine LD.out.mono ?_; rintro e w8 ⟨rfl, h8, c8⟩; have I8 := hid (HI.out.chg h8 c8 rfl rfl); have HT8 := hid (c8.new HTo.out HhU.out); clear h8 c8)
              obtain ⟨s4, hs4⟩ : ∃ s4, s4 = ({ s with T := landL s.T l } : SS) := ⟨_, rfl⟩
              rw [← hs4] at I8
              have HA4 : Hid (∀ j : Nat, b < j → j < q → atT s4.T j = if j = b + 1 then 1 else if (j : Int) ∈ l then (if j < b + 1 then 1 else 0) else 2) := fun j h1 h2 => by
                rw [hs4, land_at, HA1.out j h1 h2, if_neg (show ¬ j < b + 1 by omega)]
                by_cases c : j = b + 1
                · simp [c]
                · by_cases d : (j : Int) ∈ l <;> simp [c, d]
              clear LD HI HTo HOw HLi HLoff HOk HBs hs4 HA1 HCt
              have k1 := I8.out.1.c1
              go_wp2
              clear k1
              go_loopw [21] (fun i wr => ∃ (m : Nat) (s : SS), b < m ∧ m ≤ q ∧ i = .int .i64 m ∧ Hid (∀ j : Nat, b < j → j < q → atT s.T j = if j = b + 1 then 1 else if (j : Int) ∈ l then (if j < m then 1 else 0) else 2) ∧ Hid (wr.heap[U]? = some (.cells (BA (toldL q b l)) 4 (0, 0))) ∧ Hid (InF w wr X lo hi p q b s)) (fun i _ => q - (intOf i).toNat)
              case atStart => exact ⟨b + 1, s4, by omega, by omega, by go_num, HA4, HT8, I8⟩
              case round =>
                clear HA4 HT8 I8
                obtain ⟨m, s, hm1, hm2, rfl, HAt, HTo, HI⟩ := hrel
                have k0 := HI.out.1.c0
                by_cases hlt : m < q
                · have hmq : (m : Int) < (q : Int) := by omega
                  have hcu : wr.cell? ⟨U, m, none⟩ = some (.bool (decide (b + 1 < m) && decide ((m : Int) ∈ l))) := by rw [cell_of_row _ _ _ _ _ _ HTo.out, BA_get _ _ (by rw [toldL_len]; exact hlt), toldL_get l hlt]
                  by_cases htd : b + 1 < m ∧ (m : Int) ∈ l
                  · rw [show (decide (b + 1 < m) && decide ((m : Int) ∈ l)) = true by rw [decide_eq_true htd.1, decide_eq_true htd.2]; rfl] at hcu
                    have hat : atT s.T m = 0 := by rw [HAt.out m hm1 hlt, if_neg (by omega), if_pos htd.2, if_neg (by omega)]
                    have hF := hid (first_at HI.out.1.s.ok m (by rw [HI.out.2.1]; exact hm1) (by rw [HI.out.2.2]; exact hlt) hat (fun j h1 h2 => by
                      rw [HI.out.2.1] at h1
                      rw [HAt.out j h1 (by omega)]
                      by_cases c : j = b + 1
                      · rw [if_pos c]; decide
                      · rw [if_neg c]
                        by_cases d : (j : Int) ∈ l
                        · rw [if_pos d, if_pos h2]; decide
                        · rw [if_neg d]; decide))
                    have HA2 : Hid (∀ j : Nat, b < j → j < q → atT (s.setT m 1).T j = if j = b + 1 then 1 else if (j : Int) ∈ l then (if j < m + 1 then 1 else 0) else 2) := fun j h1 h2 => by
                      rw [setT_at HI.out.1.s.ok m 1 (by rw [HI.out.2.2]; exact hlt), HAt.out j h1 h2]
                      by_cases e : j = m
                      · subst e
                        rw [if_pos rfl, if_neg (by omega), if_pos htd.2, if_pos (by omega)]
                      · rw [if_neg e]
                        by_cases c : j = b + 1
                        · rw [if_pos c, if_pos c]
                        · rw [if_neg c, if_neg c]
                          by_cases d : (j : Int) ∈ l
                          · rw [if_pos d, if_pos d]
                            by_cases f : j < m
                            · rw [if_pos f, if_pos (by omega)]
                            · rw [if_neg f, if_neg (by omega)]
                          · rw [if_neg d, if_neg d]
                    have TK := hid (takeBlock_any (s := s) (lo := lo) (hi := hi) (p := p) m true wr HI.out.1.s hF)
                    clear hat hF htd
                    go_wp2_with (go_at_call 19; refine TK.out.mono ?_; rintro e w8 ⟨rfl, h8, c8⟩; rw [show errN true 80 = 0 from rfl]; rw [show s.takeS (m : Int) true = s.setT m 1 from rfl] at h8; have I8 := hid (HI.out.chg h8 c8 rfl rfl); have HT8 := hid (c8.new HTo.out HhU.out); clear h8 c8)
                    exact ⟨⟨m + 1, _, by omega, by omega, by go_num, HA2, HT8, I8⟩, by simp [intOf]; omega⟩
                  · rw [show (decide (b + 1 < m) && decide ((m : Int) ∈ l)) = false by
                      by_cases c : b + 1 < m
                      · rw [decide_eq_false (fun e => htd ⟨c, e⟩), Bool.and_false]
                      · rw [decide_eq_false c, Bool.false_and]] at hcu
                    have HA2 : Hid (∀ j : Nat, b < j → j < q → atT s.T j = if j = b + 1 then 1 else if (j : Int) ∈ l then (if j < m + 1 then 1 else 0) else 2) := fun j h1 h2 => by
                      rw [HAt.out j h1 h2]
                      by_cases c : j = b + 1
                      · rw [if_pos c, if_pos c]
                      · rw [if_neg c, if_neg c]
                        by_cases d : (j : Int) ∈ l
                        · rw [if_pos d, if_pos d]
                          have e : j ≠ m := fun e => htd (by subst e; exact ⟨by omega, d⟩)
                          by_cases f : j < m
                          · rw [if_pos f, if_pos (by omega)]
                          · rw [if_neg f, if_neg (by omega)]
                        · rw [if_neg d, if_neg d]
                    clear htd
                    go_wp2
                    exact ⟨⟨m + 1, _, by omega, by omega, by go_num, HA2, HTo, HI⟩, by simp [intOf]; omega⟩
                · have hF := hid (first_no HI.out.1.s.ok (fun j h1 h2 => by
                    rw [HI.out.2.1] at h1
                    rw [HI.out.2.2] at h2
                    rw [HAt.out j h1 h2]
                    by_cases c : j = b + 1
                    · rw [if_pos c]; decide
                    · rw [if_neg c]
                      by_cases d : (j : Int) ∈ l
                      · rw [if_pos d, if_pos (by omega)]; decide
                      · rw [if_neg d]; decide))
                  have TK := hid (takeBlock_any (s := s) (lo := lo) (hi := hi) (p := p) 0 false wr HI.out.1.s hF)
                  have hmq : ¬ (m : Int) < (q : Int) := by omega
                  clear hF hlt
                  go_wp2_with (go_at_call 19; refine TK.out.mono ?_; rintro e w8 ⟨rfl, h8, c8⟩; rw [show errN false 80 = 80 from rfl]; rw [show s.takeS 0 false = s from rfl] at h8; have I8 := hid (HI.out.chg h8 c8 rfl rfl); clear h8 c8)
                  go_ret
                  exact ⟨rfl, I8.out.1.b⟩

end Go.Proofs.Ytdhhmcecgddlnaa
