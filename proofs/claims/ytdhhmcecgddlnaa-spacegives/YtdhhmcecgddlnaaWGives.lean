/-
  SpaceGives returns true: the walk.
-/
import Derived.Test.YtdhhmcecgddlnaaUG
namespace Go.Proofs.Ytdhhmcecgddlnaa
open Go.RowKit

theorem off_new8 {lo hi g : Nat} (h : hi ≤ g) : Off (some ⟨g, 0, none⟩) lo hi := by
  intro b o e
  cases e
  intro r
  have := r.2
  omega
theorem land_one (s : SS) (n : Int) (h : isB ((s.ni : Int) + 1) s.ns n = true) : s.landE [n] = 0 ∧ s.landS [n] = if atT s.T n = 2 then s.setT n 0 else s := by
  have e : s.landOk [n] = true := by unfold SS.landOk; simp [h]
  unfold SS.landE SS.landS
  rw [e]
  refine ⟨rfl, ?_⟩
  rw [if_pos rfl]
  show ({ s with T := land1 s.T n } : SS) = _
  unfold land1
  split <;> rfl

set_option maxRecDepth 100000 in
set_option maxHeartbeats 4000000 in
theorem gives_walk (sc ic : Int) (xs : List Int) (ad : Option Addr) (cap : Nat) (w : World) (hs : I64 sc) (hic : I64 ic) (hl : xs.length ≤ 140737488355328) (HX : IntsAt w ad xs) (H64 : ∀ x, x ∈ xs → I64 x) :
    Calls Try.prog 5 #[.int .i64 sc, .int .i64 ic, .slice ad xs.length cap] w fun e w' => e = .returned (.bool true) ∧ Below w.heap.size w w' := by
  obtain ⟨a, b, h, HSup⟩ := super_ex sc ic hs hic
  replace HSup := hid HSup
  replace HX := hid HX
  replace H64 := hid H64
  have HN := hid fun w => sNew_nil a b (mayB_of h) w
  have HH := hid h
  have hbb : b ≤ 512 := h.2.2.2.1
  have hb1 : 1 ≤ b := h.2.2.1
  have haa : a ≤ 4096 := h.2.1
  have hab : b + 2 ≤ a := h.2.2.2.2
  generalize hlen : xs.length = len at *
  replace hlen := hid hlen
  have hmk := make_ints a (by omega)
  clear h
  go_enter Try.func5, Try.ntmps5
  go_upto_region 2 with (go_at_call 9; refine (awake_any _).mono ?_; rintro e w1 ⟨rfl, b1⟩; have B1 := hid b1; clear b1)
  go_upto_region 3 with (go_at_call 21; refine (HSup.out _).mono ?_; rintro e w2 ⟨rfl, b2⟩; have BW2 := hid (B1.out.trans (b2.mono B1.out.size)); clear b2)
  have y0 := heap_alloc_new w2 (.cells #[.int .i64 (a : Int), .int .i64 (b : Int)] 23)
  replace y0 := hid y0
  obtain ⟨z0, z1⟩ := cells2 y0.out
  go_upto_region 4 with (go_at_call 11; refine (HN.out _).mono ?_; rintro e w4 ⟨p, rfl, h4, b4⟩; have K4 := hid (kit_start BW2.out h4 b4); clear h4 b4)
  clear z0 z1 y0 BW2 B1 HN HSup
  generalize w2.heap.size = X at *
  generalize hlo : X + 1 = lo at K4
  generalize hhi : w4.heap.size = hi at K4
  clear hlo
  replace hhi := hid hhi
  have k0 := K4.out.c0
  go_upto_region 7 with (fail)
  have I6 : Hid (InG w (w4.alloc (.cells (IA (List.replicate a 0)) 3)) X lo hi p a b w4.heap.size (nil0 a b)) := ⟨K4.out.boxed _, heap_alloc_new w4 _, ⟨rfl, rfl⟩, by
    have e := count_put (noneL (b + 1)) 1 true ⟨by decide, by rw [noneL_len]; omega⟩
    rw [noneL_has, noneL_count] at e
    unfold SS.ri nil0
    simp at e ⊢
    omega⟩
  have HhU : Hid (hi ≤ w4.heap.size) := Nat.le_of_eq hhi.out.symm
  clear hhi K4 k0 hmk
  generalize w4.alloc (.cells (IA (List.replicate a 0)) 3) = w6 at *
  generalize w4.heap.size = U at *
  have k0 := I6.out.1.c0
  have k1 := I6.out.1.c1
  go_wp2
  clear k0 k1
  go_loopw [15, 13, 14] (fun i us lt wr => ∃ (k C1 C2 : Nat) (s : SS), k ≤ len ∧ i = .int .i64 k ∧ us = .int .i64 C1 ∧ lt = .int .i64 C2 ∧ Hid (s.T.count 1 = C1 ∧ s.T.count 2 = C2) ∧ Hid (InG w wr X lo hi p a b U s)) (fun i _ _ _ => len - (intOf i).toNat)
  case atStart => exact ⟨0, 0, 0, nil0 a b, by omega, rfl, rfl, rfl, nil_counts a b, I6⟩
  case round =>
    clear I6
    obtain ⟨k, C1, C2, s, hk, rfl, rfl, rfl, HCt, HI⟩ := hrel
    by_cases hlt : k < len
    · obtain ⟨bk, o, rfl, hcell⟩ := HX.out.get HI.out.1.b k (by rw [hlen.out]; exact hlt)
      have hkl : (k : Int) < (len : Int) := by omega
      have hx64 := all64 H64.out k (by rw [hlen.out]; exact hlt)
      generalize xs.getD k 0 = x at *
      obtain ⟨n0, hn, hn2⟩ := pickNat (c := wrap64 (x.tdiv 4)) (show (1 : Int) ≤ (a : Int) - (b : Int) - 1 by omega)
      have HP1 := hid fun w => pick_any (wrap64 (x.tdiv 4)) ((a : Int) - (b : Int) - 1) w (wrapdiv 4 (by decide) hx64) (by omega) (by omega)
      rw [hn] at HP1
      obtain ⟨m, hm, hm2⟩ := pickNat (c := x) (show (1 : Int) ≤ 4 by decide)
      have HP2 := hid fun w => pick_any x 4 w hx64 (by decide) (by decide)
      rw [hm] at HP2
      clear hn hm hlt
      have hCle := counts_le HI.out.1.s.ok
      rw [HCt.out.1, HCt.out.2] at hCle
      have hC1 : C1 ≤ 4096 := by omega
      have hC2 : C2 ≤ 4096 := by omega
      clear hCle
      have k1 := HI.out.1.c1
      go_upto_region 13 with (fail)
      go_quiet (first | (go_at_call 22; exact Calls.quiet_of_same ((HP1.out _).mono fun e w' h => ⟨h.1, h.2.symm⟩)))
      have I7 := hid (HI.out.drewN nq)
      have hc7 : (wr.drewN nq).cell? ⟨bk, o + k, none⟩ = some (.int .i64 x) := hcell
      clear HI hcell k1 HP1
      generalize wr.drewN nq = w7 at *
      generalize hnn : (b : Int) + 1 + (n0 : Int) = nn at *
      obtain ⟨n, rfl⟩ : ∃ n : Nat, nn = (n : Int) := ⟨b + 1 + n0, by omega⟩
      have hnb : b < n := by omega
      have hna : n < a := by omega
      clear hnn hn2
      rcases (show m = 0 ∨ m = 1 ∨ m = 2 ∨ m = 3 by omega) with rfl | rfl | rfl | rfl
      · have HP2 := HP2
        rw [show ((0 : Nat) : Int) = 0 from rfl] at HP2
        obtain ⟨y, bb, hF⟩ := first_ex (bt s.T) ((s.ni : Int) + 1)
        have hgr := gives_room I7.out.1.s.ok hF
        have hbl := block_least I7.out.1.s.ok hF
        rw [I7.out.2.2.1.1, I7.out.2.2.1.2, HCt.out.1, HCt.out.2] at hgr
        rw [I7.out.2.2.1.1, I7.out.2.2.1.2] at hbl
        have TK := hid (takeBlock_any (s := s) (lo := lo) (hi := hi) (p := p) y bb w7 I7.out.1.s hF)
        clear hF
        cases bb
        · have hfull := hgr.2 rfl
          obtain rfl := hbl.2 rfl
          have hroom : ¬ ((C1 : Int) + (C2 : Int) < (a : Int) - (b : Int) - 1) := by omega
          clear hgr hbl hfull
          go_upto_region 24 with (first | (go_at_call 22; refine (HP2.out _).mono ?_; rintro e w8 ⟨rfl, rfl⟩) | (go_at_call 19; refine TK.out.mono ?_; rintro e w8 ⟨rfl, h8, c8⟩; rw [show errN false 80 = 80 from rfl]; rw [show s.takeS 0 false = s from rfl] at h8; have I8 := hid (I7.out.chg h8 c8 HhU.out); clear h8 c8))
          clear hc7 TK I7
          go_upto_region 44 with (fail)
          have HCn := HCt
          have HRo := hid fun w h => room_any (s := s) (lo := lo) (hi := hi) (p := p) w h
          rw [show roomV (s) = #[.int .i64 ((a : Int) - (b : Int) - 1 - ((C1 : Nat))), .int .i64 ((C2 : Nat)), .int .i64 ((b : Int) - 1)] by
            unfold roomV
            rw [I8.out.2.2.2]
            unfold SS.rb SS.rl
            rw [I8.out.2.2.1.1, I8.out.2.2.1.2, HCn.out.1, HCn.out.2]] at HRo
          have HWr : Hid (IntKind.i64.wrap ((a : Int) - (b : Int) - 1 - ((C1 : Nat))) = (a : Int) - (b : Int) - 1 - ((C1 : Nat))) := hid (IntWalk.i64_in _ (by omega))
          have HWb : Hid (IntKind.i64.wrap ((b : Int) - 1) = (b : Int) - 1) := hid (IntWalk.i64_in _ (by omega))
          refine wp_region_noPanic ?_
          refine wp_region_held_drew (S := fun w' => InG w w' X lo hi p a b U (s)) (by kernel_rfl) (I8.out.drewN 1) (fun hHeld => ?_)
          refine takeVal 0 187 (.pointer (some ⟨p, 0, none⟩)) rfl (by kernel_rfl) (by kernel_rfl) (by kernel_rfl) rfl (by rfl) (fun _ _ _ h => h) hHeld (fun _ hw' => rfl) ?_
          simp only [List.setIfInBounds_toArray, List.set_cons_zero, List.set_cons_succ]
          refine takeVal 2 189 (.int .i64 ((a : Int) - (b : Int) - 1)) rfl (by kernel_rfl) (by kernel_rfl) (by kernel_rfl) rfl (by rfl) (fun _ _ _ h => h) hHeld (fun _ hw' => rfl) ?_
          simp only [List.setIfInBounds_toArray, List.set_cons_zero, List.set_cons_succ]
          refine takeVal 3 190 (.int .i64 ((C1 : Nat))) rfl (by kernel_rfl) (by kernel_rfl) (by kernel_rfl) rfl (by rfl) (fun _ _ _ h => h) hHeld (fun _ hw' => rfl) ?_
          simp only [List.setIfInBounds_toArray, List.set_cons_zero, List.set_cons_succ]
          refine takeVal 4 191 (.int .i64 ((a : Int) - (b : Int) - 1 - ((C1 : Nat)))) rfl (by kernel_rfl) (by kernel_rfl) (by kernel_rfl) rfl (by rfl) (fun _ _ _ h => h) hHeld (fun _ hw' => by go_simp; exact HWr.out) ?_
          simp only [List.setIfInBounds_toArray, List.set_cons_zero, List.set_cons_succ]
          refine takeVal 5 192 (.int .i64 ((C2 : Nat))) rfl (by kernel_rfl) (by kernel_rfl) (by kernel_rfl) rfl (by rfl) (fun _ _ _ h => h) hHeld (fun _ hw' => rfl) ?_
          simp only [List.setIfInBounds_toArray, List.set_cons_zero, List.set_cons_succ]
          refine takeVal 6 193 (.pointer (some ⟨X, 1, none⟩)) rfl (by kernel_rfl) (by kernel_rfl) (by kernel_rfl) rfl (by rfl) (fun _ _ _ h => h) hHeld (fun _ hw' => by go_simp) ?_
          simp only [List.setIfInBounds_toArray, List.set_cons_zero, List.set_cons_succ]
          refine takeVal 7 194 (.int .i64 (b : Int)) rfl (by kernel_rfl) (by kernel_rfl) (by kernel_rfl) rfl (by rfl) (fun _ _ _ h => h) hHeld (fun _ hw' => by have cc := hw'.1.c1; go_simp) ?_
          simp only [List.setIfInBounds_toArray, List.set_cons_zero, List.set_cons_succ]
          refine takeVal 8 195 (.int .i64 ((b : Int) - 1)) rfl (by kernel_rfl) (by kernel_rfl) (by kernel_rfl) rfl (by rfl) (fun _ _ _ h => h) hHeld (fun _ hw' => by go_simp; exact HWb.out) ?_
          simp only [List.setIfInBounds_toArray, List.set_cons_zero, List.set_cons_succ]
          refine takeVal 9 196 (.agg #[.int .i64 ((a : Int) - (b : Int) - 1 - ((C1 : Nat))), .int .i64 ((C2 : Nat)), .int .i64 ((b : Int) - 1)]) rfl (by kernel_rfl) (by kernel_rfl) (by kernel_rfl) rfl (by rfl) (fun _ _ _ h => h) hHeld (fun _ hw' => by go_simp) ?_
          simp only [List.setIfInBounds_toArray, List.set_cons_zero, List.set_cons_succ]
          refine step1 1 (by kernel_rfl) ?_
          refine stCall 1 188 17 #[.pointer (some ⟨p, 0, none⟩)] _ rfl rfl (by rfl) (by go_simp) (HRo.out _ hHeld.1.s) ?_
          rintro e wa ⟨rfl, bwa⟩
          replace hHeld := hHeld.call bwa
          refine ⟨_, rfl, hHeld, ?_⟩
          simp only [List.setIfInBounds_toArray, List.set_cons_zero, List.set_cons_succ]
          refine takeVal 10 197 (.bool false) rfl (by kernel_rfl) (by kernel_rfl) (by kernel_rfl) rfl (by rfl) (fun _ _ _ h => h) hHeld (fun _ hw' => by go_simp) ?_
          simp only [List.setIfInBounds_toArray, List.set_cons_zero, List.set_cons_succ]
          refine wpAnyH_done (by kernel_rfl) ?_ _
          refine NoPanic.normal ?_
          have HE := hid hHeld
          clear hHeld HRo HWr HWb
          go_wp2_with fail
          exact ⟨⟨k + 1, C1, C2, s, by omega, by go_num, congrArg (Value.int .i64) (by omega), congrArg (Value.int .i64) (by omega), HCn, HE⟩, by simp [intOf]; omega⟩
        · have hnf := hgr.1 rfl
          obtain ⟨E, rfl, hE1, hE2, hE3, hE4⟩ := hbl.1 rfl
          have hroom : (C1 : Int) + (C2 : Int) < (a : Int) - (b : Int) - 1 := by omega
          have HCn : Hid ((s.setT E 1).T.count 1 = C1 + 1 ∧ (s.setT E 1).T.count 2 = C2) := by
            have e1 := setT_count I7.out.1.s.ok E 1 (by rw [I7.out.2.2.1.2]; exact hE2) 0 hE3 1
            have e2 := setT_count I7.out.1.s.ok E 1 (by rw [I7.out.2.2.1.2]; exact hE2) 0 hE3 2
            rw [HCt.out.1] at e1
            rw [HCt.out.2] at e2
            simp at e1 e2
            exact ⟨e1, e2⟩
          clear hgr hbl hnf
          go_upto_region 24 with (first | (go_at_call 22; refine (HP2.out _).mono ?_; rintro e w8 ⟨rfl, rfl⟩) | (go_at_call 19; refine TK.out.mono ?_; rintro e w8 ⟨rfl, h8, c8⟩; rw [show errN true 80 = 0 from rfl]; rw [show s.takeS (E : Int) true = s.setT E 1 from rfl] at h8; have H8 := hid h8; have C8 := hid c8; clear h8 c8))
          have hrow := C8.out.new I7.out.2.1 HhU.out
          have KK := hid (I7.out.1.chg H8.out C8.out)
          have HAt : Hid (∀ q, q < a → w8.cell? ⟨U, q, none⟩ = some (.int .i64 (s.T.getD q 0 : Nat))) := fun q hq => by
            have e := cell_of_row w7 U q _ _ _ I7.out.2.1
            rw [I7.out.at q hq] at e
            rw [cell_of_row _ _ _ _ _ _ hrow]
            exact e.symm
          have hf8 := hid (frozen_of_row w8 U E _ _ hrow)
          have I9 := hid (I7.out.set E 1 H8.out C8.out HhU.out)
          have hE0 := HAt.out E hE2
          rw [hE3] at hE0
          have k0 := KK.out.c0
          have k1 := KK.out.c1
          have hEb : ¬ (E : Int) ≤ (b : Int) := by omega
          have hEa : ¬ (a : Int) ≤ (E : Int) := by omega
          have hEa2 : (E : Int) < (a : Int) := by omega
          replace hE4 := hid hE4
          replace hrow := hid hrow
          clear hc7 TK I7 H8 C8
          go_wp2
          go_loop [19] (fun i => ∃ q : Nat, b < q ∧ q ≤ E ∧ i = .int .i64 q) (fun i => E - (intOf i).toNat)
          case atStart => exact ⟨b + 1, by omega, by omega, by go_num⟩
          case round =>
            obtain ⟨q, hq1, hq2, rfl⟩ := hrel
            by_cases hqE : q < E
            · have hqe : (q : Int) < (E : Int) := by omega
              have hqa : (q : Int) < (a : Int) := by omega
              have hcu := HAt.out q (by omega)
              have hne := hE4.out q hq1 hqE
              have hv0 : (((s.T.getD q 0 : Nat) : Int) == 0) = false := beq_false_of_ne (fun e => hne (by omega))
              clear hne
              generalize s.T.getD q 0 = v at *
              go_wp2
              exact ⟨⟨q + 1, by omega, by omega, by go_num⟩, by simp [intOf]; omega⟩
            · obtain rfl : q = E := by omega
              have hf9 := hf8.out
              clear hqE hq2
              go_upto_region 35 with (fail)
              clear hE0 k0 k1 hf9
              generalize w8.setCell ⟨U, q, none⟩ (.int .i64 1) = w9 at *
              go_upto_region 44 with (fail)
              have HRo := hid fun w h => room_any (s := s.setT q 1) (lo := lo) (hi := hi) (p := p) w h
              rw [show roomV (s.setT q 1) = #[.int .i64 ((a : Int) - (b : Int) - 1 - ((C1 : Int) + 1)), .int .i64 ((C2 : Nat)), .int .i64 ((b : Int) - 1)] by
                unfold roomV
                rw [I9.out.2.2.2]
                unfold SS.rb SS.rl
                rw [I9.out.2.2.1.1, I9.out.2.2.1.2, HCn.out.1, HCn.out.2]; rw [show (((C1 + 1) : Nat) : Int) = (C1 : Int) + 1 by omega, show ((C2 : Nat) : Int) = (C2 : Nat) by omega]] at HRo
              have HWr : Hid (IntKind.i64.wrap ((a : Int) - (b : Int) - 1 - ((C1 : Int) + 1)) = (a : Int) - (b : Int) - 1 - ((C1 : Int) + 1)) := hid (IntWalk.i64_in _ (by omega))
              have HWb : Hid (IntKind.i64.wrap ((b : Int) - 1) = (b : Int) - 1) := hid (IntWalk.i64_in _ (by omega))
              refine wp_region_noPanic ?_
              refine wp_region_held_drew (S := fun w' => InG w w' X lo hi p a b U (s.setT q 1)) (by kernel_rfl) (I9.out.drewN 1) (fun hHeld => ?_)
              refine takeVal 0 187 (.pointer (some ⟨p, 0, none⟩)) rfl (by kernel_rfl) (by kernel_rfl) (by kernel_rfl) rfl (by rfl) (fun _ _ _ h => h) hHeld (fun _ hw' => rfl) ?_
              simp only [List.setIfInBounds_toArray, List.set_cons_zero, List.set_cons_succ]
              refine takeVal 2 189 (.int .i64 ((a : Int) - (b : Int) - 1)) rfl (by kernel_rfl) (by kernel_rfl) (by kernel_rfl) rfl (by rfl) (fun _ _ _ h => h) hHeld (fun _ hw' => rfl) ?_
              simp only [List.setIfInBounds_toArray, List.set_cons_zero, List.set_cons_succ]
              refine takeVal 3 190 (.int .i64 ((C1 : Int) + 1)) rfl (by kernel_rfl) (by kernel_rfl) (by kernel_rfl) rfl (by rfl) (fun _ _ _ h => h) hHeld (fun _ hw' => rfl) ?_
              simp only [List.setIfInBounds_toArray, List.set_cons_zero, List.set_cons_succ]
              refine takeVal 4 191 (.int .i64 ((a : Int) - (b : Int) - 1 - ((C1 : Int) + 1))) rfl (by kernel_rfl) (by kernel_rfl) (by kernel_rfl) rfl (by rfl) (fun _ _ _ h => h) hHeld (fun _ hw' => by go_simp; exact HWr.out) ?_
              simp only [List.setIfInBounds_toArray, List.set_cons_zero, List.set_cons_succ]
              refine takeVal 5 192 (.int .i64 ((C2 : Nat))) rfl (by kernel_rfl) (by kernel_rfl) (by kernel_rfl) rfl (by rfl) (fun _ _ _ h => h) hHeld (fun _ hw' => rfl) ?_
              simp only [List.setIfInBounds_toArray, List.set_cons_zero, List.set_cons_succ]
              refine takeVal 6 193 (.pointer (some ⟨X, 1, none⟩)) rfl (by kernel_rfl) (by kernel_rfl) (by kernel_rfl) rfl (by rfl) (fun _ _ _ h => h) hHeld (fun _ hw' => by go_simp) ?_
              simp only [List.setIfInBounds_toArray, List.set_cons_zero, List.set_cons_succ]
              refine takeVal 7 194 (.int .i64 (b : Int)) rfl (by kernel_rfl) (by kernel_rfl) (by kernel_rfl) rfl (by rfl) (fun _ _ _ h => h) hHeld (fun _ hw' => by have cc := hw'.1.c1; go_simp) ?_
              simp only [List.setIfInBounds_toArray, List.set_cons_zero, List.set_cons_succ]
              refine takeVal 8 195 (.int .i64 ((b : Int) - 1)) rfl (by kernel_rfl) (by kernel_rfl) (by kernel_rfl) rfl (by rfl) (fun _ _ _ h => h) hHeld (fun _ hw' => by go_simp; exact HWb.out) ?_
              simp only [List.setIfInBounds_toArray, List.set_cons_zero, List.set_cons_succ]
              refine takeVal 9 196 (.agg #[.int .i64 ((a : Int) - (b : Int) - 1 - ((C1 : Int) + 1)), .int .i64 ((C2 : Nat)), .int .i64 ((b : Int) - 1)]) rfl (by kernel_rfl) (by kernel_rfl) (by kernel_rfl) rfl (by rfl) (fun _ _ _ h => h) hHeld (fun _ hw' => by go_simp) ?_
              simp only [List.setIfInBounds_toArray, List.set_cons_zero, List.set_cons_succ]
              refine step1 1 (by kernel_rfl) ?_
              refine stCall 1 188 17 #[.pointer (some ⟨p, 0, none⟩)] _ rfl rfl (by rfl) (by go_simp) (HRo.out _ hHeld.1.s) ?_
              rintro e wa ⟨rfl, bwa⟩
              replace hHeld := hHeld.call bwa
              refine ⟨_, rfl, hHeld, ?_⟩
              simp only [List.setIfInBounds_toArray, List.set_cons_zero, List.set_cons_succ]
              refine takeVal 10 197 (.bool false) rfl (by kernel_rfl) (by kernel_rfl) (by kernel_rfl) rfl (by rfl) (fun _ _ _ h => h) hHeld (fun _ hw' => by go_simp) ?_
              simp only [List.setIfInBounds_toArray, List.set_cons_zero, List.set_cons_succ]
              refine wpAnyH_done (by kernel_rfl) ?_ _
              refine NoPanic.normal ?_
              have HE := hid hHeld
              clear hHeld HRo HWr HWb
              go_wp2_with fail
              exact ⟨⟨k + 1, (C1 + 1), C2, s.setT q 1, by omega, by go_num, congrArg (Value.int .i64) (by omega), congrArg (Value.int .i64) (by omega), HCn, HE⟩, by simp [intOf]; omega⟩
      · have HP2 := HP2
        rw [show ((1 : Nat) : Int) = 1 from rfl] at HP2
        obtain ⟨y, bb, hF⟩ := first_ex (bt s.T) ((s.ni : Int) + 1)
        have hgr := gives_room I7.out.1.s.ok hF
        have hbl := block_least I7.out.1.s.ok hF
        rw [I7.out.2.2.1.1, I7.out.2.2.1.2, HCt.out.1, HCt.out.2] at hgr
        rw [I7.out.2.2.1.1, I7.out.2.2.1.2] at hbl
        have TK := hid (takeBlock_any (s := s) (lo := lo) (hi := hi) (p := p) y bb w7 I7.out.1.s hF)
        clear hF
        cases bb
        · have hfull := hgr.2 rfl
          obtain rfl := hbl.2 rfl
          have hroom : ¬ ((C1 : Int) + (C2 : Int) < (a : Int) - (b : Int) - 1) := by omega
          clear hgr hbl hfull
          go_upto_region 24 with (first | (go_at_call 22; refine (HP2.out _).mono ?_; rintro e w8 ⟨rfl, rfl⟩) | (go_at_call 19; refine TK.out.mono ?_; rintro e w8 ⟨rfl, h8, c8⟩; rw [show errN false 80 = 80 from rfl]; rw [show s.takeS 0 false = s from rfl] at h8; have I8 := hid (I7.out.chg h8 c8 HhU.out); clear h8 c8))
          clear hc7 TK I7
          go_upto_region 44 with (fail)
          have HCn := HCt
          have HRo := hid fun w h => room_any (s := s) (lo := lo) (hi := hi) (p := p) w h
          rw [show roomV (s) = #[.int .i64 ((a : Int) - (b : Int) - 1 - ((C1 : Nat))), .int .i64 ((C2 : Nat)), .int .i64 ((b : Int) - 1)] by
            unfold roomV
            rw [I8.out.2.2.2]
            unfold SS.rb SS.rl
            rw [I8.out.2.2.1.1, I8.out.2.2.1.2, HCn.out.1, HCn.out.2]] at HRo
          have HWr : Hid (IntKind.i64.wrap ((a : Int) - (b : Int) - 1 - ((C1 : Nat))) = (a : Int) - (b : Int) - 1 - ((C1 : Nat))) := hid (IntWalk.i64_in _ (by omega))
          have HWb : Hid (IntKind.i64.wrap ((b : Int) - 1) = (b : Int) - 1) := hid (IntWalk.i64_in _ (by omega))
          refine wp_region_noPanic ?_
          refine wp_region_held_drew (S := fun w' => InG w w' X lo hi p a b U (s)) (by kernel_rfl) (I8.out.drewN 1) (fun hHeld => ?_)
          refine takeVal 0 187 (.pointer (some ⟨p, 0, none⟩)) rfl (by kernel_rfl) (by kernel_rfl) (by kernel_rfl) rfl (by rfl) (fun _ _ _ h => h) hHeld (fun _ hw' => rfl) ?_
          simp only [List.setIfInBounds_toArray, List.set_cons_zero, List.set_cons_succ]
          refine takeVal 2 189 (.int .i64 ((a : Int) - (b : Int) - 1)) rfl (by kernel_rfl) (by kernel_rfl) (by kernel_rfl) rfl (by rfl) (fun _ _ _ h => h) hHeld (fun _ hw' => rfl) ?_
          simp only [List.setIfInBounds_toArray, List.set_cons_zero, List.set_cons_succ]
          refine takeVal 3 190 (.int .i64 ((C1 : Nat))) rfl (by kernel_rfl) (by kernel_rfl) (by kernel_rfl) rfl (by rfl) (fun _ _ _ h => h) hHeld (fun _ hw' => rfl) ?_
          simp only [List.setIfInBounds_toArray, List.set_cons_zero, List.set_cons_succ]
          refine takeVal 4 191 (.int .i64 ((a : Int) - (b : Int) - 1 - ((C1 : Nat)))) rfl (by kernel_rfl) (by kernel_rfl) (by kernel_rfl) rfl (by rfl) (fun _ _ _ h => h) hHeld (fun _ hw' => by go_simp; exact HWr.out) ?_
          simp only [List.setIfInBounds_toArray, List.set_cons_zero, List.set_cons_succ]
          refine takeVal 5 192 (.int .i64 ((C2 : Nat))) rfl (by kernel_rfl) (by kernel_rfl) (by kernel_rfl) rfl (by rfl) (fun _ _ _ h => h) hHeld (fun _ hw' => rfl) ?_
          simp only [List.setIfInBounds_toArray, List.set_cons_zero, List.set_cons_succ]
          refine takeVal 6 193 (.pointer (some ⟨X, 1, none⟩)) rfl (by kernel_rfl) (by kernel_rfl) (by kernel_rfl) rfl (by rfl) (fun _ _ _ h => h) hHeld (fun _ hw' => by go_simp) ?_
          simp only [List.setIfInBounds_toArray, List.set_cons_zero, List.set_cons_succ]
          refine takeVal 7 194 (.int .i64 (b : Int)) rfl (by kernel_rfl) (by kernel_rfl) (by kernel_rfl) rfl (by rfl) (fun _ _ _ h => h) hHeld (fun _ hw' => by have cc := hw'.1.c1; go_simp) ?_
          simp only [List.setIfInBounds_toArray, List.set_cons_zero, List.set_cons_succ]
          refine takeVal 8 195 (.int .i64 ((b : Int) - 1)) rfl (by kernel_rfl) (by kernel_rfl) (by kernel_rfl) rfl (by rfl) (fun _ _ _ h => h) hHeld (fun _ hw' => by go_simp; exact HWb.out) ?_
          simp only [List.setIfInBounds_toArray, List.set_cons_zero, List.set_cons_succ]
          refine takeVal 9 196 (.agg #[.int .i64 ((a : Int) - (b : Int) - 1 - ((C1 : Nat))), .int .i64 ((C2 : Nat)), .int .i64 ((b : Int) - 1)]) rfl (by kernel_rfl) (by kernel_rfl) (by kernel_rfl) rfl (by rfl) (fun _ _ _ h => h) hHeld (fun _ hw' => by go_simp) ?_
          simp only [List.setIfInBounds_toArray, List.set_cons_zero, List.set_cons_succ]
          refine step1 1 (by kernel_rfl) ?_
          refine stCall 1 188 17 #[.pointer (some ⟨p, 0, none⟩)] _ rfl rfl (by rfl) (by go_simp) (HRo.out _ hHeld.1.s) ?_
          rintro e wa ⟨rfl, bwa⟩
          replace hHeld := hHeld.call bwa
          refine ⟨_, rfl, hHeld, ?_⟩
          simp only [List.setIfInBounds_toArray, List.set_cons_zero, List.set_cons_succ]
          refine takeVal 10 197 (.bool false) rfl (by kernel_rfl) (by kernel_rfl) (by kernel_rfl) rfl (by rfl) (fun _ _ _ h => h) hHeld (fun _ hw' => by go_simp) ?_
          simp only [List.setIfInBounds_toArray, List.set_cons_zero, List.set_cons_succ]
          refine wpAnyH_done (by kernel_rfl) ?_ _
          refine NoPanic.normal ?_
          have HE := hid hHeld
          clear hHeld HRo HWr HWb
          go_wp2_with fail
          exact ⟨⟨k + 1, C1, C2, s, by omega, by go_num, congrArg (Value.int .i64) (by omega), congrArg (Value.int .i64) (by omega), HCn, HE⟩, by simp [intOf]; omega⟩
        · have hnf := hgr.1 rfl
          obtain ⟨E, rfl, hE1, hE2, hE3, hE4⟩ := hbl.1 rfl
          have hroom : (C1 : Int) + (C2 : Int) < (a : Int) - (b : Int) - 1 := by omega
          have HCn : Hid ((s.setT E 1).T.count 1 = C1 + 1 ∧ (s.setT E 1).T.count 2 = C2) := by
            have e1 := setT_count I7.out.1.s.ok E 1 (by rw [I7.out.2.2.1.2]; exact hE2) 0 hE3 1
            have e2 := setT_count I7.out.1.s.ok E 1 (by rw [I7.out.2.2.1.2]; exact hE2) 0 hE3 2
            rw [HCt.out.1] at e1
            rw [HCt.out.2] at e2
            simp at e1 e2
            exact ⟨e1, e2⟩
          clear hgr hbl hnf
          go_upto_region 24 with (first | (go_at_call 22; refine (HP2.out _).mono ?_; rintro e w8 ⟨rfl, rfl⟩) | (go_at_call 19; refine TK.out.mono ?_; rintro e w8 ⟨rfl, h8, c8⟩; rw [show errN true 80 = 0 from rfl]; rw [show s.takeS (E : Int) true = s.setT E 1 from rfl] at h8; have H8 := hid h8; have C8 := hid c8; clear h8 c8))
          have hrow := C8.out.new I7.out.2.1 HhU.out
          have KK := hid (I7.out.1.chg H8.out C8.out)
          have HAt : Hid (∀ q, q < a → w8.cell? ⟨U, q, none⟩ = some (.int .i64 (s.T.getD q 0 : Nat))) := fun q hq => by
            have e := cell_of_row w7 U q _ _ _ I7.out.2.1
            rw [I7.out.at q hq] at e
            rw [cell_of_row _ _ _ _ _ _ hrow]
            exact e.symm
          have hf8 := hid (frozen_of_row w8 U E _ _ hrow)
          have I9 := hid (I7.out.set E 1 H8.out C8.out HhU.out)
          have hE0 := HAt.out E hE2
          rw [hE3] at hE0
          have k0 := KK.out.c0
          have k1 := KK.out.c1
          have hEb : ¬ (E : Int) ≤ (b : Int) := by omega
          have hEa : ¬ (a : Int) ≤ (E : Int) := by omega
          have hEa2 : (E : Int) < (a : Int) := by omega
          replace hE4 := hid hE4
          replace hrow := hid hrow
          clear hc7 TK I7 H8 C8
          go_wp2
          go_loop [19] (fun i => ∃ q : Nat, b < q ∧ q ≤ E ∧ i = .int .i64 q) (fun i => E - (intOf i).toNat)
          case atStart => exact ⟨b + 1, by omega, by omega, by go_num⟩
          case round =>
            obtain ⟨q, hq1, hq2, rfl⟩ := hrel
            by_cases hqE : q < E
            · have hqe : (q : Int) < (E : Int) := by omega
              have hqa : (q : Int) < (a : Int) := by omega
              have hcu := HAt.out q (by omega)
              have hne := hE4.out q hq1 hqE
              have hv0 : (((s.T.getD q 0 : Nat) : Int) == 0) = false := beq_false_of_ne (fun e => hne (by omega))
              clear hne
              generalize s.T.getD q 0 = v at *
              go_wp2
              exact ⟨⟨q + 1, by omega, by omega, by go_num⟩, by simp [intOf]; omega⟩
            · obtain rfl : q = E := by omega
              have hf9 := hf8.out
              clear hqE hq2
              go_upto_region 35 with (fail)
              clear hE0 k0 k1 hf9
              generalize w8.setCell ⟨U, q, none⟩ (.int .i64 1) = w9 at *
              go_upto_region 44 with (fail)
              have HRo := hid fun w h => room_any (s := s.setT q 1) (lo := lo) (hi := hi) (p := p) w h
              rw [show roomV (s.setT q 1) = #[.int .i64 ((a : Int) - (b : Int) - 1 - ((C1 : Int) + 1)), .int .i64 ((C2 : Nat)), .int .i64 ((b : Int) - 1)] by
                unfold roomV
                rw [I9.out.2.2.2]
                unfold SS.rb SS.rl
                rw [I9.out.2.2.1.1, I9.out.2.2.1.2, HCn.out.1, HCn.out.2]; rw [show (((C1 + 1) : Nat) : Int) = (C1 : Int) + 1 by omega, show ((C2 : Nat) : Int) = (C2 : Nat) by omega]] at HRo
              have HWr : Hid (IntKind.i64.wrap ((a : Int) - (b : Int) - 1 - ((C1 : Int) + 1)) = (a : Int) - (b : Int) - 1 - ((C1 : Int) + 1)) := hid (IntWalk.i64_in _ (by omega))
              have HWb : Hid (IntKind.i64.wrap ((b : Int) - 1) = (b : Int) - 1) := hid (IntWalk.i64_in _ (by omega))
              refine wp_region_noPanic ?_
              refine wp_region_held_drew (S := fun w' => InG w w' X lo hi p a b U (s.setT q 1)) (by kernel_rfl) (I9.out.drewN 1) (fun hHeld => ?_)
              refine takeVal 0 187 (.pointer (some ⟨p, 0, none⟩)) rfl (by kernel_rfl) (by kernel_rfl) (by kernel_rfl) rfl (by rfl) (fun _ _ _ h => h) hHeld (fun _ hw' => rfl) ?_
              simp only [List.setIfInBounds_toArray, List.set_cons_zero, List.set_cons_succ]
              refine takeVal 2 189 (.int .i64 ((a : Int) - (b : Int) - 1)) rfl (by kernel_rfl) (by kernel_rfl) (by kernel_rfl) rfl (by rfl) (fun _ _ _ h => h) hHeld (fun _ hw' => rfl) ?_
              simp only [List.setIfInBounds_toArray, List.set_cons_zero, List.set_cons_succ]
              refine takeVal 3 190 (.int .i64 ((C1 : Int) + 1)) rfl (by kernel_rfl) (by kernel_rfl) (by kernel_rfl) rfl (by rfl) (fun _ _ _ h => h) hHeld (fun _ hw' => rfl) ?_
              simp only [List.setIfInBounds_toArray, List.set_cons_zero, List.set_cons_succ]
              refine takeVal 4 191 (.int .i64 ((a : Int) - (b : Int) - 1 - ((C1 : Int) + 1))) rfl (by kernel_rfl) (by kernel_rfl) (by kernel_rfl) rfl (by rfl) (fun _ _ _ h => h) hHeld (fun _ hw' => by go_simp; exact HWr.out) ?_
              simp only [List.setIfInBounds_toArray, List.set_cons_zero, List.set_cons_succ]
              refine takeVal 5 192 (.int .i64 ((C2 : Nat))) rfl (by kernel_rfl) (by kernel_rfl) (by kernel_rfl) rfl (by rfl) (fun _ _ _ h => h) hHeld (fun _ hw' => rfl) ?_
              simp only [List.setIfInBounds_toArray, List.set_cons_zero, List.set_cons_succ]
              refine takeVal 6 193 (.pointer (some ⟨X, 1, none⟩)) rfl (by kernel_rfl) (by kernel_rfl) (by kernel_rfl) rfl (by rfl) (fun _ _ _ h => h) hHeld (fun _ hw' => by go_simp) ?_
              simp only [List.setIfInBounds_toArray, List.set_cons_zero, List.set_cons_succ]
              refine takeVal 7 194 (.int .i64 (b : Int)) rfl (by kernel_rfl) (by kernel_rfl) (by kernel_rfl) rfl (by rfl) (fun _ _ _ h => h) hHeld (fun _ hw' => by have cc := hw'.1.c1; go_simp) ?_
              simp only [List.setIfInBounds_toArray, List.set_cons_zero, List.set_cons_succ]
              refine takeVal 8 195 (.int .i64 ((b : Int) - 1)) rfl (by kernel_rfl) (by kernel_rfl) (by kernel_rfl) rfl (by rfl) (fun _ _ _ h => h) hHeld (fun _ hw' => by go_simp; exact HWb.out) ?_
              simp only [List.setIfInBounds_toArray, List.set_cons_zero, List.set_cons_succ]
              refine takeVal 9 196 (.agg #[.int .i64 ((a : Int) - (b : Int) - 1 - ((C1 : Int) + 1)), .int .i64 ((C2 : Nat)), .int .i64 ((b : Int) - 1)]) rfl (by kernel_rfl) (by kernel_rfl) (by kernel_rfl) rfl (by rfl) (fun _ _ _ h => h) hHeld (fun _ hw' => by go_simp) ?_
              simp only [List.setIfInBounds_toArray, List.set_cons_zero, List.set_cons_succ]
              refine step1 1 (by kernel_rfl) ?_
              refine stCall 1 188 17 #[.pointer (some ⟨p, 0, none⟩)] _ rfl rfl (by rfl) (by go_simp) (HRo.out _ hHeld.1.s) ?_
              rintro e wa ⟨rfl, bwa⟩
              replace hHeld := hHeld.call bwa
              refine ⟨_, rfl, hHeld, ?_⟩
              simp only [List.setIfInBounds_toArray, List.set_cons_zero, List.set_cons_succ]
              refine takeVal 10 197 (.bool false) rfl (by kernel_rfl) (by kernel_rfl) (by kernel_rfl) rfl (by rfl) (fun _ _ _ h => h) hHeld (fun _ hw' => by go_simp) ?_
              simp only [List.setIfInBounds_toArray, List.set_cons_zero, List.set_cons_succ]
              refine wpAnyH_done (by kernel_rfl) ?_ _
              refine NoPanic.normal ?_
              have HE := hid hHeld
              clear hHeld HRo HWr HWb
              go_wp2_with fail
              exact ⟨⟨k + 1, (C1 + 1), C2, s.setT q 1, by omega, by go_num, congrArg (Value.int .i64) (by omega), congrArg (Value.int .i64) (by omega), HCn, HE⟩, by simp [intOf]; omega⟩
      · have HP2 := HP2
        rw [show ((2 : Nat) : Int) = 2 from rfl] at HP2
        have LT := hid (later_any (s := s) (lo := lo) (hi := hi) (p := p) n ⟨by omega, by omega⟩ w7 I7.out.1.s)
        by_cases hst : s.T.getD n 0 = 1
        · have hat : atT s.T n = 1 := by rw [atT_nat]; exact hst
          rw [show s.laterE n = 0 from if_pos hat, show s.laterS n = s.setT n 2 from if_pos hat] at LT
          have hC0 : 1 ≤ C1 := by
            have e1 := setT_count I7.out.1.s.ok n 2 (by rw [I7.out.2.2.1.2]; exact hna) 1 hst 1
            rw [HCt.out.1] at e1
            simp at e1
            omega
          have HCn : Hid ((s.setT n 2).T.count 1 = C1 - 1 ∧ (s.setT n 2).T.count 2 = C2 + 1) := by
            have e1 := setT_count I7.out.1.s.ok n 2 (by rw [I7.out.2.2.1.2]; exact hna) 1 hst 1
            have e2 := setT_count I7.out.1.s.ok n 2 (by rw [I7.out.2.2.1.2]; exact hna) 1 hst 2
            rw [HCt.out.1] at e1
            rw [HCt.out.2] at e2
            simp at e1 e2
            exact ⟨by omega, e2⟩
          clear hat
          go_upto_region 38 with (first | (go_at_call 22; refine (HP2.out _).mono ?_; rintro e w8 ⟨rfl, rfl⟩) | (go_at_call 27; refine LT.out.mono ?_; rintro e w8 ⟨rfl, h8, c8⟩; have H8 := hid h8; have C8 := hid c8; clear h8 c8))
          have hrow := C8.out.new I7.out.2.1 HhU.out
          have hcu : w8.cell? ⟨U, n, none⟩ = some (.int .i64 1) := by
            have e := cell_of_row w7 U n _ _ _ I7.out.2.1
            rw [I7.out.at n hna, hst] at e
            rw [cell_of_row _ _ _ _ _ _ hrow]
            exact e.symm
          have hf8 := frozen_of_row w8 U n _ _ hrow
          have I9 := hid (I7.out.set n 2 H8.out C8.out HhU.out)
          have hna2 : (n : Int) < (a : Int) := by omega
          clear hc7 LT I7 H8 C8 hrow hst
          go_upto_region 42 with (fail)
          clear hcu hf8
          generalize w8.setCell ⟨U, n, none⟩ (.int .i64 2) = w9 at *
          go_upto_region 44 with (fail)
          have HRo := hid fun w h => room_any (s := s.setT n 2) (lo := lo) (hi := hi) (p := p) w h
          rw [show roomV (s.setT n 2) = #[.int .i64 ((a : Int) - (b : Int) - 1 - ((C1 : Int) - 1)), .int .i64 ((C2 : Int) + 1), .int .i64 ((b : Int) - 1)] by
            unfold roomV
            rw [I9.out.2.2.2]
            unfold SS.rb SS.rl
            rw [I9.out.2.2.1.1, I9.out.2.2.1.2, HCn.out.1, HCn.out.2]; rw [show (((C1 - 1) : Nat) : Int) = (C1 : Int) - 1 by omega, show (((C2 + 1) : Nat) : Int) = (C2 : Int) + 1 by omega]] at HRo
          have HWr : Hid (IntKind.i64.wrap ((a : Int) - (b : Int) - 1 - ((C1 : Int) - 1)) = (a : Int) - (b : Int) - 1 - ((C1 : Int) - 1)) := hid (IntWalk.i64_in _ (by omega))
          have HWb : Hid (IntKind.i64.wrap ((b : Int) - 1) = (b : Int) - 1) := hid (IntWalk.i64_in _ (by omega))
          refine wp_region_noPanic ?_
          refine wp_region_held_drew (S := fun w' => InG w w' X lo hi p a b U (s.setT n 2)) (by kernel_rfl) (I9.out.drewN 1) (fun hHeld => ?_)
          refine takeVal 0 187 (.pointer (some ⟨p, 0, none⟩)) rfl (by kernel_rfl) (by kernel_rfl) (by kernel_rfl) rfl (by rfl) (fun _ _ _ h => h) hHeld (fun _ hw' => rfl) ?_
          simp only [List.setIfInBounds_toArray, List.set_cons_zero, List.set_cons_succ]
          refine takeVal 2 189 (.int .i64 ((a : Int) - (b : Int) - 1)) rfl (by kernel_rfl) (by kernel_rfl) (by kernel_rfl) rfl (by rfl) (fun _ _ _ h => h) hHeld (fun _ hw' => rfl) ?_
          simp only [List.setIfInBounds_toArray, List.set_cons_zero, List.set_cons_succ]
          refine takeVal 3 190 (.int .i64 ((C1 : Int) - 1)) rfl (by kernel_rfl) (by kernel_rfl) (by kernel_rfl) rfl (by rfl) (fun _ _ _ h => h) hHeld (fun _ hw' => rfl) ?_
          simp only [List.setIfInBounds_toArray, List.set_cons_zero, List.set_cons_succ]
          refine takeVal 4 191 (.int .i64 ((a : Int) - (b : Int) - 1 - ((C1 : Int) - 1))) rfl (by kernel_rfl) (by kernel_rfl) (by kernel_rfl) rfl (by rfl) (fun _ _ _ h => h) hHeld (fun _ hw' => by go_simp; exact HWr.out) ?_
          simp only [List.setIfInBounds_toArray, List.set_cons_zero, List.set_cons_succ]
          refine takeVal 5 192 (.int .i64 ((C2 : Int) + 1)) rfl (by kernel_rfl) (by kernel_rfl) (by kernel_rfl) rfl (by rfl) (fun _ _ _ h => h) hHeld (fun _ hw' => rfl) ?_
          simp only [List.setIfInBounds_toArray, List.set_cons_zero, List.set_cons_succ]
          refine takeVal 6 193 (.pointer (some ⟨X, 1, none⟩)) rfl (by kernel_rfl) (by kernel_rfl) (by kernel_rfl) rfl (by rfl) (fun _ _ _ h => h) hHeld (fun _ hw' => by go_simp) ?_
          simp only [List.setIfInBounds_toArray, List.set_cons_zero, List.set_cons_succ]
          refine takeVal 7 194 (.int .i64 (b : Int)) rfl (by kernel_rfl) (by kernel_rfl) (by kernel_rfl) rfl (by rfl) (fun _ _ _ h => h) hHeld (fun _ hw' => by have cc := hw'.1.c1; go_simp) ?_
          simp only [List.setIfInBounds_toArray, List.set_cons_zero, List.set_cons_succ]
          refine takeVal 8 195 (.int .i64 ((b : Int) - 1)) rfl (by kernel_rfl) (by kernel_rfl) (by kernel_rfl) rfl (by rfl) (fun _ _ _ h => h) hHeld (fun _ hw' => by go_simp; exact HWb.out) ?_
          simp only [List.setIfInBounds_toArray, List.set_cons_zero, List.set_cons_succ]
          refine takeVal 9 196 (.agg #[.int .i64 ((a : Int) - (b : Int) - 1 - ((C1 : Int) - 1)), .int .i64 ((C2 : Int) + 1), .int .i64 ((b : Int) - 1)]) rfl (by kernel_rfl) (by kernel_rfl) (by kernel_rfl) rfl (by rfl) (fun _ _ _ h => h) hHeld (fun _ hw' => by go_simp) ?_
          simp only [List.setIfInBounds_toArray, List.set_cons_zero, List.set_cons_succ]
          refine step1 1 (by kernel_rfl) ?_
          refine stCall 1 188 17 #[.pointer (some ⟨p, 0, none⟩)] _ rfl rfl (by rfl) (by go_simp) (HRo.out _ hHeld.1.s) ?_
          rintro e wa ⟨rfl, bwa⟩
          replace hHeld := hHeld.call bwa
          refine ⟨_, rfl, hHeld, ?_⟩
          simp only [List.setIfInBounds_toArray, List.set_cons_zero, List.set_cons_succ]
          refine takeVal 10 197 (.bool false) rfl (by kernel_rfl) (by kernel_rfl) (by kernel_rfl) rfl (by rfl) (fun _ _ _ h => h) hHeld (fun _ hw' => by go_simp) ?_
          simp only [List.setIfInBounds_toArray, List.set_cons_zero, List.set_cons_succ]
          refine wpAnyH_done (by kernel_rfl) ?_ _
          refine NoPanic.normal ?_
          have HE := hid hHeld
          clear hHeld HRo HWr HWb
          go_wp2_with fail
          exact ⟨⟨k + 1, (C1 - 1), (C2 + 1), s.setT n 2, by omega, by go_num, congrArg (Value.int .i64) (by omega), congrArg (Value.int .i64) (by omega), HCn, HE⟩, by simp [intOf]; omega⟩
        · have hat : ¬ atT s.T n = 1 := by rw [atT_nat]; exact hst
          rw [show s.laterE n = 82 from if_neg hat, show s.laterS n = s from if_neg hat] at LT
          have hv0 : (((s.T.getD n 0 : Nat) : Int) == 1) = false := beq_false_of_ne (fun e => hst (by omega))
          clear hat hst
          go_upto_region 38 with (first | (go_at_call 22; refine (HP2.out _).mono ?_; rintro e w8 ⟨rfl, rfl⟩) | (go_at_call 27; refine LT.out.mono ?_; rintro e w8 ⟨rfl, h8, c8⟩; have I8 := hid (I7.out.chg h8 c8 HhU.out); clear h8 c8))
          have hcu := I8.out.at n hna
          have hna2 : (n : Int) < (a : Int) := by omega
          clear hc7 LT I7
          generalize s.T.getD n 0 = v at *
          go_upto_region 44 with (fail)
          clear hcu hv0
          have HCn := HCt
          have HRo := hid fun w h => room_any (s := s) (lo := lo) (hi := hi) (p := p) w h
          rw [show roomV (s) = #[.int .i64 ((a : Int) - (b : Int) - 1 - ((C1 : Nat))), .int .i64 ((C2 : Nat)), .int .i64 ((b : Int) - 1)] by
            unfold roomV
            rw [I8.out.2.2.2]
            unfold SS.rb SS.rl
            rw [I8.out.2.2.1.1, I8.out.2.2.1.2, HCn.out.1, HCn.out.2]] at HRo
          have HWr : Hid (IntKind.i64.wrap ((a : Int) - (b : Int) - 1 - ((C1 : Nat))) = (a : Int) - (b : Int) - 1 - ((C1 : Nat))) := hid (IntWalk.i64_in _ (by omega))
          have HWb : Hid (IntKind.i64.wrap ((b : Int) - 1) = (b : Int) - 1) := hid (IntWalk.i64_in _ (by omega))
          refine wp_region_noPanic ?_
          refine wp_region_held_drew (S := fun w' => InG w w' X lo hi p a b U (s)) (by kernel_rfl) (I8.out.drewN 1) (fun hHeld => ?_)
          refine takeVal 0 187 (.pointer (some ⟨p, 0, none⟩)) rfl (by kernel_rfl) (by kernel_rfl) (by kernel_rfl) rfl (by rfl) (fun _ _ _ h => h) hHeld (fun _ hw' => rfl) ?_
          simp only [List.setIfInBounds_toArray, List.set_cons_zero, List.set_cons_succ]
          refine takeVal 2 189 (.int .i64 ((a : Int) - (b : Int) - 1)) rfl (by kernel_rfl) (by kernel_rfl) (by kernel_rfl) rfl (by rfl) (fun _ _ _ h => h) hHeld (fun _ hw' => rfl) ?_
          simp only [List.setIfInBounds_toArray, List.set_cons_zero, List.set_cons_succ]
          refine takeVal 3 190 (.int .i64 ((C1 : Nat))) rfl (by kernel_rfl) (by kernel_rfl) (by kernel_rfl) rfl (by rfl) (fun _ _ _ h => h) hHeld (fun _ hw' => rfl) ?_
          simp only [List.setIfInBounds_toArray, List.set_cons_zero, List.set_cons_succ]
          refine takeVal 4 191 (.int .i64 ((a : Int) - (b : Int) - 1 - ((C1 : Nat)))) rfl (by kernel_rfl) (by kernel_rfl) (by kernel_rfl) rfl (by rfl) (fun _ _ _ h => h) hHeld (fun _ hw' => by go_simp; exact HWr.out) ?_
          simp only [List.setIfInBounds_toArray, List.set_cons_zero, List.set_cons_succ]
          refine takeVal 5 192 (.int .i64 ((C2 : Nat))) rfl (by kernel_rfl) (by kernel_rfl) (by kernel_rfl) rfl (by rfl) (fun _ _ _ h => h) hHeld (fun _ hw' => rfl) ?_
          simp only [List.setIfInBounds_toArray, List.set_cons_zero, List.set_cons_succ]
          refine takeVal 6 193 (.pointer (some ⟨X, 1, none⟩)) rfl (by kernel_rfl) (by kernel_rfl) (by kernel_rfl) rfl (by rfl) (fun _ _ _ h => h) hHeld (fun _ hw' => by go_simp) ?_
          simp only [List.setIfInBounds_toArray, List.set_cons_zero, List.set_cons_succ]
          refine takeVal 7 194 (.int .i64 (b : Int)) rfl (by kernel_rfl) (by kernel_rfl) (by kernel_rfl) rfl (by rfl) (fun _ _ _ h => h) hHeld (fun _ hw' => by have cc := hw'.1.c1; go_simp) ?_
          simp only [List.setIfInBounds_toArray, List.set_cons_zero, List.set_cons_succ]
          refine takeVal 8 195 (.int .i64 ((b : Int) - 1)) rfl (by kernel_rfl) (by kernel_rfl) (by kernel_rfl) rfl (by rfl) (fun _ _ _ h => h) hHeld (fun _ hw' => by go_simp; exact HWb.out) ?_
          simp only [List.setIfInBounds_toArray, List.set_cons_zero, List.set_cons_succ]
          refine takeVal 9 196 (.agg #[.int .i64 ((a : Int) - (b : Int) - 1 - ((C1 : Nat))), .int .i64 ((C2 : Nat)), .int .i64 ((b : Int) - 1)]) rfl (by kernel_rfl) (by kernel_rfl) (by kernel_rfl) rfl (by rfl) (fun _ _ _ h => h) hHeld (fun _ hw' => by go_simp) ?_
          simp only [List.setIfInBounds_toArray, List.set_cons_zero, List.set_cons_succ]
          refine step1 1 (by kernel_rfl) ?_
          refine stCall 1 188 17 #[.pointer (some ⟨p, 0, none⟩)] _ rfl rfl (by rfl) (by go_simp) (HRo.out _ hHeld.1.s) ?_
          rintro e wa ⟨rfl, bwa⟩
          replace hHeld := hHeld.call bwa
          refine ⟨_, rfl, hHeld, ?_⟩
          simp only [List.setIfInBounds_toArray, List.set_cons_zero, List.set_cons_succ]
          refine takeVal 10 197 (.bool false) rfl (by kernel_rfl) (by kernel_rfl) (by kernel_rfl) rfl (by rfl) (fun _ _ _ h => h) hHeld (fun _ hw' => by go_simp) ?_
          simp only [List.setIfInBounds_toArray, List.set_cons_zero, List.set_cons_succ]
          refine wpAnyH_done (by kernel_rfl) ?_ _
          refine NoPanic.normal ?_
          have HE := hid hHeld
          clear hHeld HRo HWr HWb
          go_wp2_with fail
          exact ⟨⟨k + 1, C1, C2, s, by omega, by go_num, congrArg (Value.int .i64) (by omega), congrArg (Value.int .i64) (by omega), HCn, HE⟩, by simp [intOf]; omega⟩
      · have HP2 := HP2
        rw [show ((3 : Nat) : Int) = 3 from rfl] at HP2
        have hln := land_one s n (decide_eq_true (by rw [I7.out.2.2.1.1, I7.out.2.2.1.2]; omega))
        have K8 := hid (I7.out.call (below_box w7 (.cells #[.int .i64 (n : Int)] 3)))
        have HL8 : Hid (IntsAt (w7.alloc (.cells #[.int .i64 (n : Int)] 3)) (some ⟨w7.heap.size, 0, none⟩) [(n : Int)]) := ints_row (t := 3) (heap_alloc_new w7 _)
        have H64n : Hid (∀ x, x ∈ [(n : Int)] → I64 x) := fun x hx => by rw [List.mem_singleton.1 hx]; exact ⟨by omega, by omega⟩
        have HOf : Hid (Off (some ⟨w7.heap.size, 0, none⟩) lo hi) := off_new8 I7.out.1.s.top
        have LD := hid (landed_any (s := s) (lo := lo) (hi := hi) (p := p) [(n : Int)] _ 1 1 _ K8.out.1.s rfl (by decide) HL8 H64n HOf)
        rw [hln.1, hln.2, atT_nat] at LD
        clear hln HL8 H64n HOf
        by_cases hst : s.T.getD n 0 = 2
        · rw [if_pos hst] at LD
          have hC0 : 1 ≤ C2 := by
            have e1 := setT_count I7.out.1.s.ok n 0 (by rw [I7.out.2.2.1.2]; exact hna) 2 hst 2
            rw [HCt.out.2] at e1
            simp at e1
            omega
          have HCn : Hid ((s.setT n 0).T.count 1 = C1 ∧ (s.setT n 0).T.count 2 = C2 - 1) := by
            have e1 := setT_count I7.out.1.s.ok n 0 (by rw [I7.out.2.2.1.2]; exact hna) 2 hst 1
            have e2 := setT_count I7.out.1.s.ok n 0 (by rw [I7.out.2.2.1.2]; exact hna) 2 hst 2
            rw [HCt.out.1] at e1
            rw [HCt.out.2] at e2
            simp at e1 e2
            exact ⟨e1, by omega⟩
          go_upto_region 16 with (first | (go_at_call 22; refine (HP2.out _).mono ?_; rintro e w8 ⟨rfl, rfl⟩) | (go_at_call 29; refine LD.out.mono ?_; rintro e w8 ⟨rfl, h8, c8⟩; have H8 := hid h8; have C8 := hid c8; clear h8 c8))
          have hrow := C8.out.new K8.out.2.1 HhU.out
          have hcu : w8.cell? ⟨U, n, none⟩ = some (.int .i64 2) := by
            have e := cell_of_row w7 U n _ _ _ I7.out.2.1
            rw [I7.out.at n hna, hst] at e
            rw [cell_of_row _ _ _ _ _ _ hrow]
            exact e.symm
          have hf8 := frozen_of_row w8 U n _ _ hrow
          have I9 := hid (K8.out.set n 0 H8.out C8.out HhU.out)
          have hna2 : (n : Int) < (a : Int) := by omega
          clear hc7 LD I7 H8 C8 hrow hst K8
          go_upto_region 20 with (fail)
          clear hcu hf8
          generalize w8.setCell ⟨U, n, none⟩ (.int .i64 0) = w9 at *
          go_upto_region 44 with (fail)
          have HRo := hid fun w h => room_any (s := s.setT n 0) (lo := lo) (hi := hi) (p := p) w h
          rw [show roomV (s.setT n 0) = #[.int .i64 ((a : Int) - (b : Int) - 1 - ((C1 : Nat))), .int .i64 ((C2 : Int) - 1), .int .i64 ((b : Int) - 1)] by
            unfold roomV
            rw [I9.out.2.2.2]
            unfold SS.rb SS.rl
            rw [I9.out.2.2.1.1, I9.out.2.2.1.2, HCn.out.1, HCn.out.2]; rw [show ((C1 : Nat) : Int) = (C1 : Nat) by omega, show (((C2 - 1) : Nat) : Int) = (C2 : Int) - 1 by omega]] at HRo
          have HWr : Hid (IntKind.i64.wrap ((a : Int) - (b : Int) - 1 - ((C1 : Nat))) = (a : Int) - (b : Int) - 1 - ((C1 : Nat))) := hid (IntWalk.i64_in _ (by omega))
          have HWb : Hid (IntKind.i64.wrap ((b : Int) - 1) = (b : Int) - 1) := hid (IntWalk.i64_in _ (by omega))
          refine wp_region_noPanic ?_
          refine wp_region_held_drew (S := fun w' => InG w w' X lo hi p a b U (s.setT n 0)) (by kernel_rfl) (I9.out.drewN 1) (fun hHeld => ?_)
          refine takeVal 0 187 (.pointer (some ⟨p, 0, none⟩)) rfl (by kernel_rfl) (by kernel_rfl) (by kernel_rfl) rfl (by rfl) (fun _ _ _ h => h) hHeld (fun _ hw' => rfl) ?_
          simp only [List.setIfInBounds_toArray, List.set_cons_zero, List.set_cons_succ]
          refine takeVal 2 189 (.int .i64 ((a : Int) - (b : Int) - 1)) rfl (by kernel_rfl) (by kernel_rfl) (by kernel_rfl) rfl (by rfl) (fun _ _ _ h => h) hHeld (fun _ hw' => rfl) ?_
          simp only [List.setIfInBounds_toArray, List.set_cons_zero, List.set_cons_succ]
          refine takeVal 3 190 (.int .i64 ((C1 : Nat))) rfl (by kernel_rfl) (by kernel_rfl) (by kernel_rfl) rfl (by rfl) (fun _ _ _ h => h) hHeld (fun _ hw' => rfl) ?_
          simp only [List.setIfInBounds_toArray, List.set_cons_zero, List.set_cons_succ]
          refine takeVal 4 191 (.int .i64 ((a : Int) - (b : Int) - 1 - ((C1 : Nat)))) rfl (by kernel_rfl) (by kernel_rfl) (by kernel_rfl) rfl (by rfl) (fun _ _ _ h => h) hHeld (fun _ hw' => by go_simp; exact HWr.out) ?_
          simp only [List.setIfInBounds_toArray, List.set_cons_zero, List.set_cons_succ]
          refine takeVal 5 192 (.int .i64 ((C2 : Int) - 1)) rfl (by kernel_rfl) (by kernel_rfl) (by kernel_rfl) rfl (by rfl) (fun _ _ _ h => h) hHeld (fun _ hw' => rfl) ?_
          simp only [List.setIfInBounds_toArray, List.set_cons_zero, List.set_cons_succ]
          refine takeVal 6 193 (.pointer (some ⟨X, 1, none⟩)) rfl (by kernel_rfl) (by kernel_rfl) (by kernel_rfl) rfl (by rfl) (fun _ _ _ h => h) hHeld (fun _ hw' => by go_simp) ?_
          simp only [List.setIfInBounds_toArray, List.set_cons_zero, List.set_cons_succ]
          refine takeVal 7 194 (.int .i64 (b : Int)) rfl (by kernel_rfl) (by kernel_rfl) (by kernel_rfl) rfl (by rfl) (fun _ _ _ h => h) hHeld (fun _ hw' => by have cc := hw'.1.c1; go_simp) ?_
          simp only [List.setIfInBounds_toArray, List.set_cons_zero, List.set_cons_succ]
          refine takeVal 8 195 (.int .i64 ((b : Int) - 1)) rfl (by kernel_rfl) (by kernel_rfl) (by kernel_rfl) rfl (by rfl) (fun _ _ _ h => h) hHeld (fun _ hw' => by go_simp; exact HWb.out) ?_
          simp only [List.setIfInBounds_toArray, List.set_cons_zero, List.set_cons_succ]
          refine takeVal 9 196 (.agg #[.int .i64 ((a : Int) - (b : Int) - 1 - ((C1 : Nat))), .int .i64 ((C2 : Int) - 1), .int .i64 ((b : Int) - 1)]) rfl (by kernel_rfl) (by kernel_rfl) (by kernel_rfl) rfl (by rfl) (fun _ _ _ h => h) hHeld (fun _ hw' => by go_simp) ?_
          simp only [List.setIfInBounds_toArray, List.set_cons_zero, List.set_cons_succ]
          refine step1 1 (by kernel_rfl) ?_
          refine stCall 1 188 17 #[.pointer (some ⟨p, 0, none⟩)] _ rfl rfl (by rfl) (by go_simp) (HRo.out _ hHeld.1.s) ?_
          rintro e wa ⟨rfl, bwa⟩
          replace hHeld := hHeld.call bwa
          refine ⟨_, rfl, hHeld, ?_⟩
          simp only [List.setIfInBounds_toArray, List.set_cons_zero, List.set_cons_succ]
          refine takeVal 10 197 (.bool false) rfl (by kernel_rfl) (by kernel_rfl) (by kernel_rfl) rfl (by rfl) (fun _ _ _ h => h) hHeld (fun _ hw' => by go_simp) ?_
          simp only [List.setIfInBounds_toArray, List.set_cons_zero, List.set_cons_succ]
          refine wpAnyH_done (by kernel_rfl) ?_ _
          refine NoPanic.normal ?_
          have HE := hid hHeld
          clear hHeld HRo HWr HWb
          go_wp2_with fail
          exact ⟨⟨k + 1, C1, (C2 - 1), s.setT n 0, by omega, by go_num, congrArg (Value.int .i64) (by omega), congrArg (Value.int .i64) (by omega), HCn, HE⟩, by simp [intOf]; omega⟩
        · rw [if_neg hst] at LD
          have hv0 : (((s.T.getD n 0 : Nat) : Int) == 2) = false := beq_false_of_ne (fun e => hst (by omega))
          clear hst
          go_upto_region 16 with (first | (go_at_call 22; refine (HP2.out _).mono ?_; rintro e w8 ⟨rfl, rfl⟩) | (go_at_call 29; refine LD.out.mono ?_; rintro e w8 ⟨rfl, h8, c8⟩; have I8 := hid (K8.out.chg h8 c8 HhU.out); clear h8 c8))
          have hcu := I8.out.at n hna
          have hna2 : (n : Int) < (a : Int) := by omega
          clear hc7 LD I7 K8
          generalize s.T.getD n 0 = v at *
          go_upto_region 44 with (fail)
          clear hcu hv0
          have HCn := HCt
          have HRo := hid fun w h => room_any (s := s) (lo := lo) (hi := hi) (p := p) w h
          rw [show roomV (s) = #[.int .i64 ((a : Int) - (b : Int) - 1 - ((C1 : Nat))), .int .i64 ((C2 : Nat)), .int .i64 ((b : Int) - 1)] by
            unfold roomV
            rw [I8.out.2.2.2]
            unfold SS.rb SS.rl
            rw [I8.out.2.2.1.1, I8.out.2.2.1.2, HCn.out.1, HCn.out.2]] at HRo
          have HWr : Hid (IntKind.i64.wrap ((a : Int) - (b : Int) - 1 - ((C1 : Nat))) = (a : Int) - (b : Int) - 1 - ((C1 : Nat))) := hid (IntWalk.i64_in _ (by omega))
          have HWb : Hid (IntKind.i64.wrap ((b : Int) - 1) = (b : Int) - 1) := hid (IntWalk.i64_in _ (by omega))
          refine wp_region_noPanic ?_
          refine wp_region_held_drew (S := fun w' => InG w w' X lo hi p a b U (s)) (by kernel_rfl) (I8.out.drewN 1) (fun hHeld => ?_)
          refine takeVal 0 187 (.pointer (some ⟨p, 0, none⟩)) rfl (by kernel_rfl) (by kernel_rfl) (by kernel_rfl) rfl (by rfl) (fun _ _ _ h => h) hHeld (fun _ hw' => rfl) ?_
          simp only [List.setIfInBounds_toArray, List.set_cons_zero, List.set_cons_succ]
          refine takeVal 2 189 (.int .i64 ((a : Int) - (b : Int) - 1)) rfl (by kernel_rfl) (by kernel_rfl) (by kernel_rfl) rfl (by rfl) (fun _ _ _ h => h) hHeld (fun _ hw' => rfl) ?_
          simp only [List.setIfInBounds_toArray, List.set_cons_zero, List.set_cons_succ]
          refine takeVal 3 190 (.int .i64 ((C1 : Nat))) rfl (by kernel_rfl) (by kernel_rfl) (by kernel_rfl) rfl (by rfl) (fun _ _ _ h => h) hHeld (fun _ hw' => rfl) ?_
          simp only [List.setIfInBounds_toArray, List.set_cons_zero, List.set_cons_succ]
          refine takeVal 4 191 (.int .i64 ((a : Int) - (b : Int) - 1 - ((C1 : Nat)))) rfl (by kernel_rfl) (by kernel_rfl) (by kernel_rfl) rfl (by rfl) (fun _ _ _ h => h) hHeld (fun _ hw' => by go_simp; exact HWr.out) ?_
          simp only [List.setIfInBounds_toArray, List.set_cons_zero, List.set_cons_succ]
          refine takeVal 5 192 (.int .i64 ((C2 : Nat))) rfl (by kernel_rfl) (by kernel_rfl) (by kernel_rfl) rfl (by rfl) (fun _ _ _ h => h) hHeld (fun _ hw' => rfl) ?_
          simp only [List.setIfInBounds_toArray, List.set_cons_zero, List.set_cons_succ]
          refine takeVal 6 193 (.pointer (some ⟨X, 1, none⟩)) rfl (by kernel_rfl) (by kernel_rfl) (by kernel_rfl) rfl (by rfl) (fun _ _ _ h => h) hHeld (fun _ hw' => by go_simp) ?_
          simp only [List.setIfInBounds_toArray, List.set_cons_zero, List.set_cons_succ]
          refine takeVal 7 194 (.int .i64 (b : Int)) rfl (by kernel_rfl) (by kernel_rfl) (by kernel_rfl) rfl (by rfl) (fun _ _ _ h => h) hHeld (fun _ hw' => by have cc := hw'.1.c1; go_simp) ?_
          simp only [List.setIfInBounds_toArray, List.set_cons_zero, List.set_cons_succ]
          refine takeVal 8 195 (.int .i64 ((b : Int) - 1)) rfl (by kernel_rfl) (by kernel_rfl) (by kernel_rfl) rfl (by rfl) (fun _ _ _ h => h) hHeld (fun _ hw' => by go_simp; exact HWb.out) ?_
          simp only [List.setIfInBounds_toArray, List.set_cons_zero, List.set_cons_succ]
          refine takeVal 9 196 (.agg #[.int .i64 ((a : Int) - (b : Int) - 1 - ((C1 : Nat))), .int .i64 ((C2 : Nat)), .int .i64 ((b : Int) - 1)]) rfl (by kernel_rfl) (by kernel_rfl) (by kernel_rfl) rfl (by rfl) (fun _ _ _ h => h) hHeld (fun _ hw' => by go_simp) ?_
          simp only [List.setIfInBounds_toArray, List.set_cons_zero, List.set_cons_succ]
          refine step1 1 (by kernel_rfl) ?_
          refine stCall 1 188 17 #[.pointer (some ⟨p, 0, none⟩)] _ rfl rfl (by rfl) (by go_simp) (HRo.out _ hHeld.1.s) ?_
          rintro e wa ⟨rfl, bwa⟩
          replace hHeld := hHeld.call bwa
          refine ⟨_, rfl, hHeld, ?_⟩
          simp only [List.setIfInBounds_toArray, List.set_cons_zero, List.set_cons_succ]
          refine takeVal 10 197 (.bool false) rfl (by kernel_rfl) (by kernel_rfl) (by kernel_rfl) rfl (by rfl) (fun _ _ _ h => h) hHeld (fun _ hw' => by go_simp) ?_
          simp only [List.setIfInBounds_toArray, List.set_cons_zero, List.set_cons_succ]
          refine wpAnyH_done (by kernel_rfl) ?_ _
          refine NoPanic.normal ?_
          have HE := hid hHeld
          clear hHeld HRo HWr HWb
          go_wp2_with fail
          exact ⟨⟨k + 1, C1, C2, s, by omega, by go_num, congrArg (Value.int .i64) (by omega), congrArg (Value.int .i64) (by omega), HCn, HE⟩, by simp [intOf]; omega⟩
    · clear hk
      go_wp2
      go_ret
      exact ⟨rfl, HI.out.1.b⟩

end Go.Proofs.Ytdhhmcecgddlnaa
