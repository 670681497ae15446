/-
  The document's Landed: what it answers.
-/
import Derived.Test.YtdddcllakjeplaaQ0
namespace Go.Proofs.Ytdddcllakjeplaa
open Go.RowKit

theorem cell_lt {w : World} {b j : Nat} {v : Value} (h : w.cell? ⟨b, j, none⟩ = some v) : b < w.heap.size := by
  rcases Nat.lt_or_ge b w.heap.size with k | k
  · exact k
  · simp [World.cell?, Array.getElem?_eq_none k] at h
theorem cell_call {w w' : World} {b j : Nat} {v : Value} (hb : Below w.heap.size w w') (h : w.cell? ⟨b, j, none⟩ = some v) : w'.cell? ⟨b, j, none⟩ = some v := by
  rw [hb.cell (p := ⟨b, j, none⟩) (cell_lt h)]
  exact h
variable {w : World} {lo hi p : Nat} {s : SS}
theorem IntsAt.off2 {w w' : World} {a : Option Addr} {xs : List Int} (h : IntsAt w a xs) (ho : xs = [] ∨ Off a lo hi) (hc : Chg w w' (Rg lo hi)) : IntsAt w' a xs := by
  rcases ho with e | e
  · exact .inl e
  · exact h.off e hc
set_option maxRecDepth 100000 in
set_option maxHeartbeats 1000000 in
theorem rlanded_any (xs : List Int) (a : Option Addr) (len cap : Nat) (w : World) (h : IsQ w lo hi p s) (hlen : Hid (xs.length = len)) (hl : len ≤ 140737488355328) (HX : Hid (IntsAt w a xs)) (HO : Hid (xs = [] ∨ Off a lo hi)) :
    Calls Try.prog 26 #[.pointer (some ⟨p, 0, none⟩), .slice a len cap] w fun e w' => e = .returned (.int .i64 (s.landE xs)) ∧ IsQ w' lo hi p (s.landS xs) ∧ Chg w w' (Rg lo hi) := by
  have HS := hid h
  go_enter Try.func26, Try.ntmps26
  go_wp2
  go_loopw [5] (fun i wr => ∃ k : Nat, k ≤ len ∧ i = .int .i64 k ∧ Hid (∀ j, j < k → isB ((s.ni : Int) + 1) s.ns (xs.getD j 0) = true) ∧ Hid (Below w.heap.size w wr)) (fun i _ => len - (intOf i).toNat)
  case atStart => exact ⟨0, by omega, rfl, hid (fun j hj => by omega), hid (Below.refl _ _)⟩
  case round =>
    obtain ⟨k, hk, rfl, HA, HW⟩ := hrel
    by_cases hlt : k < len
    · obtain ⟨b, o, rfl, hcell⟩ := HX.out.get HW.out k (by rw [hlen.out]; exact hlt)
      have hkl : (k : Int) < (len : Int) := by omega
      have HK : Hid (k < xs.length) := by show _; rw [hlen.out]; exact hlt
      have HSr := hid (HS.out.call HW.out)
      obtain ⟨gT, gI, HSr0⟩ := HSr.out
      replace HSr0 := hid HSr0
      generalize hx : xs.getD k 0 = x at *
      replace hx := hid hx
      have HI := hid fun w => rdata_any (s.ns : Int) (s.ni : Int) x w s.ns rfl
      replace hcell := hid hcell
      clear hlt
      go_upto_region 4 with (fail)
      cases hb : isB ((s.ni : Int) + 1) s.ns x
      · rw [hb] at HI
        have HN : Hid (s.landOk xs = false) := landOk_no HK.out (by rw [hx.out]; exact hb)
        clear hb
        refine wp_region_noPanic ?_
        refine wp_region_held_drew (S := fun w' => IsQ0 w' lo hi p gT gI s ∧ w'.cell? ⟨b, o + k, none⟩ = some (.int .i64 x) ∧ Below w.heap.size w w') (by kernel_rfl) ⟨HSr0.out.drewN 1, hcell.out, below_drewN HW.out 1⟩ (fun hHeld => ?_)
        refine takeVal 0 14 (.pointer (some ⟨p, 0, none⟩)) rfl (by kernel_rfl) (by kernel_rfl) (by kernel_rfl) rfl (by rfl) (fun _ _ _ h => h) hHeld (fun _ hw' => rfl) ?_
        simp only [List.setIfInBounds_toArray, List.set_cons_zero, List.set_cons_succ]
        refine takeVal 1 15 (.pointer (some ⟨p, 0, none⟩)) rfl (by kernel_rfl) (by kernel_rfl) (by kernel_rfl) rfl (by rfl) (fun _ _ _ h => h) hHeld (fun _ hw' => by go_simp) ?_
        simp only [List.setIfInBounds_toArray, List.set_cons_zero, List.set_cons_succ]
        refine takeVal 2 16 (.pointer (some ⟨p, 0, none⟩)) rfl (by kernel_rfl) (by kernel_rfl) (by kernel_rfl) rfl (by rfl) (fun _ _ _ h => h) hHeld (fun _ hw' => by go_simp) ?_
        simp only [List.setIfInBounds_toArray, List.set_cons_zero, List.set_cons_succ]
        refine takeVal 3 17 (.agg #[.int .i64 (s.ns : Int), .int .i64 (s.ni : Int)]) rfl (by kernel_rfl) (by kernel_rfl) (by kernel_rfl) rfl (by rfl) (fun _ _ _ h => h) hHeld (fun _ hw' => by have c0 := hw'.1.c0; have c1 := hw'.1.c1; go_simp) ?_
        simp only [List.setIfInBounds_toArray, List.set_cons_zero, List.set_cons_succ]
        refine takeVal 4 18 (.slice (some ⟨b, o, none⟩) len cap) rfl (by kernel_rfl) (by kernel_rfl) (by kernel_rfl) rfl (by rfl) (fun _ _ _ h => h) hHeld (fun _ hw' => rfl) ?_
        simp only [List.setIfInBounds_toArray, List.set_cons_zero, List.set_cons_succ]
        refine takeVal 5 19 (.int .i64 (k : Int)) rfl (by kernel_rfl) (by kernel_rfl) (by kernel_rfl) rfl (by rfl) (fun _ _ _ h => h) hHeld (fun _ hw' => rfl) ?_
        simp only [List.setIfInBounds_toArray, List.set_cons_zero, List.set_cons_succ]
        refine takeVal 6 20 (.pointer (some ⟨b, o + k, none⟩)) rfl (by kernel_rfl) (by kernel_rfl) (by kernel_rfl) rfl (by rfl) (fun _ _ _ h => h) hHeld (fun _ hw' => by go_simp) ?_
        simp only [List.setIfInBounds_toArray, List.set_cons_zero, List.set_cons_succ]
        refine takeVal 7 21 (.int .i64 x) rfl (by kernel_rfl) (by kernel_rfl) (by kernel_rfl) rfl (by rfl) (fun _ _ _ h => h) hHeld (fun _ hw' => by have cc := hw'.2.1; go_simp) ?_
        simp only [List.setIfInBounds_toArray, List.set_cons_zero, List.set_cons_succ]
        refine step1 8 (by kernel_rfl) ?_
        refine stCall 8 22 32 #[.agg #[.int .i64 (s.ns : Int), .int .i64 (s.ni : Int)], .int .i64 x] _ rfl rfl (by rfl) (by go_simp) (HI.out _) ?_
        rintro e wa ⟨rfl, bwa⟩
        replace hHeld := And.intro (hHeld.1.keep (Chg.of_below bwa No) (fun _ _ e => e)) (And.intro (cell_call bwa hHeld.2.1) (hHeld.2.2.trans (bwa.mono hHeld.2.2.size)))
        refine ⟨_, rfl, hHeld, ?_⟩
        simp only [List.setIfInBounds_toArray, List.set_cons_zero, List.set_cons_succ]
        refine takeVal 9 6 (.bool false) rfl (by kernel_rfl) (by kernel_rfl) (by kernel_rfl) rfl (by rfl) (fun _ _ _ h => h) hHeld (fun _ hw' => rfl) ?_
        simp only [List.setIfInBounds_toArray, List.set_cons_zero, List.set_cons_succ]
        refine wpAnyH_done (by kernel_rfl) ?_ _
        refine NoPanic.normal ?_
        have HE := hid hHeld
        clear hHeld
        go_wp2_with fail
        go_ret
        refine ⟨ret_int (by unfold SS.landE; rw [HN.out]; rfl), ?_, Chg.of_below HE.out.2.2 _⟩
        unfold SS.landS
        rw [HN.out]
        exact ⟨gT, gI, HE.out.1⟩
      · rw [hb] at HI
        have HA2 : Hid (∀ j, j < k + 1 → isB ((s.ni : Int) + 1) s.ns (xs.getD j 0) = true) := fun j hj => by
          rcases Nat.lt_or_ge j k with c | c
          · exact HA.out j c
          · rw [show j = k by omega, hx.out]; exact hb
        clear hb
        refine wp_region_noPanic ?_
        refine wp_region_held_drew (S := fun w' => IsQ0 w' lo hi p gT gI s ∧ w'.cell? ⟨b, o + k, none⟩ = some (.int .i64 x) ∧ Below w.heap.size w w') (by kernel_rfl) ⟨HSr0.out.drewN 1, hcell.out, below_drewN HW.out 1⟩ (fun hHeld => ?_)
        refine takeVal 0 14 (.pointer (some ⟨p, 0, none⟩)) rfl (by kernel_rfl) (by kernel_rfl) (by kernel_rfl) rfl (by rfl) (fun _ _ _ h => h) hHeld (fun _ hw' => rfl) ?_
        simp only [List.setIfInBounds_toArray, List.set_cons_zero, List.set_cons_succ]
        refine takeVal 1 15 (.pointer (some ⟨p, 0, none⟩)) rfl (by kernel_rfl) (by kernel_rfl) (by kernel_rfl) rfl (by rfl) (fun _ _ _ h => h) hHeld (fun _ hw' => by go_simp) ?_
        simp only [List.setIfInBounds_toArray, List.set_cons_zero, List.set_cons_succ]
        refine takeVal 2 16 (.pointer (some ⟨p, 0, none⟩)) rfl (by kernel_rfl) (by kernel_rfl) (by kernel_rfl) rfl (by rfl) (fun _ _ _ h => h) hHeld (fun _ hw' => by go_simp) ?_
        simp only [List.setIfInBounds_toArray, List.set_cons_zero, List.set_cons_succ]
        refine takeVal 3 17 (.agg #[.int .i64 (s.ns : Int), .int .i64 (s.ni : Int)]) rfl (by kernel_rfl) (by kernel_rfl) (by kernel_rfl) rfl (by rfl) (fun _ _ _ h => h) hHeld (fun _ hw' => by have c0 := hw'.1.c0; have c1 := hw'.1.c1; go_simp) ?_
        simp only [List.setIfInBounds_toArray, List.set_cons_zero, List.set_cons_succ]
        refine takeVal 4 18 (.slice (some ⟨b, o, none⟩) len cap) rfl (by kernel_rfl) (by kernel_rfl) (by kernel_rfl) rfl (by rfl) (fun _ _ _ h => h) hHeld (fun _ hw' => rfl) ?_
        simp only [List.setIfInBounds_toArray, List.set_cons_zero, List.set_cons_succ]
        refine takeVal 5 19 (.int .i64 (k : Int)) rfl (by kernel_rfl) (by kernel_rfl) (by kernel_rfl) rfl (by rfl) (fun _ _ _ h => h) hHeld (fun _ hw' => rfl) ?_
        simp only [List.setIfInBounds_toArray, List.set_cons_zero, List.set_cons_succ]
        refine takeVal 6 20 (.pointer (some ⟨b, o + k, none⟩)) rfl (by kernel_rfl) (by kernel_rfl) (by kernel_rfl) rfl (by rfl) (fun _ _ _ h => h) hHeld (fun _ hw' => by go_simp) ?_
        simp only [List.setIfInBounds_toArray, List.set_cons_zero, List.set_cons_succ]
        refine takeVal 7 21 (.int .i64 x) rfl (by kernel_rfl) (by kernel_rfl) (by kernel_rfl) rfl (by rfl) (fun _ _ _ h => h) hHeld (fun _ hw' => by have cc := hw'.2.1; go_simp) ?_
        simp only [List.setIfInBounds_toArray, List.set_cons_zero, List.set_cons_succ]
        refine step1 8 (by kernel_rfl) ?_
        refine stCall 8 22 32 #[.agg #[.int .i64 (s.ns : Int), .int .i64 (s.ni : Int)], .int .i64 x] _ rfl rfl (by rfl) (by go_simp) (HI.out _) ?_
        rintro e wa ⟨rfl, bwa⟩
        replace hHeld := And.intro (hHeld.1.keep (Chg.of_below bwa No) (fun _ _ e => e)) (And.intro (cell_call bwa hHeld.2.1) (hHeld.2.2.trans (bwa.mono hHeld.2.2.size)))
        refine ⟨_, rfl, hHeld, ?_⟩
        simp only [List.setIfInBounds_toArray, List.set_cons_zero, List.set_cons_succ]
        refine takeVal 9 6 (.bool true) rfl (by kernel_rfl) (by kernel_rfl) (by kernel_rfl) rfl (by rfl) (fun _ _ _ h => h) hHeld (fun _ hw' => rfl) ?_
        simp only [List.setIfInBounds_toArray, List.set_cons_zero, List.set_cons_succ]
        refine wpAnyH_done (by kernel_rfl) ?_ _
        refine NoPanic.normal ?_
        have HE := hid hHeld
        clear hHeld
        go_wp2_with fail
        exact ⟨⟨k + 1, by omega, by go_num, HA2, hid HE.out.2.2⟩, by simp [intOf]; omega⟩
    · have HN : Hid (s.landOk xs = true) := landOk_yes (fun j hj => HA.out j (by rw [hlen.out] at hj; omega))
      have HAll : Hid (∀ j, j < len → isB ((s.ni : Int) + 1) s.ns (xs.getD j 0) = true) := fun j hj => HA.out j (by omega)
      clear hk HA
      go_wp2
      go_loopw [7] (fun i wr => ∃ k : Nat, k ≤ len ∧ i = .int .i64 k ∧ Hid (IsQ wr lo hi p { s with T := landL s.T (xs.take k) }) ∧ Hid (Chg w wr (Rg lo hi))) (fun i _ => len - (intOf i).toNat)
      case atStart => exact ⟨0, by omega, rfl, hid (HS.out.call HW.out), hid (Chg.of_below HW.out _)⟩
      case round =>
        clear HW hlt
        obtain ⟨k, hk, rfl, HT, HC⟩ := hrel
        by_cases hlt : k < len
        · obtain ⟨b, o, rfl, hcell⟩ := (HX.out.off2 HO.out HC.out).here k (by rw [hlen.out]; exact hlt)
          have hkl : (k : Int) < (len : Int) := by omega
          have HK : Hid (k < xs.length) := by show _; rw [hlen.out]; exact hlt
          have hd := of_decide_eq_true (HAll.out k hlt)
          have HLt := hid (landL_take HK.out s.T)
          generalize hx : xs.getD k 0 = x at *
          clear hx
          generalize hS : ({ s with T := landL s.T (xs.take k) } : SS) = S at HT
          have hST : Hid (landL s.T (xs.take k) = S.T) := by show _ = _; rw [← hS]
          have hSs : Hid (∀ v, ({ s with T := putT S.T x v } : SS) = S.setT x v) := fun v => by rw [← hS]; rfl
          have hSn : S.ni = s.ni ∧ S.ns = s.ns := by rw [← hS]; exact ⟨rfl, rfl⟩
          replace hS := hid hS
          rw [hST.out] at HLt
          obtain ⟨n, rfl⟩ := Int.eq_ofNat_of_zero_le (show 0 ≤ x by omega)
          have hn1 : S.ni < n := by omega
          have hn2 : n < S.ns := by omega
          have hn3 : (n : Int) < (S.ns : Int) := by omega
          clear hlt hd hSn
          obtain ⟨gT, gI, H0⟩ := HT.out
          replace H0 := hid H0
          have k2 := H0.out.c2
          have kT := H0.out.atT n hn2
          by_cases hst : S.T.getD n 0 = 2
          · have HE : Hid (landL s.T (xs.take (k + 1)) = putT S.T n 0) := by
              show _ = _
              rw [HLt.out]
              unfold land1
              rw [if_pos (by rw [atT_nat]; exact hst)]
            rw [hst] at kT
            have kT2 : wr.cell? ⟨gT, n, none⟩ = some (.int .i64 2) := kT
            have hf := frozen_of_row wr gT n _ _ H0.out.rT
            clear kT hst
            go_upto_region 10 with (fail)
            go_quiet (fail)
            go_upto_region 11 with (fail)
            go_region
            have hh := hid ((H0.out.drewN nq).setT n 0 hn1 hn2 (by decide))
            have HC2 : Hid (Chg w (wr.drewN nq) (Rg lo hi)) := ⟨HC.out.os, HC.out.tape, HC.out.output, HC.out.size, HC.out.block⟩
            go_wp2
            exact ⟨⟨k + 1, by omega, by go_num, hid (by rw [HE.out, hSs.out]; exact hh.out.1.drewN 1), hid (HC2.out.trans hh.out.2 (fun _ _ e => e) (fun _ _ e => e)).drew⟩, by simp [intOf]; omega⟩
          · have HE : Hid (landL s.T (xs.take (k + 1)) = S.T) := by
              show _ = _
              rw [HLt.out]
              unfold land1
              rw [if_neg (by rw [atT_nat]; exact hst)]
            have hv0 : (((S.T.getD n 0 : Nat) : Int) == 2) = false := beq_false_of_ne (fun e => hst (by omega))
            clear hst
            generalize S.T.getD n 0 = v at *
            go_upto_region 10 with (fail)
            go_quiet (fail)
            go_wp2
            exact ⟨⟨k + 1, by omega, by go_num, hid (by rw [HE.out, ← hST.out, hS.out]; exact HT.out.drewN _), hid ⟨HC.out.os, HC.out.tape, HC.out.output, HC.out.size, HC.out.block⟩⟩, by simp [intOf]; omega⟩
        · have e : Hid (xs.take k = xs) := by show _ = _; rw [List.take_of_length_le (by rw [hlen.out]; omega)]
          clear hk
          go_wp2
          go_ret
          refine ⟨ret_int (by unfold SS.landE; rw [HN.out]; rfl), ?_, HC.out⟩
          unfold SS.landS
          rw [HN.out, if_pos rfl]
          have := HT.out
          rw [e.out] at this
          exact this

end Go.Proofs.Ytdddcllakjeplaa
