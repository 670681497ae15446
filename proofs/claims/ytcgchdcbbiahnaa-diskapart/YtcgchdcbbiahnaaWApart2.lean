/-
  DiskApart returns true: the walk.
-/
import Derived.Test.YtcgchdcbbiahnaaLaw3
import Derived.Test.YtcgchdcbbiahnaaDisk3
namespace Go.Proofs.Ytcgchdcbbiahnaa
open Go.RowKit

/-- What of a disk is bounded. -/
def Bd (d : St8) (j : Nat) : Prop := 0 ≤ d.wr ∧ d.wr ≤ (j : Int) ∧ 0 ≤ d.lf ∧ d.lf ≤ 9223372036854775807
theorem Bd.write {d : St8} {j n : Nat} {i : Int} {s : List Int} (h : Bd d j) : Bd (writeD d n i s) (j + 1) := by
  obtain ⟨h1, h2, h3, h4⟩ := h
  unfold writeD
  split
  · split
    · exact ⟨h1, by simp only; omega, h3, h4⟩
    · rename_i hc
      refine ⟨by simp only; omega, by simp only; omega, ?_, ?_⟩
      · simp only
        split
        · rename_i ha
          have : d.lf ≠ 0 := fun e => hc ⟨ha, e⟩
          omega
        · exact h3
      · simp only
        split
        · omega
        · exact h4
  · exact ⟨h1, by omega, h3, h4⟩

set_option maxRecDepth 100000 in
set_option maxHeartbeats 4000000 in
theorem apart_none (m : Nat) (a : Option Addr) (cap : Nat) (k : Int) (b1 b2 : Option Addr) (L1 c1 L2 c2 : Nat) (w : World) (h : m = 0 ∨ 4096 < m) : Calls Try.prog 8 #[.agg #[.slice a m cap, .int .i64 k, .slice b1 L1 c1, .slice b2 L2 c2]] w fun e w' => e = .returned (.bool true) ∧ Below w.heap.size w w' := by
  have HF := hid fun w => fits_any m cap a w
  have HQ := hid (heap_alloc_new w (.cells #[.slice a m cap, .int .i64 k, .slice b1 L1 c1, .slice b2 L2 c2] 68))
  have HB0 := hid (Below.refl_call w (.cells #[.slice a m cap, .int .i64 k, .slice b1 L1 c1, .slice b2 L2 c2] 68))
  by_cases h5 : m ≤ 5000
  · rw [decide_eq_true h5] at HF
    rcases h with rfl | h
    · go_enter Try.func8, Try.ntmps8
      go_wp2_with (first | (go_at_call 9; refine (awake_any _).mono ?_; rintro e w1 ⟨rfl, hb1⟩; have hq1 := (hb1.block w.heap.size (slt HQ.out)).trans HQ.out; have y0 := cell_of_row _ _ 0 _ _ _ hq1; have y1 := cell_of_row _ _ 1 _ _ _ hq1; have y2 := cell_of_row _ _ 2 _ _ _ hq1; have y3 := cell_of_row _ _ 3 _ _ _ hq1; have HB1 := hid (HB0.out.trans (hb1.mono HB0.out.size)); simp only [List.getElem?_toArray, List.getElem?_cons_zero, List.getElem?_cons_succ] at y0 y1 y2 y3; clear hq1 hb1) | (go_at_call 18; refine (HF.out _).mono ?_; rintro e w2 ⟨rfl, rfl⟩))
      go_ret
      exact ⟨rfl, HB1.out⟩
    · have hz : ((m : Int) == 0) = false := by simp; omega
      have hg : (4096 : Int) < (m : Int) := by omega
      clear h5 h
      go_enter Try.func8, Try.ntmps8
      go_wp2_with (first | (go_at_call 9; refine (awake_any _).mono ?_; rintro e w1 ⟨rfl, hb1⟩; have hq1 := (hb1.block w.heap.size (slt HQ.out)).trans HQ.out; have y0 := cell_of_row _ _ 0 _ _ _ hq1; have y1 := cell_of_row _ _ 1 _ _ _ hq1; have y2 := cell_of_row _ _ 2 _ _ _ hq1; have y3 := cell_of_row _ _ 3 _ _ _ hq1; have HB1 := hid (HB0.out.trans (hb1.mono HB0.out.size)); simp only [List.getElem?_toArray, List.getElem?_cons_zero, List.getElem?_cons_succ] at y0 y1 y2 y3; clear hq1 hb1) | (go_at_call 18; refine (HF.out _).mono ?_; rintro e w2 ⟨rfl, rfl⟩))
      go_ret
      exact ⟨rfl, HB1.out⟩
  · rw [decide_eq_false h5] at HF
    clear h h5
    go_enter Try.func8, Try.ntmps8
    go_wp2_with (first | (go_at_call 9; refine (awake_any _).mono ?_; rintro e w1 ⟨rfl, hb1⟩; have hq1 := (hb1.block w.heap.size (slt HQ.out)).trans HQ.out; have y0 := cell_of_row _ _ 0 _ _ _ hq1; have y1 := cell_of_row _ _ 1 _ _ _ hq1; have y2 := cell_of_row _ _ 2 _ _ _ hq1; have y3 := cell_of_row _ _ 3 _ _ _ hq1; have HB1 := hid (HB0.out.trans (hb1.mono HB0.out.size)); simp only [List.getElem?_toArray, List.getElem?_cons_zero, List.getElem?_cons_succ] at y0 y1 y2 y3; clear hq1 hb1) | (go_at_call 18; refine (HF.out _).mono ?_; rintro e w2 ⟨rfl, rfl⟩))
    go_ret
    exact ⟨rfl, HB1.out⟩

set_option maxRecDepth 100000 in
set_option maxHeartbeats 8000000 in
theorem apart_some (im : List (List Int)) (m : Nat) (hm : Hid (im.length = m)) (a : Option Addr) (cap : Nat) (k : Int) (w1s : List (Int × List Int)) (L1 : Nat) (hL1 : Hid (w1s.length = L1)) (b1 : Option Addr) (c1 : Nat) (w2s : List (Int × List Int)) (L2 : Nat) (hL2 : Hid (w2s.length = L2)) (b2 : Option Addr) (c2 : Nat) (w : World) (h0 : 1 ≤ m) (h1 : m ≤ 4096) (hk : I64 k) (hb1 : L1 ≤ 140737488355328) (hb2 : L2 ≤ 140737488355328) (HI : Hid (ImgAt w a im)) (HW1 : Hid (WrAt w b1 w1s)) (HX1 : Hid (∀ x, x ∈ w1s → I64 x.1)) (HW2 : Hid (WrAt w b2 w2s)) (HX2 : Hid (∀ x, x ∈ w2s → I64 x.1)) :
    Calls Try.prog 8 #[.agg #[.slice a m cap, .int .i64 k, .slice b1 L1 c1, .slice b2 L2 c2]] w fun e w' => e = .returned (.bool true) ∧ Below w.heap.size w w' := by
  have hgd := guard_sec
  have HQ := hid (heap_alloc_new w (.cells #[.slice a m cap, .int .i64 k, .slice b1 L1 c1, .slice b2 L2 c2] 68))
  have HB0 := hid (Below.refl_call w (.cells #[.slice a m cap, .int .i64 k, .slice b1 L1 c1, .slice b2 L2 c2] 68))
  have HF := hid fun w => fits_any m cap a w
  rw [decide_eq_true (show m ≤ 5000 by omega)] at HF
  have HLD := hid fun w h => llaid_any im m hm (by omega) a cap w h
  have HSP := hid (laid_split im)
  have HSL := hid (flat_len (secs_all im))
  rw [secs_len, hm.out] at HSL
  rw [HSP.out] at HLD
  generalize flat (secs im) = F at *
  generalize flat marks = MM at *
  have HPK := hid fun w => pick_any k 30 w hk (by decide) (by decide)
  have hKb := pickN_bd k (show (1 : Int) ≤ 30 by decide)
  generalize pickN k 30 = K at *
  have hmz : ((m : Int) == 0) = false := by simp; omega
  have hm4 : ¬ (4096 : Int) < (m : Int) := by omega
  have hm3 : (m : Int) ≤ (m : Int) + 3 := by omega
  have HBD : Hid (128 * m ≤ 140737488355328) := by show _ ≤ _; omega
  go_enter Try.func8, Try.ntmps8
  go_wp2_with (first | (go_at_call 9; refine (awake_any _).mono ?_; rintro e w1 ⟨rfl, hb1⟩; have hq1 := (hb1.block w.heap.size (slt HQ.out)).trans HQ.out; have y0 := cell_of_row _ _ 0 _ _ _ hq1; have y1 := cell_of_row _ _ 1 _ _ _ hq1; have y2 := cell_of_row _ _ 2 _ _ _ hq1; have y3 := cell_of_row _ _ 3 _ _ _ hq1; have HB1 := hid (HB0.out.trans (hb1.mono HB0.out.size)); simp only [List.getElem?_toArray, List.getElem?_cons_zero, List.getElem?_cons_succ] at y0 y1 y2 y3; clear hq1 hb1) | (go_at_call 18; refine (HF.out _).mono ?_; rintro e w2 ⟨rfl, rfl⟩) | (go_at_call 19; refine (HLD.out _ (HI.out.below HB1.out)).mono ?_; rintro e w2 ⟨g1, rfl, hg1, hr1, hb2'⟩; have HB2 := hid (HB1.out.trans (hb2'.mono HB1.out.size)); have HR1 := hid (row_pre hr1); have z1 := (hb2'.cell (p := ⟨w.heap.size, 1, none⟩) (by have := HB0.out.size; have := HQ.out; exact block_lt_of_cell y1)).trans y1; clear hg1 hr1 hb2') | (go_at_call 20; refine (from_ok m _ _ F _ h0 h1 HSL HR1.out).mono ?_; rintro e w3 ⟨p, g, rfl, hp0, hg0, hd3, hb3⟩; have HD3 := hid hd3; have HB3 := hid (HB2.out.trans (hb3.mono HB2.out.size)); have HP0 := hid (Nat.le_trans HB2.out.size hp0); have HG0 := hid (Nat.le_trans HB2.out.size hg0); have x1 := (hb3.cell (p := ⟨w.heap.size, 1, none⟩) (block_lt_of_cell z1)).trans z1; clear hd3 hb3 hp0 hg0) | (go_at_call 24; refine (HPK.out _).mono ?_; rintro e w4 ⟨rfl, rfl⟩) | (go_at_call 28; refine (arm_any _ _ HD3.out).mono ?_; rintro e w4 ⟨rfl, hd4, hm4'⟩; have HD4 := hid hd4; have HB4 := hid (hm4'.to HB3.out HB3.out.size (by simpa using HP0.out)); clear hd4 hm4'))
  have HPG : Hid (∀ k, k ∈ [p, g] → w.heap.size ≤ k) := by
    show ∀ k, k ∈ [p, g] → w.heap.size ≤ k
    intro k hk
    rcases List.mem_cons.1 hk with e | e
    · rw [e]; exact HP0.out
    · rw [List.mem_singleton.1 e]; exact HG0.out
  have HBd4 : Hid (Bd (armD (D0 F) K) 0) := by
    show Bd _ _
    rw [armD_ok rfl hKb.1]
    exact ⟨Int.le_refl _, Int.le_refl _, hKb.1, by simp only; omega⟩
  have HSS4 : Hid ((armD (D0 F) K).S.length = 128 * m) := by
    show _ = _
    rw [armD_ok rfl hKb.1]
    exact HSL.out
  generalize armD (D0 F) K = d4 at *
  clear HD3 HB3 HB2 HB1 HR1 HQ HB0 y0 y1 y2 y3 z1 x1 hKb
  go_loopw [11] (fun i wr => ∃ (j : Nat) (d : St8), j ≤ L1 ∧ i = .int .i64 j ∧ Hid (Bd d j) ∧ Hid (IsD wr p g m d) ∧ Hid (Below w.heap.size w wr)) (fun i _ => L1 - (intOf i).toNat)
  case atStart => exact ⟨0, d4, by omega, rfl, HBd4, HD4, HB4⟩
  case round =>
    clear HD4 HB4 HBd4 HSS4
    clear d4
    obtain ⟨j, d, hj, rfl, HBd, HD, HBl⟩ := hrel
    by_cases hlt : j < L1
    · have hc0 : ∃ x o ad cp, b1 = some ⟨x, o, none⟩ ∧ w.cell? ⟨x, o + j * 2, none⟩ = some (.int .i64 (w1s.getD j (0, [])).1) ∧ w.cell? ⟨x, o + j * 2 + 1, none⟩ = some (.slice ad (w1s.getD j (0, [])).2.length cp) ∧ x < w.heap.size ∧ BytesAt w ad (w1s.getD j (0, [])).2 := by
        rcases HW1.out with h | ⟨x, o, h1, h2, h3⟩
        · have := hL1.out; rw [h] at this; simp at this; omega
        · obtain ⟨ad, cp, h4, h5, h6⟩ := h3 j (by rw [hL1.out]; exact hlt)
          exact ⟨x, o, ad, cp, h1, h4, h5, h2, h6⟩
      obtain ⟨x, o, ad, cp, rfl, hcN, hcB, hxl, hby⟩ := hc0
      have HXL := hid hxl
      have HCN := hid hcN
      have HCB := hid hcB
      clear hcB hcN hxl
      have hx64 : I64 (w1s.getD j (0, [])).1 := by
        have hlt' : j < w1s.length := by rw [hL1.out]; exact hlt
        rw [List.getD_eq_getElem?_getD, List.getElem?_eq_getElem hlt']
        exact HX1.out _ (List.getElem_mem hlt')
      have HPN := hid fun w => pick_any (w1s.getD j (0, [])).1 (m : Int) w hx64 (by omega) (by omega)
      have HOF := hid fun w h => of_any (w1s.getD j (0, [])).2 _ rfl ad cp w h
      have hsl := ofS_len (w1s.getD j (0, [])).2
      have HBY := hid hby
      have hq := pickN_bd (w1s.getD j (0, [])).1 (show (1 : Int) ≤ (m : Int) by omega)
      generalize ofS (w1s.getD j (0, [])).2 = s at *
      generalize (w1s.getD j (0, [])).1 = N at *
      generalize (w1s.getD j (0, [])).2 = z at *
      generalize pickN N (m : Int) = q at *
      have hjl : (j : Int) < (L1 : Int) := by omega
      clear hby hx64
      have HHs : Hid (HB w [] wr) := ⟨by simp, by simp, HBl.out⟩
      have HDr := hid HD.out.drew
      have hbd := HBd.out
      have hbw0 : 0 ≤ d.wr := hbd.1
      have hbw1 : d.wr ≤ (j : Int) := hbd.2.1
      have hbl := hbd.2.2
      clear hlt hbd HD
      go_wp2_with fail
      refine wp_region_noPanic ?_
      refine wp_region_held_drew (S := HB w []) (by kernel_rfl) HHs.out.drew (fun hHeld => ?_)
      generalize wr.drew = wd at *
      refine takeVal 0 75 (.pointer (some ⟨p, 0, none⟩)) rfl (by kernel_rfl) (by kernel_rfl) (by kernel_rfl) rfl (by rfl) (fun _ _ _ h => h) hHeld (fun _ hw' => rfl) ?_
      simp only [List.setIfInBounds_toArray, List.set_cons_zero, List.set_cons_succ]
      refine takeVal 1 76 (.slice (some ⟨x, o, none⟩) L1 c1) rfl (by kernel_rfl) (by kernel_rfl) (by kernel_rfl) rfl (by rfl) (fun _ _ _ h => h) hHeld (fun _ hw' => rfl) ?_
      simp only [List.setIfInBounds_toArray, List.set_cons_zero, List.set_cons_succ]
      refine takeVal 2 77 (.int .i64 (j : Int)) rfl (by kernel_rfl) (by kernel_rfl) (by kernel_rfl) rfl (by rfl) (fun _ _ _ h => h) hHeld (fun _ hw' => rfl) ?_
      simp only [List.setIfInBounds_toArray, List.set_cons_zero, List.set_cons_succ]
      refine takeVal 3 78 (.pointer (some ⟨x, o + j * 2, none⟩)) rfl (by kernel_rfl) (by kernel_rfl) (by kernel_rfl) rfl (by rfl) (fun _ _ _ h => h) hHeld (fun _ hw' => by go_simp) ?_
      simp only [List.setIfInBounds_toArray, List.set_cons_zero, List.set_cons_succ]
      refine takeVal 4 79 (.pointer (some ⟨x, o + j * 2, none⟩)) rfl (by kernel_rfl) (by kernel_rfl) (by kernel_rfl) rfl (by rfl) (fun _ _ _ h => h) hHeld (fun _ hw' => by go_simp) ?_
      simp only [List.setIfInBounds_toArray, List.set_cons_zero, List.set_cons_succ]
      refine takeVal 5 80 (.int .i64 N) rfl (by kernel_rfl) (by kernel_rfl) (by kernel_rfl) rfl (by rfl) (fun _ _ _ h => h) hHeld (fun _ hw' => by have hc := (hw'.old.cell (p := ⟨x, o + j * 2, none⟩) HXL.out).trans HCN.out; go_simp) ?_
      simp only [List.setIfInBounds_toArray, List.set_cons_zero, List.set_cons_succ]
      refine takeVal 6 81 (.slice a m cap) rfl (by kernel_rfl) (by kernel_rfl) (by kernel_rfl) rfl (by rfl) (fun _ _ _ h => h) hHeld (fun _ hw' => rfl) ?_
      simp only [List.setIfInBounds_toArray, List.set_cons_zero, List.set_cons_succ]
      refine takeVal 7 82 (.int .i64 (m : Int)) rfl (by kernel_rfl) (by kernel_rfl) (by kernel_rfl) rfl (by rfl) (fun _ _ _ h => h) hHeld (fun _ hw' => by go_simp) ?_
      simp only [List.setIfInBounds_toArray, List.set_cons_zero, List.set_cons_succ]
      refine takeVal 9 84 (.slice (some ⟨x, o, none⟩) L1 c1) rfl (by kernel_rfl) (by kernel_rfl) (by kernel_rfl) rfl (by rfl) (fun _ _ _ h => h) hHeld (fun _ hw' => rfl) ?_
      simp only [List.setIfInBounds_toArray, List.set_cons_zero, List.set_cons_succ]
      refine takeVal 10 85 (.int .i64 (j : Int)) rfl (by kernel_rfl) (by kernel_rfl) (by kernel_rfl) rfl (by rfl) (fun _ _ _ h => h) hHeld (fun _ hw' => rfl) ?_
      simp only [List.setIfInBounds_toArray, List.set_cons_zero, List.set_cons_succ]
      refine takeVal 11 86 (.pointer (some ⟨x, o + j * 2, none⟩)) rfl (by kernel_rfl) (by kernel_rfl) (by kernel_rfl) rfl (by rfl) (fun _ _ _ h => h) hHeld (fun _ hw' => by go_simp) ?_
      simp only [List.setIfInBounds_toArray, List.set_cons_zero, List.set_cons_succ]
      refine takeVal 12 87 (.pointer (some ⟨x, o + j * 2 + 1, none⟩)) rfl (by kernel_rfl) (by kernel_rfl) (by kernel_rfl) rfl (by rfl) (fun _ _ _ h => h) hHeld (fun _ hw' => by go_simp) ?_
      simp only [List.setIfInBounds_toArray, List.set_cons_zero, List.set_cons_succ]
      refine takeVal 13 88 (.slice ad z.length cp) rfl (by kernel_rfl) (by kernel_rfl) (by kernel_rfl) rfl (by rfl) (fun _ _ _ h => h) hHeld (fun _ hw' => by have hc := (hw'.old.cell (p := ⟨x, o + j * 2 + 1, none⟩) HXL.out).trans HCB.out; go_simp) ?_
      simp only [List.setIfInBounds_toArray, List.set_cons_zero, List.set_cons_succ]
      refine step1 8 (by kernel_rfl) ?_
      refine stCall 8 83 24 #[.int .i64 N, .int .i64 (m : Int)] _ rfl rfl (by rfl) (by go_simp) (HPN.out _) ?_
      rintro e wd ⟨rfl, rfl⟩
      refine ⟨_, rfl, hHeld, ?_⟩
      simp only [List.setIfInBounds_toArray, List.set_cons_zero, List.set_cons_succ]
      refine step1 14 (by kernel_rfl) ?_
      refine stCall 14 89 22 #[.slice ad z.length cp] _ rfl rfl (by rfl) (by go_simp) (HOF.out _ (bytes_below HBY.out hHeld.old)) ?_
      rintro e wf ⟨rfl, hbf⟩
      refine ⟨_, rfl, hHeld.call hbf, ?_⟩
      have hHeld1 := hHeld.call hbf
      clear hHeld
      have hHeld := hHeld1
      clear hHeld1
      simp only [List.setIfInBounds_toArray, List.set_cons_zero, List.set_cons_succ]
      refine step1 15 (by kernel_rfl) ?_
      refine stCall 15 90 29 #[.pointer (some ⟨p, 0, none⟩), .int .i64 q, .agg (SA s)] _ rfl rfl (by rfl) (by go_simp) (write_any q s _ (HDr.out.call hbf) hsl hbw0 (by omega) hbl) ?_
      rintro e wz ⟨rfl, hdz, hmz⟩
      have hHeldz : HB w [] wz := ⟨by simp, by simp, hmz.to hHeld.old hHeld.old.size HPG.out⟩
      refine ⟨_, rfl, hHeldz, ?_⟩
      clear hHeld
      have hHeld := hHeldz
      clear hHeldz
      simp only [List.setIfInBounds_toArray, List.set_cons_zero, List.set_cons_succ]
      refine wpAnyH_done (by kernel_rfl) ?_ _
      refine NoPanic.normal ?_
      have HBe := hid hHeld.old
      clear hHeld
      go_wp2_with fail
      exact ⟨⟨j + 1, _, by omega, by go_num, HBd.out.write, hdz, HBe⟩, by simp [intOf]; omega⟩
    · have e : j = L1 := by omega
      subst e
      clear hj
      go_wp2_with (first | (go_at_call 17; refine (down_any _ HD7.out).mono ?_; rintro e w8 ⟨rfl, rfl⟩) | (go_at_call 16; refine (writes_any _ HD7.out).mono ?_; rintro e w8 ⟨rfl, rfl⟩) | (go_at_call 12; refine (image_any _ HD6.out).mono ?_; rintro e w7 ⟨qw, rfl, hq0, hq1, hq2⟩; have HD7 := hid (HD6.out.call hq2); have HC7 := hid (HC6.out.call hq2); have HE7 := hid (HE6.out.call hq2); have HH7 : Hid (HB w [(qw, Obj.cells (SA d.S) 41 (0, 0))] w7) := hid ⟨by simpa using hq1, by simpa using slt hq1, HB6.out.trans (hq2.mono HB6.out.size)⟩; have HO3 := hid hq0; clear hq0 hq1 hq2) | (go_at_call 32; refine (copy_any _ HD5.out).mono ?_; rintro e w6 ⟨pb, gb, rfl, hp6, hg6, hd6, hb6⟩; have HE6 := hid hd6; have HC6 := hid (HC5.out.call hb6); have HD6 := hid (HD5.out.call hb6); have HB6 := hid (HB5.out.trans (hb6.mono HB5.out.size)); have HO2 := hid (And.intro hp6 hg6); clear hp6 hg6 hd6 hb6) | (go_at_call 32; refine (copy_any _ HD.out).mono ?_; rintro e w5 ⟨pc, gc, rfl, hp5, hg5, hd5, hb5⟩; have HC5 := hid hd5; have HD5 := hid (HD.out.call hb5); have HB5 := hid (HBl.out.trans (hb5.mono HBl.out.size)); have HO1 := hid (And.intro hp5 hg5); clear hp5 hg5 hd5 hb5))
      have HORD : Hid (w.heap.size ≤ pc ∧ w.heap.size ≤ gc ∧ w.heap.size ≤ pb ∧ w.heap.size ≤ gb ∧ p < pc ∧ p < gc ∧ g < pc ∧ g < gc ∧ pc < pb ∧ pc < gb ∧ gc < pb ∧ gc < gb ∧ pb < qw ∧ gb < qw) := by
        have a1 := slt HD.out.me
        have a2 := slt HD.out.row
        have a3 := HO1.out
        have a4 := slt HC5.out.me
        have a5 := slt HC5.out.row
        have a6 := HO2.out
        have a7 := slt HE6.out.me
        have a8 := slt HE6.out.row
        have a9 := HO3.out
        have b1 := HBl.out.size
        show _ ∧ _
        omega
      have HPC : Hid (∀ k, k ∈ [pc, gc] → w.heap.size ≤ k) := by
        show ∀ k, k ∈ [pc, gc] → w.heap.size ≤ k
        have := HORD.out
        intro k hk
        simp at hk
        omega
      have HPB : Hid (∀ k, k ∈ [pb, gb] → w.heap.size ≤ k) := by
        show ∀ k, k ∈ [pb, gb] → w.heap.size ≤ k
        have := HORD.out
        intro k hk
        simp at hk
        omega
      have HN1 : Hid (p ∉ [pc, gc] ∧ g ∉ [pc, gc] ∧ pb ∉ [pc, gc] ∧ gb ∉ [pc, gc] ∧ p ∉ [pb, gb] ∧ g ∉ [pb, gb] ∧ pc ∉ [pb, gb] ∧ gc ∉ [pb, gb] ∧ p ∉ [pc] ∧ g ∉ [pc]) := by
        have := HORD.out
        show _ ∧ _
        simp
        omega
      have HNq1 : Hid (∀ x, x ∈ [(qw, Obj.cells (SA d.S) 41 (0, 0))] → x.1 ∉ [pc, gc]) := by
        have := HORD.out
        show ∀ x, x ∈ [(qw, Obj.cells (SA d.S) 41 (0, 0))] → x.1 ∉ [pc, gc]
        intro x hx
        rw [List.mem_singleton.1 hx]
        simp
        omega
      have HNq2 : Hid (∀ x, x ∈ [(qw, Obj.cells (SA d.S) 41 (0, 0))] → x.1 ∉ [pb, gb]) := by
        have := HORD.out
        show ∀ x, x ∈ [(qw, Obj.cells (SA d.S) 41 (0, 0))] → x.1 ∉ [pb, gb]
        intro x hx
        rw [List.mem_singleton.1 hx]
        simp
        omega
      have HBd0 := HBd
      clear HD HBl HC5 HD5 HB5 HO1 HC6 HD6 HE6 HB6 HO2 HO3 HBd hlt HORD
      go_loopw [17] (fun i wr => ∃ (t : Nat) (e : St8), t ≤ L2 ∧ i = .int .i64 t ∧ Hid (Bd e (j + t)) ∧ Hid (IsD wr pc gc m e) ∧ Hid (IsD wr pb gb m e) ∧ Hid (IsD wr p g m d) ∧ Hid (HB w [(qw, Obj.cells (SA d.S) 41 (0, 0))] wr)) (fun i _ => L2 - (intOf i).toNat)
      case atStart => exact ⟨0, d, by omega, rfl, HBd0, HC7, HE7, HD7, HH7⟩
      case round =>
        clear HC7 HE7 HD7 HH7 HBd0
        have hj1 : j ≤ 140737488355328 := hb1
        generalize j = J at *
        obtain ⟨j, e, hj, rfl, HBd, HC, HE, HD, HH⟩ := hrel
        by_cases hlt : j < L2
        · have hc0 : ∃ x o ad cp, b2 = some ⟨x, o, none⟩ ∧ w.cell? ⟨x, o + j * 2, none⟩ = some (.int .i64 (w2s.getD j (0, [])).1) ∧ w.cell? ⟨x, o + j * 2 + 1, none⟩ = some (.slice ad (w2s.getD j (0, [])).2.length cp) ∧ x < w.heap.size ∧ BytesAt w ad (w2s.getD j (0, [])).2 := by
            rcases HW2.out with h | ⟨x, o, h1, h2, h3⟩
            · have := hL2.out; rw [h] at this; simp at this; omega
            · obtain ⟨ad, cp, h4, h5, h6⟩ := h3 j (by rw [hL2.out]; exact hlt)
              exact ⟨x, o, ad, cp, h1, h4, h5, h2, h6⟩
          obtain ⟨x, o, ad, cp, rfl, hcN, hcB, hxl, hby⟩ := hc0
          have HXL := hid hxl
          have HCN := hid hcN
          have HCB := hid hcB
          clear hcB hcN hxl
          have hx64 : I64 (w2s.getD j (0, [])).1 := by
            have hlt' : j < w2s.length := by rw [hL2.out]; exact hlt
            rw [List.getD_eq_getElem?_getD, List.getElem?_eq_getElem hlt']
            exact HX2.out _ (List.getElem_mem hlt')
          have HPN := hid fun w => pick_any (w2s.getD j (0, [])).1 (m : Int) w hx64 (by omega) (by omega)
          have HOF := hid fun w h => of_any (w2s.getD j (0, [])).2 _ rfl ad cp w h
          have hsl := ofS_len (w2s.getD j (0, [])).2
          have HBY := hid hby
          have hq := pickN_bd (w2s.getD j (0, [])).1 (show (1 : Int) ≤ (m : Int) by omega)
          generalize ofS (w2s.getD j (0, [])).2 = s at *
          generalize (w2s.getD j (0, [])).1 = N at *
          generalize (w2s.getD j (0, [])).2 = z at *
          generalize pickN N (m : Int) = q at *
          have hjl : (j : Int) < (L2 : Int) := by omega
          clear hby hx64
          have HCr := hid HC.out.drew
          have HEr := hid HE.out.drew
          have HDr := hid HD.out.drew
          have hbd := HBd.out
          have hbw0 : 0 ≤ e.wr := hbd.1
          have hbw1 : e.wr ≤ ((J + j : Nat) : Int) := hbd.2.1
          have hbl := hbd.2.2
          have HBn : Hid (Bd (writeD e m q s) (J + j + 1)) := HBd.out.write
          clear hlt hbd HC HE HD
          go_wp2_with fail
          refine wp_region_noPanic ?_
          refine wp_region_held_drew (S := HB w [(qw, Obj.cells (SA d.S) 41 (0, 0))]) (by kernel_rfl) HH.out.drew (fun hHeld => ?_)
          generalize wr.drew = wd at *
          refine takeVal 0 113 (.pointer (some ⟨pc, 0, none⟩)) rfl (by kernel_rfl) (by kernel_rfl) (by kernel_rfl) rfl (by rfl) (fun _ _ _ h => h) hHeld (fun _ hw' => rfl) ?_
          simp only [List.setIfInBounds_toArray, List.set_cons_zero, List.set_cons_succ]
          refine takeVal 1 114 (.slice (some ⟨x, o, none⟩) L2 c2) rfl (by kernel_rfl) (by kernel_rfl) (by kernel_rfl) rfl (by rfl) (fun _ _ _ h => h) hHeld (fun _ hw' => rfl) ?_
          simp only [List.setIfInBounds_toArray, List.set_cons_zero, List.set_cons_succ]
          refine takeVal 2 115 (.int .i64 (j : Int)) rfl (by kernel_rfl) (by kernel_rfl) (by kernel_rfl) rfl (by rfl) (fun _ _ _ h => h) hHeld (fun _ hw' => rfl) ?_
          simp only [List.setIfInBounds_toArray, List.set_cons_zero, List.set_cons_succ]
          refine takeVal 3 116 (.pointer (some ⟨x, o + j * 2, none⟩)) rfl (by kernel_rfl) (by kernel_rfl) (by kernel_rfl) rfl (by rfl) (fun _ _ _ h => h) hHeld (fun _ hw' => by go_simp) ?_
          simp only [List.setIfInBounds_toArray, List.set_cons_zero, List.set_cons_succ]
          refine takeVal 4 117 (.pointer (some ⟨x, o + j * 2, none⟩)) rfl (by kernel_rfl) (by kernel_rfl) (by kernel_rfl) rfl (by rfl) (fun _ _ _ h => h) hHeld (fun _ hw' => by go_simp) ?_
          simp only [List.setIfInBounds_toArray, List.set_cons_zero, List.set_cons_succ]
          refine takeVal 5 118 (.int .i64 N) rfl (by kernel_rfl) (by kernel_rfl) (by kernel_rfl) rfl (by rfl) (fun _ _ _ h => h) hHeld (fun _ hw' => by have hc := (hw'.old.cell (p := ⟨x, o + j * 2, none⟩) HXL.out).trans HCN.out; go_simp) ?_
          simp only [List.setIfInBounds_toArray, List.set_cons_zero, List.set_cons_succ]
          refine takeVal 6 119 (.slice a m cap) rfl (by kernel_rfl) (by kernel_rfl) (by kernel_rfl) rfl (by rfl) (fun _ _ _ h => h) hHeld (fun _ hw' => rfl) ?_
          simp only [List.setIfInBounds_toArray, List.set_cons_zero, List.set_cons_succ]
          refine takeVal 7 120 (.int .i64 (m : Int)) rfl (by kernel_rfl) (by kernel_rfl) (by kernel_rfl) rfl (by rfl) (fun _ _ _ h => h) hHeld (fun _ hw' => by go_simp) ?_
          simp only [List.setIfInBounds_toArray, List.set_cons_zero, List.set_cons_succ]
          refine takeVal 9 122 (.slice (some ⟨x, o, none⟩) L2 c2) rfl (by kernel_rfl) (by kernel_rfl) (by kernel_rfl) rfl (by rfl) (fun _ _ _ h => h) hHeld (fun _ hw' => rfl) ?_
          simp only [List.setIfInBounds_toArray, List.set_cons_zero, List.set_cons_succ]
          refine takeVal 10 123 (.int .i64 (j : Int)) rfl (by kernel_rfl) (by kernel_rfl) (by kernel_rfl) rfl (by rfl) (fun _ _ _ h => h) hHeld (fun _ hw' => rfl) ?_
          simp only [List.setIfInBounds_toArray, List.set_cons_zero, List.set_cons_succ]
          refine takeVal 11 124 (.pointer (some ⟨x, o + j * 2, none⟩)) rfl (by kernel_rfl) (by kernel_rfl) (by kernel_rfl) rfl (by rfl) (fun _ _ _ h => h) hHeld (fun _ hw' => by go_simp) ?_
          simp only [List.setIfInBounds_toArray, List.set_cons_zero, List.set_cons_succ]
          refine takeVal 12 125 (.pointer (some ⟨x, o + j * 2 + 1, none⟩)) rfl (by kernel_rfl) (by kernel_rfl) (by kernel_rfl) rfl (by rfl) (fun _ _ _ h => h) hHeld (fun _ hw' => by go_simp) ?_
          simp only [List.setIfInBounds_toArray, List.set_cons_zero, List.set_cons_succ]
          refine takeVal 13 126 (.slice ad z.length cp) rfl (by kernel_rfl) (by kernel_rfl) (by kernel_rfl) rfl (by rfl) (fun _ _ _ h => h) hHeld (fun _ hw' => by have hc := (hw'.old.cell (p := ⟨x, o + j * 2 + 1, none⟩) HXL.out).trans HCB.out; go_simp) ?_
          simp only [List.setIfInBounds_toArray, List.set_cons_zero, List.set_cons_succ]
          refine step1 8 (by kernel_rfl) ?_
          refine stCall 8 121 24 #[.int .i64 N, .int .i64 (m : Int)] _ rfl rfl (by rfl) (by go_simp) (HPN.out _) ?_
          rintro e wd ⟨rfl, rfl⟩
          refine ⟨_, rfl, hHeld, ?_⟩
          simp only [List.setIfInBounds_toArray, List.set_cons_zero, List.set_cons_succ]
          refine step1 14 (by kernel_rfl) ?_
          refine stCall 14 127 22 #[.slice ad z.length cp] _ rfl rfl (by rfl) (by go_simp) (HOF.out _ (bytes_below HBY.out hHeld.old)) ?_
          rintro e wf ⟨rfl, hbf⟩
          refine ⟨_, rfl, hHeld.call hbf, ?_⟩
          have hHeld1 := hHeld.call hbf
          clear hHeld
          have hHeld := hHeld1
          clear hHeld1
          simp only [List.setIfInBounds_toArray, List.set_cons_zero, List.set_cons_succ]
          refine step1 15 (by kernel_rfl) ?_
          refine stCall 15 128 29 #[.pointer (some ⟨pc, 0, none⟩), .int .i64 q, .agg (SA s)] _ rfl rfl (by rfl) (by go_simp) (write_any q s _ (HCr.out.call hbf) hsl hbw0 (by omega) hbl) ?_
          rintro e wz ⟨rfl, hdz, hmz⟩
          have hHeldz : HB w [(qw, Obj.cells (SA d.S) 41 (0, 0))] wz := hHeld.mod hmz HNq1.out HPC.out
          refine ⟨_, rfl, hHeldz, ?_⟩
          clear hHeld
          have hHeld := hHeldz
          clear hHeldz
          simp only [List.setIfInBounds_toArray, List.set_cons_zero, List.set_cons_succ]
          refine takeVal 16 18 (.int .i64 (writeE e m q)) rfl (by kernel_rfl) (by kernel_rfl) (by kernel_rfl) rfl (by rfl) (fun _ _ _ h => h) hHeld (fun _ hw' => rfl) ?_
          simp only [List.setIfInBounds_toArray, List.set_cons_zero, List.set_cons_succ]
          refine wpAnyH_done (by kernel_rfl) ?_ _
          refine NoPanic.normal ?_
          have HC2 := hid hdz
          have HE2 := hid ((HEr.out.call hbf).keep hmz HN1.out.2.2.1 HN1.out.2.2.2.1)
          have HD2 := hid ((HDr.out.call hbf).keep hmz HN1.out.1 HN1.out.2.1)
          have HH2 := hid hHeld
          clear hdz hmz hbf hHeld HCr HEr HDr
          generalize wz = wy at *
          go_wp2_with fail
          have HCr := hid HC2.out.drew
          have HEr := hid HE2.out.drew
          have HDr := hid HD2.out.drew
          clear HC2 HE2 HD2
          refine wp_region_noPanic ?_
          refine wp_region_held_drew (S := HB w [(qw, Obj.cells (SA d.S) 41 (0, 0))]) (by kernel_rfl) HH2.out.drew (fun hHeld => ?_)
          generalize wy.drew = wd at *
          refine takeVal 0 129 (.pointer (some ⟨pb, 0, none⟩)) rfl (by kernel_rfl) (by kernel_rfl) (by kernel_rfl) rfl (by rfl) (fun _ _ _ h => h) hHeld (fun _ hw' => rfl) ?_
          simp only [List.setIfInBounds_toArray, List.set_cons_zero, List.set_cons_succ]
          refine takeVal 1 130 (.slice (some ⟨x, o, none⟩) L2 c2) rfl (by kernel_rfl) (by kernel_rfl) (by kernel_rfl) rfl (by rfl) (fun _ _ _ h => h) hHeld (fun _ hw' => rfl) ?_
          simp only [List.setIfInBounds_toArray, List.set_cons_zero, List.set_cons_succ]
          refine takeVal 2 131 (.int .i64 (j : Int)) rfl (by kernel_rfl) (by kernel_rfl) (by kernel_rfl) rfl (by rfl) (fun _ _ _ h => h) hHeld (fun _ hw' => rfl) ?_
          simp only [List.setIfInBounds_toArray, List.set_cons_zero, List.set_cons_succ]
          refine takeVal 3 132 (.pointer (some ⟨x, o + j * 2, none⟩)) rfl (by kernel_rfl) (by kernel_rfl) (by kernel_rfl) rfl (by rfl) (fun _ _ _ h => h) hHeld (fun _ hw' => by go_simp) ?_
          simp only [List.setIfInBounds_toArray, List.set_cons_zero, List.set_cons_succ]
          refine takeVal 4 133 (.pointer (some ⟨x, o + j * 2, none⟩)) rfl (by kernel_rfl) (by kernel_rfl) (by kernel_rfl) rfl (by rfl) (fun _ _ _ h => h) hHeld (fun _ hw' => by go_simp) ?_
          simp only [List.setIfInBounds_toArray, List.set_cons_zero, List.set_cons_succ]
          refine takeVal 5 134 (.int .i64 N) rfl (by kernel_rfl) (by kernel_rfl) (by kernel_rfl) rfl (by rfl) (fun _ _ _ h => h) hHeld (fun _ hw' => by have hc := (hw'.old.cell (p := ⟨x, o + j * 2, none⟩) HXL.out).trans HCN.out; go_simp) ?_
          simp only [List.setIfInBounds_toArray, List.set_cons_zero, List.set_cons_succ]
          refine takeVal 6 135 (.slice a m cap) rfl (by kernel_rfl) (by kernel_rfl) (by kernel_rfl) rfl (by rfl) (fun _ _ _ h => h) hHeld (fun _ hw' => rfl) ?_
          simp only [List.setIfInBounds_toArray, List.set_cons_zero, List.set_cons_succ]
          refine takeVal 7 136 (.int .i64 (m : Int)) rfl (by kernel_rfl) (by kernel_rfl) (by kernel_rfl) rfl (by rfl) (fun _ _ _ h => h) hHeld (fun _ hw' => by go_simp) ?_
          simp only [List.setIfInBounds_toArray, List.set_cons_zero, List.set_cons_succ]
          refine takeVal 9 138 (.slice (some ⟨x, o, none⟩) L2 c2) rfl (by kernel_rfl) (by kernel_rfl) (by kernel_rfl) rfl (by rfl) (fun _ _ _ h => h) hHeld (fun _ hw' => rfl) ?_
          simp only [List.setIfInBounds_toArray, List.set_cons_zero, List.set_cons_succ]
          refine takeVal 10 139 (.int .i64 (j : Int)) rfl (by kernel_rfl) (by kernel_rfl) (by kernel_rfl) rfl (by rfl) (fun _ _ _ h => h) hHeld (fun _ hw' => rfl) ?_
          simp only [List.setIfInBounds_toArray, List.set_cons_zero, List.set_cons_succ]
          refine takeVal 11 140 (.pointer (some ⟨x, o + j * 2, none⟩)) rfl (by kernel_rfl) (by kernel_rfl) (by kernel_rfl) rfl (by rfl) (fun _ _ _ h => h) hHeld (fun _ hw' => by go_simp) ?_
          simp only [List.setIfInBounds_toArray, List.set_cons_zero, List.set_cons_succ]
          refine takeVal 12 141 (.pointer (some ⟨x, o + j * 2 + 1, none⟩)) rfl (by kernel_rfl) (by kernel_rfl) (by kernel_rfl) rfl (by rfl) (fun _ _ _ h => h) hHeld (fun _ hw' => by go_simp) ?_
          simp only [List.setIfInBounds_toArray, List.set_cons_zero, List.set_cons_succ]
          refine takeVal 13 142 (.slice ad z.length cp) rfl (by kernel_rfl) (by kernel_rfl) (by kernel_rfl) rfl (by rfl) (fun _ _ _ h => h) hHeld (fun _ hw' => by have hc := (hw'.old.cell (p := ⟨x, o + j * 2 + 1, none⟩) HXL.out).trans HCB.out; go_simp) ?_
          simp only [List.setIfInBounds_toArray, List.set_cons_zero, List.set_cons_succ]
          refine step1 8 (by kernel_rfl) ?_
          refine stCall 8 137 24 #[.int .i64 N, .int .i64 (m : Int)] _ rfl rfl (by rfl) (by go_simp) (HPN.out _) ?_
          rintro e wd ⟨rfl, rfl⟩
          refine ⟨_, rfl, hHeld, ?_⟩
          simp only [List.setIfInBounds_toArray, List.set_cons_zero, List.set_cons_succ]
          refine step1 14 (by kernel_rfl) ?_
          refine stCall 14 143 22 #[.slice ad z.length cp] _ rfl rfl (by rfl) (by go_simp) (HOF.out _ (bytes_below HBY.out hHeld.old)) ?_
          rintro e wf ⟨rfl, hbf⟩
          refine ⟨_, rfl, hHeld.call hbf, ?_⟩
          have hHeld1 := hHeld.call hbf
          clear hHeld
          have hHeld := hHeld1
          clear hHeld1
          simp only [List.setIfInBounds_toArray, List.set_cons_zero, List.set_cons_succ]
          refine step1 15 (by kernel_rfl) ?_
          refine stCall 15 144 29 #[.pointer (some ⟨pb, 0, none⟩), .int .i64 q, .agg (SA s)] _ rfl rfl (by rfl) (by go_simp) (write_any q s _ (HEr.out.call hbf) hsl hbw0 (by omega) hbl) ?_
          rintro e wz ⟨rfl, hdz, hmz⟩
          have hHeldz : HB w [(qw, Obj.cells (SA d.S) 41 (0, 0))] wz := hHeld.mod hmz HNq2.out HPB.out
          refine ⟨_, rfl, hHeldz, ?_⟩
          clear hHeld
          have hHeld := hHeldz
          clear hHeldz
          simp only [List.setIfInBounds_toArray, List.set_cons_zero, List.set_cons_succ]
          refine takeVal 16 19 (.int .i64 (writeE e m q)) rfl (by kernel_rfl) (by kernel_rfl) (by kernel_rfl) rfl (by rfl) (fun _ _ _ h => h) hHeld (fun _ hw' => rfl) ?_
          simp only [List.setIfInBounds_toArray, List.set_cons_zero, List.set_cons_succ]
          refine wpAnyH_done (by kernel_rfl) ?_ _
          refine NoPanic.normal ?_
          have HE3 := hid hdz
          have HC3 := hid ((HCr.out.call hbf).keep hmz HN1.out.2.2.2.2.2.2.1 HN1.out.2.2.2.2.2.2.2.1)
          have HD3 := hid ((HDr.out.call hbf).keep hmz HN1.out.2.2.2.2.1 HN1.out.2.2.2.2.2.1)
          have HH3 := hid hHeld
          clear hdz hmz hbf hHeld HCr HEr HDr
          generalize writeD e m q s = e2 at *
          generalize writeE e m q = E at *
          go_wp2_with (first | (go_at_call 16; refine (writes_any _ HE5.out).mono ?_; rintro e' w8 ⟨rfl, rfl⟩) | (go_at_call 16; refine (writes_any _ HC3.out).mono ?_; rintro e' w8 ⟨rfl, rfl⟩; have HE5 := HE3) | (go_at_call 17; refine (down_any _ HE4.out).mono ?_; rintro e' w8 ⟨rfl, rfl⟩) | (go_at_call 17; refine (down_any _ HC3.out).mono ?_; rintro e' w8 ⟨rfl, rfl⟩; have HE4 := HE3))
          exact ⟨⟨j + 1, e2, by omega, by go_num, HBn, HC3, HE3, HD3, HH3⟩, by simp [intOf]; omega⟩
        · have e' : j = L2 := by omega
          subst e'
          clear hj
          go_upto_region 34 with (first | (go_at_call 30; refine (restart_any _ HC12.out).mono ?_; rintro e' w13 ⟨rfl, hc13, hm13⟩; have HC13 := hid hc13; have HD13 := hid (HD12.out.keep hm13 HN1.out.2.2.2.2.2.2.2.2.1 HN1.out.2.2.2.2.2.2.2.2.2); have HB13 := hid (hm13.to HB12.out HB12.out.size (fun k hk => HPC.out k (by simp at hk; simp [hk]))); clear hc13 hm13) | (go_at_call 13; refine (same_any d.S m _ _ _ _ _ HD11.out.len HBD.out (row_bytes (t := 41) (HH11.out.get (g := q3) (by simp))) (row_bytes (t := 41) (HH11.out.get (g := qw) (by simp)))).mono ?_; rintro e' w12 ⟨rfl, j12, rfl⟩; have HC12 := hid (HC11.out.drewN j12); have HD12 := hid (HD11.out.drewN j12); have HB12 := hid (HH11.out.old.trans (below_drewN _ _ j12))) | (go_at_call 12; refine (image_any _ HD10.out).mono ?_; rintro e' w11 ⟨q3, rfl, hq0, hq1, hq2⟩; have HC11 := hid (HC10.out.call hq2); have HD11 := hid (HD10.out.call hq2); have HH11 := hid ((HH10.out.call hq2).more hq1); clear hq0 hq1 hq2) | (go_at_call 13; refine (same_any e.S m _ _ _ _ _ HC9.out.len HBD.out (row_bytes (t := 41) (HH9.out.get (g := q1) (by simp))) (row_bytes (t := 41) (HH9.out.get (g := q2) (by simp)))).mono ?_; rintro e' w10 ⟨rfl, j10, rfl⟩; have HC10 := hid (HC9.out.drewN j10); have HD10 := hid (HD9.out.drewN j10); have HH10 := hid (HH9.out.tail.tail.drewN (n := j10))) | (go_at_call 12; refine (image_any _ HE8.out).mono ?_; rintro e' w9 ⟨q2, rfl, hq0, hq1, hq2⟩; have HC9 := hid (HC8.out.call hq2); have HD9 := hid (HD8.out.call hq2); have HH9 := hid ((HH8.out.call hq2).more hq1); clear hq0 hq1 hq2) | (go_at_call 12; refine (image_any _ HC.out).mono ?_; rintro e' w8 ⟨q1, rfl, hq0, hq1, hq2⟩; have HC8 := hid (HC.out.call hq2); have HE8 := hid (HE.out.call hq2); have HD8 := hid (HD.out.call hq2); have HH8 := hid ((HH.out.call hq2).more hq1); clear hq0 hq1 hq2))
          go_wp2_with (first | (go_at_call 16; refine (writes_any _ HD13.out).mono ?_; rintro e' w14 ⟨rfl, rfl⟩) | (go_at_call 17; refine (down_any _ HC14.out).mono ?_; rintro e' w14 ⟨rfl, rfl⟩) | (go_at_call 17; refine (down_any _ HD13.out).mono ?_; rintro e' w14 ⟨rfl, rfl⟩; have HC14 := HC13))
          go_ret
          exact ⟨rfl, HB13.out⟩

theorem apart_walk (im : List (List Int)) (a : Option Addr) (cap : Nat) (k : Int) (w1s : List (Int × List Int)) (b1 : Option Addr) (c1 : Nat) (w2s : List (Int × List Int)) (b2 : Option Addr) (c2 : Nat) (w : World) (hk : I64 k) (h1 : w1s.length ≤ 140737488355328) (h2 : w2s.length ≤ 140737488355328) (HI : ImgAt w a im) (HW1 : WrAt w b1 w1s) (HX1 : ∀ x, x ∈ w1s → I64 x.1) (HW2 : WrAt w b2 w2s) (HX2 : ∀ x, x ∈ w2s → I64 x.1) :
    Calls Try.prog 8 #[.agg #[.slice a im.length cap, .int .i64 k, .slice b1 w1s.length c1, .slice b2 w2s.length c2]] w fun e w' => e = .returned (.bool true) ∧ Below w.heap.size w w' := by
  by_cases h : im.length = 0 ∨ 4096 < im.length
  · exact apart_none _ a cap k b1 b2 _ c1 _ c2 w h
  · exact apart_some im _ rfl a cap k w1s _ rfl b1 c1 w2s _ rfl b2 c2 w (by omega) (by omega) hk h1 h2 HI HW1 HX1 HW2 HX2


end Go.Proofs.Ytcgchdcbbiahnaa
