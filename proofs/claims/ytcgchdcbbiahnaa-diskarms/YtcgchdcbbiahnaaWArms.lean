/-
  DiskArms returns true: the walk.
-/
import Derived.Test.YtcgchdcbbiahnaaLaw3
namespace Go.Proofs.Ytcgchdcbbiahnaa
open Go.RowKit

/-- The disk behind j writes, armed with K. -/
def armSt (S : List Int) (j K : Nat) : St8 := ⟨S, ((min j K : Nat) : Int), decide (K < j), true, ((K - min j K : Nat) : Int)⟩
theorem armSt_lt {S : List Int} {j K : Nat} (h : j < K) : armSt S j K = ⟨S, (j : Int), false, true, (K : Int) - (j : Int)⟩ := by
  unfold armSt
  rw [Nat.min_eq_left (Nat.le_of_lt h), decide_eq_false (by omega), Int.natCast_sub (Nat.le_of_lt h)]
theorem armSt_eq {S : List Int} {K : Nat} : armSt S K K = ⟨S, (K : Int), false, true, 0⟩ := by
  unfold armSt
  rw [Nat.min_self, decide_eq_false (by omega), Nat.sub_self]
  rfl
theorem armSt_gt {S : List Int} {j K : Nat} (h : K < j) : armSt S j K = ⟨S, (K : Int), true, true, 0⟩ := by
  unfold armSt
  rw [Nat.min_eq_right (Nat.le_of_lt h), decide_eq_true h, Nat.sub_self]
  rfl
theorem armSt_next {S : List Int} {j K : Nat} (h : j < K) : (⟨S, (j : Int) + 1, false, true, (K : Int) - (j : Int) - 1⟩ : St8) = armSt S (j + 1) K := by
  unfold armSt
  rw [Nat.min_eq_left (by omega), decide_eq_false (by omega)]
  congr 1
  omega
theorem arms_apart {u p g g2 : Nat} {o1 o2 : Obj} (h1 : u ≠ p) (h2 : u ≠ g) (h3 : g2 ≠ p) (h4 : g2 ≠ g) : ∀ x, x ∈ [(u, o1), (g2, o2)] → x.1 ∉ [p, g] := by
  intro x hx
  simp only [List.mem_cons, List.not_mem_nil, or_false] at hx
  rcases hx with rfl | rfl
  · simp [h1, h2]
  · simp [h3, h4]
theorem armSt_zero {S : List Int} {K : Nat} : (⟨S, 0, false, true, (K : Int)⟩ : St8) = armSt S 0 K := by
  unfold armSt
  rw [Nat.zero_min, decide_eq_false (by omega)]
  rfl

set_option maxRecDepth 100000 in
set_option maxHeartbeats 4000000 in
theorem arms_none (m : Nat) (a : Option Addr) (cap : Nat) (k : Int) (b : Option Addr) (L cb : Nat) (w : World) (h : m = 0 ∨ 4096 < m) : Calls Try.prog 6 #[.slice a m cap, .int .i64 k, .slice b L cb] w fun e w' => e = .returned (.bool true) ∧ Below w.heap.size w w' := by
  have HF := hid fun w => fits_any m cap a w
  by_cases h5 : m ≤ 5000
  · rw [decide_eq_true h5] at HF
    rcases h with rfl | h
    · go_enter Try.func6, Try.ntmps6
      go_wp2_with (first | (go_at_call 9; refine (awake_any _).mono ?_; rintro e w1 ⟨rfl, hb1⟩) | (go_at_call 18; refine (HF.out _).mono ?_; rintro e w2 ⟨rfl, rfl⟩))
      go_ret
      exact ⟨rfl, hb1⟩
    · have hz : ((m : Int) == 0) = false := by simp; omega
      have hg : (4096 : Int) < (m : Int) := by omega
      clear h5 h
      go_enter Try.func6, Try.ntmps6
      go_wp2_with (first | (go_at_call 9; refine (awake_any _).mono ?_; rintro e w1 ⟨rfl, hb1⟩) | (go_at_call 18; refine (HF.out _).mono ?_; rintro e w2 ⟨rfl, rfl⟩))
      go_ret
      exact ⟨rfl, hb1⟩
  · rw [decide_eq_false h5] at HF
    clear h h5
    go_enter Try.func6, Try.ntmps6
    go_wp2_with (first | (go_at_call 9; refine (awake_any _).mono ?_; rintro e w1 ⟨rfl, hb1⟩) | (go_at_call 18; refine (HF.out _).mono ?_; rintro e w2 ⟨rfl, rfl⟩))
    go_ret
    exact ⟨rfl, hb1⟩

set_option maxRecDepth 100000 in
set_option maxHeartbeats 8000000 in
theorem arms_some (im : List (List Int)) (m : Nat) (hm : Hid (im.length = m)) (a : Option Addr) (cap : Nat) (k : Int) (ws : List (Int × List Int)) (L : Nat) (hL : Hid (ws.length = L)) (b : Option Addr) (cb : Nat) (w : World) (h0 : 1 ≤ m) (h1 : m ≤ 4096) (hk : I64 k) (hL2 : L ≤ 140737488355328) (HI : Hid (ImgAt w a im)) (HW : Hid (WrAt w b ws)) (H64 : Hid (∀ x, x ∈ ws → I64 x.1)) :
    Calls Try.prog 6 #[.slice a m cap, .int .i64 k, .slice b L cb] w fun e w' => e = .returned (.bool true) ∧ Below w.heap.size w w' := by
  have hz := zero_sec
  have hcv := conv_same
  have hgd := guard_sec
  have HF := hid fun w => fits_any m cap a w
  rw [decide_eq_true (show m ≤ 5000 by omega)] at HF
  have HLD := hid fun w h => llaid_any im m hm (by omega) a cap w h
  have HSP := hid (laid_split im)
  have HSL := hid (flat_len (secs_all im))
  rw [secs_len, hm.out] at HSL
  have HML := hid (flat_len marks_all)
  rw [HSP.out] at HLD
  generalize flat (secs im) = F at *
  generalize flat marks = MM at *
  have HPK := hid fun w => pick_any k ((L : Int) + 2) w hk (by omega) (by omega)
  have hKb := pickN_bd k (show (1 : Int) ≤ (L : Int) + 2 by omega)
  generalize pickN k ((L : Int) + 2) = K0 at *
  obtain ⟨K, rfl⟩ := Int.eq_ofNat_of_zero_le hKb.1
  have hK : K < L + 2 := by omega
  clear hKb
  have HAG := hid fun g w h => of_any [97, 103, 97, 105, 110] 5 rfl (some ⟨g, 0, none⟩) 5 w h
  have hAGl := ofS_len [97, 103, 97, 105, 110]
  generalize ofS [97, 103, 97, 105, 110] = AG at *
  have hmz : ((m : Int) == 0) = false := by simp; omega
  have hm4 : ¬ (4096 : Int) < (m : Int) := by omega
  have hm3 : (m : Int) ≤ (m : Int) + 3 := by omega
  go_enter Try.func6, Try.ntmps6
  go_upto_region 7 with (first | (go_at_call 9; refine (awake_any _).mono ?_; rintro e w1 ⟨rfl, hb1⟩; have HB1 := hid hb1; clear hb1) | (go_at_call 18; refine (HF.out _).mono ?_; rintro e w2 ⟨rfl, rfl⟩) | (go_at_call 19; refine (HLD.out _ (HI.out.below HB1.out)).mono ?_; rintro e w2 ⟨g1, rfl, hg1, hr1, hb2⟩; have HB2 := hid (HB1.out.trans (hb2.mono HB1.out.size)); have HR1 := hid (row_pre hr1); clear hg1 hr1 hb2) | (go_at_call 20; refine (from_ok m _ _ F _ h0 h1 HSL HR1.out).mono ?_; rintro e w3 ⟨p, g, rfl, hp0, hg0, hd3, hb3⟩; have HD3 := hid hd3; have HB3 := hid (HB2.out.trans (hb3.mono HB2.out.size)); have HP0 := hid (Nat.le_trans HB2.out.size hp0); have HG0 := hid (Nat.le_trans HB2.out.size hg0); clear hd3 hb3 hp0 hg0))
  have HPG : Hid (∀ k, k ∈ [p, g] → w.heap.size ≤ k) := by
    show ∀ k, k ∈ [p, g] → w.heap.size ≤ k
    intro k hk
    rcases List.mem_cons.1 hk with e | e
    · rw [e]; exact HP0.out
    · rw [List.mem_singleton.1 e]; exact HG0.out
  go_wp2_with (first | (go_at_call 19; refine (HLD.out _ (HI.out.below HB3.out)).mono ?_; rintro e w4 ⟨g2, rfl, hg2, hr2, hb4⟩; have HB4 := hid (HB3.out.trans (hb4.mono HB3.out.size)); have HR4 := hid hr2; have HD4 := hid (HD3.out.call hb4); have HNP : Hid (g2 ≠ p) := Nat.ne_of_gt (Nat.lt_of_lt_of_le (slt HD3.out.me) hg2); have HNG : Hid (g2 ≠ g) := Nat.ne_of_gt (Nat.lt_of_lt_of_le (slt HD3.out.row) hg2); have HG2 := hid (Nat.le_trans HB3.out.size hg2); clear hg2 hr2 hb4) | (go_at_call 24; refine (HPK.out _).mono ?_; rintro e w5 ⟨rfl, rfl⟩) | (go_at_call 28; refine (arm_go _ _ HD4.out rfl (by omega)).mono ?_; rintro e w5 ⟨rfl, hd5, hm5⟩; have HD5 : Hid (IsD w5 p g m (armSt F 0 K)) := hid (by rw [← armSt_zero]; exact hd5); have HR5 : Hid (w5.heap[g2]? = some (.cells (SA (F ++ MM)) 41 (0, 0))) := hid ((hm5.block g2 (slt HR4.out) (by simpa using HNP.out)).trans HR4.out); have HB5 := hid (hm5.to HB4.out HB4.out.size (by simpa using HP0.out)); clear hd5 hm5))
  clear HD3 HB3 HD4 HB4 HR4 HR1 HB2 HB1
  go_loopw [14] (fun i wr => ∃ (j : Nat) (S : List Int), j ≤ L ∧ i = .int .i64 j ∧ Hid (S.length = 128 * m) ∧ Hid (IsD wr p g m (armSt S j K)) ∧ Hid (wr.heap[g2]? = some (.cells (SA (S ++ MM)) 41 (0, 0))) ∧ Hid (Below w.heap.size w wr)) (fun i _ => L - (intOf i).toNat)
  case atStart => exact ⟨0, F, by omega, rfl, HSL, HD5, HR5, HB5⟩
  case round =>
    clear HD5 HR5 HB5
    obtain ⟨j, S, hj, rfl, HSn, HD, HR, HBl⟩ := hrel
    by_cases hlt : j < L
    · have hc0 : ∃ x o ad cp, b = some ⟨x, o, none⟩ ∧ wr.cell? ⟨x, o + j * 2, none⟩ = some (.int .i64 (ws.getD j (0, [])).1) ∧ wr.cell? ⟨x, o + j * 2 + 1, none⟩ = some (.slice ad (ws.getD j (0, [])).2.length cp) ∧ x < w.heap.size ∧ BytesAt w ad (ws.getD j (0, [])).2 := by
        rcases HW.out with h | ⟨x, o, h1, h2, h3⟩
        · have := hL.out; rw [h] at this; simp at this; omega
        · obtain ⟨ad, cp, h4, h5, h6⟩ := h3 j (by rw [hL.out]; exact hlt)
          exact ⟨x, o, ad, cp, h1, by rw [HBl.out.cell (p := ⟨x, o + j * 2, none⟩) h2]; exact h4, by rw [HBl.out.cell (p := ⟨x, o + j * 2 + 1, none⟩) h2]; exact h5, h2, h6⟩
      obtain ⟨x, o, ad, cp, rfl, hcN, hcB, hxl, hby⟩ := hc0
      have HXL := hid hxl
      have HCB := hid ((HBl.out.cell (p := ⟨x, o + j * 2 + 1, none⟩) hxl).symm.trans hcB)
      have hx64 : I64 (ws.getD j (0, [])).1 := by
        have hlt' : j < ws.length := by rw [hL.out]; exact hlt
        rw [List.getD_eq_getElem?_getD, List.getElem?_eq_getElem hlt']
        exact H64.out _ (List.getElem_mem hlt')
      generalize (ws.getD j (0, [])).1 = N at *
      have HOF := hid fun w h => of_any (ws.getD j (0, [])).2 _ rfl ad cp w h
      have hsl := ofS_len (ws.getD j (0, [])).2
      have HBY := hid hby
      generalize ofS (ws.getD j (0, [])).2 = s at *
      generalize (ws.getD j (0, [])).2 = z at *
      have HPN := hid fun w => pick_any N (m : Int) w hx64 (by omega) (by omega)
      have hq := pickN_bd N (show (1 : Int) ≤ (m : Int) by omega)
      generalize pickN N (m : Int) = q0 at *
      obtain ⟨q, rfl⟩ := Int.eq_ofNat_of_zero_le hq.1
      have hqm : (q : Int) < (m : Int) := hq.2
      have hjl : (j : Int) < (L : Int) := by omega
      clear hq hby hx64
      have HOV : Hid (over (S ++ MM) (q * 128) s = over S (q * 128) s ++ MM) := by
        show _ = _
        exact over_app S s MM _ (by rw [hsl, HSn.out]; omega)
      by_cases hjk : j < K
      · have hjk2 : (j : Int) < (K : Int) := by omega
        have hmin : min ((j : Int) + 1) (K : Int) = (j : Int) + 1 := by omega
        rw [armSt_lt hjk] at HD
        have HNX := hid (armSt_next (S := over S (q * 128) s) hjk)
        clear hlt
        go_wp2_with (first | (go_at_call 22; refine (HOF.out _ (bytes_below HBY.out HB7.out)).mono ?_; rintro e w8 ⟨rfl, hb8⟩; have HD8 := hid (HD7.out.call hb8); have HDe := hid (HDd.out.call hb8); have HR8 := hid ((hb8.block g2 (slt HR7.out)).trans HR7.out); have HB8 := hid (HB7.out.trans (hb8.mono HB7.out.size)); clear hb8) | (refine store_mid rfl _ _ rfl g2 (q * 128) rfl s rfl hsl 41 (S ++ MM) HR8.out (by rw [List.length_append, HSn.out]; omega) ?_; intro w9 hw9; have HD9 := hid (HD8.out.keep (Mod.wrote hw9) (by simpa using HNP.out.symm) (by simpa using HNG.out.symm)); have HDf := hid (HDe.out.keep (Mod.wrote hw9) (by simpa using HNP.out.symm) (by simpa using HNG.out.symm)); have hr9 := hw9.here; rw [HOV.out] at hr9; have HR9 := hid hr9; have HB9 := hid (hw9.below HB8.out HG2.out); clear hw9 hr9) | (go_at_call 16; refine (writes_any _ HDf.out).mono ?_; rintro e w10 ⟨rfl, rfl⟩) | (go_at_call 24; refine (HPN.out _).mono ?_; rintro e w6 ⟨rfl, rfl⟩) | (go_at_call 22; refine (HOF.out _ (bytes_below HBY.out HBl.out)).mono ?_; rintro e w6 ⟨rfl, hb6⟩; have HD6 := hid (HD.out.call hb6); have HR6 := hid ((hb6.block g2 (slt HR.out)).trans HR.out); have HB6 := hid (HBl.out.trans (hb6.mono HBl.out.size)); clear hb6) | (go_at_call 29; refine (write_go _ _ _ HD6.out hsl (by omega) (by omega) (by omega) (by omega) (by omega) hqm).mono ?_; rintro e w7 ⟨rfl, hd7, hm7⟩; rw [Int.toNat_natCast, HNX.out] at hd7; have HD7 := hid hd7; have HR7 := hid ((hm7.block g2 (slt HR6.out) (by simp [HNP.out, HNG.out])).trans HR6.out); have HB7 := hid (hm7.to HB6.out HB6.out.size HPG.out); have hd8 := hd7; rw [← HNX.out] at hd8; have HDd := hid hd8; have hcB7 : w7.cell? ⟨x, o + j * 2 + 1, none⟩ = some (.slice ad z.length cp) := (HB7.out.cell (p := ⟨x, o + j * 2 + 1, none⟩) HXL.out).trans HCB.out; clear hd7 hd8 hm7) | (go_at_call 17; refine (down_any _ HDd.out).mono ?_; rintro e w8 ⟨rfl, rfl⟩))
        exact ⟨⟨j + 1, _, by omega, by go_num, hid (by rw [over_len]; exact HSn.out), HD9, HR9, HB9⟩, by simp [intOf]; omega⟩
      · by_cases hje : j = K
        · subst hje
          rw [armSt_eq] at HD
          have hmin : min ((j : Int) + 1) (j : Int) = (j : Int) := by omega
          have HNX := hid (armSt_gt (S := S) (Nat.lt_succ_self j))
          clear hlt hjk
          go_wp2_with (first | (go_at_call 24; refine (HPN.out _).mono ?_; rintro e w6 ⟨rfl, rfl⟩) | (go_at_call 22; refine (HOF.out _ (bytes_below HBY.out HBl.out)).mono ?_; rintro e w6 ⟨rfl, hb6⟩; have HD6 := hid (HD.out.call hb6); have HR6 := hid ((hb6.block g2 (slt HR.out)).trans HR.out); have HB6 := hid (HBl.out.trans (hb6.mono HBl.out.size)); clear hb6) | (go_at_call 29; refine (write_end _ _ _ HD6.out (by omega) hqm).mono ?_; rintro e w7 ⟨rfl, hd7, hm7⟩; have HD7 := hid hd7; have HR7 := hid ((hm7.block g2 (slt HR6.out) (by simp [HNP.out])).trans HR6.out); have HB7 := hid (hm7.to HB6.out HB6.out.size (by simpa using HP0.out)); clear hd7 hm7) | (go_at_call 17; refine (down_any _ HD7.out).mono ?_; rintro e w8 ⟨rfl, rfl⟩) | (go_at_call 16; refine (writes_any _ HD7.out).mono ?_; rintro e w10 ⟨rfl, rfl⟩))
          exact ⟨⟨j + 1, S, by omega, by go_num, HSn, hid (by rw [HNX.out]; exact HD7.out), HR7, HB7⟩, by simp [intOf]; omega⟩
        · have hgt : K < j := by omega
          rw [armSt_gt hgt] at HD
          have hgt2 : (K : Int) < (j : Int) := by omega
          have hmin : min ((j : Int) + 1) (K : Int) = (K : Int) := by omega
          have HNX := hid (armSt_gt (S := S) (Nat.lt_succ_of_lt hgt))
          clear hlt hjk hje
          go_wp2_with (first | (go_at_call 24; refine (HPN.out _).mono ?_; rintro e w6 ⟨rfl, rfl⟩) | (go_at_call 22; refine (HOF.out _ (bytes_below HBY.out HBl.out)).mono ?_; rintro e w6 ⟨rfl, hb6⟩; have HD6 := hid (HD.out.call hb6); have HR6 := hid ((hb6.block g2 (slt HR.out)).trans HR.out); have HB6 := hid (HBl.out.trans (hb6.mono HBl.out.size)); clear hb6) | (go_at_call 29; refine (write_down _ _ _ HD6.out rfl).mono ?_; rintro e w7 ⟨rfl, hd7, hb7⟩; have HD7 := hid hd7; have HR7 := hid ((hb7.block g2 (slt HR6.out)).trans HR6.out); have HB7 := hid (HB6.out.trans (hb7.mono HB6.out.size)); clear hd7 hb7) | (go_at_call 17; refine (down_any _ HD7.out).mono ?_; rintro e w8 ⟨rfl, rfl⟩) | (go_at_call 16; refine (writes_any _ HD7.out).mono ?_; rintro e w10 ⟨rfl, rfl⟩))
          exact ⟨⟨j + 1, S, by omega, by go_num, HSn, hid (by rw [HNX.out]; exact HD7.out), HR7, HB7⟩, by simp [intOf]; omega⟩
    · have e : j = L := by omega
      subst e
      clear hj
      have HDx := HD.out
      unfold armSt at HDx
      have HD : Hid (IsD wr p g m ⟨S, ((min j K : Nat) : Int), decide (K < j), true, ((K - min j K : Nat) : Int)⟩) := HDx
      have hW : min j K ≤ j := Nat.min_le_left _ _
      clear HDx
      generalize min j K = W0 at *
      generalize decide (K < j) = DN at *
      generalize ((K - W0 : Nat) : Int) = LF at *
      have HBD : Hid (128 * m ≤ 140737488355328) := by show _ ≤ _; omega
      have HPQ := hid fun w => pick_any (K : Int) (m : Int) w ⟨by omega, by omega⟩ (by omega) (by omega)
      have hq := pickN_bd (K : Int) (show (1 : Int) ≤ (m : Int) by omega)
      generalize pickN (K : Int) (m : Int) = q0 at *
      obtain ⟨q, rfl⟩ := Int.eq_ofNat_of_zero_le hq.1
      have hqm : (q : Int) < (m : Int) := hq.2
      clear hq
      have hcl : (secK S q).length = 128 := secK_len HSn.out (by omega)
      have HSO := hid (secK_over (s := AG) HSn.out (show q < m by omega) hAGl)
      have HMid := hid fun (w : World) h => row_sec_pre (w := w) (g := g2) (t := 41) (c := MM) h HSn.out (show q < m by omega)
      generalize hC : secK S q = C at *
      replace hC := hid hC
      go_upto_region 28 with (first | (go_at_call 13; refine (same_any S m _ _ _ _ _ HSn.out HBD.out HQ13.out (row_pre HR13.out)).mono ?_; rintro e w14 ⟨rfl, j14, rfl⟩; have HD14 := hid (HD13.out.drewN j14); have HR14 : Hid ((w13.drewN j14).heap[g2]? = some (.cells (SA (S ++ MM)) 41 (0, 0))) := HR13; have HB14 := hid (HB13.out.trans (below_drewN _ _ j14))) | (go_at_call 12; refine (image_any _ HD12.out).mono ?_; rintro e w13 ⟨q2, rfl, hq0, hq1, hq2⟩; have HD13 := hid (HD12.out.call hq2); have HR13 := hid ((hq2.block g2 (slt HR12.out)).trans HR12.out); have HB13 := hid (HB12.out.trans (hq2.mono HB12.out.size)); have HQ13 := hid (row_bytes hq1); clear hq0 hq1 hq2) | (go_at_call 30; refine (restart_any _ HD11.out).mono ?_; rintro e w12 ⟨rfl, hd12, hm12⟩; have HD12 := hid hd12; have HR12 := hid ((hm12.block g2 (slt HR11.out) (by simpa using HNP.out)).trans HR11.out); have HB12 := hid (hm12.to HB11.out HB11.out.size (by simpa using HP0.out)); clear hd12 hm12) | (go_at_call 13; refine (same_any S m _ _ _ _ _ HSn.out HBD.out HQ10.out (row_pre HR10.out)).mono ?_; rintro e w11 ⟨rfl, j11, rfl⟩; have HD11 := hid (HD10.out.drewN j11); have HR11 : Hid ((w10.drewN j11).heap[g2]? = some (.cells (SA (S ++ MM)) 41 (0, 0))) := HR10; have HB11 := hid (HB10.out.trans (below_drewN _ _ j11))) | (go_at_call 12; refine (image_any _ HD.out).mono ?_; rintro e w10 ⟨q1, rfl, hq0, hq1, hq2⟩; have HD10 := hid (HD.out.call hq2); have HR10 := hid ((hq2.block g2 (slt HR.out)).trans HR.out); have HB10 := hid (HBl.out.trans (hq2.mono HBl.out.size)); have HQ10 := hid (row_bytes hq1); clear hq0 hq1 hq2))
      generalize w13.drewN j14 = wE at *
      clear HD HR HBl HD10 HR10 HB10 HQ10 HD11 HR11 HB11 HD12 HR12 HB12 HD13 HR13 HB13 HQ13
      go_upto_region 32 with (first | (refine store_sec rfl _ _ rfl w19.heap.size rfl AG rfl hAGl Zs Zs_len (heap_alloc_new _ _) ?_; intro w20 hw20; have hq20 := hw20.below (Below.refl_call w19 (.cells (SA Zs) 41)) (Nat.le_refl _); have HD20 := hid (HD19.out.call hq20); have HH20 := hid ((HH19.out.call hq20).more hw20.here); clear hw20 hq20) | (go_at_call 31; refine (read_ok _ _ HD18.out rfl (by omega) hqm).mono ?_; rintro e w19 ⟨rfl, hb19⟩; rw [Int.toNat_natCast, HSO.out]; have HD19 := hid (HD18.out.call hb19); have HH19 := hid (HH18.out.call hb19); clear hb19) | (go_at_call 29; refine (write_un _ _ _ HD17.out hAGl (by omega) (by omega) (by omega) hqm).mono ?_; rintro e w18 ⟨rfl, hd18, hm18⟩; rw [Int.toNat_natCast] at hd18; have HD18 := hid hd18; have HH18 := hid (HH17.out.mod hm18 (arms_apart HU1.out HU2.out HNP.out HNG.out) HPG.out); clear hd18 hm18) | (go_at_call 22; refine (HAG.out _ _ (row_bytesF (heap_alloc_new _ _))).mono ?_; rintro e w17 ⟨rfl, hb17⟩; have hq17 := (Below.refl_call w16 _).trans (hb17.mono (by simp)); have HD17 := hid (HD16.out.call hq17); have HH17 := hid (HH16.out.call hq17); clear hb17 hq17) | (refine store_sec rfl _ _ rfl w15.heap.size rfl C rfl hcl Zs Zs_len (heap_alloc_new _ _) ?_; intro w16 hw16; have hq16 := hw16.below (Below.refl_call w15 (.cells (SA Zs) 41)) (Nat.le_refl _); have HD16 := hid (HD15.out.call hq16); have HH16 := hid ((HH15.out.call hq16).more hw16.here); have HU1 : Hid (w15.heap.size ≠ p) := Nat.ne_of_gt (slt HD15.out.me); have HU2 : Hid (w15.heap.size ≠ g) := Nat.ne_of_gt (slt HD15.out.row); clear hw16 hq16) | (go_at_call 31; refine (read_ok _ _ HD14.out rfl (by omega) hqm).mono ?_; rintro e w15 ⟨rfl, hb15⟩; rw [Int.toNat_natCast, hC.out]; have HD15 := hid (HD14.out.call hb15); have HH15 : Hid (HB w [(g2, .cells (SA (S ++ MM)) 41 (0, 0))] w15) := hid (HB.call ⟨by simpa using HR14.out, by simpa using slt HR14.out, HB14.out⟩ hb15); clear hb15) | (go_at_call 24; refine (HPQ.out _).mono ?_; rintro e w15 ⟨rfl, rfl⟩))
      refine wp_region_noPanic ?_
      refine wp_region_held_drew (S := HB w [(w19.heap.size, .cells (SA AG) 41 (0, 0)), (w15.heap.size, .cells (SA C) 41 (0, 0)), (g2, .cells (SA (S ++ MM)) 41 (0, 0))]) (by kernel_rfl) HH20.out.drew (fun hHeld => ?_)
      have HDd := hid HD20.out.drew
      generalize w20.drew = wd at *
      clear hcv
      refine takeVal 0 173 (.bool true) rfl (by kernel_rfl) (by kernel_rfl) (by kernel_rfl) rfl (by rfl) (fun _ _ _ h => h) hHeld (fun _ hw' => rfl) ?_
      simp only [List.setIfInBounds_toArray, List.set_cons_zero, List.set_cons_succ]
      refine takeVal 1 174 (.bool true) rfl (by kernel_rfl) (by kernel_rfl) (by kernel_rfl) rfl (by rfl) (fun _ _ _ h => h) hHeld (fun _ hw' => rfl) ?_
      simp only [List.setIfInBounds_toArray, List.set_cons_zero, List.set_cons_succ]
      refine takeVal 2 175 (.bool true) rfl (by kernel_rfl) (by kernel_rfl) (by kernel_rfl) rfl (by rfl) (fun _ _ _ h => h) hHeld (fun _ hw' => rfl) ?_
      simp only [List.setIfInBounds_toArray, List.set_cons_zero, List.set_cons_succ]
      refine takeVal 3 176 (.bool true) rfl (by kernel_rfl) (by kernel_rfl) (by kernel_rfl) rfl (by rfl) (fun _ _ _ h => h) hHeld (fun _ hw' => rfl) ?_
      simp only [List.setIfInBounds_toArray, List.set_cons_zero, List.set_cons_succ]
      refine takeVal 4 177 (.bool true) rfl (by kernel_rfl) (by kernel_rfl) (by kernel_rfl) rfl (by rfl) (fun _ _ _ h => h) hHeld (fun _ hw' => rfl) ?_
      simp only [List.setIfInBounds_toArray, List.set_cons_zero, List.set_cons_succ]
      refine takeVal 5 178 (.pointer (some ⟨p, 0, none⟩)) rfl (by kernel_rfl) (by kernel_rfl) (by kernel_rfl) rfl (by rfl) (fun _ _ _ h => h) hHeld (fun _ hw' => rfl) ?_
      simp only [List.setIfInBounds_toArray, List.set_cons_zero, List.set_cons_succ]
      refine step1 6 (by kernel_rfl) ?_
      refine stCall 6 179 17 #[.pointer (some ⟨p, 0, none⟩)] _ rfl rfl (by rfl) (by go_simp) (down_any _ HDd.out) ?_
      rintro e wd ⟨rfl, rfl⟩
      refine ⟨_, rfl, hHeld, ?_⟩
      simp only [List.setIfInBounds_toArray, List.set_cons_zero, List.set_cons_succ]
      refine takeVal 7 180 (.bool true) rfl (by kernel_rfl) (by kernel_rfl) (by kernel_rfl) rfl (by rfl) (fun _ _ _ h => h) hHeld (fun _ hw' => by go_simp) ?_
      simp only [List.setIfInBounds_toArray, List.set_cons_zero, List.set_cons_succ]
      refine takeVal 8 181 (.bool true) rfl (by kernel_rfl) (by kernel_rfl) (by kernel_rfl) rfl (by rfl) (fun _ _ _ h => h) hHeld (fun _ hw' => rfl) ?_
      simp only [List.setIfInBounds_toArray, List.set_cons_zero, List.set_cons_succ]
      refine takeVal 9 182 (.bool true) rfl (by kernel_rfl) (by kernel_rfl) (by kernel_rfl) rfl (by rfl) (fun _ _ _ h => h) hHeld (fun _ hw' => rfl) ?_
      simp only [List.setIfInBounds_toArray, List.set_cons_zero, List.set_cons_succ]
      refine takeSec 10 183 (.tmp 20) (w15.heap.size) (C) (hcl) rfl (by kernel_rfl) (by kernel_rfl) (by kernel_rfl) rfl rfl rfl (by rfl) (fun _ _ _ h => h) hHeld (fun _ hw' => hw'.get (by simp)) ?_
      simp only [List.setIfInBounds_toArray, List.set_cons_zero, List.set_cons_succ]
      refine takeVal 11 184 (.slice (some ⟨g2, 0, none⟩) m (m + 3)) rfl (by kernel_rfl) (by kernel_rfl) (by kernel_rfl) rfl (by rfl) (fun _ _ _ h => h) hHeld (fun _ hw' => rfl) ?_
      simp only [List.setIfInBounds_toArray, List.set_cons_zero, List.set_cons_succ]
      refine takeVal 12 185 (.int .i64 (q : Int)) rfl (by kernel_rfl) (by kernel_rfl) (by kernel_rfl) rfl (by rfl) (fun _ _ _ h => h) hHeld (fun _ hw' => rfl) ?_
      simp only [List.setIfInBounds_toArray, List.set_cons_zero, List.set_cons_succ]
      refine takeVal 13 186 (.pointer (some ⟨g2, q * 128, none⟩)) rfl (by kernel_rfl) (by kernel_rfl) (by kernel_rfl) rfl (by rfl) (fun _ _ _ h => h) hHeld (fun _ hw' => by go_simp) ?_
      simp only [List.setIfInBounds_toArray, List.set_cons_zero, List.set_cons_succ]
      refine takeMidS 14 187 (.tmp 186) (g2) (q * 128) (C) (hcl) rfl (by kernel_rfl) (by kernel_rfl) (by kernel_rfl) rfl rfl rfl (by rfl) (fun _ _ _ h => h) hHeld (fun _ hw' => HMid.out _ (hw'.get (by simp))) ?_
      simp only [List.setIfInBounds_toArray, List.set_cons_zero, List.set_cons_succ]
      refine takeVal 15 188 (.bool true) rfl (by kernel_rfl) (by kernel_rfl) (by kernel_rfl) rfl (by rfl) (fun _ _ _ h => h) hHeld (fun _ hw' => by have hq := eq_sec C C hcl hcl; rw [decide_eq_true rfl] at hq; go_simp) ?_
      simp only [List.setIfInBounds_toArray, List.set_cons_zero, List.set_cons_succ]
      refine takeVal 16 189 (.bool true) rfl (by kernel_rfl) (by kernel_rfl) (by kernel_rfl) rfl (by rfl) (fun _ _ _ h => h) hHeld (fun _ hw' => rfl) ?_
      simp only [List.setIfInBounds_toArray, List.set_cons_zero, List.set_cons_succ]
      refine takeVal 17 190 (.bool true) rfl (by kernel_rfl) (by kernel_rfl) (by kernel_rfl) rfl (by rfl) (fun _ _ _ h => h) hHeld (fun _ hw' => rfl) ?_
      simp only [List.setIfInBounds_toArray, List.set_cons_zero, List.set_cons_succ]
      refine takeVal 18 191 (.int .i64 0) rfl (by kernel_rfl) (by kernel_rfl) (by kernel_rfl) rfl (by rfl) (fun _ _ _ h => h) hHeld (fun _ hw' => rfl) ?_
      simp only [List.setIfInBounds_toArray, List.set_cons_zero, List.set_cons_succ]
      refine takeVal 19 192 (.bool true) rfl (by kernel_rfl) (by kernel_rfl) (by kernel_rfl) rfl (by rfl) (fun _ _ _ h => h) hHeld (fun _ hw' => by go_simp) ?_
      simp only [List.setIfInBounds_toArray, List.set_cons_zero, List.set_cons_succ]
      refine takeVal 20 193 (.bool true) rfl (by kernel_rfl) (by kernel_rfl) (by kernel_rfl) rfl (by rfl) (fun _ _ _ h => h) hHeld (fun _ hw' => rfl) ?_
      simp only [List.setIfInBounds_toArray, List.set_cons_zero, List.set_cons_succ]
      refine takeVal 21 194 (.bool true) rfl (by kernel_rfl) (by kernel_rfl) (by kernel_rfl) rfl (by rfl) (fun _ _ _ h => h) hHeld (fun _ hw' => rfl) ?_
      simp only [List.setIfInBounds_toArray, List.set_cons_zero, List.set_cons_succ]
      refine takeVal 22 195 (.int .i64 0) rfl (by kernel_rfl) (by kernel_rfl) (by kernel_rfl) rfl (by rfl) (fun _ _ _ h => h) hHeld (fun _ hw' => rfl) ?_
      simp only [List.setIfInBounds_toArray, List.set_cons_zero, List.set_cons_succ]
      refine takeVal 23 196 (.bool true) rfl (by kernel_rfl) (by kernel_rfl) (by kernel_rfl) rfl (by rfl) (fun _ _ _ h => h) hHeld (fun _ hw' => by go_simp) ?_
      simp only [List.setIfInBounds_toArray, List.set_cons_zero, List.set_cons_succ]
      refine takeVal 24 197 (.bool true) rfl (by kernel_rfl) (by kernel_rfl) (by kernel_rfl) rfl (by rfl) (fun _ _ _ h => h) hHeld (fun _ hw' => rfl) ?_
      simp only [List.setIfInBounds_toArray, List.set_cons_zero, List.set_cons_succ]
      refine takeVal 25 198 (.bool true) rfl (by kernel_rfl) (by kernel_rfl) (by kernel_rfl) rfl (by rfl) (fun _ _ _ h => h) hHeld (fun _ hw' => rfl) ?_
      simp only [List.setIfInBounds_toArray, List.set_cons_zero, List.set_cons_succ]
      refine takeSec 26 199 (.tmp 23) (w19.heap.size) (AG) (hAGl) rfl (by kernel_rfl) (by kernel_rfl) (by kernel_rfl) rfl rfl rfl (by rfl) (fun _ _ _ h => h) hHeld (fun _ hw' => hw'.get (by simp)) ?_
      simp only [List.setIfInBounds_toArray, List.set_cons_zero, List.set_cons_succ]
      refine step1 27 (by kernel_rfl) ?_
      refine stNew 27 200 (.slice (some ⟨wd.heap.size, 0, none⟩) 5 5) (.cells (SA [97, 103, 97, 105, 110]) 5) rfl rfl (by rfl) (by go_simp; rfl) ⟨(hHeld.alloc _).tail, ?_⟩
      have hHeld0 := hHeld
      have hHeld := (hHeld0.alloc (.cells (SA [97, 103, 97, 105, 110]) 5)).tail
      simp only [List.setIfInBounds_toArray, List.set_cons_zero, List.set_cons_succ]
      refine step1 28 (by kernel_rfl) ?_
      refine stTo 28 201 (.slice (some ⟨wd.heap.size, 0, none⟩) 5 5) (wd.alloc (.cells (SA [97, 103, 97, 105, 110]) 5 (5, 6))) rfl rfl (by rfl) (by have hc := conv_same (wd) (SA [97, 103, 97, 105, 110]) 5 5; go_simp; rfl) ⟨(hHeld0.alloc _).tail, ?_⟩
      clear hHeld
      have hHeld := (hHeld0.alloc (.cells (SA [97, 103, 97, 105, 110]) 5 (5, 6))).tail
      simp only [List.setIfInBounds_toArray, List.set_cons_zero, List.set_cons_succ]
      refine step1 29 (by kernel_rfl) ?_
      refine stCall 29 202 22 #[.slice (some ⟨wd.heap.size, 0, none⟩) 5 5] _ rfl rfl (by rfl) (by go_simp) (HAG.out _ _ (row_bytesF (heap_alloc_new _ _))) ?_
      rintro e w23 ⟨rfl, hb23⟩
      refine ⟨_, rfl, hHeld.call hb23, ?_⟩
      have hHeld1 := hHeld.call hb23
      clear hHeld
      have hHeld := hHeld1
      simp only [List.setIfInBounds_toArray, List.set_cons_zero, List.set_cons_succ]
      refine takeVal 30 203 (.bool true) rfl (by kernel_rfl) (by kernel_rfl) (by kernel_rfl) rfl (by rfl) (fun _ _ _ h => h) hHeld (fun _ hw' => by have hq := eq_sec AG AG hAGl hAGl; rw [decide_eq_true rfl] at hq; go_simp) ?_
      simp only [List.setIfInBounds_toArray, List.set_cons_zero, List.set_cons_succ]
      refine takeVal 31 204 (.bool true) rfl (by kernel_rfl) (by kernel_rfl) (by kernel_rfl) rfl (by rfl) (fun _ _ _ h => h) hHeld (fun _ hw' => rfl) ?_
      simp only [List.setIfInBounds_toArray, List.set_cons_zero, List.set_cons_succ]
      refine takeVal 32 205 (.bool true) rfl (by kernel_rfl) (by kernel_rfl) (by kernel_rfl) rfl (by rfl) (fun _ _ _ h => h) hHeld (fun _ hw' => rfl) ?_
      simp only [List.setIfInBounds_toArray, List.set_cons_zero, List.set_cons_succ]
      refine takeVal 33 206 (.int .i64 0) rfl (by kernel_rfl) (by kernel_rfl) (by kernel_rfl) rfl (by rfl) (fun _ _ _ h => h) hHeld (fun _ hw' => rfl) ?_
      simp only [List.setIfInBounds_toArray, List.set_cons_zero, List.set_cons_succ]
      refine takeVal 34 207 (.bool true) rfl (by kernel_rfl) (by kernel_rfl) (by kernel_rfl) rfl (by rfl) (fun _ _ _ h => h) hHeld (fun _ hw' => by go_simp) ?_
      simp only [List.setIfInBounds_toArray, List.set_cons_zero, List.set_cons_succ]
      refine takeVal 35 208 (.bool true) rfl (by kernel_rfl) (by kernel_rfl) (by kernel_rfl) rfl (by rfl) (fun _ _ _ h => h) hHeld (fun _ hw' => rfl) ?_
      simp only [List.setIfInBounds_toArray, List.set_cons_zero, List.set_cons_succ]
      refine takeVal 36 6 (.bool true) rfl (by kernel_rfl) (by kernel_rfl) (by kernel_rfl) rfl (by rfl) (fun _ _ _ h => h) hHeld (fun _ hw' => rfl) ?_
      simp only [List.setIfInBounds_toArray, List.set_cons_zero, List.set_cons_succ]
      refine wpAnyH_done (by kernel_rfl) ?_ _
      refine NoPanic.normal ?_
      go_wp2_with fail
      go_ret
      exact ⟨rfl, hHeld.old⟩

theorem arms_walk (im : List (List Int)) (a : Option Addr) (cap : Nat) (k : Int) (ws : List (Int × List Int)) (b : Option Addr) (cb : Nat) (w : World) (hk : I64 k) (hL2 : ws.length ≤ 140737488355328) (HI : ImgAt w a im) (HW : WrAt w b ws) (H64 : ∀ x, x ∈ ws → I64 x.1) :
    Calls Try.prog 6 #[.slice a im.length cap, .int .i64 k, .slice b ws.length cb] w fun e w' => e = .returned (.bool true) ∧ Below w.heap.size w w' := by
  by_cases h : im.length = 0 ∨ 4096 < im.length
  · exact arms_none _ a cap k b _ cb w h
  · exact arms_some im _ rfl a cap k ws _ rfl b cb w (by omega) (by omega) hk hL2 HI HW H64

end Go.Proofs.Ytcgchdcbbiahnaa
