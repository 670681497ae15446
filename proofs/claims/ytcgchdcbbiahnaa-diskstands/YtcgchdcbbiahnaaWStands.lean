/-
  DiskStands returns true: the walk.
-/
import Derived.Test.YtcgchdcbbiahnaaLaw3
namespace Go.Proofs.Ytcgchdcbbiahnaa
open Go.RowKit

/-- The j-th write: its place and its sector. -/
def wq (m : Nat) (ws : List (Int × List Int)) (j : Nat) : Nat := (pickN (ws.getD j (0, [])).1 (m : Int)).toNat
def wsec (ws : List (Int × List Int)) (j : Nat) : List Int := ofS (ws.getD j (0, [])).2
/-- What stands behind j writes. -/
def stS (m : Nat) (ws : List (Int × List Int)) (F : List Int) : Nat → List Int
  | 0 => F
  | j + 1 => over (stS m ws F j) (wq m ws j * 128) (wsec ws j)
/-- What one sector is behind j writes. -/
def wantS (m : Nat) (ws : List (Int × List Int)) (F : List Int) (n : Nat) : Nat → List Int
  | 0 => secK F n
  | j + 1 => if wq m ws j = n then wsec ws j else wantS m ws F n j
theorem stS_len (m : Nat) (ws : List (Int × List Int)) (F : List Int) : ∀ j, (stS m ws F j).length = F.length
  | 0 => rfl
  | j + 1 => by rw [stS, over_len, stS_len m ws F j]
theorem over_get : ∀ (r l : List Int) (o t : Nat), (t < o ∨ o + r.length ≤ t) → (over l o r)[t]? = l[t]?
  | [], _, _, _, _ => rfl
  | x :: r, l, o, t, h => by
    rw [over, over_get r (l.set o x) (o + 1) t (by simp only [List.length_cons] at h; omega), List.getElem?_set_ne (by simp only [List.length_cons] at h; omega)]
theorem secK_other {l s : List Int} {k i : Nat} (hs : s.length = 128) (hne : k ≠ i) : secK (over l (k * 128) s) i = secK l i := by
  unfold secK
  apply List.ext_getElem?
  intro j
  simp only [List.getElem?_take, List.getElem?_drop]
  split
  · rw [over_get _ _ _ _ (by rw [hs]; omega)]
  · rfl
theorem wsec_len (ws : List (Int × List Int)) (j : Nat) : (wsec ws j).length = 128 := ofS_len _
theorem wq_lt (m : Nat) (ws : List (Int × List Int)) (j : Nat) (h : 1 ≤ m) : wq m ws j < m := by
  have := pickN_bd (ws.getD j (0, [])).1 (show (1 : Int) ≤ (m : Int) by omega)
  unfold wq
  omega
theorem want_st (m : Nat) (ws : List (Int × List Int)) (F : List Int) (n : Nat) (hF : F.length = 128 * m) (hm : 1 ≤ m) (hn : n < m) : ∀ j, secK (stS m ws F j) n = wantS m ws F n j
  | 0 => rfl
  | j + 1 => by
    have hl : (stS m ws F j).length = 128 * m := by rw [stS_len]; exact hF
    rw [stS, wantS]
    by_cases c : wq m ws j = n
    · rw [if_pos c, ← c]
      exact secK_over hl (wq_lt m ws j hm) (wsec_len ws j)
    · rw [if_neg c, secK_other (wsec_len ws j) c]
      exact want_st m ws F n hF hm hn j
theorem wantS_len (m : Nat) (ws : List (Int × List Int)) (F : List Int) (n : Nat) (hF : F.length = 128 * m) (hn : n < m) : ∀ j, (wantS m ws F n j).length = 128
  | 0 => secK_len hF hn
  | j + 1 => by
    rw [wantS]
    split
    · exact ofS_len _
    · exact wantS_len m ws F n hF hn j
theorem apart1 {p g a : Nat} {o : Obj} (h1 : a ≠ p) (h2 : a ≠ g) : ∀ x, x ∈ [(a, o)] → x.1 ∉ [p, g] := by
  intro x hx
  rw [List.mem_singleton.1 hx]
  simp [h1, h2]
theorem apart_more {p g a : Nat} {o : Obj} {bl : List (Nat × Obj)} (h : ∀ x, x ∈ bl → x.1 ∉ [p, g]) (h1 : a ≠ p) (h2 : a ≠ g) : ∀ x, x ∈ (a, o) :: bl → x.1 ∉ [p, g] := by
  intro x hx
  rcases List.mem_cons.1 hx with e | e
  · rw [e]; simp [h1, h2]
  · exact h x e
theorem wrap_I64 (x : Int) : I64 (wrap64 x) := by
  unfold I64 wrap64
  omega

set_option maxRecDepth 100000 in
set_option maxHeartbeats 4000000 in
theorem stands_none (m : Nat) (a : Option Addr) (cap : Nat) (b : Option Addr) (L cb : Nat) (w : World) (h : m = 0 ∨ 4096 < m) : Calls Try.prog 7 #[.slice a m cap, .slice b L cb] w fun e w' => e = .returned (.bool true) ∧ Below w.heap.size w w' := by
  have HF := hid fun w => fits_any m cap a w
  by_cases h5 : m ≤ 5000
  · rw [decide_eq_true h5] at HF
    rcases h with rfl | h
    · go_enter Try.func7, Try.ntmps7
      go_wp2_with (first | (go_at_call 9; refine (awake_any _).mono ?_; rintro e w1 ⟨rfl, hb1⟩) | (go_at_call 18; refine (HF.out _).mono ?_; rintro e w2 ⟨rfl, rfl⟩))
      go_ret
      exact ⟨rfl, hb1⟩
    · have hz : ((m : Int) == 0) = false := by simp; omega
      have hg : (4096 : Int) < (m : Int) := by omega
      clear h5 h
      go_enter Try.func7, Try.ntmps7
      go_wp2_with (first | (go_at_call 9; refine (awake_any _).mono ?_; rintro e w1 ⟨rfl, hb1⟩) | (go_at_call 18; refine (HF.out _).mono ?_; rintro e w2 ⟨rfl, rfl⟩))
      go_ret
      exact ⟨rfl, hb1⟩
  · rw [decide_eq_false h5] at HF
    clear h h5
    go_enter Try.func7, Try.ntmps7
    go_wp2_with (first | (go_at_call 9; refine (awake_any _).mono ?_; rintro e w1 ⟨rfl, hb1⟩) | (go_at_call 18; refine (HF.out _).mono ?_; rintro e w2 ⟨rfl, rfl⟩))
    go_ret
    exact ⟨rfl, hb1⟩

set_option maxRecDepth 100000 in
set_option maxHeartbeats 8000000 in
theorem stands_some (im : List (List Int)) (m : Nat) (hm : Hid (im.length = m)) (a : Option Addr) (cap : Nat) (ws : List (Int × List Int)) (L : Nat) (hL : Hid (ws.length = L)) (b : Option Addr) (cb : Nat) (w : World) (h0 : 1 ≤ m) (h1 : m ≤ 4096) (hL2 : L ≤ 140737488355328) (HI : Hid (ImgAt w a im)) (HW : Hid (WrAt w b ws)) (H64 : Hid (∀ x, x ∈ ws → I64 x.1)) :
    Calls Try.prog 7 #[.slice a m cap, .slice b L cb] w fun e w' => e = .returned (.bool true) ∧ Below w.heap.size w w' := by
  have hz := zero_sec
  have hgd := guard_sec
  have HF := hid fun w => fits_any m cap a w
  rw [decide_eq_true (show m ≤ 5000 by omega)] at HF
  have HLD := hid fun w h => llaid_any im m hm (by omega) a cap w h
  have HSP := hid (laid_split im)
  have HSL := hid (flat_len (secs_all im))
  rw [secs_len, hm.out] at HSL
  rw [HSP.out] at HLD
  generalize flat (secs im) = F at *
  generalize flat marks = MM at *
  have hmz : ((m : Int) == 0) = false := by simp; omega
  have hm4 : ¬ (4096 : Int) < (m : Int) := by omega
  have hm3 : (m : Int) ≤ (m : Int) + 3 := by omega
  go_enter Try.func7, Try.ntmps7
  go_wp2_with (first | (go_at_call 9; refine (awake_any _).mono ?_; rintro e w1 ⟨rfl, hb1⟩; have HB1 := hid hb1; clear hb1) | (go_at_call 18; refine (HF.out _).mono ?_; rintro e w2 ⟨rfl, rfl⟩) | (go_at_call 19; refine (HLD.out _ (HI.out.below HB1.out)).mono ?_; rintro e w2 ⟨g1, rfl, hg1, hr1, hb2⟩; have HB2 := hid (HB1.out.trans (hb2.mono HB1.out.size)); have HR1 := hid hr1; clear hg1 hr1 hb2) | (go_at_call 20; refine (from_ok m _ _ F _ h0 h1 HSL (row_pre HR1.out)).mono ?_; rintro e w3 ⟨p, g, rfl, hp0, hg0, hd3, hb3⟩; have HD3 : Hid (IsD w3 p g m ⟨stS m ws F 0, ((0 : Nat) : Int), false, false, 0⟩) := hid hd3; have HH3 : Hid (HB w [(g1, Obj.cells (SA (F ++ MM)) 41 (0, 0))] w3) := hid (HB.call ⟨by simpa using HR1.out, by simpa using slt HR1.out, HB2.out⟩ hb3); have HP0 := hid (Nat.le_trans HB2.out.size hp0); have HG0 := hid (Nat.le_trans HB2.out.size hg0); have HN1 : Hid (g1 ≠ p) := Nat.ne_of_lt (Nat.lt_of_lt_of_le (slt HR1.out) hp0); have HN2 : Hid (g1 ≠ g) := Nat.ne_of_lt (Nat.lt_of_lt_of_le (slt HR1.out) hg0); clear hd3 hb3 hp0 hg0))
  have HPG : Hid (∀ k, k ∈ [p, g] → w.heap.size ≤ k) := by
    show ∀ k, k ∈ [p, g] → w.heap.size ≤ k
    intro k hk
    rcases List.mem_cons.1 hk with e | e
    · rw [e]; exact HP0.out
    · rw [List.mem_singleton.1 e]; exact HG0.out
  clear HR1 HB2 HB1
  have HA1 : Hid (∀ x, x ∈ [(g1, Obj.cells (SA (F ++ MM)) 41 (0, 0))] → x.1 ∉ [p, g]) := hid (apart1 HN1.out HN2.out)
  go_loopw [10] (fun i wr => ∃ (j : Nat), j ≤ L ∧ i = .int .i64 j ∧ Hid (IsD wr p g m ⟨stS m ws F j, (j : Int), false, false, 0⟩) ∧ Hid (HB w [(g1, Obj.cells (SA (F ++ MM)) 41 (0, 0))] wr)) (fun i _ => L - (intOf i).toNat)
  case atStart => exact ⟨0, by omega, rfl, HD3, HH3⟩
  case round =>
    clear HD3 HH3
    obtain ⟨j, hj, rfl, HD, HH⟩ := hrel
    by_cases hlt : j < L
    · have hc0 : ∃ x o ad cp, b = some ⟨x, o, none⟩ ∧ wr.cell? ⟨x, o + j * 2, none⟩ = some (.int .i64 (ws.getD j (0, [])).1) ∧ w.cell? ⟨x, o + j * 2 + 1, none⟩ = some (.slice ad (ws.getD j (0, [])).2.length cp) ∧ x < w.heap.size ∧ BytesAt w ad (ws.getD j (0, [])).2 := by
        rcases HW.out with h | ⟨x, o, h1, h2, h3⟩
        · have := hL.out; rw [h] at this; simp at this; omega
        · obtain ⟨ad, cp, h4, h5, h6⟩ := h3 j (by rw [hL.out]; exact hlt)
          exact ⟨x, o, ad, cp, h1, by rw [HH.out.old.cell (p := ⟨x, o + j * 2, none⟩) h2]; exact h4, h5, h2, h6⟩
      obtain ⟨x, o, ad, cp, rfl, hcN, hcB, hxl, hby⟩ := hc0
      have HXL := hid hxl
      have HCB := hid hcB
      clear hcB hxl
      have hx64 : I64 (ws.getD j (0, [])).1 := by
        have hlt' : j < ws.length := by rw [hL.out]; exact hlt
        rw [List.getD_eq_getElem?_getD, List.getElem?_eq_getElem hlt']
        exact H64.out _ (List.getElem_mem hlt')
      have hy64 := wrap_I64 ((ws.getD j (0, [])).1.tdiv 7)
      have HNX : Hid (over (stS m ws F j) (wq m ws j * 128) (wsec ws j) = stS m ws F (j + 1)) := rfl
      have hqm := wq_lt m ws j h0
      have HQE : Hid (pickN (ws.getD j (0, [])).1 (m : Int) = ((wq m ws j : Nat) : Int)) := by
        have := pickN_bd (ws.getD j (0, [])).1 (show (1 : Int) ≤ (m : Int) by omega)
        show _ = _
        unfold wq
        omega
      have HSn : Hid ((stS m ws F j).length = 128 * m) := hid (by rw [stS_len]; exact HSL.out)
      have HNXn : Hid ((stS m ws F (j + 1)).length = 128 * m) := hid (by rw [stS_len]; exact HSL.out)
      have HOF := hid fun w h => of_any (ws.getD j (0, [])).2 _ rfl ad cp w h
      rw [show ofS (ws.getD j (0, [])).2 = wsec ws j from rfl] at HOF
      have hsl : (wsec ws j).length = 128 := ofS_len _
      have HBY := hid hby
      generalize (ws.getD j (0, [])).1 = N at *
      generalize (ws.getD j (0, [])).2 = z at *
      generalize wsec ws j = s at *
      generalize hS2e : stS m ws F (j + 1) = S2 at *
      have HNS := hid hS2e
      clear hS2e
      generalize stS m ws F j = S at *
      generalize wq m ws j = q at *
      have hrb := pickN_bd (wrap64 (N.tdiv 7)) (show (1 : Int) ≤ (m : Int) by omega)
      obtain ⟨r, hr⟩ := Int.eq_ofNat_of_zero_le hrb.1
      have hrm : r < m := by omega
      have HRE : Hid (pickN (wrap64 (N.tdiv 7)) (m : Int) = (r : Int)) := hr
      clear hrb hr hby
      have hcB : wr.cell? ⟨x, o + j * 2 + 1, none⟩ = some (.slice ad z.length cp) := (HH.out.old.cell (p := ⟨x, o + j * 2 + 1, none⟩) HXL.out).trans HCB.out
      have hjl : (j : Int) < (L : Int) := by omega
      have hqm2 : (q : Int) < (m : Int) := by omega
      have hrm2 : (r : Int) < (m : Int) := by omega
      have hC1 : (secK S r).length = 128 := secK_len HSn.out hrm
      have HS2 : Hid (secK S2 q = s) := by show _ = _; rw [← HNX.out]; exact secK_over HSn.out hqm hsl
      have HS3 : Hid (r ≠ q → secK S2 r = secK S r) := by
        show r ≠ q → _ = _
        intro hne
        rw [← HNX.out]
        exact secK_other hsl (fun e => hne e.symm)
      have hC3 : (secK S2 r).length = 128 := secK_len HNXn.out hrm
      generalize hC1e : secK S r = C1 at *
      generalize hC3e : secK S2 r = C3 at *
      replace hC1e := hid hC1e
      replace hC3e := hid hC3e
      clear hlt
      go_upto_region 18 with (first | (refine store_sec rfl _ _ rfl w11.heap.size rfl C3 rfl hC3 Zs Zs_len (heap_alloc_new _ _) ?_; intro w12 hw12; have hq12 := hw12.below (Below.refl_call w11 (.cells (SA Zs) 41)) (Nat.le_refl _); have HD12 := hid (HD11.out.call hq12); have HH12 := hid ((HH11.out.call hq12).more hw12.here); clear hw12 hq12) | (go_at_call 31; refine (read_ok _ _ HD10.out rfl (by omega) hrm2).mono ?_; rintro e w11 ⟨rfl, hb11⟩; rw [Int.toNat_natCast, hC3e.out]; have HD11 := hid (HD10.out.call hb11); have HH11 := hid (HH10.out.call hb11); clear hb11) | (refine store_sec rfl _ _ rfl w9.heap.size rfl s rfl hsl Zs Zs_len (heap_alloc_new _ _) ?_; intro w10 hw10; have hq10 := hw10.below (Below.refl_call w9 (.cells (SA Zs) 41)) (Nat.le_refl _); have HD10 := hid (HD9.out.call hq10); have HH10 := hid ((HH9.out.call hq10).more hw10.here); clear hw10 hq10) | (go_at_call 31; refine (read_ok _ _ HD8.out rfl (by omega) hqm2).mono ?_; rintro e w9 ⟨rfl, hb9⟩; rw [Int.toNat_natCast, HS2.out]; have HD9 := hid (HD8.out.call hb9); have HH9 := hid (HH8.out.call hb9); clear hb9) | (go_at_call 29; refine (write_un _ _ _ HD7.out hsl (by omega) (by omega) (by omega) hqm2).mono ?_; rintro e w8 ⟨rfl, hd8, hm8⟩; rw [Int.toNat_natCast, HNX.out] at hd8; have HD8 := hid hd8; have HH8 := hid (HH7.out.mod hm8 (apart_more HA1.out HU1.out HU2.out) HPG.out); clear hd8 hm8) | (go_at_call 22; refine (HOF.out _ (bytes_below HBY.out HH6.out.old)).mono ?_; rintro e w7 ⟨rfl, hb7⟩; have HD7 := hid (HD6.out.call hb7); have HH7 := hid (HH6.out.call hb7); clear hb7) | (refine store_sec rfl _ _ rfl w5.heap.size rfl C1 rfl hC1 Zs Zs_len (heap_alloc_new _ _) ?_; intro w6 hw6; have hq6 := hw6.below (Below.refl_call w5 (.cells (SA Zs) 41)) (Nat.le_refl _); have HD6 := hid (HD5.out.call hq6); have HH6 := hid ((HH5.out.call hq6).more hw6.here); have HU1 : Hid (w5.heap.size ≠ p) := Nat.ne_of_gt (slt HD5.out.me); have HU2 : Hid (w5.heap.size ≠ g) := Nat.ne_of_gt (slt HD5.out.row); have hcB6 : w6.cell? ⟨x, o + j * 2 + 1, none⟩ = some (.slice ad z.length cp) := (HH6.out.old.cell (p := ⟨x, o + j * 2 + 1, none⟩) HXL.out).trans HCB.out; clear hw6 hq6) | (go_at_call 31; refine (read_ok _ _ HD.out rfl (by omega) hrm2).mono ?_; rintro e w5 ⟨rfl, hb5⟩; rw [Int.toNat_natCast, hC1e.out]; have HD5 := hid (HD.out.call hb5); have HH5 := hid (HH.out.call hb5); clear hb5) | (go_at_call 24; refine (pick_any _ _ _ (by first | exact hx64 | exact hy64) (by omega) (by omega)).mono ?_; rintro e w5 ⟨rfl, rfl⟩; first | rw [HQE.out] | rw [HRE.out]))
      by_cases hrq : r = q
      · subst hrq
        refine wp_region_noPanic ?_
        refine wp_region_held_drew (S := HB w [(w11.heap.size, .cells (SA C3) 41 (0, 0)), (w9.heap.size, .cells (SA s) 41 (0, 0)), (w5.heap.size, .cells (SA C1) 41 (0, 0)), (g1, Obj.cells (SA (F ++ MM)) 41 (0, 0))]) (by kernel_rfl) HH12.out.drew (fun hHeld => ?_)
        have HDd := hid HD12.out.drew
        generalize w12.drew = wd at *
        refine takeVal 0 112 (.int .i64 0) rfl (by kernel_rfl) (by kernel_rfl) (by kernel_rfl) rfl (by rfl) (fun _ _ _ h => h) hHeld (fun _ hw' => rfl) ?_
        simp only [List.setIfInBounds_toArray, List.set_cons_zero, List.set_cons_succ]
        refine takeVal 1 113 (.bool false) rfl (by kernel_rfl) (by kernel_rfl) (by kernel_rfl) rfl (by rfl) (fun _ _ _ h => h) hHeld (fun _ hw' => by go_simp) ?_
        simp only [List.setIfInBounds_toArray, List.set_cons_zero, List.set_cons_succ]
        refine takeVal 2 114 (.bool false) rfl (by kernel_rfl) (by kernel_rfl) (by kernel_rfl) rfl (by rfl) (fun _ _ _ h => h) hHeld (fun _ hw' => rfl) ?_
        simp only [List.setIfInBounds_toArray, List.set_cons_zero, List.set_cons_succ]
        refine takeVal 3 115 (.int .i64 0) rfl (by kernel_rfl) (by kernel_rfl) (by kernel_rfl) rfl (by rfl) (fun _ _ _ h => h) hHeld (fun _ hw' => rfl) ?_
        simp only [List.setIfInBounds_toArray, List.set_cons_zero, List.set_cons_succ]
        refine takeVal 4 116 (.bool false) rfl (by kernel_rfl) (by kernel_rfl) (by kernel_rfl) rfl (by rfl) (fun _ _ _ h => h) hHeld (fun _ hw' => by go_simp) ?_
        simp only [List.setIfInBounds_toArray, List.set_cons_zero, List.set_cons_succ]
        refine takeVal 5 117 (.bool false) rfl (by kernel_rfl) (by kernel_rfl) (by kernel_rfl) rfl (by rfl) (fun _ _ _ h => h) hHeld (fun _ hw' => rfl) ?_
        simp only [List.setIfInBounds_toArray, List.set_cons_zero, List.set_cons_succ]
        refine takeVal 6 118 (.bool false) rfl (by kernel_rfl) (by kernel_rfl) (by kernel_rfl) rfl (by rfl) (fun _ _ _ h => h) hHeld (fun _ hw' => rfl) ?_
        simp only [List.setIfInBounds_toArray, List.set_cons_zero, List.set_cons_succ]
        refine takeVal 7 119 (.int .i64 0) rfl (by kernel_rfl) (by kernel_rfl) (by kernel_rfl) rfl (by rfl) (fun _ _ _ h => h) hHeld (fun _ hw' => rfl) ?_
        simp only [List.setIfInBounds_toArray, List.set_cons_zero, List.set_cons_succ]
        refine takeVal 8 120 (.bool false) rfl (by kernel_rfl) (by kernel_rfl) (by kernel_rfl) rfl (by rfl) (fun _ _ _ h => h) hHeld (fun _ hw' => by go_simp) ?_
        simp only [List.setIfInBounds_toArray, List.set_cons_zero, List.set_cons_succ]
        refine takeVal 9 121 (.bool false) rfl (by kernel_rfl) (by kernel_rfl) (by kernel_rfl) rfl (by rfl) (fun _ _ _ h => h) hHeld (fun _ hw' => rfl) ?_
        simp only [List.setIfInBounds_toArray, List.set_cons_zero, List.set_cons_succ]
        refine takeVal 10 122 (.bool false) rfl (by kernel_rfl) (by kernel_rfl) (by kernel_rfl) rfl (by rfl) (fun _ _ _ h => h) hHeld (fun _ hw' => rfl) ?_
        simp only [List.setIfInBounds_toArray, List.set_cons_zero, List.set_cons_succ]
        refine takeVal 11 123 (.int .i64 0) rfl (by kernel_rfl) (by kernel_rfl) (by kernel_rfl) rfl (by rfl) (fun _ _ _ h => h) hHeld (fun _ hw' => rfl) ?_
        simp only [List.setIfInBounds_toArray, List.set_cons_zero, List.set_cons_succ]
        refine takeVal 12 124 (.bool false) rfl (by kernel_rfl) (by kernel_rfl) (by kernel_rfl) rfl (by rfl) (fun _ _ _ h => h) hHeld (fun _ hw' => by go_simp) ?_
        simp only [List.setIfInBounds_toArray, List.set_cons_zero, List.set_cons_succ]
        refine takeVal 13 125 (.bool false) rfl (by kernel_rfl) (by kernel_rfl) (by kernel_rfl) rfl (by rfl) (fun _ _ _ h => h) hHeld (fun _ hw' => rfl) ?_
        simp only [List.setIfInBounds_toArray, List.set_cons_zero, List.set_cons_succ]
        refine takeVal 14 126 (.bool false) rfl (by kernel_rfl) (by kernel_rfl) (by kernel_rfl) rfl (by rfl) (fun _ _ _ h => h) hHeld (fun _ hw' => rfl) ?_
        simp only [List.setIfInBounds_toArray, List.set_cons_zero, List.set_cons_succ]
        refine takeSec 15 127 (.tmp 16) (w9.heap.size) (s) (hsl) rfl (by kernel_rfl) (by kernel_rfl) (by kernel_rfl) rfl rfl rfl (by rfl) (fun _ _ _ h => h) hHeld (fun _ hw' => hw'.get (by simp)) ?_
        simp only [List.setIfInBounds_toArray, List.set_cons_zero, List.set_cons_succ]
        refine takeVal 16 128 (.slice (some ⟨x, o, none⟩) L cb) rfl (by kernel_rfl) (by kernel_rfl) (by kernel_rfl) rfl (by rfl) (fun _ _ _ h => h) hHeld (fun _ hw' => rfl) ?_
        simp only [List.setIfInBounds_toArray, List.set_cons_zero, List.set_cons_succ]
        refine takeVal 17 129 (.int .i64 (j : Int)) rfl (by kernel_rfl) (by kernel_rfl) (by kernel_rfl) rfl (by rfl) (fun _ _ _ h => h) hHeld (fun _ hw' => rfl) ?_
        simp only [List.setIfInBounds_toArray, List.set_cons_zero, List.set_cons_succ]
        refine takeVal 18 130 (.pointer (some ⟨x, o + j * 2, none⟩)) rfl (by kernel_rfl) (by kernel_rfl) (by kernel_rfl) rfl (by rfl) (fun _ _ _ h => h) hHeld (fun _ hw' => by go_simp) ?_
        simp only [List.setIfInBounds_toArray, List.set_cons_zero, List.set_cons_succ]
        refine takeVal 19 131 (.pointer (some ⟨x, o + j * 2 + 1, none⟩)) rfl (by kernel_rfl) (by kernel_rfl) (by kernel_rfl) rfl (by rfl) (fun _ _ _ h => h) hHeld (fun _ hw' => by go_simp) ?_
        simp only [List.setIfInBounds_toArray, List.set_cons_zero, List.set_cons_succ]
        refine takeVal 20 132 (.slice ad z.length cp) rfl (by kernel_rfl) (by kernel_rfl) (by kernel_rfl) rfl (by rfl) (fun _ _ _ h => h) hHeld (fun _ hw' => by have hc := (hw'.old.cell (p := ⟨x, o + j * 2 + 1, none⟩) HXL.out).trans HCB.out; go_simp) ?_
        simp only [List.setIfInBounds_toArray, List.set_cons_zero, List.set_cons_succ]
        refine step1 21 (by kernel_rfl) ?_
        refine stCall 21 133 22 #[.slice ad z.length cp] _ rfl rfl (by rfl) (by go_simp) (HOF.out _ (bytes_below HBY.out hHeld.old)) ?_
        rintro e w13 ⟨rfl, hb13⟩
        have HD13 := hid (HDd.out.call hb13)
        refine ⟨_, rfl, hHeld.call hb13, ?_⟩
        have hHeld1 := hHeld.call hb13
        clear hHeld
        have hHeld := hHeld1
        clear hHeld1
        simp only [List.setIfInBounds_toArray, List.set_cons_zero, List.set_cons_succ]
        refine takeVal 22 134 (.bool false) rfl (by kernel_rfl) (by kernel_rfl) (by kernel_rfl) rfl (by rfl) (fun _ _ _ h => h) hHeld (fun _ hw' => by have hq := eq_sec s s hsl hsl; rw [decide_eq_true rfl] at hq; go_simp) ?_
        simp only [List.setIfInBounds_toArray, List.set_cons_zero, List.set_cons_succ]
        refine takeVal 23 135 (.bool false) rfl (by kernel_rfl) (by kernel_rfl) (by kernel_rfl) rfl (by rfl) (fun _ _ _ h => h) hHeld (fun _ hw' => rfl) ?_
        simp only [List.setIfInBounds_toArray, List.set_cons_zero, List.set_cons_succ]
        refine takeVal 24 136 (.bool false) rfl (by kernel_rfl) (by kernel_rfl) (by kernel_rfl) rfl (by rfl) (fun _ _ _ h => h) hHeld (fun _ hw' => rfl) ?_
        simp only [List.setIfInBounds_toArray, List.set_cons_zero, List.set_cons_succ]
        refine takeVal 25 137 (.int .i64 (r : Int)) rfl (by kernel_rfl) (by kernel_rfl) (by kernel_rfl) rfl (by rfl) (fun _ _ _ h => h) hHeld (fun _ hw' => rfl) ?_
        simp only [List.setIfInBounds_toArray, List.set_cons_zero, List.set_cons_succ]
        refine takeVal 26 138 (.int .i64 (r : Int)) rfl (by kernel_rfl) (by kernel_rfl) (by kernel_rfl) rfl (by rfl) (fun _ _ _ h => h) hHeld (fun _ hw' => rfl) ?_
        simp only [List.setIfInBounds_toArray, List.set_cons_zero, List.set_cons_succ]
        refine takeVal 27 139 (.bool false) rfl (by kernel_rfl) (by kernel_rfl) (by kernel_rfl) rfl (by rfl) (fun _ _ _ h => h) hHeld (fun _ hw' => by go_simp) ?_
        simp only [List.setIfInBounds_toArray, List.set_cons_zero, List.set_cons_succ]
        refine takeVal 28 140 (.bool false) rfl (by kernel_rfl) (by kernel_rfl) (by kernel_rfl) rfl (by rfl) (fun _ _ _ h => h) hHeld (fun _ hw' => rfl) ?_
        simp only [List.setIfInBounds_toArray, List.set_cons_zero, List.set_cons_succ]
        refine takeNot 29 141 rfl (by kernel_rfl) (by kernel_rfl) (by kernel_rfl) rfl (by rfl) (fun _ _ _ h => h) hHeld ?_
        simp only [List.setIfInBounds_toArray, List.set_cons_zero, List.set_cons_succ]
        refine takeNot 30 142 rfl (by kernel_rfl) (by kernel_rfl) (by kernel_rfl) rfl (by rfl) (fun _ _ _ h => h) hHeld ?_
        simp only [List.setIfInBounds_toArray, List.set_cons_zero, List.set_cons_succ]
        refine takeNot 31 143 rfl (by kernel_rfl) (by kernel_rfl) (by kernel_rfl) rfl (by rfl) (fun _ _ _ h => h) hHeld ?_
        simp only [List.setIfInBounds_toArray, List.set_cons_zero, List.set_cons_succ]
        refine takeVal 32 144 (.bool false) rfl (by kernel_rfl) (by kernel_rfl) (by kernel_rfl) rfl (by rfl) (fun _ _ _ h => h) hHeld (fun _ hw' => rfl) ?_
        simp only [List.setIfInBounds_toArray, List.set_cons_zero, List.set_cons_succ]
        refine takeVal 33 145 (.bool false) rfl (by kernel_rfl) (by kernel_rfl) (by kernel_rfl) rfl (by rfl) (fun _ _ _ h => h) hHeld (fun _ hw' => rfl) ?_
        simp only [List.setIfInBounds_toArray, List.set_cons_zero, List.set_cons_succ]
        refine wpAnyH_done (by kernel_rfl) ?_ _
        refine NoPanic.normal ?_
        have HHe := hid (hHeld.tail.tail.tail)
        clear hHeld
        go_wp2_with fail
        exact ⟨⟨j + 1, by omega, by go_num, by rw [HNS.out]; exact HD13, HHe⟩, by simp [intOf]; omega⟩
      · rw [HS3.out hrq] at HH12
        refine wp_region_noPanic ?_
        refine wp_region_held_drew (S := HB w [(w11.heap.size, .cells (SA C1) 41 (0, 0)), (w9.heap.size, .cells (SA s) 41 (0, 0)), (w5.heap.size, .cells (SA C1) 41 (0, 0)), (g1, Obj.cells (SA (F ++ MM)) 41 (0, 0))]) (by kernel_rfl) HH12.out.drew (fun hHeld => ?_)
        have HDd := hid HD12.out.drew
        generalize w12.drew = wd at *
        refine takeVal 0 112 (.int .i64 0) rfl (by kernel_rfl) (by kernel_rfl) (by kernel_rfl) rfl (by rfl) (fun _ _ _ h => h) hHeld (fun _ hw' => rfl) ?_
        simp only [List.setIfInBounds_toArray, List.set_cons_zero, List.set_cons_succ]
        refine takeVal 1 113 (.bool false) rfl (by kernel_rfl) (by kernel_rfl) (by kernel_rfl) rfl (by rfl) (fun _ _ _ h => h) hHeld (fun _ hw' => by go_simp) ?_
        simp only [List.setIfInBounds_toArray, List.set_cons_zero, List.set_cons_succ]
        refine takeVal 2 114 (.bool false) rfl (by kernel_rfl) (by kernel_rfl) (by kernel_rfl) rfl (by rfl) (fun _ _ _ h => h) hHeld (fun _ hw' => rfl) ?_
        simp only [List.setIfInBounds_toArray, List.set_cons_zero, List.set_cons_succ]
        refine takeVal 3 115 (.int .i64 0) rfl (by kernel_rfl) (by kernel_rfl) (by kernel_rfl) rfl (by rfl) (fun _ _ _ h => h) hHeld (fun _ hw' => rfl) ?_
        simp only [List.setIfInBounds_toArray, List.set_cons_zero, List.set_cons_succ]
        refine takeVal 4 116 (.bool false) rfl (by kernel_rfl) (by kernel_rfl) (by kernel_rfl) rfl (by rfl) (fun _ _ _ h => h) hHeld (fun _ hw' => by go_simp) ?_
        simp only [List.setIfInBounds_toArray, List.set_cons_zero, List.set_cons_succ]
        refine takeVal 5 117 (.bool false) rfl (by kernel_rfl) (by kernel_rfl) (by kernel_rfl) rfl (by rfl) (fun _ _ _ h => h) hHeld (fun _ hw' => rfl) ?_
        simp only [List.setIfInBounds_toArray, List.set_cons_zero, List.set_cons_succ]
        refine takeVal 6 118 (.bool false) rfl (by kernel_rfl) (by kernel_rfl) (by kernel_rfl) rfl (by rfl) (fun _ _ _ h => h) hHeld (fun _ hw' => rfl) ?_
        simp only [List.setIfInBounds_toArray, List.set_cons_zero, List.set_cons_succ]
        refine takeVal 7 119 (.int .i64 0) rfl (by kernel_rfl) (by kernel_rfl) (by kernel_rfl) rfl (by rfl) (fun _ _ _ h => h) hHeld (fun _ hw' => rfl) ?_
        simp only [List.setIfInBounds_toArray, List.set_cons_zero, List.set_cons_succ]
        refine takeVal 8 120 (.bool false) rfl (by kernel_rfl) (by kernel_rfl) (by kernel_rfl) rfl (by rfl) (fun _ _ _ h => h) hHeld (fun _ hw' => by go_simp) ?_
        simp only [List.setIfInBounds_toArray, List.set_cons_zero, List.set_cons_succ]
        refine takeVal 9 121 (.bool false) rfl (by kernel_rfl) (by kernel_rfl) (by kernel_rfl) rfl (by rfl) (fun _ _ _ h => h) hHeld (fun _ hw' => rfl) ?_
        simp only [List.setIfInBounds_toArray, List.set_cons_zero, List.set_cons_succ]
        refine takeVal 10 122 (.bool false) rfl (by kernel_rfl) (by kernel_rfl) (by kernel_rfl) rfl (by rfl) (fun _ _ _ h => h) hHeld (fun _ hw' => rfl) ?_
        simp only [List.setIfInBounds_toArray, List.set_cons_zero, List.set_cons_succ]
        refine takeVal 11 123 (.int .i64 0) rfl (by kernel_rfl) (by kernel_rfl) (by kernel_rfl) rfl (by rfl) (fun _ _ _ h => h) hHeld (fun _ hw' => rfl) ?_
        simp only [List.setIfInBounds_toArray, List.set_cons_zero, List.set_cons_succ]
        refine takeVal 12 124 (.bool false) rfl (by kernel_rfl) (by kernel_rfl) (by kernel_rfl) rfl (by rfl) (fun _ _ _ h => h) hHeld (fun _ hw' => by go_simp) ?_
        simp only [List.setIfInBounds_toArray, List.set_cons_zero, List.set_cons_succ]
        refine takeVal 13 125 (.bool false) rfl (by kernel_rfl) (by kernel_rfl) (by kernel_rfl) rfl (by rfl) (fun _ _ _ h => h) hHeld (fun _ hw' => rfl) ?_
        simp only [List.setIfInBounds_toArray, List.set_cons_zero, List.set_cons_succ]
        refine takeVal 14 126 (.bool false) rfl (by kernel_rfl) (by kernel_rfl) (by kernel_rfl) rfl (by rfl) (fun _ _ _ h => h) hHeld (fun _ hw' => rfl) ?_
        simp only [List.setIfInBounds_toArray, List.set_cons_zero, List.set_cons_succ]
        refine takeSec 15 127 (.tmp 16) (w9.heap.size) (s) (hsl) rfl (by kernel_rfl) (by kernel_rfl) (by kernel_rfl) rfl rfl rfl (by rfl) (fun _ _ _ h => h) hHeld (fun _ hw' => hw'.get (by simp)) ?_
        simp only [List.setIfInBounds_toArray, List.set_cons_zero, List.set_cons_succ]
        refine takeVal 16 128 (.slice (some ⟨x, o, none⟩) L cb) rfl (by kernel_rfl) (by kernel_rfl) (by kernel_rfl) rfl (by rfl) (fun _ _ _ h => h) hHeld (fun _ hw' => rfl) ?_
        simp only [List.setIfInBounds_toArray, List.set_cons_zero, List.set_cons_succ]
        refine takeVal 17 129 (.int .i64 (j : Int)) rfl (by kernel_rfl) (by kernel_rfl) (by kernel_rfl) rfl (by rfl) (fun _ _ _ h => h) hHeld (fun _ hw' => rfl) ?_
        simp only [List.setIfInBounds_toArray, List.set_cons_zero, List.set_cons_succ]
        refine takeVal 18 130 (.pointer (some ⟨x, o + j * 2, none⟩)) rfl (by kernel_rfl) (by kernel_rfl) (by kernel_rfl) rfl (by rfl) (fun _ _ _ h => h) hHeld (fun _ hw' => by go_simp) ?_
        simp only [List.setIfInBounds_toArray, List.set_cons_zero, List.set_cons_succ]
        refine takeVal 19 131 (.pointer (some ⟨x, o + j * 2 + 1, none⟩)) rfl (by kernel_rfl) (by kernel_rfl) (by kernel_rfl) rfl (by rfl) (fun _ _ _ h => h) hHeld (fun _ hw' => by go_simp) ?_
        simp only [List.setIfInBounds_toArray, List.set_cons_zero, List.set_cons_succ]
        refine takeVal 20 132 (.slice ad z.length cp) rfl (by kernel_rfl) (by kernel_rfl) (by kernel_rfl) rfl (by rfl) (fun _ _ _ h => h) hHeld (fun _ hw' => by have hc := (hw'.old.cell (p := ⟨x, o + j * 2 + 1, none⟩) HXL.out).trans HCB.out; go_simp) ?_
        simp only [List.setIfInBounds_toArray, List.set_cons_zero, List.set_cons_succ]
        refine step1 21 (by kernel_rfl) ?_
        refine stCall 21 133 22 #[.slice ad z.length cp] _ rfl rfl (by rfl) (by go_simp) (HOF.out _ (bytes_below HBY.out hHeld.old)) ?_
        rintro e w13 ⟨rfl, hb13⟩
        have HD13 := hid (HDd.out.call hb13)
        refine ⟨_, rfl, hHeld.call hb13, ?_⟩
        have hHeld1 := hHeld.call hb13
        clear hHeld
        have hHeld := hHeld1
        clear hHeld1
        simp only [List.setIfInBounds_toArray, List.set_cons_zero, List.set_cons_succ]
        refine takeVal 22 134 (.bool false) rfl (by kernel_rfl) (by kernel_rfl) (by kernel_rfl) rfl (by rfl) (fun _ _ _ h => h) hHeld (fun _ hw' => by have hq := eq_sec s s hsl hsl; rw [decide_eq_true rfl] at hq; go_simp) ?_
        simp only [List.setIfInBounds_toArray, List.set_cons_zero, List.set_cons_succ]
        refine takeVal 23 135 (.bool false) rfl (by kernel_rfl) (by kernel_rfl) (by kernel_rfl) rfl (by rfl) (fun _ _ _ h => h) hHeld (fun _ hw' => rfl) ?_
        simp only [List.setIfInBounds_toArray, List.set_cons_zero, List.set_cons_succ]
        refine takeVal 24 136 (.bool false) rfl (by kernel_rfl) (by kernel_rfl) (by kernel_rfl) rfl (by rfl) (fun _ _ _ h => h) hHeld (fun _ hw' => rfl) ?_
        simp only [List.setIfInBounds_toArray, List.set_cons_zero, List.set_cons_succ]
        refine takeVal 25 137 (.int .i64 (r : Int)) rfl (by kernel_rfl) (by kernel_rfl) (by kernel_rfl) rfl (by rfl) (fun _ _ _ h => h) hHeld (fun _ hw' => rfl) ?_
        simp only [List.setIfInBounds_toArray, List.set_cons_zero, List.set_cons_succ]
        refine takeVal 26 138 (.int .i64 (q : Int)) rfl (by kernel_rfl) (by kernel_rfl) (by kernel_rfl) rfl (by rfl) (fun _ _ _ h => h) hHeld (fun _ hw' => rfl) ?_
        simp only [List.setIfInBounds_toArray, List.set_cons_zero, List.set_cons_succ]
        refine takeVal 27 139 (.bool true) rfl (by kernel_rfl) (by kernel_rfl) (by kernel_rfl) rfl (by rfl) (fun _ _ _ h => h) hHeld (fun _ hw' => by go_simp; omega) ?_
        simp only [List.setIfInBounds_toArray, List.set_cons_zero, List.set_cons_succ]
        refine takeVal 28 140 (.bool true) rfl (by kernel_rfl) (by kernel_rfl) (by kernel_rfl) rfl (by rfl) (fun _ _ _ h => h) hHeld (fun _ hw' => rfl) ?_
        simp only [List.setIfInBounds_toArray, List.set_cons_zero, List.set_cons_succ]
        refine takeSec 29 141 (.tmp 18) (w11.heap.size) (C1) (hC1) rfl (by kernel_rfl) (by kernel_rfl) (by kernel_rfl) rfl rfl rfl (by rfl) (fun _ _ _ h => h) hHeld (fun _ hw' => hw'.get (by simp)) ?_
        simp only [List.setIfInBounds_toArray, List.set_cons_zero, List.set_cons_succ]
        refine takeSec 30 142 (.tmp 13) (w5.heap.size) (C1) (hC1) rfl (by kernel_rfl) (by kernel_rfl) (by kernel_rfl) rfl rfl rfl (by rfl) (fun _ _ _ h => h) hHeld (fun _ hw' => hw'.get (by simp)) ?_
        simp only [List.setIfInBounds_toArray, List.set_cons_zero, List.set_cons_succ]
        refine takeVal 31 143 (.bool false) rfl (by kernel_rfl) (by kernel_rfl) (by kernel_rfl) rfl (by rfl) (fun _ _ _ h => h) hHeld (fun _ hw' => by have hq := eq_sec C1 C1 hC1 hC1; rw [decide_eq_true rfl] at hq; go_simp) ?_
        simp only [List.setIfInBounds_toArray, List.set_cons_zero, List.set_cons_succ]
        refine takeVal 32 144 (.bool false) rfl (by kernel_rfl) (by kernel_rfl) (by kernel_rfl) rfl (by rfl) (fun _ _ _ h => h) hHeld (fun _ hw' => rfl) ?_
        simp only [List.setIfInBounds_toArray, List.set_cons_zero, List.set_cons_succ]
        refine takeVal 33 145 (.bool false) rfl (by kernel_rfl) (by kernel_rfl) (by kernel_rfl) rfl (by rfl) (fun _ _ _ h => h) hHeld (fun _ hw' => rfl) ?_
        simp only [List.setIfInBounds_toArray, List.set_cons_zero, List.set_cons_succ]
        refine wpAnyH_done (by kernel_rfl) ?_ _
        refine NoPanic.normal ?_
        have HHe := hid (hHeld.tail.tail.tail)
        clear hHeld
        go_wp2_with fail
        exact ⟨⟨j + 1, by omega, by go_num, by rw [HNS.out]; exact HD13, HHe⟩, by simp [intOf]; omega⟩
    · have e : j = L := by omega
      subst e
      clear hj
      have HSF : Hid ((stS m ws F j).length = 128 * m) := hid (by rw [stS_len]; exact HSL.out)
      have HWT := hid fun n h => want_st m ws F n HSL.out h0 h j
      have HWL := hid fun n h => wantS_len m ws F n HSL.out h
      generalize stS m ws F j = SF at *
      go_wp2_with (go_at_call 12; refine (image_any _ HD.out).mono ?_; rintro e w5 ⟨ql, rfl, hq0, hq1, hq2⟩; have HD5 := hid (HD.out.call hq2); have HH5 := hid ((HH.out.call hq2).more hq1); clear hq0 hq1 hq2)
      clear HD HH
      go_loopw [21] (fun i wr => ∃ (n : Nat), n ≤ m ∧ i = .int .i64 n ∧ Hid (IsD wr p g m ⟨SF, (j : Int), false, false, 0⟩) ∧ Hid (HB w [(ql, Obj.cells (SA SF) 41 (0, 0)), (g1, Obj.cells (SA (F ++ MM)) 41 (0, 0))] wr)) (fun i _ => m - (intOf i).toNat)
      case atStart => exact ⟨0, by omega, rfl, HD5, HH5⟩
      case round =>
        clear HD5 HH5
        obtain ⟨n, hn, rfl, HD, HH⟩ := hrel
        by_cases hnm : n < m
        · have hnl : (n : Int) < (m : Int) := by omega
          have hnl3 : (n : Int) < (m : Int) + 3 := by omega
          have HMid := hid (row_sec_pre (t := 41) (c := MM) (HH.out.get (g := g1) (by simp)) HSL.out hnm)
          have hWl := (HWL.out n hnm)
          have hC0 := hWl 0
          have HW0 : Hid (secK F n = wantS m ws F n 0) := rfl
          have HWE := hid (HWT.out n hnm)
          have HRD := hid fun w' (h : IsD w' p g m ⟨SF, (j : Int), false, false, 0⟩) => read_ok (n : Int) w' h rfl (by omega) hnl
          rw [Int.toNat_natCast] at HRD
          have HLMid := hid fun (w : World) h => row_sec (w := w) (g := ql) (t := 41) h HSF.out hnm
          rw [HW0.out] at HMid
          rw [HWE.out] at HLMid
          generalize hWF : wantS m ws F n = WF at *
          replace hWF := hid hWF
          clear hnm
          go_wp2_with (first | (refine wpList_load_mid rfl 41 _ rfl g1 (n * 128) rfl ((WF 0).map (Value.int .u8)) _ HMid.out Try.underlying41 rfl (by rw [sz26, List.length_map, hC0]) ?_) | (refine store_sec rfl _ _ rfl wr.heap.size rfl (WF 0) rfl hC0 Zs Zs_len (heap_alloc_new _ _) ?_; intro w6 hw6; have hq6 := hw6.below (Below.refl_call wr (.cells (SA Zs) 41)) (Nat.le_refl _); have HD6 := hid (HD.out.call hq6); have HH6 := hid ((HH.out.call hq6).more hw6.here); have HU0 : Hid (w.heap.size ≤ wr.heap.size) := HH.out.old.size; have HU1 : Hid (wr.heap.size ≠ p) := Nat.ne_of_gt (slt HD.out.me); have HU2 : Hid (wr.heap.size ≠ g) := Nat.ne_of_gt (slt HD.out.row); have HU3 : Hid (∀ x, x ∈ [(ql, Obj.cells (SA SF) 41 (0, 0)), (g1, Obj.cells (SA (F ++ MM)) 41 (0, 0))] → x.1 ≠ wr.heap.size) := hid HH.out.fresh; clear hw6 hq6))
          generalize wr.heap.size = u at *
          clear HD HH HMid
          go_loopw [23] (fun i wq' => ∃ (t : Nat), t ≤ j ∧ i = .int .i64 t ∧ Hid (IsD wq' p g m ⟨SF, (j : Int), false, false, 0⟩) ∧ Hid (HB w [(u, .cells (SA (WF t)) 41 (0, 0)), (ql, Obj.cells (SA SF) 41 (0, 0)), (g1, Obj.cells (SA (F ++ MM)) 41 (0, 0))] wq')) (fun i _ => j - (intOf i).toNat)
          case atStart => exact ⟨0, by omega, rfl, HD6, HH6⟩
          case round =>
            clear HD6 HH6
            obtain ⟨t, ht, rfl, HD, HH⟩ := hrel
            by_cases htj : t < j
            · have hc0 : ∃ x o ad cp, b = some ⟨x, o, none⟩ ∧ wr.cell? ⟨x, o + t * 2, none⟩ = some (.int .i64 (ws.getD t (0, [])).1) ∧ wr.cell? ⟨x, o + t * 2 + 1, none⟩ = some (.slice ad (ws.getD t (0, [])).2.length cp) ∧ BytesAt w ad (ws.getD t (0, [])).2 := by
                rcases HW.out with h | ⟨x, o, h1, h2, h3⟩
                · have := hL.out; rw [h] at this; simp at this; omega
                · obtain ⟨ad, cp, h4, h5, h6⟩ := h3 t (by rw [hL.out]; exact htj)
                  exact ⟨x, o, ad, cp, h1, by rw [HH.out.old.cell (p := ⟨x, o + t * 2, none⟩) h2]; exact h4, by rw [HH.out.old.cell (p := ⟨x, o + t * 2 + 1, none⟩) h2]; exact h5, h6⟩
              obtain ⟨x, o, ad, cp, rfl, hcN, hcB, hby⟩ := hc0
              have hx64 : I64 (ws.getD t (0, [])).1 := by
                have hlt' : t < ws.length := by rw [hL.out]; exact htj
                rw [List.getD_eq_getElem?_getD, List.getElem?_eq_getElem hlt']
                exact H64.out _ (List.getElem_mem hlt')
              have HPN := hid fun w => pick_any (ws.getD t (0, [])).1 (m : Int) w hx64 (by omega) (by omega)
              have HQE : Hid (pickN (ws.getD t (0, [])).1 (m : Int) = ((wq m ws t : Nat) : Int)) := by
                have := pickN_bd (ws.getD t (0, [])).1 (show (1 : Int) ≤ (m : Int) by omega)
                show _ = _
                unfold wq
                omega
              rw [HQE.out] at HPN
              have HOF := hid fun w h => of_any (ws.getD t (0, [])).2 _ rfl ad cp w h
              rw [show ofS (ws.getD t (0, [])).2 = wsec ws t from rfl] at HOF
              have hsl : (wsec ws t).length = 128 := ofS_len _
              have HNT : Hid (WF (t + 1) = if wq m ws t = n then wsec ws t else WF t) := by show _ = _; rw [← hWF.out]; rfl
              have hWt := hWl t
              have HBY := hid hby
              generalize (ws.getD t (0, [])).1 = N at *
              generalize (ws.getD t (0, [])).2 = z at *
              generalize wsec ws t = s at *
              generalize wq m ws t = q at *
              have htl : (t : Int) < (j : Int) := by omega
              clear hby HQE hx64
              by_cases hqn : q = n
              · rw [if_pos hqn] at HNT
                subst hqn
                clear htj
                go_wp2_with (first | (go_at_call 24; refine (HPN.out _).mono ?_; rintro e w7 ⟨rfl, rfl⟩) | (go_at_call 22; refine (HOF.out _ (bytes_below HBY.out HH.out.old)).mono ?_; rintro e w7 ⟨rfl, hb7⟩; have HD7 := hid (HD.out.call hb7); have HH7 := hid (HH.out.call hb7); clear hb7) | (refine store_sec rfl _ _ rfl u rfl s rfl hsl (WF t) hWt (HH7.out.get (by simp)) ?_; intro w8 hw8; have HD8 := hid (HD7.out.keep (Mod.wrote ⟨hw8.here, hw8.other, hw8.size, hw8.os, hw8.tape, hw8.output⟩) (by simpa using HU1.out.symm) (by simpa using HU2.out.symm)); have HH8 := hid (HH7.out.write hw8 HU0.out HU3.out); clear hw8))
                rw [← HNT.out] at HH8
                exact ⟨⟨t + 1, by omega, by go_num, HD8, HH8⟩, by simp [intOf]; omega⟩
              · rw [if_neg hqn] at HNT
                have hqn2 : ((q : Int) == (n : Int)) = false := by simp; omega
                clear htj
                go_wp2_with (go_at_call 24; refine (HPN.out _).mono ?_; rintro e w7 ⟨rfl, rfl⟩)
                rw [← HNT.out] at HH
                exact ⟨⟨t + 1, by omega, by go_num, HD, HH⟩, by simp [intOf]; omega⟩
            · have e : t = j := by omega
              subst e
              clear ht
              have hC := hWl t
              rw [HWE.out] at HRD
              generalize WF t = C at *
              go_upto_region 31 with (first | (refine store_sec rfl _ _ rfl w7.heap.size rfl C rfl hC Zs Zs_len (heap_alloc_new _ _) ?_; intro w8 hw8; have hq8 := hw8.below (Below.refl_call w7 (.cells (SA Zs) 41)) (Nat.le_refl _); have HD8 := hid (HD7.out.call hq8); have HH8 := hid ((HH7.out.call hq8).more hw8.here); clear hw8 hq8) | (go_at_call 31; refine (HRD.out _ HD.out).mono ?_; rintro e w7 ⟨rfl, hb7⟩; have HD7 := hid (HD.out.call hb7); have HH7 := hid (HH.out.call hb7); clear hb7))
              refine wp_region_noPanic ?_
              refine wp_region_held_drew (S := HB w [(w7.heap.size, .cells (SA C) 41 (0, 0)), (u, .cells (SA C) 41 (0, 0)), (ql, Obj.cells (SA SF) 41 (0, 0)), (g1, Obj.cells (SA (F ++ MM)) 41 (0, 0))]) (by kernel_rfl) HH8.out.drew (fun hHeld => ?_)
              have HDd := hid HD8.out.drew
              generalize w8.drew = wd at *
              refine takeVal 0 186 (.int .i64 0) rfl (by kernel_rfl) (by kernel_rfl) (by kernel_rfl) rfl (by rfl) (fun _ _ _ h => h) hHeld (fun _ hw' => rfl) ?_
              simp only [List.setIfInBounds_toArray, List.set_cons_zero, List.set_cons_succ]
              refine takeVal 1 187 (.bool false) rfl (by kernel_rfl) (by kernel_rfl) (by kernel_rfl) rfl (by rfl) (fun _ _ _ h => h) hHeld (fun _ hw' => by go_simp) ?_
              simp only [List.setIfInBounds_toArray, List.set_cons_zero, List.set_cons_succ]
              refine takeVal 2 188 (.bool false) rfl (by kernel_rfl) (by kernel_rfl) (by kernel_rfl) rfl (by rfl) (fun _ _ _ h => h) hHeld (fun _ hw' => rfl) ?_
              simp only [List.setIfInBounds_toArray, List.set_cons_zero, List.set_cons_succ]
              refine takeSec 3 189 (.tmp 24) (w7.heap.size) (C) (hC) rfl (by kernel_rfl) (by kernel_rfl) (by kernel_rfl) rfl rfl rfl (by rfl) (fun _ _ _ h => h) hHeld (fun _ hw' => hw'.get (by simp)) ?_
              simp only [List.setIfInBounds_toArray, List.set_cons_zero, List.set_cons_succ]
              refine takeSec 4 190 (.tmp 22) (u) (C) (hC) rfl (by kernel_rfl) (by kernel_rfl) (by kernel_rfl) rfl rfl rfl (by rfl) (fun _ _ _ h => h) hHeld (fun _ hw' => hw'.get (by simp)) ?_
              simp only [List.setIfInBounds_toArray, List.set_cons_zero, List.set_cons_succ]
              refine takeVal 5 191 (.bool false) rfl (by kernel_rfl) (by kernel_rfl) (by kernel_rfl) rfl (by rfl) (fun _ _ _ h => h) hHeld (fun _ hw' => by have hq := eq_sec C C hC hC; rw [decide_eq_true rfl] at hq; go_simp) ?_
              simp only [List.setIfInBounds_toArray, List.set_cons_zero, List.set_cons_succ]
              refine takeVal 6 192 (.bool false) rfl (by kernel_rfl) (by kernel_rfl) (by kernel_rfl) rfl (by rfl) (fun _ _ _ h => h) hHeld (fun _ hw' => rfl) ?_
              simp only [List.setIfInBounds_toArray, List.set_cons_zero, List.set_cons_succ]
              refine takeVal 7 193 (.bool false) rfl (by kernel_rfl) (by kernel_rfl) (by kernel_rfl) rfl (by rfl) (fun _ _ _ h => h) hHeld (fun _ hw' => rfl) ?_
              simp only [List.setIfInBounds_toArray, List.set_cons_zero, List.set_cons_succ]
              refine takeVal 8 194 (.slice (some ⟨ql, 0, none⟩) m m) rfl (by kernel_rfl) (by kernel_rfl) (by kernel_rfl) rfl (by rfl) (fun _ _ _ h => h) hHeld (fun _ hw' => rfl) ?_
              simp only [List.setIfInBounds_toArray, List.set_cons_zero, List.set_cons_succ]
              refine takeVal 9 195 (.int .i64 (n : Int)) rfl (by kernel_rfl) (by kernel_rfl) (by kernel_rfl) rfl (by rfl) (fun _ _ _ h => h) hHeld (fun _ hw' => rfl) ?_
              simp only [List.setIfInBounds_toArray, List.set_cons_zero, List.set_cons_succ]
              refine takeVal 10 196 (.pointer (some ⟨ql, n * 128, none⟩)) rfl (by kernel_rfl) (by kernel_rfl) (by kernel_rfl) rfl (by rfl) (fun _ _ _ h => h) hHeld (fun _ hw' => by go_simp) ?_
              simp only [List.setIfInBounds_toArray, List.set_cons_zero, List.set_cons_succ]
              refine takeMidS 11 197 (.tmp 196) (ql) (n * 128) (C) (hC) rfl (by kernel_rfl) (by kernel_rfl) (by kernel_rfl) rfl rfl rfl (by rfl) (fun _ _ _ h => h) hHeld (fun _ hw' => HLMid.out _ (hw'.get (by simp))) ?_
              simp only [List.setIfInBounds_toArray, List.set_cons_zero, List.set_cons_succ]
              refine takeSec 12 198 (.tmp 22) (u) (C) (hC) rfl (by kernel_rfl) (by kernel_rfl) (by kernel_rfl) rfl rfl rfl (by rfl) (fun _ _ _ h => h) hHeld (fun _ hw' => hw'.get (by simp)) ?_
              simp only [List.setIfInBounds_toArray, List.set_cons_zero, List.set_cons_succ]
              refine takeVal 13 199 (.bool false) rfl (by kernel_rfl) (by kernel_rfl) (by kernel_rfl) rfl (by rfl) (fun _ _ _ h => h) hHeld (fun _ hw' => by have hq := eq_sec C C hC hC; rw [decide_eq_true rfl] at hq; go_simp) ?_
              simp only [List.setIfInBounds_toArray, List.set_cons_zero, List.set_cons_succ]
              refine takeVal 14 200 (.bool false) rfl (by kernel_rfl) (by kernel_rfl) (by kernel_rfl) rfl (by rfl) (fun _ _ _ h => h) hHeld (fun _ hw' => rfl) ?_
              simp only [List.setIfInBounds_toArray, List.set_cons_zero, List.set_cons_succ]
              refine wpAnyH_done (by kernel_rfl) ?_ _
              refine NoPanic.normal ?_
              have HHe := hid hHeld.tail.tail
              clear hHeld
              go_wp2_with fail
              exact ⟨⟨n + 1, by omega, by go_num, HDd, HHe⟩, by simp [intOf]; omega⟩
        · have e : n = m := by omega
          subst e
          clear hn
          go_wp2_with (go_at_call 16; refine (writes_any _ HD.out).mono ?_; rintro e w9 ⟨rfl, rfl⟩)
          go_ret
          exact ⟨rfl, HH.out.old⟩

theorem stands_walk (im : List (List Int)) (a : Option Addr) (cap : Nat) (ws : List (Int × List Int)) (b : Option Addr) (cb : Nat) (w : World) (hL2 : ws.length ≤ 140737488355328) (HI : ImgAt w a im) (HW : WrAt w b ws) (H64 : ∀ x, x ∈ ws → I64 x.1) :
    Calls Try.prog 7 #[.slice a im.length cap, .slice b ws.length cb] w fun e w' => e = .returned (.bool true) ∧ Below w.heap.size w w' := by
  by_cases h : im.length = 0 ∨ 4096 < im.length
  · exact stands_none _ a cap b _ cb w h
  · exact stands_some im _ rfl a cap ws _ rfl b cb w (by omega) (by omega) hL2 HI HW H64

end Go.Proofs.Ytcgchdcbbiahnaa
