/-
  FsckNothing: no disk; one whose power is off.
-/
import Derived.Test.YtboammbcoleicaaGreatGC
namespace Go.Proofs.YtboammbcoleicaaGreat
open Go.RowKit Go.Shelf

set_option maxHeartbeats 2000000 in
set_option maxRecDepth 100000 in
theorem nothing_walk (s : Int) (a : Option Addr) (l : List Spt) (c : Nat) (w : World) (hs : I64 s) (hl : SptsAt w a l) (hok : ∀ x ∈ l, OkSpt x) (hll : l.length ≤ 9223372036854775807) :
    Calls Tryz.prog 4 #[.agg #[.int .i64 s, .slice a l.length c]] w fun e w' => e = .returned (.bool true) ∧ Below w.heap.size w w' := by
  have hzr := zero_rep
  have HIm : Hid (∀ W, Chg w W No → Calls Tryz.prog 11 #[.agg #[.int .i64 s, .slice a l.length c]] W fun e w' => ∃ g im, e = .returned (.slice (some ⟨g, 0, none⟩) im.length im.length) ∧ 1 ≤ im.length ∧ im.length ≤ 200 ∧ WtAt w' g im ∧ Chg W w' No) := hid (fun W hW => by
    refine (image_any s a l c W hs (hl.keep hW (fun _ _ e => e)) hok hll).mono ?_
    rintro e w' ⟨g, rfl, _, h3, h4⟩
    have hn := nP_bd s
    rw [← picI_len s l] at hn ⊢
    exact ⟨g, picI s l, rfl, hn.1, hn.2, h3, h4⟩)
  have hA := Chg.alloc w (.cells #[.int .i64 s, .slice a l.length c] 25) No
  have hA2 := heap_alloc_new w (.cells #[.int .i64 s, .slice a l.length c] 25)
  have hR0 := run_nil (w.alloc (.cells #[.int .i64 s, .slice a l.length c] 25))
  generalize l.length = m at *
  have HA := hid hA
  have HA2 := hid hA2
  have HK := hid known_any
  clear hs hl hok hll hA hA2
  go_enter Tryz.func4, Tryz.ntmps4
  go_upto_region 2 with (first
    | (go_at_call 10; go_must (refine hR0.mono ?_; rintro e w1 ⟨rfl, hc1⟩))
    | (refine store_R rfl 29 _ _ rfl w1.heap.size nil4 rfl rfl 29 _ (heap_alloc_new _ _) szRep rfl nil4_one ?_; intro w2 hw2)
    | fail)
  have h12 : Chg w1 w2 No := (Chg.alloc w1 _ No).trans (kt_new hw2) (fun _ _ e => e) (fun j hj e => by omega)
  have HC2 := hid ((HA.out.tr hc1).tr h12)
  have HP2 := hid ((hc1.tr h12).keep HA2.out (fun e => e))
  have HG2 := hid hw2.here
  have hIm := HIm.out w2 HC2.out
  obtain ⟨b, hb⟩ : ∃ y, y = w.heap.size := ⟨_, rfl⟩
  obtain ⟨b2, hb2⟩ : ∃ y, y = w1.heap.size := ⟨_, rfl⟩
  rw [← hb] at HP2 ⊢
  rw [← hb2] at HG2 ⊢
  have HB := hid hb
  clear hb hb2 h12 hc1 hw2 hR0 hzr
  go_upto_region 3 with (first
    | (refine load_R rfl 25 _ rfl b rfl 25 _ _ HP2.out Tryz.underlying25 rfl (by kernel_rfl) ?_)
    | (go_at_call 11; go_must (refine hIm.mono ?_; rintro e w3 ⟨q, im, rfl, hn1, hn2, hwq, hc3⟩))
    | fail)
  have hFr := dk_from (ic := im.length) (ImgAt.of_wt hwq) hn1 (by omega)
  have HC3 := hid (HC2.out.tr hc3)
  have HG3 := hid (hc3.keep HG2.out (fun e => e))
  have HWq := hid hwq
  obtain ⟨n, hn⟩ : ∃ y, y = im.length := ⟨_, rfl⟩
  rw [← hn] at hFr hn1 hn2 ⊢
  have HN := hid hn
  clear hn hwq hc3 hIm
  go_upto_region 4 with (first
    | (go_at_call 12; go_must (refine hFr.mono ?_; rintro e w4 ⟨p, g, rfl, hp4, hg4, hd4, hc4⟩))
    | fail)
  have HC4 := hid (HC3.out.tr hc4)
  have HG4 := hid (hc4.keep HG3.out (fun e => e))
  have HW4 := hid (HWq.out.keep hc4 (fun e => e))
  have HPG : Hid (q < p ∧ q < g ∧ b2 < p ∧ b2 < g ∧ w.heap.size ≤ p ∧ w.heap.size ≤ g) := hid (by have := HWq.out.lt; have := slt HG3.out; have := HC3.out.size; omega)
  have HD4 := hid hd4
  have c0 : w4.cell? ⟨b2, 0, none⟩ = some (.slice none 0 0) := (cell_of_row _ _ _ _ _ _ HG4.out).trans rfl
  have hK4 := HK.out w4
  clear hc4 hd4 hp4 hg4 hFr
  go_upto_region 6 with (first
    | (go_at_call 9; go_must (refine hK4.mono ?_; rintro e w5 ⟨rfl, hc5⟩))
    | fail)
  have HC5 := hid (HC4.out.tr hc5)
  have HW5 := hid (HW4.out.keep hc5 (fun e => e))
  have HD5 := hid (HD4.out.call hc5)
  have hAr := D.arm_any 0 w5 HD5.out.d
  clear hc5 hK4 c0
  rw [← HN.out] at hAr
  have eA : D.armE ⟨im.flatten, 0, false, false, 0⟩ 0 = 0 ∧ D.armD ⟨im.flatten, 0, false, false, 0⟩ 0 = ⟨im.flatten, 0, false, true, 0⟩ := ⟨rfl, rfl⟩
  rw [eA.1, eA.2] at hAr
  clear eA
  go_upto_region 7 with (first
    | (go_at_call 13; go_must (refine hAr.mono ?_; rintro e w6 ⟨rfl, hd6, hm6⟩))
    | fail)
  have hc6 : Chg w5 w6 (fun k => k = p) := (mod_chg hm6).mono fun k _ e => by simpa using e
  have HD6 : Hid (DK w6 p g im 0 false true 0) := hid ⟨by rw [← HN.out]; exact hd6, HD5.out.s⟩
  have HC6 : Hid (Chg w w6 No) := hid (HC5.out.trans hc6 (fun _ _ e => e) (fun j hj e => by have := HPG.out; omega))
  have HW6 := hid (HW5.out.keep hc6 (by have := HPG.out; omega))
  obtain ⟨s0, hs0⟩ : ∃ y, y = secI im ((0 : Nat) : Int) := ⟨_, rfl⟩
  have HR0 := hid (HW6.out.range (k := 0) (by rw [← HN.out]; omega))
  have HS0 : Hid (IsSec s0) := hid (by rw [hs0]; exact HW6.out.sec _)
  rw [← hs0] at HR0
  have HSA : Hid ((s0.map (Value.int .u8)).toArray = SA s0) := hid rfl
  have hWr := dk_cut HD6.out 0 s0 (by rw [← HN.out]; omega) HS0.out (by omega)
  rw [Int.natCast_zero] at hWr
  have i3 : (0 : Int) < (n : Int) := by omega
  clear hm6 hd6 hc6 hAr hs0
  go_upto_region 9 with (first
    | (refine load_mid 40 _ rfl q (0 * 128) rfl _ _ HR0.out Tryz.underlying40 rfl (by rw [sz26, List.length_map]; exact congrArg some HS0.out.1.symm) (by rfl) ?_; rw [HSA.out])
    | (go_at_call 14; go_must (refine hWr.mono ?_; rintro e w7 ⟨rfl, hd7, hc7⟩))
    | fail)
  have HD7 := hid hd7
  have HC7 : Hid (Chg w w7 No) := hid (HC6.out.trans hc7 (fun _ _ e => e) (fun j hj e => by have := HPG.out; omega))
  have HW7 := hid (HW6.out.keep hc7 (by have := HPG.out; omega))
  have hRd := run_down hd7
  have hzr := zero_rep
  clear hd7 hc7 hWr
  go_upto_region 10 with (first
    | (go_at_call 10; go_must (refine hRd.mono ?_; rintro e w8 ⟨rfl, hc8⟩))
    | (refine store_R rfl 29 _ _ rfl w8.heap.size nil4 rfl rfl 29 _ (heap_alloc_new _ _) szRep rfl nil4_one ?_; intro w9 hw9)
    | fail)
  have h79 : Chg w7 w9 No := (hc8.tr (Chg.alloc w8 _ No)).trans (kt_new hw9) (fun _ _ e => e) (fun j hj e => by have := hc8.size; omega)
  have HG9 := hid hw9.here
  obtain ⟨b9, hb9⟩ : ∃ y, y = w8.heap.size := ⟨_, rfl⟩
  rw [← hb9] at HG9 ⊢
  have HB9 : Hid (g < b9 ∧ p < b9) := hid (by have := HD7.out.lt; have := hc8.size; omega)
  have HC9 := hid (HC7.out.tr h79)
  have HW9 := hid (HW7.out.keep h79 (fun e => e))
  have HD9 := hid (HD7.out.call h79)
  have hWs := D.writes_any w9 HD9.out.d
  have hRs := D.restart_any w9 HD9.out.d
  clear h79 hw9 hc8 hb9 hRd
  go_upto_region 11 with (first
    | (go_at_call 15; go_must (refine hWs.mono ?_; rintro e w10 ⟨rfl, hw10⟩; obtain rfl : w9 = w10 := hw10.symm))
    | fail)
  go_upto_region 12 with (first
    | (go_at_call 16; go_must (refine hRs.mono ?_; rintro e w11 ⟨rfl, hd11, hm11⟩))
    | fail)
  have hc11 : Chg w9 w11 (fun k => k = p) := (mod_chg hm11).mono fun k _ e => by simpa using e
  have HD11 : Hid (DK w11 p g im 0 false false 0) := hid ⟨hd11, HD9.out.s⟩
  have HC11 : Hid (Chg w w11 No) := hid (HC9.out.trans hc11 (fun _ _ e => e) (fun j hj e => by have := HPG.out; omega))
  have HW11 := hid (HW9.out.keep hc11 (by have := HPG.out; omega))
  have hG11 := hc11.keep HG9.out (by have := HB9.out; omega)
  have r0 : w11.cell? ⟨b9, 0, none⟩ = some (.slice none 0 0) := (cell_of_row _ _ _ _ _ _ hG11).trans rfl
  have r1 : w11.cell? ⟨b9, 1, none⟩ = some (.slice none 0 0) := (cell_of_row _ _ _ _ _ _ hG11).trans rfl
  have r2 : w11.cell? ⟨b9, 2, none⟩ = some (.slice none 0 0) := (cell_of_row _ _ _ _ _ _ hG11).trans rfl
  have r3 : w11.cell? ⟨b9, 3, none⟩ = some (.slice none 0 0) := (cell_of_row _ _ _ _ _ _ hG11).trans rfl
  have hI11 := dk_image HD11.out
  rw [← HN.out] at hI11
  have HSm : Hid (∀ W z, Chg w11 W No → WtAt W z im → Calls Tryz.prog 17 #[.slice (some ⟨z, 0, none⟩) n n, .slice (some ⟨q, 0, none⟩) n n] W fun e w' => e = .returned (.bool true) ∧ Chg W w' No) := hid (fun W z hW hz => by
    have := secs_same im (some ⟨z, 0, none⟩) (some ⟨q, 0, none⟩) n n W (by rw [← HN.out]; omega) (ImgAt.of_wt hz) (ImgAt.of_wt (HW11.out.keep hW (fun e => e)))
    rw [← HN.out] at this
    exact this)
  clear hm11 hd11 hc11 hG11 hRs hWs
  go_wp2_with (first
    | (go_at_call 18; go_must (refine hI11.mono ?_; rintro e w12 ⟨z, rfl, hz, hwz, hc12⟩; have hSm := HSm.out w12 z hc12 hwz))
    | (go_at_call 17; go_must (refine hSm.mono ?_; rintro e w13 ⟨rfl, hc13⟩))
    | fail)
  go_ret
  exact ⟨rfl, ((HC11.out.tr hc12).tr hc13).below⟩
end Go.Proofs.YtboammbcoleicaaGreat
