/-
  The statements' own helper awake answers true.
-/
import Derived.Test.YtcgchdcbbiahnaaLaw0
namespace Go.Proofs.Ytcgchdcbbiahnaa
open Go.RowKit

theorem armE_ok {d : St8} {k : Int} (hd : d.dn = false) (hk : 0 ≤ k) : armE d k = 0 := by simp [armE, hd]; omega
theorem armD_ok {d : St8} {k : Int} (hd : d.dn = false) (hk : 0 ≤ k) : armD d k = ⟨d.S, d.wr, d.dn, true, k⟩ := by
  unfold armD
  rw [if_neg (by omega), if_neg (by simp [hd])]
theorem refE_ok {d : St8} {n : Nat} {i : Int} (hd : d.dn = false) (h0 : 0 ≤ i) (h1 : i < n) : refE d n i = 0 := by
  unfold refE
  rw [if_neg (by simp [hd]), if_neg (by omega)]
theorem aw1 (Z : List Int) : writeE ⟨Z, 0, false, true, 1⟩ 2 1 = 0 := by simp [writeE, refE]
theorem aw2 (Z s : List Int) : writeD ⟨Z, 0, false, true, 1⟩ 2 1 s = ⟨over Z 128 s, 1, false, true, 0⟩ := by simp [writeD, refE]
theorem aw3 (Z : List Int) : writeE ⟨Z, 1, false, true, 0⟩ 2 0 = 22 := by simp [writeE, refE]
theorem aw4 (Z s : List Int) : writeD ⟨Z, 1, false, true, 0⟩ 2 0 s = ⟨Z, 1, true, true, 0⟩ := by simp [writeD, refE]
theorem aw5 (Z : List Int) : armD (D0 Z) 1 = ⟨Z, 0, false, true, 1⟩ := by simp [armD, D0]
theorem aw6 (Z : List Int) : armE (D0 Z) 1 = 0 := by simp [armE, D0]
theorem awake_over : over (zl 256) 128 (ofS [7, 8]) = Zs ++ ofS [7, 8] := by
  rw [over_eq _ _ _ (by rw [ofS_len, zl_len]; decide), ofS_len, zl, List.take_replicate, List.drop_replicate]
  simp [Zs]
theorem awake_mid {w : World} {q : Nat} (h : w.heap[q]? = some (.cells (SA (over (zl 256) 128 (ofS [7, 8]))) 41 (0, 0))) : w.rangeAt q 128 ((ofS [7, 8]).map (Value.int .u8)) := by
  rw [awake_over] at h
  exact range_behind (l := Zs) (row_bytes h) Zs_len
theorem awake_low {w : World} {q : Nat} (h : w.heap[q]? = some (.cells (SA (over (zl 256) 128 (ofS [7, 8]))) 41 (0, 0))) : w.rangeAt q 0 (Zs.map (Value.int .u8)) := by
  rw [awake_over] at h
  have h1 := range_behind (l := []) (k := 0) (r := Zs ++ ofS [7, 8]) (row_bytes h) rfl
  intro j v hj
  apply h1 j v
  have hlt : j < (Zs.map (Value.int .u8)).length := by
    rcases Nat.lt_or_ge j (Zs.map (Value.int .u8)).length with c | c
    · exact c
    · rw [List.getElem?_eq_none c] at hj; cases hj
  rw [List.map_append, List.getElem?_append_left hlt]
  exact hj

set_option maxRecDepth 100000 in
set_option maxHeartbeats 4000000 in
theorem awake_any (w : World) : Calls Try.prog 9 #[] w fun e w' => e = .returned (.bool true) ∧ Below w.heap.size w w' := by
  have hz := zero_sec
  have hbz := build_sec
  have hgd := guard_sec
  have HOA := hid fun g w h => of_any [7, 8] 2 rfl (some ⟨g, 0, none⟩) 2 w h
  have HOB := hid fun g w h => of_any [9] 1 rfl (some ⟨g, 0, none⟩) 1 w h
  have hAl := ofS_len [7, 8]
  have hBl := ofS_len [9]
  have HMid := hid fun (w : World) (q : Nat) h => awake_mid (w := w) (q := q) h
  have HLow := hid fun (w : World) (q : Nat) h => awake_low (w := w) (q := q) h
  generalize ofS [7, 8] = A at *
  generalize ofS [9] = B at *
  go_enter Try.func9, Try.ntmps9
  go_upto_region 6 with (first | (go_at_call 10; refine (new_ok 2 _ (by decide) (by decide)).mono ?_; rintro e w1 ⟨p, g, rfl, hp0, hg0, HD1, HB1⟩; rw [show 128 * 2 = 256 from rfl] at HD1; generalize zl 256 = Z at *; replace HD1 := hid HD1; replace HB1 := hid HB1) | (go_at_call 28; refine (arm_any 1 _ HD1.out).mono ?_; rintro e w2 ⟨rfl, hd2, hm2⟩; rw [aw5] at hd2; rw [aw6]; have HD2 := hid hd2; have HB2 := hid (hm2.to HB1.out HB1.out.size (by simpa using hp0)); clear hd2 hm2) | (go_at_call 22; refine (HOA.out _ _ (row_bytes (l := [7, 8]) (heap_alloc_new _ _))).mono ?_; rintro e w3 ⟨rfl, hb3⟩; have hq3 := (Below.refl_call w2 _).trans (hb3.mono (by simp)); have HD3 := hid (HD2.out.call hq3); have HB3 := hid (HB2.out.trans (hq3.mono HB2.out.size)); clear hb3 hq3) | (go_at_call 29; refine (write_any 1 A _ HD3.out hAl (show (0 : Int) ≤ 0 by decide) (show (0 : Int) < 4611686018427387904 by decide) (show (0 : Int) ≤ 1 ∧ (1 : Int) ≤ 9223372036854775807 by decide)).mono ?_; rintro e w4 ⟨rfl, hd4, hm4⟩; rw [aw1]; rw [aw2] at hd4; have HD4 := hid hd4; have HB4 := hid (hm4.to HB3.out HB3.out.size (by simp; omega)); clear hd4 hm4))
  go_upto_region 8 with (first | (go_at_call 22; refine (HOB.out _ _ (row_bytes (l := [9]) (heap_alloc_new _ _))).mono ?_; rintro e w5 ⟨rfl, hb5⟩; have hq5 := (Below.refl_call w4 _).trans (hb5.mono (by simp)); have HD5 := hid (HD4.out.call hq5); have HB5 := hid (HB4.out.trans (hq5.mono HB4.out.size)); clear hb5 hq5) | (go_at_call 29; refine (write_any 0 B _ HD5.out hBl (show (0 : Int) ≤ 1 by decide) (show (1 : Int) < 4611686018427387904 by decide) (show (0 : Int) ≤ 0 ∧ (0 : Int) ≤ 9223372036854775807 by decide)).mono ?_; rintro e w6 ⟨rfl, hd6, hm6⟩; rw [aw3]; rw [aw4] at hd6; have HD5b := hid hd6; have HB5b := hid (hm6.to HB5.out HB5.out.size (by simp; omega)); clear hd6 hm6) | (go_at_call 12; refine (image_any _ HD5b.out).mono ?_; rintro e w6 ⟨q, rfl, hq0, hq1, hq2⟩; have HD6 := hid (HD5b.out.call hq2); have HB6 := hid (HB5b.out.trans (hq2.mono HB5b.out.size)); have HH : Hid (HB w [(q, .cells (SA (over Z 128 A)) 41 (0, 0))] w6) := ⟨by simpa using hq1, by simpa using slt hq1, HB6.out⟩; clear hq0 hq1 hq2))
  refine wp_region_noPanic ?_
  refine wp_region_held_drew (S := HB w [(q, .cells (SA (over Z 128 A)) 41 (0, 0))]) (by kernel_rfl) HH.out.drew (fun hHeld => ?_)
  refine takeVal 0 29 (.int .i64 0) rfl (by kernel_rfl) (by kernel_rfl) (by kernel_rfl) rfl (by rfl) (fun _ _ _ h => h) hHeld (fun _ hw' => rfl) ?_
  simp only [List.setIfInBounds_toArray, List.set_cons_zero, List.set_cons_succ]
  refine takeVal 1 30 (.bool true) rfl (by kernel_rfl) (by kernel_rfl) (by kernel_rfl) rfl (by rfl) (fun _ _ _ h => h) hHeld (fun _ hw' => by go_simp) ?_
  simp only [List.setIfInBounds_toArray, List.set_cons_zero, List.set_cons_succ]
  refine takeVal 2 31 (.bool true) rfl (by kernel_rfl) (by kernel_rfl) (by kernel_rfl) rfl (by rfl) (fun _ _ _ h => h) hHeld (fun _ hw' => rfl) ?_
  simp only [List.setIfInBounds_toArray, List.set_cons_zero, List.set_cons_succ]
  refine takeVal 3 32 (.int .i64 0) rfl (by kernel_rfl) (by kernel_rfl) (by kernel_rfl) rfl (by rfl) (fun _ _ _ h => h) hHeld (fun _ hw' => rfl) ?_
  simp only [List.setIfInBounds_toArray, List.set_cons_zero, List.set_cons_succ]
  refine takeVal 4 33 (.bool true) rfl (by kernel_rfl) (by kernel_rfl) (by kernel_rfl) rfl (by rfl) (fun _ _ _ h => h) hHeld (fun _ hw' => by go_simp) ?_
  simp only [List.setIfInBounds_toArray, List.set_cons_zero, List.set_cons_succ]
  refine takeVal 5 34 (.bool true) rfl (by kernel_rfl) (by kernel_rfl) (by kernel_rfl) rfl (by rfl) (fun _ _ _ h => h) hHeld (fun _ hw' => rfl) ?_
  simp only [List.setIfInBounds_toArray, List.set_cons_zero, List.set_cons_succ]
  refine takeVal 6 35 (.bool true) rfl (by kernel_rfl) (by kernel_rfl) (by kernel_rfl) rfl (by rfl) (fun _ _ _ h => h) hHeld (fun _ hw' => rfl) ?_
  simp only [List.setIfInBounds_toArray, List.set_cons_zero, List.set_cons_succ]
  refine takeVal 7 36 (.int .i64 22) rfl (by kernel_rfl) (by kernel_rfl) (by kernel_rfl) rfl (by rfl) (fun _ _ _ h => h) hHeld (fun _ hw' => rfl) ?_
  simp only [List.setIfInBounds_toArray, List.set_cons_zero, List.set_cons_succ]
  refine takeVal 8 37 (.bool true) rfl (by kernel_rfl) (by kernel_rfl) (by kernel_rfl) rfl (by rfl) (fun _ _ _ h => h) hHeld (fun _ hw' => by go_simp) ?_
  simp only [List.setIfInBounds_toArray, List.set_cons_zero, List.set_cons_succ]
  refine takeVal 9 38 (.bool true) rfl (by kernel_rfl) (by kernel_rfl) (by kernel_rfl) rfl (by rfl) (fun _ _ _ h => h) hHeld (fun _ hw' => rfl) ?_
  simp only [List.setIfInBounds_toArray, List.set_cons_zero, List.set_cons_succ]
  refine takeVal 10 39 (.bool true) rfl (by kernel_rfl) (by kernel_rfl) (by kernel_rfl) rfl (by rfl) (fun _ _ _ h => h) hHeld (fun _ hw' => rfl) ?_
  simp only [List.setIfInBounds_toArray, List.set_cons_zero, List.set_cons_succ]
  refine takeVal 11 40 (.pointer (some ⟨p, 0, none⟩)) rfl (by kernel_rfl) (by kernel_rfl) (by kernel_rfl) rfl (by rfl) (fun _ _ _ h => h) hHeld (fun _ hw' => rfl) ?_
  simp only [List.setIfInBounds_toArray, List.set_cons_zero, List.set_cons_succ]
  refine step1 12 (by kernel_rfl) ?_
  refine stCall 12 41 17 #[.pointer (some ⟨p, 0, none⟩)] _ rfl rfl (by rfl) (by go_simp) (down_any _ HD6.out.drew) ?_
  rintro e _ ⟨rfl, rfl⟩
  refine ⟨_, rfl, hHeld, ?_⟩
  simp only [List.setIfInBounds_toArray, List.set_cons_zero, List.set_cons_succ]
  refine takeVal 13 42 (.bool true) rfl (by kernel_rfl) (by kernel_rfl) (by kernel_rfl) rfl (by rfl) (fun _ _ _ h => h) hHeld (fun _ hw' => rfl) ?_
  simp only [List.setIfInBounds_toArray, List.set_cons_zero, List.set_cons_succ]
  refine takeVal 14 43 (.bool true) rfl (by kernel_rfl) (by kernel_rfl) (by kernel_rfl) rfl (by rfl) (fun _ _ _ h => h) hHeld (fun _ hw' => rfl) ?_
  simp only [List.setIfInBounds_toArray, List.set_cons_zero, List.set_cons_succ]
  refine takeVal 15 44 (.slice (some ⟨q, 0, none⟩) 2 2) rfl (by kernel_rfl) (by kernel_rfl) (by kernel_rfl) rfl (by rfl) (fun _ _ _ h => h) hHeld (fun _ hw' => rfl) ?_
  simp only [List.setIfInBounds_toArray, List.set_cons_zero, List.set_cons_succ]
  refine takeVal 16 45 (.int .i64 2) rfl (by kernel_rfl) (by kernel_rfl) (by kernel_rfl) rfl (by rfl) (fun _ _ _ h => h) hHeld (fun _ hw' => by go_simp) ?_
  simp only [List.setIfInBounds_toArray, List.set_cons_zero, List.set_cons_succ]
  refine takeVal 17 46 (.bool true) rfl (by kernel_rfl) (by kernel_rfl) (by kernel_rfl) rfl (by rfl) (fun _ _ _ h => h) hHeld (fun _ hw' => by go_simp) ?_
  simp only [List.setIfInBounds_toArray, List.set_cons_zero, List.set_cons_succ]
  refine takeVal 18 47 (.bool true) rfl (by kernel_rfl) (by kernel_rfl) (by kernel_rfl) rfl (by rfl) (fun _ _ _ h => h) hHeld (fun _ hw' => rfl) ?_
  simp only [List.setIfInBounds_toArray, List.set_cons_zero, List.set_cons_succ]
  refine takeVal 19 48 (.bool true) rfl (by kernel_rfl) (by kernel_rfl) (by kernel_rfl) rfl (by rfl) (fun _ _ _ h => h) hHeld (fun _ hw' => rfl) ?_
  simp only [List.setIfInBounds_toArray, List.set_cons_zero, List.set_cons_succ]
  refine takeVal 20 49 (.slice (some ⟨q, 0, none⟩) 2 2) rfl (by kernel_rfl) (by kernel_rfl) (by kernel_rfl) rfl (by rfl) (fun _ _ _ h => h) hHeld (fun _ hw' => rfl) ?_
  simp only [List.setIfInBounds_toArray, List.set_cons_zero, List.set_cons_succ]
  refine takeVal 21 50 (.pointer (some ⟨q, 128, none⟩)) rfl (by kernel_rfl) (by kernel_rfl) (by kernel_rfl) rfl (by rfl) (fun _ _ _ h => h) hHeld (fun _ hw' => by go_simp) ?_
  simp only [List.setIfInBounds_toArray, List.set_cons_zero, List.set_cons_succ]
  refine takeMidS 22 51 (.tmp 50) (q) (128) (A) (hAl) rfl (by kernel_rfl) (by kernel_rfl) (by kernel_rfl) rfl rfl rfl (by rfl) (fun _ _ _ h => h) hHeld (fun _ hw' => HMid.out _ _ (hw'.get (by simp))) ?_
  simp only [List.setIfInBounds_toArray, List.set_cons_zero, List.set_cons_succ]
  refine step1 23 (by kernel_rfl) ?_
  refine stNew 23 52 (.slice (some ⟨w6.drew.heap.size, 0, none⟩) 2 2) (.cells (SA [7, 8]) 5) rfl rfl (by rfl) (by go_simp; rfl) ⟨(hHeld.alloc _).tail, ?_⟩
  have hHeld0 := hHeld
  have hHeld := (hHeld0.alloc (.cells (SA [7, 8]) 5)).tail
  simp only [List.setIfInBounds_toArray, List.set_cons_zero, List.set_cons_succ]
  refine step1 24 (by kernel_rfl) ?_
  refine stCall 24 53 22 #[.slice (some ⟨w6.drew.heap.size, 0, none⟩) 2 2] _ rfl rfl (by rfl) (by go_simp) (HOA.out _ _ (row_bytes (heap_alloc_new _ _))) ?_
  rintro e w7 ⟨rfl, hb7⟩
  refine ⟨_, rfl, hHeld.call hb7, ?_⟩
  have hHeld1 := hHeld.call hb7
  clear hHeld
  have hHeld := hHeld1
  simp only [List.setIfInBounds_toArray, List.set_cons_zero, List.set_cons_succ]
  refine takeVal 25 54 (.bool true) rfl (by kernel_rfl) (by kernel_rfl) (by kernel_rfl) rfl (by rfl) (fun _ _ _ h => h) hHeld (fun _ hw' => by have hq := eq_sec A A hAl hAl; rw [decide_eq_true rfl] at hq; go_simp) ?_
  simp only [List.setIfInBounds_toArray, List.set_cons_zero, List.set_cons_succ]
  refine takeVal 26 55 (.bool true) rfl (by kernel_rfl) (by kernel_rfl) (by kernel_rfl) rfl (by rfl) (fun _ _ _ h => h) hHeld (fun _ hw' => rfl) ?_
  simp only [List.setIfInBounds_toArray, List.set_cons_zero, List.set_cons_succ]
  refine takeVal 27 56 (.bool true) rfl (by kernel_rfl) (by kernel_rfl) (by kernel_rfl) rfl (by rfl) (fun _ _ _ h => h) hHeld (fun _ hw' => rfl) ?_
  simp only [List.setIfInBounds_toArray, List.set_cons_zero, List.set_cons_succ]
  refine takeVal 28 57 (.slice (some ⟨q, 0, none⟩) 2 2) rfl (by kernel_rfl) (by kernel_rfl) (by kernel_rfl) rfl (by rfl) (fun _ _ _ h => h) hHeld (fun _ hw' => rfl) ?_
  simp only [List.setIfInBounds_toArray, List.set_cons_zero, List.set_cons_succ]
  refine takeVal 29 58 (.pointer (some ⟨q, 0, none⟩)) rfl (by kernel_rfl) (by kernel_rfl) (by kernel_rfl) rfl (by rfl) (fun _ _ _ h => h) hHeld (fun _ hw' => by go_simp) ?_
  simp only [List.setIfInBounds_toArray, List.set_cons_zero, List.set_cons_succ]
  refine takeMidS 30 59 (.tmp 58) (q) (0) (Zs) (Zs_len) rfl (by kernel_rfl) (by kernel_rfl) (by kernel_rfl) rfl rfl rfl (by rfl) (fun _ _ _ h => h) hHeld (fun _ hw' => HLow.out _ _ (hw'.get (by simp))) ?_
  simp only [List.setIfInBounds_toArray, List.set_cons_zero, List.set_cons_succ]
  refine takeVal 31 60 (.agg (SA Zs)) rfl (by kernel_rfl) (by kernel_rfl) (by kernel_rfl) rfl (by rfl) (fun _ _ _ h => h) hHeld (fun _ hw' => by go_simp) ?_
  simp only [List.setIfInBounds_toArray, List.set_cons_zero, List.set_cons_succ]
  refine takeVal 32 61 (.bool true) rfl (by kernel_rfl) (by kernel_rfl) (by kernel_rfl) rfl (by rfl) (fun _ _ _ h => h) hHeld (fun _ hw' => by have hq := eq_sec Zs Zs Zs_len Zs_len; rw [decide_eq_true rfl] at hq; go_simp) ?_
  simp only [List.setIfInBounds_toArray, List.set_cons_zero, List.set_cons_succ]
  refine takeVal 33 62 (.bool true) rfl (by kernel_rfl) (by kernel_rfl) (by kernel_rfl) rfl (by rfl) (fun _ _ _ h => h) hHeld (fun _ hw' => rfl) ?_
  simp only [List.setIfInBounds_toArray, List.set_cons_zero, List.set_cons_succ]
  refine takeVal 34 0 (.bool true) rfl (by kernel_rfl) (by kernel_rfl) (by kernel_rfl) rfl (by rfl) (fun _ _ _ h => h) hHeld (fun _ hw' => rfl) ?_
  simp only [List.setIfInBounds_toArray, List.set_cons_zero]
  refine wpAnyH_done (by kernel_rfl) ?_ _
  refine NoPanic.normal ?_
  go_wp2_with fail
  go_ret
  exact ⟨rfl, hHeld.old⟩

end Go.Proofs.Ytcgchdcbbiahnaa
