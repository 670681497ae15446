/-
  A step on the desk: Write, Arm, Restart, and what is no call.
-/
import Derived.Test.YtcgchdcbbiahnaaStep1
namespace Go.Proofs.Ytcgchdcbbiahnaa
open Go.RowKit

theorem in4 {p g r k : Nat} : ∀ y, y ∈ ([] ++ [p, g]) ++ ([] ++ [r, k]) → y = p ∨ y = g ∨ y = r ∨ y = k := by
  intro y hy
  simp only [List.nil_append, List.cons_append, List.mem_cons, List.not_mem_nil, or_false] at hy
  exact hy
theorem in2 {p g r k : Nat} : ∀ y, y ∈ [p] ++ [r] → y = p ∨ y = g ∨ y = r ∨ y = k := by
  intro y hy
  simp only [List.cons_append, List.nil_append, List.mem_cons, List.not_mem_nil, or_false] at hy
  rcases hy with e | e
  · exact .inl e
  · exact .inr (.inr (.inl e))

set_option maxRecDepth 100000 in
set_option maxHeartbeats 4000000 in
theorem step_write {w0 : World} {x j : Nat} {s : DS} (on tt N : Int) (ad : Option Addr) (L cap : Nat) (w : World) (h : DInv w0 w x s j) (hon : I64 on) (hto : I64 tt) (zs : List Int) (hzl : Hid (zs.length = L)) (HBY : Hid (BytesAt w0 ad zs)) (hj : j < 4611686018427387904) :
    Calls Try.prog 25 #[.pointer (some ⟨x, 0, none⟩), .agg #[.int .i64 2, .int .i64 on, .int .i64 tt, .int .i64 N, .slice ad L cap]] w fun e w' => e = .returned (.bool true) ∧ ∃ s', DInv w0 w' x s' (j + 1) := by
  have hz := zero_sec
  have hgd := guard_sec
  have hk0 := pickN_bd on (show (1 : Int) ≤ 3 by decide)
  have ht0 := pickN_bd tt (show (1 : Int) ≤ 3 by decide)
  obtain ⟨k, hk⟩ := Int.eq_ofNat_of_zero_le hk0.1
  obtain ⟨t, ht⟩ := Int.eq_ofNat_of_zero_le ht0.1
  have hk3 : k < 3 := by omega
  have ht3 : t < 3 := by omega
  have hkl : (k : Int) < 3 := by omega
  have htl : (t : Int) < 3 := by omega
  have HKE := hid hk
  have HTE := hid ht
  clear hk0 ht0 hk ht
  have HI0 := hid (h.call (Below.refl_call w (.cells #[.int .i64 2, .int .i64 on, .int .i64 tt, .int .i64 N, .slice ad L cap] 54)))
  have HO0 := hid (heap_alloc_new w (.cells #[.int .i64 2, .int .i64 on, .int .i64 tt, .int .i64 N, .slice ad L cap] 54))
  have y0 := cell_of_row _ _ 0 _ _ _ HO0.out
  have y1 := cell_of_row _ _ 1 _ _ _ HO0.out
  have y2 := cell_of_row _ _ 2 _ _ _ HO0.out
  have y3 := cell_of_row _ _ 3 _ _ _ HO0.out
  have y4 := cell_of_row _ _ 4 _ _ _ HO0.out
  simp only [List.getElem?_toArray, List.getElem?_cons_zero, List.getElem?_cons_succ] at y0 y1 y2 y3 y4
  have c1 := HI0.out.cP k hk3
  have c2 := HI0.out.cR k hk3
  clear h
  go_enter Try.func25, Try.ntmps25
  have HOF := hid fun w h => of_any zs L hzl ad cap w h
  have hsl := ofS_len zs
  generalize ofS zs = SC at *
  have hbd := HI0.out.bd k hk3
  have hb0 := hbd.1
  have hb1 : (s.D k).wr < 4611686018427387904 := by have := hbd.2.1; omega
  have hb2 := hbd.2.2
  have HBn : Hid (Bd2 (writeD (s.D k) (s.N k) N SC) (j + 1)) := hid hbd.write
  have HAP := hid (HI0.out.apart (ob := .cells #[.int .i64 2, .int .i64 on, .int .i64 tt, .int .i64 N, .slice ad L cap] 54 (0, 0)) HO0.out k hk3)
  have HLO := hid (HI0.out.lows k hk3)
  have HRK := hid (HI0.out.aRK k hk3)
  have HPG := hid (HI0.out.aPG k hk3)
  clear hbd
  go_upto_region 9 with (go_at_call 24; refine (pick_any _ _ _ (by first | exact hon | exact hto) (by decide) (by decide)).mono ?_; rintro e w5 ⟨rfl, rfl⟩; first | rw [HKE.out] | rw [HTE.out])
  generalize hw1 : w.alloc (.cells #[.int .i64 2, .int .i64 on, .int .i64 tt, .int .i64 N, .slice ad L cap] 54) = w1 at *
  generalize w.heap.size = o0 at *
  clear hw1
  refine wp_region_noPanic ?_
  refine wp_region_held_drew (S := HB w0 [(x, .cells (deskC s) 50 (0, 0)), (o0, .cells #[.int .i64 2, .int .i64 on, .int .i64 tt, .int .i64 N, .slice ad L cap] 54 (0, 0))]) (by kernel_rfl) (HI0.out.hb HO0.out).drew (fun hHeld => ?_)
  have HI := hid HI0.out.drew
  clear HI0 HO0 y0 y1 y2 y3 y4 c1 c2
  generalize w1.drew = wd at *
  refine takeVal 0 67 (.pointer (some ⟨x, 0, none⟩)) rfl (by kernel_rfl) (by kernel_rfl) (by kernel_rfl) rfl (by rfl) (fun _ _ _ h => h) hHeld (fun _ hw' => rfl) ?_
  simp only [List.setIfInBounds_toArray, List.set_cons_zero, List.set_cons_succ]
  refine takeVal 1 68 (.int .i64 (k : Int)) rfl (by kernel_rfl) (by kernel_rfl) (by kernel_rfl) rfl (by rfl) (fun _ _ _ h => h) hHeld (fun _ hw' => rfl) ?_
  simp only [List.setIfInBounds_toArray, List.set_cons_zero, List.set_cons_succ]
  refine takeVal 2 69 (.pointer (some ⟨x, 0, none⟩)) rfl (by kernel_rfl) (by kernel_rfl) (by kernel_rfl) rfl (by rfl) (fun _ _ _ h => h) hHeld (fun _ hw' => by go_simp) ?_
  simp only [List.setIfInBounds_toArray, List.set_cons_zero, List.set_cons_succ]
  refine takeVal 3 70 (.pointer (some ⟨x, 0, none⟩)) rfl (by kernel_rfl) (by kernel_rfl) (by kernel_rfl) rfl (by rfl) (fun _ _ _ h => h) hHeld (fun _ hw' => by go_simp) ?_
  simp only [List.setIfInBounds_toArray, List.set_cons_zero, List.set_cons_succ]
  refine takeVal 4 71 (.pointer (some ⟨x, k, none⟩)) rfl (by kernel_rfl) (by kernel_rfl) (by kernel_rfl) rfl (by rfl) (fun _ _ _ h => h) hHeld (fun _ hw' => by go_simp) ?_
  simp only [List.setIfInBounds_toArray, List.set_cons_zero, List.set_cons_succ]
  refine takeVal 5 72 (.pointer (some ⟨s.P k, 0, none⟩)) rfl (by kernel_rfl) (by kernel_rfl) (by kernel_rfl) rfl (by rfl) (fun _ _ _ h => h) hHeld (fun _ hw' => by have hc := desk_cP (hw'.get (List.mem_cons_self)) k hk3; go_simp) ?_
  simp only [List.setIfInBounds_toArray, List.set_cons_zero, List.set_cons_succ]
  refine takeVal 6 73 (.pointer (some ⟨o0, 3, none⟩)) rfl (by kernel_rfl) (by kernel_rfl) (by kernel_rfl) rfl (by rfl) (fun _ _ _ h => h) hHeld (fun _ hw' => by go_simp) ?_
  simp only [List.setIfInBounds_toArray, List.set_cons_zero, List.set_cons_succ]
  refine takeVal 7 74 (.int .i64 N) rfl (by kernel_rfl) (by kernel_rfl) (by kernel_rfl) rfl (by rfl) (fun _ _ _ h => h) hHeld (fun _ hw' => by have hc := cell_of_row _ _ 3 _ _ _ (hw'.get (List.mem_cons_of_mem _ List.mem_cons_self)); simp only [List.getElem?_toArray, List.getElem?_cons_zero, List.getElem?_cons_succ] at hc; go_simp) ?_
  simp only [List.setIfInBounds_toArray, List.set_cons_zero, List.set_cons_succ]
  refine takeVal 8 75 (.pointer (some ⟨o0, 4, none⟩)) rfl (by kernel_rfl) (by kernel_rfl) (by kernel_rfl) rfl (by rfl) (fun _ _ _ h => h) hHeld (fun _ hw' => by go_simp) ?_
  simp only [List.setIfInBounds_toArray, List.set_cons_zero, List.set_cons_succ]
  refine takeVal 9 76 (.slice ad L cap) rfl (by kernel_rfl) (by kernel_rfl) (by kernel_rfl) rfl (by rfl) (fun _ _ _ h => h) hHeld (fun _ hw' => by have hc := cell_of_row _ _ 4 _ _ _ (hw'.get (List.mem_cons_of_mem _ List.mem_cons_self)); simp only [List.getElem?_toArray, List.getElem?_cons_zero, List.getElem?_cons_succ] at hc; go_simp) ?_
  simp only [List.setIfInBounds_toArray, List.set_cons_zero, List.set_cons_succ]
  refine step1 10 (by kernel_rfl) ?_
  refine stCall 10 77 22 #[.slice ad L cap] _ rfl rfl (by rfl) (by go_simp) (HOF.out _ (bytes_below HBY.out hHeld.old)) ?_
  rintro e wf ⟨rfl, hbf⟩
  refine ⟨_, rfl, hHeld.call hbf, ?_⟩
  have hHeld1 := hHeld.call hbf
  clear hHeld
  have hHeld := hHeld1
  clear hHeld1
  have HD1 := hid ((HI.out.isd k hk3).call hbf)
  have HQ1 := hid ((HI.out.isq k hk3).call hbf)
  have HMa := hid (Mod.of_below hbf)
  clear hbf
  simp only [List.setIfInBounds_toArray, List.set_cons_zero, List.set_cons_succ]
  refine step1 11 (by kernel_rfl) ?_
  refine stCall 11 78 29 #[.pointer (some ⟨s.P k, 0, none⟩), .int .i64 N, .agg (SA SC)] _ rfl rfl (by rfl) (by go_simp) (write_any N SC _ HD1.out hsl hb0 hb1 hb2) ?_
  rintro e wg ⟨rfl, hdg, hmg⟩
  have hHeld1 := hHeld.mod hmg HAP.out.1 HLO.out.1
  refine ⟨_, rfl, hHeld1, ?_⟩
  clear hHeld
  have hHeld := hHeld1
  clear hHeld1
  simp only [List.setIfInBounds_toArray, List.set_cons_zero, List.set_cons_succ]
  refine takeVal 12 11 (.int .i64 (writeE (s.D k) (s.N k) N)) rfl (by kernel_rfl) (by kernel_rfl) (by kernel_rfl) rfl (by rfl) (fun _ _ _ h => h) hHeld (fun _ hw' => rfl) ?_
  simp only [List.setIfInBounds_toArray, List.set_cons_zero, List.set_cons_succ]
  refine wpAnyH_done (by kernel_rfl) ?_ _
  refine NoPanic.normal ?_
  have HQ2 := hid ((HQ1.out.keep hmg HRK.out.1 HRK.out.2).drew)
  have HD2 := hid hdg.drew
  have HM2 := hid (HMa.out.trans hmg).drew
  have HH2 := hid hHeld.drew
  clear hHeld hdg hmg HD1 HQ1 HMa
  go_wp2_with fail
  refine wp_region_noPanic ?_
  refine wp_region_held_drew (S := HB w0 [(x, .cells (deskC s) 50 (0, 0)), (o0, .cells #[.int .i64 2, .int .i64 on, .int .i64 tt, .int .i64 N, .slice ad L cap] 54 (0, 0))]) (by kernel_rfl) HH2.out (fun hHeld => ?_)
  generalize wg.drew = wd2 at *
  clear HH2
  refine takeVal 0 79 (.int .i64 (writeE (s.D k) (s.N k) N)) rfl (by kernel_rfl) (by kernel_rfl) (by kernel_rfl) rfl (by rfl) (fun _ _ _ h => h) hHeld (fun _ hw' => rfl) ?_
  simp only [List.setIfInBounds_toArray, List.set_cons_zero, List.set_cons_succ]
  refine takeVal 1 80 (.pointer (some ⟨x, 0, none⟩)) rfl (by kernel_rfl) (by kernel_rfl) (by kernel_rfl) rfl (by rfl) (fun _ _ _ h => h) hHeld (fun _ hw' => rfl) ?_
  simp only [List.setIfInBounds_toArray, List.set_cons_zero, List.set_cons_succ]
  refine takeVal 2 81 (.int .i64 (k : Int)) rfl (by kernel_rfl) (by kernel_rfl) (by kernel_rfl) rfl (by rfl) (fun _ _ _ h => h) hHeld (fun _ hw' => rfl) ?_
  simp only [List.setIfInBounds_toArray, List.set_cons_zero, List.set_cons_succ]
  refine takeVal 3 82 (.pointer (some ⟨x, 0, none⟩)) rfl (by kernel_rfl) (by kernel_rfl) (by kernel_rfl) rfl (by rfl) (fun _ _ _ h => h) hHeld (fun _ hw' => by go_simp) ?_
  simp only [List.setIfInBounds_toArray, List.set_cons_zero, List.set_cons_succ]
  refine takeVal 4 83 (.pointer (some ⟨x, 3, none⟩)) rfl (by kernel_rfl) (by kernel_rfl) (by kernel_rfl) rfl (by rfl) (fun _ _ _ h => h) hHeld (fun _ hw' => by go_simp) ?_
  simp only [List.setIfInBounds_toArray, List.set_cons_zero, List.set_cons_succ]
  refine takeVal 5 84 (.pointer (some ⟨x, 3 + k, none⟩)) rfl (by kernel_rfl) (by kernel_rfl) (by kernel_rfl) rfl (by rfl) (fun _ _ _ h => h) hHeld (fun _ hw' => by go_simp) ?_
  simp only [List.setIfInBounds_toArray, List.set_cons_zero, List.set_cons_succ]
  refine takeVal 6 85 (.pointer (some ⟨s.R k, 0, none⟩)) rfl (by kernel_rfl) (by kernel_rfl) (by kernel_rfl) rfl (by rfl) (fun _ _ _ h => h) hHeld (fun _ hw' => by have hc := desk_cR (hw'.get (List.mem_cons_self)) k hk3; go_simp) ?_
  simp only [List.setIfInBounds_toArray, List.set_cons_zero, List.set_cons_succ]
  refine takeVal 7 86 (.pointer (some ⟨o0, 3, none⟩)) rfl (by kernel_rfl) (by kernel_rfl) (by kernel_rfl) rfl (by rfl) (fun _ _ _ h => h) hHeld (fun _ hw' => by go_simp) ?_
  simp only [List.setIfInBounds_toArray, List.set_cons_zero, List.set_cons_succ]
  refine takeVal 8 87 (.int .i64 N) rfl (by kernel_rfl) (by kernel_rfl) (by kernel_rfl) rfl (by rfl) (fun _ _ _ h => h) hHeld (fun _ hw' => by have hc := cell_of_row _ _ 3 _ _ _ (hw'.get (List.mem_cons_of_mem _ List.mem_cons_self)); simp only [List.getElem?_toArray, List.getElem?_cons_zero, List.getElem?_cons_succ] at hc; go_simp) ?_
  simp only [List.setIfInBounds_toArray, List.set_cons_zero, List.set_cons_succ]
  refine takeVal 9 88 (.pointer (some ⟨o0, 4, none⟩)) rfl (by kernel_rfl) (by kernel_rfl) (by kernel_rfl) rfl (by rfl) (fun _ _ _ h => h) hHeld (fun _ hw' => by go_simp) ?_
  simp only [List.setIfInBounds_toArray, List.set_cons_zero, List.set_cons_succ]
  refine takeVal 10 89 (.slice ad L cap) rfl (by kernel_rfl) (by kernel_rfl) (by kernel_rfl) rfl (by rfl) (fun _ _ _ h => h) hHeld (fun _ hw' => by have hc := cell_of_row _ _ 4 _ _ _ (hw'.get (List.mem_cons_of_mem _ List.mem_cons_self)); simp only [List.getElem?_toArray, List.getElem?_cons_zero, List.getElem?_cons_succ] at hc; go_simp) ?_
  simp only [List.setIfInBounds_toArray, List.set_cons_zero, List.set_cons_succ]
  refine step1 11 (by kernel_rfl) ?_
  refine stCall 11 90 22 #[.slice ad L cap] _ rfl rfl (by rfl) (by go_simp) (HOF.out _ (bytes_below HBY.out hHeld.old)) ?_
  rintro e wf ⟨rfl, hbf⟩
  refine ⟨_, rfl, hHeld.call hbf, ?_⟩
  have hHeld1 := hHeld.call hbf
  clear hHeld
  have hHeld := hHeld1
  clear hHeld1
  have HD3 := hid (HD2.out.call hbf)
  have HQ3 := hid (HQ2.out.call hbf)
  have HMb := hid (Mod.of_below hbf)
  clear hbf
  simp only [List.setIfInBounds_toArray, List.set_cons_zero, List.set_cons_succ]
  refine step1 12 (by kernel_rfl) ?_
  refine stCall 12 91 36 #[.pointer (some ⟨s.R k, 0, none⟩), .int .i64 N, .agg (SA SC)] _ rfl rfl (by rfl) (by go_simp) (rwrite_any N SC _ HQ3.out hsl hb0 hb1 hb2) ?_
  rintro e wg ⟨rfl, hdg, hmg⟩
  have hHeld1 := hHeld.mod hmg HAP.out.2 HLO.out.2
  refine ⟨_, rfl, hHeld1, ?_⟩
  clear hHeld
  have hHeld := hHeld1
  clear hHeld1
  simp only [List.setIfInBounds_toArray, List.set_cons_zero, List.set_cons_succ]
  refine takeVal 13 92 (.bool true) rfl (by kernel_rfl) (by kernel_rfl) (by kernel_rfl) rfl (by rfl) (fun _ _ _ h => h) hHeld (fun _ hw' => by go_simp) ?_
  simp only [List.setIfInBounds_toArray, List.set_cons_zero, List.set_cons_succ]
  refine takeVal 14 4 (.bool true) rfl (by kernel_rfl) (by kernel_rfl) (by kernel_rfl) rfl (by rfl) (fun _ _ _ h => h) hHeld (fun _ hw' => rfl) ?_
  simp only [List.setIfInBounds_toArray, List.set_cons_zero, List.set_cons_succ]
  refine wpAnyH_done (by kernel_rfl) ?_ _
  refine NoPanic.normal ?_
  have HDe := hid (HD3.out.keep hmg HPG.out.1 HPG.out.2)
  have HQe := hid hdg
  have HMe := hid (HM2.out.trans (HMb.out.trans hmg))
  clear hHeld hdg hmg HD3 HQ3 HMb HD2 HQ2 HM2
  go_wp2_with fail
  go_ret
  exact ⟨rfl, _, HI.out.change k hk3 HMe.out in4 HDe.out HQe.out HBn.out (by omega)⟩

set_option maxRecDepth 100000 in
set_option maxHeartbeats 4000000 in
theorem step_arm {w0 : World} {x j : Nat} {s : DS} (on tt N : Int) (ad : Option Addr) (L cap : Nat) (w : World) (h : DInv w0 w x s j) (hon : I64 on) (hto : I64 tt) (hN : I64 N) :
    Calls Try.prog 25 #[.pointer (some ⟨x, 0, none⟩), .agg #[.int .i64 3, .int .i64 on, .int .i64 tt, .int .i64 N, .slice ad L cap]] w fun e w' => e = .returned (.bool true) ∧ ∃ s', DInv w0 w' x s' (j + 1) := by
  have hz := zero_sec
  have hgd := guard_sec
  have hk0 := pickN_bd on (show (1 : Int) ≤ 3 by decide)
  have ht0 := pickN_bd tt (show (1 : Int) ≤ 3 by decide)
  obtain ⟨k, hk⟩ := Int.eq_ofNat_of_zero_le hk0.1
  obtain ⟨t, ht⟩ := Int.eq_ofNat_of_zero_le ht0.1
  have hk3 : k < 3 := by omega
  have ht3 : t < 3 := by omega
  have hkl : (k : Int) < 3 := by omega
  have htl : (t : Int) < 3 := by omega
  have HKE := hid hk
  have HTE := hid ht
  clear hk0 ht0 hk ht
  have HI0 := hid (h.call (Below.refl_call w (.cells #[.int .i64 3, .int .i64 on, .int .i64 tt, .int .i64 N, .slice ad L cap] 54)))
  have HO0 := hid (heap_alloc_new w (.cells #[.int .i64 3, .int .i64 on, .int .i64 tt, .int .i64 N, .slice ad L cap] 54))
  have y0 := cell_of_row _ _ 0 _ _ _ HO0.out
  have y1 := cell_of_row _ _ 1 _ _ _ HO0.out
  have y2 := cell_of_row _ _ 2 _ _ _ HO0.out
  have y3 := cell_of_row _ _ 3 _ _ _ HO0.out
  have y4 := cell_of_row _ _ 4 _ _ _ HO0.out
  simp only [List.getElem?_toArray, List.getElem?_cons_zero, List.getElem?_cons_succ] at y0 y1 y2 y3 y4
  have c1 := HI0.out.cP k hk3
  have c2 := HI0.out.cR k hk3
  clear h
  go_enter Try.func25, Try.ntmps25
  have HAP := hid (HI0.out.apart (ob := .cells #[.int .i64 3, .int .i64 on, .int .i64 tt, .int .i64 N, .slice ad L cap] 54 (0, 0)) HO0.out k hk3)
  have HLO := hid (HI0.out.lows k hk3)
  have HRK := hid (HI0.out.aRK k hk3)
  have HPG := hid (HI0.out.aPG k hk3)
  have HBn : Hid (Bd2 (armD (s.D k) N) (j + 1)) := hid (((HI0.out.bd k hk3).arm hN).mono (by omega))
  go_upto_region 12 with (go_at_call 24; refine (pick_any _ _ _ (by first | exact hon | exact hto) (by decide) (by decide)).mono ?_; rintro e w5 ⟨rfl, rfl⟩; first | rw [HKE.out] | rw [HTE.out])
  generalize hw1 : w.alloc (.cells #[.int .i64 3, .int .i64 on, .int .i64 tt, .int .i64 N, .slice ad L cap] 54) = w1 at *
  generalize w.heap.size = o0 at *
  clear hw1
  refine wp_region_noPanic ?_
  refine wp_region_held_drew (S := HB w0 [(x, .cells (deskC s) 50 (0, 0)), (o0, .cells #[.int .i64 3, .int .i64 on, .int .i64 tt, .int .i64 N, .slice ad L cap] 54 (0, 0))]) (by kernel_rfl) (HI0.out.hb HO0.out).drew (fun hHeld => ?_)
  have HI := hid HI0.out.drew
  clear HI0 HO0 y0 y1 y2 y3 y4 c1 c2
  generalize w1.drew = wd at *
  refine takeVal 0 95 (.pointer (some ⟨x, 0, none⟩)) rfl (by kernel_rfl) (by kernel_rfl) (by kernel_rfl) rfl (by rfl) (fun _ _ _ h => h) hHeld (fun _ hw' => rfl) ?_
  simp only [List.setIfInBounds_toArray, List.set_cons_zero, List.set_cons_succ]
  refine takeVal 1 96 (.int .i64 (k : Int)) rfl (by kernel_rfl) (by kernel_rfl) (by kernel_rfl) rfl (by rfl) (fun _ _ _ h => h) hHeld (fun _ hw' => rfl) ?_
  simp only [List.setIfInBounds_toArray, List.set_cons_zero, List.set_cons_succ]
  refine takeVal 2 97 (.pointer (some ⟨x, 0, none⟩)) rfl (by kernel_rfl) (by kernel_rfl) (by kernel_rfl) rfl (by rfl) (fun _ _ _ h => h) hHeld (fun _ hw' => by go_simp) ?_
  simp only [List.setIfInBounds_toArray, List.set_cons_zero, List.set_cons_succ]
  refine takeVal 3 98 (.pointer (some ⟨x, 0, none⟩)) rfl (by kernel_rfl) (by kernel_rfl) (by kernel_rfl) rfl (by rfl) (fun _ _ _ h => h) hHeld (fun _ hw' => by go_simp) ?_
  simp only [List.setIfInBounds_toArray, List.set_cons_zero, List.set_cons_succ]
  refine takeVal 4 99 (.pointer (some ⟨x, k, none⟩)) rfl (by kernel_rfl) (by kernel_rfl) (by kernel_rfl) rfl (by rfl) (fun _ _ _ h => h) hHeld (fun _ hw' => by go_simp) ?_
  simp only [List.setIfInBounds_toArray, List.set_cons_zero, List.set_cons_succ]
  refine takeVal 5 100 (.pointer (some ⟨s.P k, 0, none⟩)) rfl (by kernel_rfl) (by kernel_rfl) (by kernel_rfl) rfl (by rfl) (fun _ _ _ h => h) hHeld (fun _ hw' => by have hc := desk_cP (hw'.get (List.mem_cons_self)) k hk3; go_simp) ?_
  simp only [List.setIfInBounds_toArray, List.set_cons_zero, List.set_cons_succ]
  refine takeVal 6 101 (.pointer (some ⟨o0, 3, none⟩)) rfl (by kernel_rfl) (by kernel_rfl) (by kernel_rfl) rfl (by rfl) (fun _ _ _ h => h) hHeld (fun _ hw' => by go_simp) ?_
  simp only [List.setIfInBounds_toArray, List.set_cons_zero, List.set_cons_succ]
  refine takeVal 7 102 (.int .i64 N) rfl (by kernel_rfl) (by kernel_rfl) (by kernel_rfl) rfl (by rfl) (fun _ _ _ h => h) hHeld (fun _ hw' => by have hc := cell_of_row _ _ 3 _ _ _ (hw'.get (List.mem_cons_of_mem _ List.mem_cons_self)); simp only [List.getElem?_toArray, List.getElem?_cons_zero, List.getElem?_cons_succ] at hc; go_simp) ?_
  simp only [List.setIfInBounds_toArray, List.set_cons_zero, List.set_cons_succ]
  refine step1 8 (by kernel_rfl) ?_
  refine stCall 8 103 28 #[.pointer (some ⟨s.P k, 0, none⟩), .int .i64 N] _ rfl rfl (by rfl) (by go_simp) (arm_any N _ (HI.out.isd k hk3)) ?_
  rintro e wg ⟨rfl, hdg, hmg⟩
  have hHeld1 := hHeld.mod hmg (fun y hy h => HAP.out.1 y hy (by simp at h; simp [h])) (fun y hy => HLO.out.1 y (by simp at hy; simp [hy]))
  refine ⟨_, rfl, hHeld1, ?_⟩
  clear hHeld
  have hHeld := hHeld1
  clear hHeld1
  simp only [List.setIfInBounds_toArray, List.set_cons_zero, List.set_cons_succ]
  refine takeVal 9 12 (.int .i64 (armE (s.D k) N)) rfl (by kernel_rfl) (by kernel_rfl) (by kernel_rfl) rfl (by rfl) (fun _ _ _ h => h) hHeld (fun _ hw' => rfl) ?_
  simp only [List.setIfInBounds_toArray, List.set_cons_zero, List.set_cons_succ]
  refine wpAnyH_done (by kernel_rfl) ?_ _
  refine NoPanic.normal ?_
  have HQ2 := hid (((HI.out.isq k hk3).keep hmg (fun h => HRK.out.1 (by simp at h; simp [h])) (fun h => HRK.out.2 (by simp at h; simp [h]))).drew)
  have HD2 := hid hdg.drew
  have HM2 := hid hmg.drew
  have HH2 := hid hHeld.drew
  clear hHeld hdg hmg
  go_wp2_with fail
  refine wp_region_noPanic ?_
  refine wp_region_held_drew (S := HB w0 [(x, .cells (deskC s) 50 (0, 0)), (o0, .cells #[.int .i64 3, .int .i64 on, .int .i64 tt, .int .i64 N, .slice ad L cap] 54 (0, 0))]) (by kernel_rfl) HH2.out (fun hHeld => ?_)
  generalize wg.drew = wd2 at *
  clear HH2
  refine takeVal 0 104 (.int .i64 (armE (s.D k) N)) rfl (by kernel_rfl) (by kernel_rfl) (by kernel_rfl) rfl (by rfl) (fun _ _ _ h => h) hHeld (fun _ hw' => rfl) ?_
  simp only [List.setIfInBounds_toArray, List.set_cons_zero, List.set_cons_succ]
  refine takeVal 1 105 (.pointer (some ⟨x, 0, none⟩)) rfl (by kernel_rfl) (by kernel_rfl) (by kernel_rfl) rfl (by rfl) (fun _ _ _ h => h) hHeld (fun _ hw' => rfl) ?_
  simp only [List.setIfInBounds_toArray, List.set_cons_zero, List.set_cons_succ]
  refine takeVal 2 106 (.int .i64 (k : Int)) rfl (by kernel_rfl) (by kernel_rfl) (by kernel_rfl) rfl (by rfl) (fun _ _ _ h => h) hHeld (fun _ hw' => rfl) ?_
  simp only [List.setIfInBounds_toArray, List.set_cons_zero, List.set_cons_succ]
  refine takeVal 3 107 (.pointer (some ⟨x, 0, none⟩)) rfl (by kernel_rfl) (by kernel_rfl) (by kernel_rfl) rfl (by rfl) (fun _ _ _ h => h) hHeld (fun _ hw' => by go_simp) ?_
  simp only [List.setIfInBounds_toArray, List.set_cons_zero, List.set_cons_succ]
  refine takeVal 4 108 (.pointer (some ⟨x, 3, none⟩)) rfl (by kernel_rfl) (by kernel_rfl) (by kernel_rfl) rfl (by rfl) (fun _ _ _ h => h) hHeld (fun _ hw' => by go_simp) ?_
  simp only [List.setIfInBounds_toArray, List.set_cons_zero, List.set_cons_succ]
  refine takeVal 5 109 (.pointer (some ⟨x, 3 + k, none⟩)) rfl (by kernel_rfl) (by kernel_rfl) (by kernel_rfl) rfl (by rfl) (fun _ _ _ h => h) hHeld (fun _ hw' => by go_simp) ?_
  simp only [List.setIfInBounds_toArray, List.set_cons_zero, List.set_cons_succ]
  refine takeVal 6 110 (.pointer (some ⟨s.R k, 0, none⟩)) rfl (by kernel_rfl) (by kernel_rfl) (by kernel_rfl) rfl (by rfl) (fun _ _ _ h => h) hHeld (fun _ hw' => by have hc := desk_cR (hw'.get (List.mem_cons_self)) k hk3; go_simp) ?_
  simp only [List.setIfInBounds_toArray, List.set_cons_zero, List.set_cons_succ]
  refine takeVal 7 111 (.pointer (some ⟨o0, 3, none⟩)) rfl (by kernel_rfl) (by kernel_rfl) (by kernel_rfl) rfl (by rfl) (fun _ _ _ h => h) hHeld (fun _ hw' => by go_simp) ?_
  simp only [List.setIfInBounds_toArray, List.set_cons_zero, List.set_cons_succ]
  refine takeVal 8 112 (.int .i64 N) rfl (by kernel_rfl) (by kernel_rfl) (by kernel_rfl) rfl (by rfl) (fun _ _ _ h => h) hHeld (fun _ hw' => by have hc := cell_of_row _ _ 3 _ _ _ (hw'.get (List.mem_cons_of_mem _ List.mem_cons_self)); simp only [List.getElem?_toArray, List.getElem?_cons_zero, List.getElem?_cons_succ] at hc; go_simp) ?_
  simp only [List.setIfInBounds_toArray, List.set_cons_zero, List.set_cons_succ]
  refine step1 9 (by kernel_rfl) ?_
  refine stCall 9 113 37 #[.pointer (some ⟨s.R k, 0, none⟩), .int .i64 N] _ rfl rfl (by rfl) (by go_simp) (rarm_any N _ HQ2.out) ?_
  rintro e wg ⟨rfl, hdg, hmg⟩
  have hHeld1 := hHeld.mod hmg (fun y hy h => HAP.out.2 y hy (by simp at h; simp [h])) (fun y hy => HLO.out.2 y (by simp at hy; simp [hy]))
  refine ⟨_, rfl, hHeld1, ?_⟩
  clear hHeld
  have hHeld := hHeld1
  clear hHeld1
  simp only [List.setIfInBounds_toArray, List.set_cons_zero, List.set_cons_succ]
  refine takeVal 10 114 (.bool true) rfl (by kernel_rfl) (by kernel_rfl) (by kernel_rfl) rfl (by rfl) (fun _ _ _ h => h) hHeld (fun _ hw' => by go_simp) ?_
  simp only [List.setIfInBounds_toArray, List.set_cons_zero, List.set_cons_succ]
  refine takeVal 11 4 (.bool true) rfl (by kernel_rfl) (by kernel_rfl) (by kernel_rfl) rfl (by rfl) (fun _ _ _ h => h) hHeld (fun _ hw' => rfl) ?_
  simp only [List.setIfInBounds_toArray, List.set_cons_zero, List.set_cons_succ]
  refine wpAnyH_done (by kernel_rfl) ?_ _
  refine NoPanic.normal ?_
  have HDe := hid (HD2.out.keep hmg (fun h => HPG.out.1 (by simp at h; simp [h])) (fun h => HPG.out.2 (by simp at h; simp [h])))
  have HQe := hid hdg
  have HMe := hid (HM2.out.trans hmg)
  clear hHeld hdg hmg HD2 HQ2 HM2
  go_wp2_with fail
  go_ret
  exact ⟨rfl, _, HI.out.change k hk3 HMe.out in2 HDe.out HQe.out HBn.out (by omega)⟩

set_option maxRecDepth 100000 in
set_option maxHeartbeats 4000000 in
theorem step_restart {w0 : World} {x j : Nat} {s : DS} (on tt N : Int) (ad : Option Addr) (L cap : Nat) (w : World) (h : DInv w0 w x s j) (hon : I64 on) (hto : I64 tt) :
    Calls Try.prog 25 #[.pointer (some ⟨x, 0, none⟩), .agg #[.int .i64 4, .int .i64 on, .int .i64 tt, .int .i64 N, .slice ad L cap]] w fun e w' => e = .returned (.bool true) ∧ ∃ s', DInv w0 w' x s' (j + 1) := by
  have hz := zero_sec
  have hgd := guard_sec
  have hk0 := pickN_bd on (show (1 : Int) ≤ 3 by decide)
  have ht0 := pickN_bd tt (show (1 : Int) ≤ 3 by decide)
  obtain ⟨k, hk⟩ := Int.eq_ofNat_of_zero_le hk0.1
  obtain ⟨t, ht⟩ := Int.eq_ofNat_of_zero_le ht0.1
  have hk3 : k < 3 := by omega
  have ht3 : t < 3 := by omega
  have hkl : (k : Int) < 3 := by omega
  have htl : (t : Int) < 3 := by omega
  have HKE := hid hk
  have HTE := hid ht
  clear hk0 ht0 hk ht
  have HI0 := hid (h.call (Below.refl_call w (.cells #[.int .i64 4, .int .i64 on, .int .i64 tt, .int .i64 N, .slice ad L cap] 54)))
  have HO0 := hid (heap_alloc_new w (.cells #[.int .i64 4, .int .i64 on, .int .i64 tt, .int .i64 N, .slice ad L cap] 54))
  have y0 := cell_of_row _ _ 0 _ _ _ HO0.out
  have y1 := cell_of_row _ _ 1 _ _ _ HO0.out
  have y2 := cell_of_row _ _ 2 _ _ _ HO0.out
  have y3 := cell_of_row _ _ 3 _ _ _ HO0.out
  have y4 := cell_of_row _ _ 4 _ _ _ HO0.out
  simp only [List.getElem?_toArray, List.getElem?_cons_zero, List.getElem?_cons_succ] at y0 y1 y2 y3 y4
  have c1 := HI0.out.cP k hk3
  have c2 := HI0.out.cR k hk3
  clear h
  go_enter Try.func25, Try.ntmps25
  have HAP := hid (HI0.out.apart (ob := .cells #[.int .i64 4, .int .i64 on, .int .i64 tt, .int .i64 N, .slice ad L cap] 54 (0, 0)) HO0.out k hk3)
  have HLO := hid (HI0.out.lows k hk3)
  have HRK := hid (HI0.out.aRK k hk3)
  have HPG := hid (HI0.out.aPG k hk3)
  have HBn : Hid (Bd2 (⟨(s.D k).S, (s.D k).wr, false, false, 0⟩ : St8) (j + 1)) := hid ⟨(HI0.out.bd k hk3).1, by have := (HI0.out.bd k hk3).2.1; simp only; omega, Int.le_refl _, by simp only; omega⟩
  go_wp2_with (first | (go_at_call 24; refine (pick_any _ _ _ (by first | exact hon | exact hto) (by decide) (by decide)).mono ?_; rintro e w5 ⟨rfl, rfl⟩; first | rw [HKE.out] | rw [HTE.out]) | (go_at_call 38; refine (rrestart_any _ HQ2.out).mono ?_; rintro e wh ⟨rfl, hdh, hmh⟩; have HDe := hid (HD2.out.keep hmh (fun h => HPG.out.1 (by simp at h; simp [h])) (fun h => HPG.out.2 (by simp at h; simp [h]))); have HQe := hid hdh; have HMe := hid (HM2.out.trans hmh); clear hdh hmh) | (go_at_call 30; refine (restart_any _ (HI0.out.isd k hk3)).mono ?_; rintro e wg ⟨rfl, hdg, hmg⟩; have HQ2 := hid ((HI0.out.isq k hk3).keep hmg (fun h => HRK.out.1 (by simp at h; simp [h])) (fun h => HRK.out.2 (by simp at h; simp [h]))); have HD2 := hid hdg; have HM2 := hid hmg; have c2 := desk_cR ((hmg.block x (slt HI0.out.desk) (fun h => HAP.out.1 _ List.mem_cons_self (by simp at h; simp [h]))).trans HI0.out.desk) k hk3; clear hdg hmg))
  go_ret
  exact ⟨rfl, _, HI0.out.change k hk3 HMe.out in2 HDe.out HQe.out HBn.out (by omega)⟩

set_option maxRecDepth 100000 in
set_option maxHeartbeats 4000000 in
theorem step_none {w0 : World} {x j : Nat} {s : DS} (kd on tt N : Int) (ad : Option Addr) (L cap : Nat) (w : World) (h : DInv w0 w x s j) (hon : I64 on) (hto : I64 tt) (h1 : kd ≠ 1) (h2 : kd ≠ 2) (h3 : kd ≠ 3) (h4 : kd ≠ 4) (h5 : kd ≠ 5) (h6 : kd ≠ 6) (h7 : kd ≠ 7) (h8 : kd ≠ 8) :
    Calls Try.prog 25 #[.pointer (some ⟨x, 0, none⟩), .agg #[.int .i64 kd, .int .i64 on, .int .i64 tt, .int .i64 N, .slice ad L cap]] w fun e w' => e = .returned (.bool true) ∧ ∃ s', DInv w0 w' x s' (j + 1) := by
  have hz := zero_sec
  have hgd := guard_sec
  have hk0 := pickN_bd on (show (1 : Int) ≤ 3 by decide)
  have ht0 := pickN_bd tt (show (1 : Int) ≤ 3 by decide)
  obtain ⟨k, hk⟩ := Int.eq_ofNat_of_zero_le hk0.1
  obtain ⟨t, ht⟩ := Int.eq_ofNat_of_zero_le ht0.1
  have hk3 : k < 3 := by omega
  have ht3 : t < 3 := by omega
  have hkl : (k : Int) < 3 := by omega
  have htl : (t : Int) < 3 := by omega
  have HKE := hid hk
  have HTE := hid ht
  clear hk0 ht0 hk ht
  have HI0 := hid (h.call (Below.refl_call w (.cells #[.int .i64 kd, .int .i64 on, .int .i64 tt, .int .i64 N, .slice ad L cap] 54)))
  have HO0 := hid (heap_alloc_new w (.cells #[.int .i64 kd, .int .i64 on, .int .i64 tt, .int .i64 N, .slice ad L cap] 54))
  have y0 := cell_of_row _ _ 0 _ _ _ HO0.out
  have y1 := cell_of_row _ _ 1 _ _ _ HO0.out
  have y2 := cell_of_row _ _ 2 _ _ _ HO0.out
  have y3 := cell_of_row _ _ 3 _ _ _ HO0.out
  have y4 := cell_of_row _ _ 4 _ _ _ HO0.out
  simp only [List.getElem?_toArray, List.getElem?_cons_zero, List.getElem?_cons_succ] at y0 y1 y2 y3 y4
  have c1 := HI0.out.cP k hk3
  have c2 := HI0.out.cR k hk3
  clear h
  go_enter Try.func25, Try.ntmps25
  have g1 : (kd == 1) = false := by simp [h1]
  have g2 : (kd == 2) = false := by simp [h2]
  have g3 : (kd == 3) = false := by simp [h3]
  have g4 : (kd == 4) = false := by simp [h4]
  have g5 : (kd == 5) = false := by simp [h5]
  have g6 : (kd == 6) = false := by simp [h6]
  have g7 : (kd == 7) = false := by simp [h7]
  have g8 : (kd == 8) = false := by simp [h8]
  clear h1 h2 h3 h4 h5 h6 h7 h8
  go_wp2_with (go_at_call 24; refine (pick_any _ _ _ (by first | exact hon | exact hto) (by decide) (by decide)).mono ?_; rintro e w5 ⟨rfl, rfl⟩; first | rw [HKE.out] | rw [HTE.out])
  go_ret
  exact ⟨rfl, s, HI0.out.mono (by omega)⟩

end Go.Proofs.Ytcgchdcbbiahnaa
