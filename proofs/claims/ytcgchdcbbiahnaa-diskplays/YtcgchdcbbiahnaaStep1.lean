/-
  A step on the desk: Read, Write, Arm, Restart, and what is no call.
-/
import Derived.Test.YtcgchdcbbiahnaaDesk0
namespace Go.Proofs.Ytcgchdcbbiahnaa
open Go.RowKit

theorem Mod.wroteS {w w' : World} {g : Nat} {c : List Int} (h : Wrote w g c w') : Mod w w' [g] :=
  ⟨h.os, h.tape, h.output, Nat.le_of_eq h.size.symm, fun k _ hn => h.other k (fun e => hn (by simp [e]))⟩
theorem DInv.hb {w0 w : World} {x j : Nat} {s : DS} (h : DInv w0 w x s j) {o : Nat} {ob : Obj} (ho : w.heap[o]? = some ob) : HB w0 [(x, .cells (deskC s) 50 (0, 0)), (o, ob)] w := by
  refine ⟨fun y hy => ?_, fun y hy => ?_, h.old⟩
  · rcases List.mem_cons.1 hy with e | e
    · rw [e]; exact h.desk
    · rw [List.mem_singleton.1 e]; exact ho
  · rcases List.mem_cons.1 hy with e | e
    · rw [e]; exact slt h.desk
    · rw [List.mem_singleton.1 e]; exact slt ho
theorem HB.rot3 {w0 w : World} {a b c : Nat × Obj} (h : HB w0 [a, b, c] w) : HB w0 [b, c, a] w := by
  refine h.sub fun y hy => ?_
  simp only [List.mem_cons, List.not_mem_nil, or_false] at hy ⊢
  rcases hy with h | h | h <;> simp [h]
theorem Bd2.arm {d : St8} {j : Nat} {i : Int} (h : Bd2 d j) (hi : I64 i) : Bd2 (armD d i) j := by
  unfold armD
  split
  · exact h
  · split
    · exact h
    · rename_i h1 _
      exact ⟨h.1, h.2.1, by simp only; omega, hi.2⟩

set_option maxRecDepth 100000 in
set_option maxHeartbeats 4000000 in
theorem step_read {w0 : World} {x j : Nat} {s : DS} (on tt N : Int) (ad : Option Addr) (L cap : Nat) (w : World) (h : DInv w0 w x s j) (hon : I64 on) (hto : I64 tt) :
    Calls Try.prog 25 #[.pointer (some ⟨x, 0, none⟩), .agg #[.int .i64 1, .int .i64 on, .int .i64 tt, .int .i64 N, .slice ad L cap]] w fun e w' => e = .returned (.bool true) ∧ ∃ s', DInv w0 w' x s' (j + 1) := by
  have hz := zero_sec
  have hgd := guard_sec
  have hk0 := pickN_bd on (show (1 : Int) ≤ 3 by decide)
  have ht0 := pickN_bd tt (show (1 : Int) ≤ 3 by decide)
  obtain ⟨k, hk⟩ := Int.eq_ofNat_of_zero_le hk0.1
  obtain ⟨t, ht⟩ := Int.eq_ofNat_of_zero_le ht0.1
  have hk3 : k < 3 := by omega
  have ht3 : t < 3 := by omega
  have hkl : (k : Int) < 3 := by omega
  have htl : (t : Int) < 3 := by omega
  have HKE := hid hk
  have HTE := hid ht
  clear hk0 ht0 hk ht
  have HI0 := hid (h.call (Below.refl_call w (.cells #[.int .i64 1, .int .i64 on, .int .i64 tt, .int .i64 N, .slice ad L cap] 54)))
  have HO0 := hid (heap_alloc_new w (.cells #[.int .i64 1, .int .i64 on, .int .i64 tt, .int .i64 N, .slice ad L cap] 54))
  have y0 := cell_of_row _ _ 0 _ _ _ HO0.out
  have y1 := cell_of_row _ _ 1 _ _ _ HO0.out
  have y2 := cell_of_row _ _ 2 _ _ _ HO0.out
  have y3 := cell_of_row _ _ 3 _ _ _ HO0.out
  have y4 := cell_of_row _ _ 4 _ _ _ HO0.out
  simp only [List.getElem?_toArray, List.getElem?_cons_zero, List.getElem?_cons_succ] at y0 y1 y2 y3 y4
  have c1 := HI0.out.cP k hk3
  have c2 := HI0.out.cR k hk3
  clear h
  go_enter Try.func25, Try.ntmps25
  have hCC := readS_len (HI0.out.isd k hk3) N
  generalize hCE : readS (s.D k) (s.N k) N = CC at *
  generalize hEE : refE (s.D k) (s.N k) N = EE at *
  have HCE := hid hCE
  have HEE := hid hEE
  clear hCE hEE
  go_upto_region 5 with (go_at_call 24; refine (pick_any _ _ _ (by first | exact hon | exact hto) (by decide) (by decide)).mono ?_; rintro e w5 ⟨rfl, rfl⟩; first | rw [HKE.out] | rw [HTE.out])
  generalize hw1 : w.alloc (.cells #[.int .i64 1, .int .i64 on, .int .i64 tt, .int .i64 N, .slice ad L cap] 54) = w1 at *
  generalize w.heap.size = o0 at *
  clear hw1
  go_cut [7, 8] (fun a e wc => ∃ u, a = .pointer (some ⟨u, 0, none⟩) ∧ e = .int .i64 EE ∧ Hid (HB w0 [(u, .cells (SA CC) 41 (0, 0)), (x, .cells (deskC s) 50 (0, 0)), (o0, .cells #[.int .i64 1, .int .i64 on, .int .i64 tt, .int .i64 N, .slice ad L cap] 54 (0, 0))] wc) ∧ Hid (DInv w0 wc x s j))
  case first =>
    refine wp_region_noPanic ?_
    refine wp_region_held_drew (S := HB w0 [(x, .cells (deskC s) 50 (0, 0)), (o0, .cells #[.int .i64 1, .int .i64 on, .int .i64 tt, .int .i64 N, .slice ad L cap] 54 (0, 0))]) (by kernel_rfl) (HI0.out.hb HO0.out).drew (fun hHeld => ?_)
    have HI := hid HI0.out.drew
    clear HI0 HO0 y0 y1 y2 y3 y4 c1 c2
    generalize w1.drew = wd at *
    refine takeVal 0 34 (.pointer (some ⟨x, 0, none⟩)) rfl (by kernel_rfl) (by kernel_rfl) (by kernel_rfl) rfl (by rfl) (fun _ _ _ h => h) hHeld (fun _ hw' => rfl) ?_
    simp only [List.setIfInBounds_toArray, List.set_cons_zero, List.set_cons_succ]
    refine takeVal 1 35 (.int .i64 (k : Int)) rfl (by kernel_rfl) (by kernel_rfl) (by kernel_rfl) rfl (by rfl) (fun _ _ _ h => h) hHeld (fun _ hw' => rfl) ?_
    simp only [List.setIfInBounds_toArray, List.set_cons_zero, List.set_cons_succ]
    refine takeVal 2 36 (.pointer (some ⟨x, 0, none⟩)) rfl (by kernel_rfl) (by kernel_rfl) (by kernel_rfl) rfl (by rfl) (fun _ _ _ h => h) hHeld (fun _ hw' => by go_simp) ?_
    simp only [List.setIfInBounds_toArray, List.set_cons_zero, List.set_cons_succ]
    refine takeVal 3 37 (.pointer (some ⟨x, 0, none⟩)) rfl (by kernel_rfl) (by kernel_rfl) (by kernel_rfl) rfl (by rfl) (fun _ _ _ h => h) hHeld (fun _ hw' => by go_simp) ?_
    simp only [List.setIfInBounds_toArray, List.set_cons_zero, List.set_cons_succ]
    refine takeVal 4 38 (.pointer (some ⟨x, k, none⟩)) rfl (by kernel_rfl) (by kernel_rfl) (by kernel_rfl) rfl (by rfl) (fun _ _ _ h => h) hHeld (fun _ hw' => by go_simp) ?_
    simp only [List.setIfInBounds_toArray, List.set_cons_zero, List.set_cons_succ]
    refine takeVal 5 39 (.pointer (some ⟨s.P k, 0, none⟩)) rfl (by kernel_rfl) (by kernel_rfl) (by kernel_rfl) rfl (by rfl) (fun _ _ _ h => h) hHeld (fun _ hw' => by have hc := desk_cP (hw'.get (List.mem_cons_self)) k hk3; go_simp) ?_
    simp only [List.setIfInBounds_toArray, List.set_cons_zero, List.set_cons_succ]
    refine takeVal 6 40 (.pointer (some ⟨o0, 3, none⟩)) rfl (by kernel_rfl) (by kernel_rfl) (by kernel_rfl) rfl (by rfl) (fun _ _ _ h => h) hHeld (fun _ hw' => by go_simp) ?_
    simp only [List.setIfInBounds_toArray, List.set_cons_zero, List.set_cons_succ]
    refine takeVal 7 41 (.int .i64 N) rfl (by kernel_rfl) (by kernel_rfl) (by kernel_rfl) rfl (by rfl) (fun _ _ _ h => h) hHeld (fun _ hw' => by have hc := cell_of_row _ _ 3 _ _ _ (hw'.get (List.mem_cons_of_mem _ List.mem_cons_self)); simp only [List.getElem?_toArray, List.getElem?_cons_zero, List.getElem?_cons_succ] at hc; go_simp) ?_
    simp only [List.setIfInBounds_toArray, List.set_cons_zero, List.set_cons_succ]
    refine step2 8 12 (by kernel_rfl) ?_ ?_
    · have hBc := Below.refl wd.heap.size wd
      refine stCall 8 42 31 #[.pointer (some ⟨s.P k, 0, none⟩), .int .i64 N] _ rfl rfl (by rfl) (by go_simp) (read_any N _ ((HI.out.call hBc).isd k hk3)) ?_
      rintro e wT ⟨rfl, hbT⟩
      rw [HCE.out, HEE.out]
      refine ⟨_, rfl, hHeld.call hbT, ?_⟩
      have hHeld := hHeld.call hbT
      simp only [List.setIfInBounds_toArray, List.set_cons_zero, List.set_cons_succ]
      refine takeVal 9 33 (.tuple #[.agg (SA CC), .int .i64 EE]) rfl (by kernel_rfl) (by kernel_rfl) (by kernel_rfl) rfl (by rfl) (fun _ _ _ h => h) hHeld (fun _ hw' => rfl) ?_
      simp only [List.setIfInBounds_toArray, List.set_cons_zero, List.set_cons_succ]
      refine takeVal 10 43 (.agg (SA CC)) rfl (by kernel_rfl) (by kernel_rfl) (by kernel_rfl) rfl (by rfl) (fun _ _ _ h => h) hHeld (fun _ hw' => by go_simp) ?_
      simp only [List.setIfInBounds_toArray, List.set_cons_zero, List.set_cons_succ]
      refine takeVal 11 44 (.int .i64 EE) rfl (by kernel_rfl) (by kernel_rfl) (by kernel_rfl) rfl (by rfl) (fun _ _ _ h => h) hHeld (fun _ hw' => by go_simp) ?_
      simp only [List.setIfInBounds_toArray, List.set_cons_zero, List.set_cons_succ]
      refine step1 12 (by kernel_rfl) ?_
      refine stAlloc 12 7 rfl rfl (by rfl) (by go_simp) ⟨(hHeld.alloc _).tail, ?_⟩
      have hBa := hHeld.alloc (.cells (SA Zs) 41)
      have hBaold := hHeld.old.size
      have hBane := hHeld.fresh
      have hHeld := hBa.tail
      simp only [List.setIfInBounds_toArray, List.set_cons_zero, List.set_cons_succ]
      refine step1 13 (by kernel_rfl) ?_
      refine stStore 13 rfl rfl (by rfl) _ _ rfl _ rfl CC rfl hCC Zs Zs_len (hBa.get List.mem_cons_self) (fun wS hwS => ?_)
      have hB5 := hBa.write hwS hBaold hBane
      have hBE := hwS.below (hbT.trans ((Below.refl_call wT (.cells (SA Zs) 41)).mono hbT.size)) hbT.size
      refine ⟨hB5.tail, ?_⟩
      have hHeld := hB5.tail
      refine takeVal 14 8 (.int .i64 EE) rfl (by kernel_rfl) (by kernel_rfl) (by kernel_rfl) rfl (by rfl) (fun _ _ _ h => h) hHeld (fun _ hw' => rfl) ?_
      simp only [List.setIfInBounds_toArray, List.set_cons_zero, List.set_cons_succ]
      refine wpAnyH_done (by kernel_rfl) ?_ _
      refine NoPanic.normal ?_
      go_wp2_with fail
      go_meet
      case rel => exact ⟨_, rfl, rfl, hid hB5, hid (HI.out.call hBE)⟩
    · refine stAlloc 12 7 rfl rfl (by rfl) (by go_simp) ⟨(hHeld.alloc _).tail, ?_⟩
      have hBa := hHeld.alloc (.cells (SA Zs) 41)
      have hBaold := hHeld.old.size
      have hBane := hHeld.fresh
      have hHeld := hBa.tail
      have hBc := Below.refl_call wd (.cells (SA Zs) 41)
      simp only [List.setIfInBounds_toArray, List.set_cons_zero, List.set_cons_succ]
      refine step1 8 (by kernel_rfl) ?_
      refine stCall 8 42 31 #[.pointer (some ⟨s.P k, 0, none⟩), .int .i64 N] _ rfl rfl (by rfl) (by go_simp) (read_any N _ ((HI.out.call hBc).isd k hk3)) ?_
      rintro e wT ⟨rfl, hbT⟩
      rw [HCE.out, HEE.out]
      refine ⟨_, rfl, hHeld.call hbT, ?_⟩
      have hHeld := hHeld.call hbT
      simp only [List.setIfInBounds_toArray, List.set_cons_zero, List.set_cons_succ]
      have hBa := hBa.call hbT
      refine takeVal 9 33 (.tuple #[.agg (SA CC), .int .i64 EE]) rfl (by kernel_rfl) (by kernel_rfl) (by kernel_rfl) rfl (by rfl) (fun _ _ _ h => h) hHeld (fun _ hw' => rfl) ?_
      simp only [List.setIfInBounds_toArray, List.set_cons_zero, List.set_cons_succ]
      refine takeVal 10 43 (.agg (SA CC)) rfl (by kernel_rfl) (by kernel_rfl) (by kernel_rfl) rfl (by rfl) (fun _ _ _ h => h) hHeld (fun _ hw' => by go_simp) ?_
      simp only [List.setIfInBounds_toArray, List.set_cons_zero, List.set_cons_succ]
      refine takeVal 11 44 (.int .i64 EE) rfl (by kernel_rfl) (by kernel_rfl) (by kernel_rfl) rfl (by rfl) (fun _ _ _ h => h) hHeld (fun _ hw' => by go_simp) ?_
      simp only [List.setIfInBounds_toArray, List.set_cons_zero, List.set_cons_succ]
      refine step1 13 (by kernel_rfl) ?_
      refine stStore 13 rfl rfl (by rfl) _ _ rfl _ rfl CC rfl hCC Zs Zs_len (hBa.get List.mem_cons_self) (fun wS hwS => ?_)
      have hB5 := hBa.write hwS hBaold hBane
      have hBE := hwS.below (hBc.trans (hbT.mono (by simp))) (Nat.le_refl _)
      refine ⟨hB5.tail, ?_⟩
      have hHeld := hB5.tail
      refine takeVal 14 8 (.int .i64 EE) rfl (by kernel_rfl) (by kernel_rfl) (by kernel_rfl) rfl (by rfl) (fun _ _ _ h => h) hHeld (fun _ hw' => rfl) ?_
      simp only [List.setIfInBounds_toArray, List.set_cons_zero, List.set_cons_succ]
      refine wpAnyH_done (by kernel_rfl) ?_ _
      refine NoPanic.normal ?_
      go_wp2_with fail
      go_meet
      case rel => exact ⟨_, rfl, rfl, hid hB5, hid (HI.out.call hBE)⟩
  case rest =>
    obtain ⟨u1, rfl, rfl, HH1, HI1⟩ := hcut
    clear HI0 HO0 y0 y1 y2 y3 y4 c1 c2
    go_upto_region 6 with fail
    go_cut [9, 10] (fun a e wc => ∃ u, a = .pointer (some ⟨u, 0, none⟩) ∧ e = .int .i64 EE ∧ Hid (HB w0 [(u, .cells (SA CC) 41 (0, 0)), (x, .cells (deskC s) 50 (0, 0)), (o0, .cells #[.int .i64 1, .int .i64 on, .int .i64 tt, .int .i64 N, .slice ad L cap] 54 (0, 0)), (u1, .cells (SA CC) 41 (0, 0))] wc) ∧ Hid (DInv w0 wc x s j))
    case first =>
      refine wp_region_noPanic ?_
      refine wp_region_held_drew (S := HB w0 [(x, .cells (deskC s) 50 (0, 0)), (o0, .cells #[.int .i64 1, .int .i64 on, .int .i64 tt, .int .i64 N, .slice ad L cap] 54 (0, 0)), (u1, .cells (SA CC) 41 (0, 0))]) (by kernel_rfl) HH1.out.rot3.drew (fun hHeld => ?_)
      have HI := hid HI1.out.drew
      clear HI1 HH1
      generalize wc.drew = wd at *
      refine takeVal 0 46 (.pointer (some ⟨x, 0, none⟩)) rfl (by kernel_rfl) (by kernel_rfl) (by kernel_rfl) rfl (by rfl) (fun _ _ _ h => h) hHeld (fun _ hw' => rfl) ?_
      simp only [List.setIfInBounds_toArray, List.set_cons_zero, List.set_cons_succ]
      refine takeVal 1 47 (.int .i64 (k : Int)) rfl (by kernel_rfl) (by kernel_rfl) (by kernel_rfl) rfl (by rfl) (fun _ _ _ h => h) hHeld (fun _ hw' => rfl) ?_
      simp only [List.setIfInBounds_toArray, List.set_cons_zero, List.set_cons_succ]
      refine takeVal 2 48 (.pointer (some ⟨x, 0, none⟩)) rfl (by kernel_rfl) (by kernel_rfl) (by kernel_rfl) rfl (by rfl) (fun _ _ _ h => h) hHeld (fun _ hw' => by go_simp) ?_
      simp only [List.setIfInBounds_toArray, List.set_cons_zero, List.set_cons_succ]
      refine takeVal 3 49 (.pointer (some ⟨x, 3, none⟩)) rfl (by kernel_rfl) (by kernel_rfl) (by kernel_rfl) rfl (by rfl) (fun _ _ _ h => h) hHeld (fun _ hw' => by go_simp) ?_
      simp only [List.setIfInBounds_toArray, List.set_cons_zero, List.set_cons_succ]
      refine takeVal 4 50 (.pointer (some ⟨x, 3 + k, none⟩)) rfl (by kernel_rfl) (by kernel_rfl) (by kernel_rfl) rfl (by rfl) (fun _ _ _ h => h) hHeld (fun _ hw' => by go_simp) ?_
      simp only [List.setIfInBounds_toArray, List.set_cons_zero, List.set_cons_succ]
      refine takeVal 5 51 (.pointer (some ⟨s.R k, 0, none⟩)) rfl (by kernel_rfl) (by kernel_rfl) (by kernel_rfl) rfl (by rfl) (fun _ _ _ h => h) hHeld (fun _ hw' => by have hc := desk_cR (hw'.get (List.mem_cons_self)) k hk3; go_simp) ?_
      simp only [List.setIfInBounds_toArray, List.set_cons_zero, List.set_cons_succ]
      refine takeVal 6 52 (.pointer (some ⟨o0, 3, none⟩)) rfl (by kernel_rfl) (by kernel_rfl) (by kernel_rfl) rfl (by rfl) (fun _ _ _ h => h) hHeld (fun _ hw' => by go_simp) ?_
      simp only [List.setIfInBounds_toArray, List.set_cons_zero, List.set_cons_succ]
      refine takeVal 7 53 (.int .i64 N) rfl (by kernel_rfl) (by kernel_rfl) (by kernel_rfl) rfl (by rfl) (fun _ _ _ h => h) hHeld (fun _ hw' => by have hc := cell_of_row _ _ 3 _ _ _ (hw'.get (List.mem_cons_of_mem _ List.mem_cons_self)); simp only [List.getElem?_toArray, List.getElem?_cons_zero, List.getElem?_cons_succ] at hc; go_simp) ?_
      simp only [List.setIfInBounds_toArray, List.set_cons_zero, List.set_cons_succ]
      refine step2 8 12 (by kernel_rfl) ?_ ?_
      · have hBc := Below.refl wd.heap.size wd
        refine stCall 8 54 35 #[.pointer (some ⟨s.R k, 0, none⟩), .int .i64 N] _ rfl rfl (by rfl) (by go_simp) (rread_any N _ ((HI.out.call hBc).isq k hk3)) ?_
        rintro e wT ⟨rfl, hbT⟩
        rw [HCE.out, HEE.out]
        refine ⟨_, rfl, hHeld.call hbT, ?_⟩
        have hHeld := hHeld.call hbT
        simp only [List.setIfInBounds_toArray, List.set_cons_zero, List.set_cons_succ]
        refine takeVal 9 45 (.tuple #[.agg (SA CC), .int .i64 EE]) rfl (by kernel_rfl) (by kernel_rfl) (by kernel_rfl) rfl (by rfl) (fun _ _ _ h => h) hHeld (fun _ hw' => rfl) ?_
        simp only [List.setIfInBounds_toArray, List.set_cons_zero, List.set_cons_succ]
        refine takeVal 10 55 (.agg (SA CC)) rfl (by kernel_rfl) (by kernel_rfl) (by kernel_rfl) rfl (by rfl) (fun _ _ _ h => h) hHeld (fun _ hw' => by go_simp) ?_
        simp only [List.setIfInBounds_toArray, List.set_cons_zero, List.set_cons_succ]
        refine takeVal 11 56 (.int .i64 EE) rfl (by kernel_rfl) (by kernel_rfl) (by kernel_rfl) rfl (by rfl) (fun _ _ _ h => h) hHeld (fun _ hw' => by go_simp) ?_
        simp only [List.setIfInBounds_toArray, List.set_cons_zero, List.set_cons_succ]
        refine step1 12 (by kernel_rfl) ?_
        refine stAlloc 12 9 rfl rfl (by rfl) (by go_simp) ⟨(hHeld.alloc _).tail, ?_⟩
        have hBa := hHeld.alloc (.cells (SA Zs) 41)
        have hBaold := hHeld.old.size
        have hBane := hHeld.fresh
        have hHeld := hBa.tail
        simp only [List.setIfInBounds_toArray, List.set_cons_zero, List.set_cons_succ]
        refine step1 13 (by kernel_rfl) ?_
        refine stStore 13 rfl rfl (by rfl) _ _ rfl _ rfl CC rfl hCC Zs Zs_len (hBa.get List.mem_cons_self) (fun wS hwS => ?_)
        have hB5 := hBa.write hwS hBaold hBane
        have hBE := hwS.below (hbT.trans ((Below.refl_call wT (.cells (SA Zs) 41)).mono hbT.size)) hbT.size
        refine ⟨hB5.tail, ?_⟩
        have hHeld := hB5.tail
        refine takeVal 14 10 (.int .i64 EE) rfl (by kernel_rfl) (by kernel_rfl) (by kernel_rfl) rfl (by rfl) (fun _ _ _ h => h) hHeld (fun _ hw' => rfl) ?_
        simp only [List.setIfInBounds_toArray, List.set_cons_zero, List.set_cons_succ]
        refine wpAnyH_done (by kernel_rfl) ?_ _
        refine NoPanic.normal ?_
        go_wp2_with fail
        go_meet
        case rel => exact ⟨_, rfl, rfl, hid hB5, hid (HI.out.call hBE)⟩
      · refine stAlloc 12 9 rfl rfl (by rfl) (by go_simp) ⟨(hHeld.alloc _).tail, ?_⟩
        have hBa := hHeld.alloc (.cells (SA Zs) 41)
        have hBaold := hHeld.old.size
        have hBane := hHeld.fresh
        have hHeld := hBa.tail
        have hBc := Below.refl_call wd (.cells (SA Zs) 41)
        simp only [List.setIfInBounds_toArray, List.set_cons_zero, List.set_cons_succ]
        refine step1 8 (by kernel_rfl) ?_
        refine stCall 8 54 35 #[.pointer (some ⟨s.R k, 0, none⟩), .int .i64 N] _ rfl rfl (by rfl) (by go_simp) (rread_any N _ ((HI.out.call hBc).isq k hk3)) ?_
        rintro e wT ⟨rfl, hbT⟩
        rw [HCE.out, HEE.out]
        refine ⟨_, rfl, hHeld.call hbT, ?_⟩
        have hHeld := hHeld.call hbT
        simp only [List.setIfInBounds_toArray, List.set_cons_zero, List.set_cons_succ]
        have hBa := hBa.call hbT
        refine takeVal 9 45 (.tuple #[.agg (SA CC), .int .i64 EE]) rfl (by kernel_rfl) (by kernel_rfl) (by kernel_rfl) rfl (by rfl) (fun _ _ _ h => h) hHeld (fun _ hw' => rfl) ?_
        simp only [List.setIfInBounds_toArray, List.set_cons_zero, List.set_cons_succ]
        refine takeVal 10 55 (.agg (SA CC)) rfl (by kernel_rfl) (by kernel_rfl) (by kernel_rfl) rfl (by rfl) (fun _ _ _ h => h) hHeld (fun _ hw' => by go_simp) ?_
        simp only [List.setIfInBounds_toArray, List.set_cons_zero, List.set_cons_succ]
        refine takeVal 11 56 (.int .i64 EE) rfl (by kernel_rfl) (by kernel_rfl) (by kernel_rfl) rfl (by rfl) (fun _ _ _ h => h) hHeld (fun _ hw' => by go_simp) ?_
        simp only [List.setIfInBounds_toArray, List.set_cons_zero, List.set_cons_succ]
        refine step1 13 (by kernel_rfl) ?_
        refine stStore 13 rfl rfl (by rfl) _ _ rfl _ rfl CC rfl hCC Zs Zs_len (hBa.get List.mem_cons_self) (fun wS hwS => ?_)
        have hB5 := hBa.write hwS hBaold hBane
        have hBE := hwS.below (hBc.trans (hbT.mono (by simp))) (Nat.le_refl _)
        refine ⟨hB5.tail, ?_⟩
        have hHeld := hB5.tail
        refine takeVal 14 10 (.int .i64 EE) rfl (by kernel_rfl) (by kernel_rfl) (by kernel_rfl) rfl (by rfl) (fun _ _ _ h => h) hHeld (fun _ hw' => rfl) ?_
        simp only [List.setIfInBounds_toArray, List.set_cons_zero, List.set_cons_succ]
        refine wpAnyH_done (by kernel_rfl) ?_ _
        refine NoPanic.normal ?_
        go_wp2_with fail
        go_meet
        case rel => exact ⟨_, rfl, rfl, hid hB5, hid (HI.out.call hBE)⟩
    case rest =>
      obtain ⟨u2, rfl, rfl, HH2, HI2⟩ := hcut
      have hq := eq_sec CC CC hCC hCC
      rw [decide_eq_true rfl] at hq
      have L1 : Hid (wc.heap[u1]? = some (.cells (SA CC) 41 (0, 0))) := hid (HH2.out.get (by simp))
      have L2 : Hid (wc.heap[u2]? = some (.cells (SA CC) 41 (0, 0))) := hid (HH2.out.get (by simp))
      go_wp2_with (first | (refine load_sec rfl _ rfl u1 rfl CC hCC L1.out ?_) | (refine load_sec rfl _ rfl u2 rfl CC hCC L2.out ?_))
      go_ret
      exact ⟨rfl, s, HI2.out.mono (by omega)⟩

end Go.Proofs.Ytcgchdcbbiahnaa
