/-
  A step that is told: the arm of Splice, with bytes that are lent.
-/
import Derived.Test.YtibneoajkbblaaaTold34
namespace Go.Proofs.Ytibneoajkbblaaa
open Go.RowKit

theorem HB.add {w0 w : World} {bl : List (Nat × Obj)} {g : Nat} {o : Obj} (h : HB w0 bl w) (hg : w.heap[g]? = some o) : HB w0 ((g, o) :: bl) w := by
  have hlt : g < w.heap.size := by
    rcases Nat.lt_or_ge g w.heap.size with k | k
    · exact k
    · rw [Array.getElem?_eq_none k] at hg; cases hg
  refine ⟨fun x hx => ?_, fun x hx => ?_, h.old⟩
  · rcases List.mem_cons.1 hx with rfl | hx
    · exact hg
    · exact h.at_ x hx
  · rcases List.mem_cons.1 hx with rfl | hx
    · exact hlt
    · exact h.low x hx
theorem lent_bytes {w : World} {g : Nat} {zs : List Int} (hg : w.heap[g]? = some (.cells (SA (lentL zs)) 5 (0, 0))) : BytesAt w (some ⟨g, 0, none⟩) zs := by
  have hlt : g < w.heap.size := by
    rcases Nat.lt_or_ge g w.heap.size with k | k
    · exact k
    · rw [Array.getElem?_eq_none k] at hg; cases hg
  refine .inr ⟨g, 0, rfl, hlt, fun j hj => ?_⟩
  rw [Nat.zero_add, sec_cell hg j (by rw [lentL_len]; omega), lentL_get zs j (by omega), if_pos hj]

set_option maxRecDepth 100000 in
set_option maxHeartbeats 2000000 in
theorem told_2 (kd : Int) (s : List Int) (p n v : Int) (ad : Option Addr) (L cap : Nat) (w : World) (hs : IsSec s) (zs : List Int) (hL : Hid (zs.length = L)) (hm : L ≤ 140737488355328) (HZ : Hid (BytesAt w ad zs))
    (HPK : Hid (∀ w, Calls Try.prog 24 #[.int .i64 kd, .int .i64 5] w fun e w' => e = .returned (.int .i64 2) ∧ w' = w)) :
    Calls Try.prog 10 #[.agg (stepC kd s p n v ad L cap)] w fun e w' => e = .returned (.bool true) ∧ Below w.heap.size w w' := by
  have hz := zero_sec
  have hgd := guard_sec
  have HB0 := hid (step_start w kd s p n v ad L cap)
  have hk := step_kind (HB0.out.get (List.mem_singleton.2 rfl))
  have hd := step_d hs.1 (HB0.out.get (List.mem_singleton.2 rfl))
  have HLD := hid (lend_any zs L hL ad cap (w.alloc (.cells (stepC kd s p n v ad L cap) 29)) hm (bytes_below HZ.out HB0.out.old))
  have HSP : Hid (∀ w1 gl, w1.heap[gl]? = some (.cells (SA (lentL zs)) 5 (0, 0)) → Calls Try.prog 25 #[.agg (SA s), .int .i64 p, .slice (some ⟨gl, 0, none⟩) L (L + 8)] w1 fun e w' => e = .returned (.tuple #[.agg (SA (splS s p zs)), .int .i64 (splE p zs)]) ∧ Below w1.heap.size w1 w') := by
    intro w1 gl h
    rw [← hL.out]
    exact splice_any s p zs (some ⟨gl, 0, none⟩) (zs.length + 8) w1 hs.1 (lent_bytes h)
  have HRS : Hid (∀ w1, Below w.heap.size w w1 → Calls Try.prog 29 #[.agg (SA s), .int .i64 p, .slice ad L cap] w1 fun e w' => e = .returned (.tuple #[.agg (SA (splS s p zs)), .int .i64 (splE p zs)]) ∧ Below w1.heap.size w1 w') := by
    intro w1 h
    rw [← hL.out]
    exact rsplice_any s p zs ad cap w1 hs.1 (bytes_below HZ.out h)
  have hA : (splS s p zs).length = 128 := by
    unfold splS
    split
    · rename_i h
      have h' := of_decide_eq_true h
      rw [spl_len _ _ _ (by rw [hs.1]; omega), hs.1]
    · exact Zs_len
  generalize splS s p zs = A at *
  generalize splE p zs = ge at *
  have hq := eq_sec A A hA hA
  rw [decide_eq_true rfl] at hq
  go_enter Try.func10, Try.ntmps10
  go_wp2_with (go_at_call 24; refine (HPK.out _).mono ?_; rintro e w' ⟨rfl, rfl⟩)
  refine HLD.out.mono ?_
  rintro e w1 ⟨rfl, hl1, hb1⟩
  have HB1 := hid ((HB0.out.call hb1).add hl1)
  rw [show (w.alloc (.cells (stepC kd s p n v ad L cap) 29)).heap.size = w.heap.size + 1 by simp] at *
  clear hb1 hl1 HB0 HLD hk hd
  go_upto_region 12 with fail
  go_cut [12, 13] (fun x e wc => ∃ ga, x = .pointer (some ⟨ga, 0, none⟩) ∧ e = .int .i64 ge ∧ Hid (HB w [(ga, .cells (SA A) 26 (0, 0)), (w.heap.size + 1, .cells (SA (lentL zs)) 5 (0, 0)), stepB w kd s p n v ad L cap] wc))
  case first =>
    refine wp_region_noPanic ?_
    refine wp_region_held_drew (S := HB w [(w.heap.size + 1, .cells (SA (lentL zs)) 5 (0, 0)), stepB w kd s p n v ad L cap]) (by kernel_rfl) HB1.out.drew (fun hHeld => ?_)
    have hi0 : (0 : Int) ≤ (L : Int) := by omega
    have hi1 : (L : Int) ≤ (L : Int) + 8 := by omega
    have hcp : ¬ L + 8 = L := by omega
    have hnat : L ≤ L + 8 := by omega
    refine takeVal 0 90 (.pointer (some ⟨w.heap.size, 1, none⟩)) rfl (by kernel_rfl) (by kernel_rfl) (by kernel_rfl) rfl (by rfl) (fun _ _ _ h => h) hHeld (fun _ hw' => by go_simp) ?_
    simp only [List.setIfInBounds_toArray, List.set_cons_zero, List.set_cons_succ]
    refine takeMid 1 91 (.tmp 90) (w.heap.size) 1 s hs.1 rfl (by kernel_rfl) (by kernel_rfl) (by kernel_rfl) rfl rfl rfl (by rfl) (fun _ _ _ h => h) hHeld (fun _ h => step_s (h.get (g := w.heap.size) (o := .cells (stepC kd s p n v ad L cap) 29 (0, 0)) (by simp))) ?_
    simp only [List.setIfInBounds_toArray, List.set_cons_zero, List.set_cons_succ]
    refine takeVal 2 92 (.pointer (some ⟨w.heap.size, 129, none⟩)) rfl (by kernel_rfl) (by kernel_rfl) (by kernel_rfl) rfl (by rfl) (fun _ _ _ h => h) hHeld (fun _ hw' => by go_simp) ?_
    simp only [List.setIfInBounds_toArray, List.set_cons_zero, List.set_cons_succ]
    refine takeVal 3 93 (.int .i64 p) rfl (by kernel_rfl) (by kernel_rfl) (by kernel_rfl) rfl (by rfl) (fun _ _ _ h => h) hHeld (fun _ hw' => by have hc := step_p hs.1 (hw'.get (g := w.heap.size) (o := .cells (stepC kd s p n v ad L cap) 29 (0, 0)) (by simp)); go_simp) ?_
    simp only [List.setIfInBounds_toArray, List.set_cons_zero, List.set_cons_succ]
    refine takeVal 4 94 (.slice (some ⟨w.heap.size + 1, 0, none⟩) (L + 8) (L + 8)) rfl (by kernel_rfl) (by kernel_rfl) (by kernel_rfl) rfl (by rfl) (fun _ _ _ h => h) hHeld (fun _ hw' => rfl) ?_
    simp only [List.setIfInBounds_toArray, List.set_cons_zero, List.set_cons_succ]
    refine takeVal 5 95 (.pointer (some ⟨w.heap.size, 132, none⟩)) rfl (by kernel_rfl) (by kernel_rfl) (by kernel_rfl) rfl (by rfl) (fun _ _ _ h => h) hHeld (fun _ hw' => by go_simp) ?_
    simp only [List.setIfInBounds_toArray, List.set_cons_zero, List.set_cons_succ]
    refine takeVal 6 96 (.slice ad L cap) rfl (by kernel_rfl) (by kernel_rfl) (by kernel_rfl) rfl (by rfl) (fun _ _ _ h => h) hHeld (fun _ hw' => by have hc := step_d hs.1 (hw'.get (g := w.heap.size) (o := .cells (stepC kd s p n v ad L cap) 29 (0, 0)) (by simp)); go_simp) ?_
    simp only [List.setIfInBounds_toArray, List.set_cons_zero, List.set_cons_succ]
    refine takeVal 7 97 (.int .i64 (L : Int)) rfl (by kernel_rfl) (by kernel_rfl) (by kernel_rfl) rfl (by rfl) (fun _ _ _ h => h) hHeld (fun _ hw' => by go_simp) ?_
    simp only [List.setIfInBounds_toArray, List.set_cons_zero, List.set_cons_succ]
    refine takeVal 8 98 (.slice (some ⟨w.heap.size + 1, 0, none⟩) L (L + 8)) rfl (by kernel_rfl) (by kernel_rfl) (by kernel_rfl) rfl (by rfl) (fun _ _ _ h => h) hHeld (fun _ hw' => by go_simp) ?_
    simp only [List.setIfInBounds_toArray, List.set_cons_zero, List.set_cons_succ]
    refine step2 9 13 (by kernel_rfl) ?_ ?_
    · refine stCall 9 99 25 #[.agg (SA s), .int .i64 p, .slice (some ⟨w.heap.size + 1, 0, none⟩) L (L + 8)] _ rfl rfl (by rfl) (by go_simp) (HSP.out _ _ (hHeld.get (by simp))) ?_
      rintro e wT ⟨rfl, hbT⟩
      refine ⟨_, rfl, hHeld.call hbT, ?_⟩
      have hHeld := hHeld.call hbT
      simp only [List.setIfInBounds_toArray, List.set_cons_zero, List.set_cons_succ]
      clear hbT
      refine takeVal 10 89 (.tuple #[.agg (SA A), .int .i64 ge]) rfl (by kernel_rfl) (by kernel_rfl) (by kernel_rfl) rfl (by rfl) (fun _ _ _ h => h) hHeld (fun _ hw' => rfl) ?_
      simp only [List.setIfInBounds_toArray, List.set_cons_zero, List.set_cons_succ]
      refine takeVal 11 100 (.agg (SA A)) rfl (by kernel_rfl) (by kernel_rfl) (by kernel_rfl) rfl (by rfl) (fun _ _ _ h => h) hHeld (fun _ hw' => by go_simp) ?_
      simp only [List.setIfInBounds_toArray, List.set_cons_zero, List.set_cons_succ]
      refine takeVal 12 101 (.int .i64 ge) rfl (by kernel_rfl) (by kernel_rfl) (by kernel_rfl) rfl (by rfl) (fun _ _ _ h => h) hHeld (fun _ hw' => by go_simp) ?_
      simp only [List.setIfInBounds_toArray, List.set_cons_zero, List.set_cons_succ]
      refine step1 13 (by kernel_rfl) ?_
      · refine stAlloc 13 12 rfl rfl (by rfl) (by go_simp) ⟨(hHeld.alloc _).tail, ?_⟩
        have hBa := hHeld.alloc (.cells (SA Zs) 26)
        have hBaold := hHeld.old.size
        have hBane := hHeld.fresh
        have hHeld := hBa.tail
        simp only [List.setIfInBounds_toArray, List.set_cons_zero, List.set_cons_succ]
        refine step1 14 (by kernel_rfl) ?_
        refine stStore 14 rfl rfl (by rfl) _ _ rfl _ rfl A rfl hA Zs Zs_len (hBa.get (by simp)) (fun wS hwS => ?_)
        have hB5 := hBa.write hwS hBaold hBane
        refine ⟨hB5.tail, ?_⟩
        have hHeld := hB5.tail
        refine takeVal 15 13 (.int .i64 ge) rfl (by kernel_rfl) (by kernel_rfl) (by kernel_rfl) rfl (by rfl) (fun _ _ _ h => h) hHeld (fun _ hw' => rfl) ?_
        simp only [List.setIfInBounds_toArray, List.set_cons_zero, List.set_cons_succ]
        refine wpAnyH_done (by kernel_rfl) ?_ _
        refine NoPanic.normal ?_
        go_wp2_with fail
        go_meet
        case rel => exact ⟨_, rfl, rfl, hid hB5⟩
    · refine stAlloc 13 12 rfl rfl (by rfl) (by go_simp) ⟨(hHeld.alloc _).tail, ?_⟩
      have hBa := hHeld.alloc (.cells (SA Zs) 26)
      have hBaold := hHeld.old.size
      have hBane := hHeld.fresh
      have hHeld := hBa.tail
      simp only [List.setIfInBounds_toArray, List.set_cons_zero, List.set_cons_succ]
      refine step1 9 (by kernel_rfl) ?_
      · refine stCall 9 99 25 #[.agg (SA s), .int .i64 p, .slice (some ⟨w.heap.size + 1, 0, none⟩) L (L + 8)] _ rfl rfl (by rfl) (by go_simp) (HSP.out _ _ (hHeld.get (by simp))) ?_
        rintro e wT ⟨rfl, hbT⟩
        refine ⟨_, rfl, hHeld.call hbT, ?_⟩
        have hHeld := hHeld.call hbT
        have hBa := hBa.call hbT
        simp only [List.setIfInBounds_toArray, List.set_cons_zero, List.set_cons_succ]
        clear hbT
        refine takeVal 10 89 (.tuple #[.agg (SA A), .int .i64 ge]) rfl (by kernel_rfl) (by kernel_rfl) (by kernel_rfl) rfl (by rfl) (fun _ _ _ h => h) hHeld (fun _ hw' => rfl) ?_
        simp only [List.setIfInBounds_toArray, List.set_cons_zero, List.set_cons_succ]
        refine takeVal 11 100 (.agg (SA A)) rfl (by kernel_rfl) (by kernel_rfl) (by kernel_rfl) rfl (by rfl) (fun _ _ _ h => h) hHeld (fun _ hw' => by go_simp) ?_
        simp only [List.setIfInBounds_toArray, List.set_cons_zero, List.set_cons_succ]
        refine takeVal 12 101 (.int .i64 ge) rfl (by kernel_rfl) (by kernel_rfl) (by kernel_rfl) rfl (by rfl) (fun _ _ _ h => h) hHeld (fun _ hw' => by go_simp) ?_
        simp only [List.setIfInBounds_toArray, List.set_cons_zero, List.set_cons_succ]
        refine step1 14 (by kernel_rfl) ?_
        refine stStore 14 rfl rfl (by rfl) _ _ rfl _ rfl A rfl hA Zs Zs_len (hBa.get (by simp)) (fun wS hwS => ?_)
        have hB5 := hBa.write hwS hBaold hBane
        refine ⟨hB5.tail, ?_⟩
        have hHeld := hB5.tail
        refine takeVal 15 13 (.int .i64 ge) rfl (by kernel_rfl) (by kernel_rfl) (by kernel_rfl) rfl (by rfl) (fun _ _ _ h => h) hHeld (fun _ hw' => rfl) ?_
        simp only [List.setIfInBounds_toArray, List.set_cons_zero, List.set_cons_succ]
        refine wpAnyH_done (by kernel_rfl) ?_ _
        refine NoPanic.normal ?_
        go_wp2_with fail
        go_meet
        case rel => exact ⟨_, rfl, rfl, hid hB5⟩
  case rest =>
    obtain ⟨ga, rfl, rfl, HB2⟩ := hcut
    clear HB1 HSP
    have hm2 := HB2.out.get (g := w.heap.size) (o := .cells (stepC kd s p n v ad L cap) 29 (0, 0)) (by simp)
    have hp := step_p hs.1 hm2
    have hd := step_d hs.1 hm2
    have HM2 := hid hm2
    clear hm2
    go_wp2_with (refine load_mid rfl _ rfl w.heap.size 1 rfl s hs.1 (step_s HM2.out) ?_)
    refine (HRS.out _ HB2.out.old).mono ?_
    rintro e w3 ⟨rfl, hb3⟩
    have HB3 := hid (HB2.out.call hb3)
    clear hb3 HB2 HRS hp hd HM2
    have g3 := HB3.out.old.size
    have hee : (ge == ge) = true := by simp
    go_wp2_with (first | (refine store_sec rfl _ _ rfl w3.heap.size rfl A rfl hA Zs Zs_len (heap_alloc_new _ _) ?_; intro w4 hw4; have HB4 := hid ((HB3.out.alloc _).write hw4 g3 HB3.out.fresh); clear hw4; have hd := step_d hs.1 (HB4.out.get (g := w.heap.size) (o := .cells (stepC kd s p n v ad L cap) 29 (0, 0)) (by simp))) | refine load_sec rfl _ rfl ga rfl A hA (HB4.out.get (by simp)) ?_ | refine load_sec rfl _ rfl w3.heap.size rfl A hA (HB4.out.get (by simp)) ?_)
    refine (unchanged_any zs L hL ad cap (w.heap.size + 1) w4 w hm HZ.out HB4.out.old (by omega) (HB4.out.get (by simp))).mono ?_
    rintro e w5 ⟨rfl, c, hw5⟩
    have b5 : Below w.heap.size w w5 := hw5.below HB4.out.old (by omega)
    clear hw5
    go_wp2_with fail
    go_ret
    exact ⟨rfl, b5⟩

end Go.Proofs.Ytibneoajkbblaaa
