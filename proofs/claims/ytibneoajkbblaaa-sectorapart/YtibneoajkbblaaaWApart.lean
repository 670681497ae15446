/-
  SectorApart returns true, for every sector and two things that are put into it: the walk.
-/
import Derived.Test.YtibneoajkbblaaaPlain3
import Derived.Test.YtibneoajkbblaaaWSpot
import Derived.Test.YtibneoajkbblaaaWKnown
import Derived.Test.YtibneoajkbblaaaHeld
import Derived.Deep.CutRange
import Derived.Deep.DeepCutAuto
namespace Go.Proofs.Ytibneoajkbblaaa
open Go.RowKit

/-- The cells of what SectorApart is handed. -/
def twoC (a b vv tn : Int) (ad : Option Addr) (L cap : Nat) : Array Value := #[.int .i64 a, .int .i64 b, .int .i64 vv, .int .i64 tn, .slice ad L cap]
/-- The two boxes. -/
def boxes (w : World) (s : List Int) (a b vv tn : Int) (ad : Option Addr) (L cap : Nat) : List (Nat × Obj) :=
  [(w.heap.size + 1, .cells (twoC a b vv tn ad L cap) 53 (0, 0)), (w.heap.size, .cells (SA s) 26 (0, 0))]
theorem boxes_start (w : World) (s : List Int) (a b vv tn : Int) (ad : Option Addr) (L cap : Nat) : HB w (boxes w s a b vv tn ad L cap) ((w.alloc (.cells (SA s) 26)).alloc (.cells (twoC a b vv tn ad L cap) 53)) := by
  have h0 : HB w [] w := ⟨by simp, by simp, Below.refl _ _⟩
  have h2 := (h0.alloc (.cells (SA s) 26)).alloc (.cells (twoC a b vv tn ad L cap) 53)
  rw [show (w.alloc (.cells (SA s) 26)).heap.size = w.heap.size + 1 by simp] at h2
  exact h2

theorem two_cell {w0 w : World} {bl : List (Nat × Obj)} {g : Nat} {a b vv tn : Int} {ad : Option Addr} {L cap : Nat} (h : HB w0 bl w) (hm : (g, Obj.cells (twoC a b vv tn ad L cap) 53 (0, 0)) ∈ bl) : w.cell? ⟨g, 2, none⟩ = some (.int .i64 vv) := by
  rw [cell_of_row w g 2 _ 53 (0, 0) (h.get hm)]
  rfl
theorem two_cell3 {w0 w : World} {bl : List (Nat × Obj)} {g : Nat} {a b vv tn : Int} {ad : Option Addr} {L cap : Nat} (h : HB w0 bl w) (hm : (g, Obj.cells (twoC a b vv tn ad L cap) 53 (0, 0)) ∈ bl) : w.cell? ⟨g, 3, none⟩ = some (.int .i64 tn) := by
  rw [cell_of_row w g 3 _ 53 (0, 0) (h.get hm)]
  rfl

theorem two_mem (w : World) (s : List Int) (a b vv tn : Int) (ad : Option Addr) (L cap : Nat) : (w.heap.size + 1, Obj.cells (twoC a b vv tn ad L cap) 53 (0, 0)) ∈ boxes w s a b vv tn ad L cap := by simp [boxes]
theorem sec_mem (w : World) (s : List Int) (a b vv tn : Int) (ad : Option Addr) (L cap : Nat) : (w.heap.size, Obj.cells (SA s) 26 (0, 0)) ∈ boxes w s a b vv tn ad L cap := by simp [boxes]

set_option maxRecDepth 100000 in
set_option maxHeartbeats 2000000 in
theorem apart_way (s : List Int) (a b vv tn : Int) (ad : Option Addr) (L M cap T : Nat) (w : World) (P W N : Int) (zs A B C D : List Int) (hs : IsSec s) (hA : IsSec A) (hB : IsSec B) (hC : IsSec C) (hD : IsSec D)
    (hcap : L ≤ cap) (hM : Hid (min L 128 = M)) (hM8 : M ≤ 128) (hT : T + M ≤ 128) (hW : 1 ≤ W ∧ W ≤ 8) (hP : 0 ≤ P ∧ P ≤ 128 - W) (hzl : Hid (zs.length = M)) (HZ : Hid (BytesAt w ad zs))
    (HSP : Hid (∀ w, Calls Try.prog 20 #[.int .i64 a, .int .i64 b] w fun e w' => e = .returned (.tuple #[.int .i64 P, .int .i64 W]) ∧ w' = w))
    (HPK : Hid (∀ w, Calls Try.prog 24 #[.int .i64 tn, .int .i64 (129 - (M : Int))] w fun e w' => e = .returned (.int .i64 (T : Int)) ∧ w' = w))
    (HVL : Hid (∀ w, Calls Try.prog 21 #[.int .i64 vv, .int .i64 W] w fun e w' => e = .returned (.int .i64 N) ∧ w' = w))
    (HS1 : Hid (∀ w, Calls Try.prog 22 #[.agg (SA s), .int .i64 P, .int .i64 W, .int .i64 N] w fun e w' => e = .returned (.tuple #[.agg (SA A), .int .i64 0]) ∧ Below w.heap.size w w'))
    (HS2 : Hid (∀ w, Calls Try.prog 22 #[.agg (SA C), .int .i64 P, .int .i64 W, .int .i64 N] w fun e w' => e = .returned (.tuple #[.agg (SA D), .int .i64 0]) ∧ Below w.heap.size w w'))
    (HPA : Hid (∀ w1, Below w.heap.size w w1 → Calls Try.prog 25 #[.agg (SA A), .int .i64 (T : Int), .slice ad M cap] w1 fun e w' => e = .returned (.tuple #[.agg (SA B), .int .i64 0]) ∧ Below w1.heap.size w1 w'))
    (HPS : Hid (∀ w1, Below w.heap.size w w1 → Calls Try.prog 25 #[.agg (SA s), .int .i64 (T : Int), .slice ad M cap] w1 fun e w' => e = .returned (.tuple #[.agg (SA C), .int .i64 0]) ∧ Below w1.heap.size w1 w'))
    (HPB : Hid (∀ w1, Below w.heap.size w w1 → Calls Try.prog 25 #[.agg (SA B), .int .i64 (T : Int), .slice ad M cap] w1 fun e w' => e = .returned (.tuple #[.agg (SA B), .int .i64 0]) ∧ Below w1.heap.size w1 w'))
    (HGD : Hid (∀ w, Calls Try.prog 23 #[.agg (SA D), .int .i64 P, .int .i64 W] w fun e w' => e = .returned (.tuple #[.int .i64 N, .int .i64 0]) ∧ Below w.heap.size w w'))
    (HBD : Hid (P + W ≤ (T : Int) ∨ (T : Int) + (M : Int) ≤ P → B = D)) (HBk : Hid (∀ k, k < M → B.getD (T + k) 0 = zs.getD k 0)) :
    Calls Try.prog 8 #[.agg (SA s), .agg (twoC a b vv tn ad L cap)] w fun e w' => e = .returned (.bool true) ∧ Below w.heap.size w w' := by
  have hz := zero_sec
  have hgd := guard_sec
  have HB0 := hid (boxes_start w s a b vv tn ad L cap)
  unfold twoC
  go_enter Try.func8, Try.ntmps8
  go_upto_if 34 with (go_at_call 20; refine (HSP.out _).mono ?_; rintro e w' ⟨rfl, rfl⟩)
  go_cut [7] (fun x wc => x = .slice ad M cap ∧ Hid (HB w (boxes w s a b vv tn ad L cap) wc))
  case first =>
    by_cases c : 128 < (L : Int)
    · go_wp2_with fail
      go_meet
      case rel => exact ⟨by rw [← hM.out, Nat.min_eq_right (by omega)], HB0⟩
    · go_wp2_with fail
      go_meet
      case rel => exact ⟨by rw [← hM.out, Nat.min_eq_left (by omega)], HB0⟩
  case rest =>
    obtain ⟨rfl, HB1⟩ := hcut
    clear HB0
    have hcT := two_cell3 HB1.out (two_mem w s a b vv tn ad L cap)
    go_upto_region 6 with (go_at_call 24; refine (HPK.out _).mono ?_; rintro e w' ⟨rfl, rfl⟩)
    clear hcT
    go_cut [9, 10] (fun p e wc => ∃ ga, p = .pointer (some ⟨ga, 0, none⟩) ∧ e = .int .i64 0 ∧ Hid (HB w ((ga, .cells (SA A) 26 (0, 0)) :: boxes w s a b vv tn ad L cap) wc))
    case first =>
      refine wp_region_noPanic ?_
      refine wp_region_held_drew (S := HB w (boxes w s a b vv tn ad L cap)) (by kernel_rfl) HB1.out.drew (fun hHeld => ?_)
      refine takeSec 0 44 (.tmp 2) (w.heap.size) s hs.1 rfl (by kernel_rfl) (by kernel_rfl) (by kernel_rfl) rfl rfl rfl (by rfl) (fun _ _ _ h => h) hHeld (fun _ h => h.get (sec_mem w s a b vv tn ad L cap)) ?_
      simp only [List.setIfInBounds_toArray, List.set_cons_zero, List.set_cons_succ]
      refine takeVal 1 45 (.int .i64 P) rfl (by kernel_rfl) (by kernel_rfl) (by kernel_rfl) rfl (by rfl) (fun _ _ _ h => h) hHeld (fun _ hw' => rfl) ?_
      simp only [List.setIfInBounds_toArray, List.set_cons_zero, List.set_cons_succ]
      refine takeVal 2 46 (.int .i64 W) rfl (by kernel_rfl) (by kernel_rfl) (by kernel_rfl) rfl (by rfl) (fun _ _ _ h => h) hHeld (fun _ hw' => rfl) ?_
      simp only [List.setIfInBounds_toArray, List.set_cons_zero, List.set_cons_succ]
      refine takeVal 3 47 (.pointer (some ⟨w.heap.size + 1, 2, none⟩)) rfl (by kernel_rfl) (by kernel_rfl) (by kernel_rfl) rfl (by rfl) (fun _ _ _ h => h) hHeld (fun _ hw' => by go_simp) ?_
      simp only [List.setIfInBounds_toArray, List.set_cons_zero, List.set_cons_succ]
      refine takeVal 4 48 (.int .i64 vv) rfl (by kernel_rfl) (by kernel_rfl) (by kernel_rfl) rfl (by rfl) (fun _ _ _ h => h) hHeld (fun _ hw' => by have hcv := two_cell hw' (two_mem w s a b vv tn ad L cap); go_simp) ?_
      simp only [List.setIfInBounds_toArray, List.set_cons_zero, List.set_cons_succ]
      refine takeVal 5 49 (.int .i64 W) rfl (by kernel_rfl) (by kernel_rfl) (by kernel_rfl) rfl (by rfl) (fun _ _ _ h => h) hHeld (fun _ hw' => rfl) ?_
      simp only [List.setIfInBounds_toArray, List.set_cons_zero, List.set_cons_succ]
      refine step2 6 11 (by kernel_rfl) ?_ ?_
      · refine stCall 6 50 21 #[.int .i64 vv, .int .i64 W] _ rfl rfl (by rfl) (by go_simp) (HVL.out _) ?_
        rintro e w' ⟨rfl, rfl⟩
        refine ⟨_, rfl, hHeld, ?_⟩
        simp only [List.setIfInBounds_toArray, List.set_cons_zero, List.set_cons_succ]
        refine step2 7 11 (by kernel_rfl) ?_ ?_
        · refine stCall 7 51 22 #[.agg (SA s), .int .i64 P, .int .i64 W, .int .i64 N] _ rfl rfl (by rfl) (by go_simp) (HS1.out _) ?_
          rintro e wT ⟨rfl, hbT⟩
          refine ⟨_, rfl, hHeld.call hbT, ?_⟩
          have hHeld := hHeld.call hbT
          simp only [List.setIfInBounds_toArray, List.set_cons_zero, List.set_cons_succ]
          clear hbT
          refine takeVal 8 43 (.tuple #[.agg (SA A), .int .i64 0]) rfl (by kernel_rfl) (by kernel_rfl) (by kernel_rfl) rfl (by rfl) (fun _ _ _ h => h) hHeld (fun _ hw' => rfl) ?_
          simp only [List.setIfInBounds_toArray, List.set_cons_zero, List.set_cons_succ]
          refine takeVal 9 52 (.agg (SA A)) rfl (by kernel_rfl) (by kernel_rfl) (by kernel_rfl) rfl (by rfl) (fun _ _ _ h => h) hHeld (fun _ hw' => by go_simp) ?_
          simp only [List.setIfInBounds_toArray, List.set_cons_zero, List.set_cons_succ]
          refine takeVal 10 53 (.int .i64 0) rfl (by kernel_rfl) (by kernel_rfl) (by kernel_rfl) rfl (by rfl) (fun _ _ _ h => h) hHeld (fun _ hw' => by go_simp) ?_
          simp only [List.setIfInBounds_toArray, List.set_cons_zero, List.set_cons_succ]
          refine step1 11 (by kernel_rfl) ?_
          · refine stAlloc 11 9 rfl rfl (by rfl) (by go_simp) ⟨(hHeld.alloc _).tail, ?_⟩
            have hBa := hHeld.alloc (.cells (SA Zs) 26)
            have hBaold := hHeld.old.size
            have hBane := hHeld.fresh
            have hHeld := hBa.tail
            simp only [List.setIfInBounds_toArray, List.set_cons_zero, List.set_cons_succ]
            refine step1 12 (by kernel_rfl) ?_
            refine stStore 12 rfl rfl (by rfl) _ _ rfl _ rfl A rfl hA.1 Zs Zs_len (hBa.get (by simp)) (fun wS hwS => ?_)
            have hB5 := hBa.write hwS hBaold hBane
            refine ⟨hB5.tail, ?_⟩
            have hHeld := hB5.tail
            refine takeVal 13 10 (.int .i64 0) rfl (by kernel_rfl) (by kernel_rfl) (by kernel_rfl) rfl (by rfl) (fun _ _ _ h => h) hHeld (fun _ hw' => rfl) ?_
            simp only [List.setIfInBounds_toArray, List.set_cons_zero, List.set_cons_succ]
            refine wpAnyH_done (by kernel_rfl) ?_ _
            refine NoPanic.normal ?_
            go_wp2_with fail
            go_meet
            case rel => exact ⟨_, rfl, rfl, hid hB5⟩
        · refine stAlloc 11 9 rfl rfl (by rfl) (by go_simp) ⟨(hHeld.alloc _).tail, ?_⟩
          have hBa := hHeld.alloc (.cells (SA Zs) 26)
          have hBaold := hHeld.old.size
          have hBane := hHeld.fresh
          have hHeld := hBa.tail
          simp only [List.setIfInBounds_toArray, List.set_cons_zero, List.set_cons_succ]
          refine step1 7 (by kernel_rfl) ?_
          · refine stCall 7 51 22 #[.agg (SA s), .int .i64 P, .int .i64 W, .int .i64 N] _ rfl rfl (by rfl) (by go_simp) (HS1.out _) ?_
            rintro e wT ⟨rfl, hbT⟩
            refine ⟨_, rfl, hHeld.call hbT, ?_⟩
            have hHeld := hHeld.call hbT
            have hBa := hBa.call hbT
            simp only [List.setIfInBounds_toArray, List.set_cons_zero, List.set_cons_succ]
            clear hbT
            refine takeVal 8 43 (.tuple #[.agg (SA A), .int .i64 0]) rfl (by kernel_rfl) (by kernel_rfl) (by kernel_rfl) rfl (by rfl) (fun _ _ _ h => h) hHeld (fun _ hw' => rfl) ?_
            simp only [List.setIfInBounds_toArray, List.set_cons_zero, List.set_cons_succ]
            refine takeVal 9 52 (.agg (SA A)) rfl (by kernel_rfl) (by kernel_rfl) (by kernel_rfl) rfl (by rfl) (fun _ _ _ h => h) hHeld (fun _ hw' => by go_simp) ?_
            simp only [List.setIfInBounds_toArray, List.set_cons_zero, List.set_cons_succ]
            refine takeVal 10 53 (.int .i64 0) rfl (by kernel_rfl) (by kernel_rfl) (by kernel_rfl) rfl (by rfl) (fun _ _ _ h => h) hHeld (fun _ hw' => by go_simp) ?_
            simp only [List.setIfInBounds_toArray, List.set_cons_zero, List.set_cons_succ]
            refine step1 12 (by kernel_rfl) ?_
            refine stStore 12 rfl rfl (by rfl) _ _ rfl _ rfl A rfl hA.1 Zs Zs_len (hBa.get (by simp)) (fun wS hwS => ?_)
            have hB5 := hBa.write hwS hBaold hBane
            refine ⟨hB5.tail, ?_⟩
            have hHeld := hB5.tail
            refine takeVal 13 10 (.int .i64 0) rfl (by kernel_rfl) (by kernel_rfl) (by kernel_rfl) rfl (by rfl) (fun _ _ _ h => h) hHeld (fun _ hw' => rfl) ?_
            simp only [List.setIfInBounds_toArray, List.set_cons_zero, List.set_cons_succ]
            refine wpAnyH_done (by kernel_rfl) ?_ _
            refine NoPanic.normal ?_
            go_wp2_with fail
            go_meet
            case rel => exact ⟨_, rfl, rfl, hid hB5⟩
      · refine stAlloc 11 9 rfl rfl (by rfl) (by go_simp) ⟨(hHeld.alloc _).tail, ?_⟩
        have hBa := hHeld.alloc (.cells (SA Zs) 26)
        have hBaold := hHeld.old.size
        have hBane := hHeld.fresh
        have hHeld := hBa.tail
        simp only [List.setIfInBounds_toArray, List.set_cons_zero, List.set_cons_succ]
        refine step1 6 (by kernel_rfl) ?_
        · refine stCall 6 50 21 #[.int .i64 vv, .int .i64 W] _ rfl rfl (by rfl) (by go_simp) (HVL.out _) ?_
          rintro e w' ⟨rfl, rfl⟩
          refine ⟨_, rfl, hHeld, ?_⟩
          simp only [List.setIfInBounds_toArray, List.set_cons_zero, List.set_cons_succ]
          refine step1 7 (by kernel_rfl) ?_
          · refine stCall 7 51 22 #[.agg (SA s), .int .i64 P, .int .i64 W, .int .i64 N] _ rfl rfl (by rfl) (by go_simp) (HS1.out _) ?_
            rintro e wT ⟨rfl, hbT⟩
            refine ⟨_, rfl, hHeld.call hbT, ?_⟩
            have hHeld := hHeld.call hbT
            have hBa := hBa.call hbT
            simp only [List.setIfInBounds_toArray, List.set_cons_zero, List.set_cons_succ]
            clear hbT
            refine takeVal 8 43 (.tuple #[.agg (SA A), .int .i64 0]) rfl (by kernel_rfl) (by kernel_rfl) (by kernel_rfl) rfl (by rfl) (fun _ _ _ h => h) hHeld (fun _ hw' => rfl) ?_
            simp only [List.setIfInBounds_toArray, List.set_cons_zero, List.set_cons_succ]
            refine takeVal 9 52 (.agg (SA A)) rfl (by kernel_rfl) (by kernel_rfl) (by kernel_rfl) rfl (by rfl) (fun _ _ _ h => h) hHeld (fun _ hw' => by go_simp) ?_
            simp only [List.setIfInBounds_toArray, List.set_cons_zero, List.set_cons_succ]
            refine takeVal 10 53 (.int .i64 0) rfl (by kernel_rfl) (by kernel_rfl) (by kernel_rfl) rfl (by rfl) (fun _ _ _ h => h) hHeld (fun _ hw' => by go_simp) ?_
            simp only [List.setIfInBounds_toArray, List.set_cons_zero, List.set_cons_succ]
            refine step1 12 (by kernel_rfl) ?_
            refine stStore 12 rfl rfl (by rfl) _ _ rfl _ rfl A rfl hA.1 Zs Zs_len (hBa.get (by simp)) (fun wS hwS => ?_)
            have hB5 := hBa.write hwS hBaold hBane
            refine ⟨hB5.tail, ?_⟩
            have hHeld := hB5.tail
            refine takeVal 13 10 (.int .i64 0) rfl (by kernel_rfl) (by kernel_rfl) (by kernel_rfl) rfl (by rfl) (fun _ _ _ h => h) hHeld (fun _ hw' => rfl) ?_
            simp only [List.setIfInBounds_toArray, List.set_cons_zero, List.set_cons_succ]
            refine wpAnyH_done (by kernel_rfl) ?_ _
            refine NoPanic.normal ?_
            go_wp2_with fail
            go_meet
            case rel => exact ⟨_, rfl, rfl, hid hB5⟩
    case rest =>
      obtain ⟨ga, rfl, rfl, HB2⟩ := hcut
      clear HB1 HPK HSP HS1
      go_wp2_with (refine load_sec rfl _ rfl ga rfl A hA.1 (HB2.out.get (by simp)) ?_)
      refine (HPA.out _ HB2.out.old).mono ?_
      rintro e w3 ⟨rfl, hb3⟩
      have HB3 := hid (HB2.out.call hb3)
      clear hb3 HB2 HPA
      have g3 := HB3.out.old.size
      go_wp2_with (first | (refine store_sec rfl _ _ rfl w3.heap.size rfl B rfl hB.1 Zs Zs_len (heap_alloc_new _ _) ?_; intro w4 hw4; have HB4 := hid ((HB3.out.alloc _).write hw4 g3 HB3.out.fresh)) | refine load_sec rfl _ rfl w.heap.size rfl s hs.1 (HB4.out.get (by simp [boxes])) ?_)
      clear hw4 HB3
      refine (HPS.out _ HB4.out.old).mono ?_
      rintro e w5 ⟨rfl, hb5⟩
      have HB5 := hid (HB4.out.call hb5)
      clear hb5 HB4 HPS
      have g5 := HB5.out.old.size
      go_upto_region 9 with (refine store_sec rfl _ _ rfl w5.heap.size rfl C rfl hC.1 Zs Zs_len (heap_alloc_new _ _) ?_; intro w6 hw6)
      have HB6 := hid ((HB5.out.alloc _).write hw6 g5 HB5.out.fresh)
      clear hw6 HB5
      generalize w3.heap.size = gb at *
      generalize w5.heap.size = gc at *
      go_cut [15, 16] (fun p e wc => ∃ gd, p = .pointer (some ⟨gd, 0, none⟩) ∧ e = .int .i64 0 ∧ Hid (HB w ((gd, .cells (SA D) 26 (0, 0)) :: (gc, .cells (SA C) 26 (0, 0)) :: (gb, .cells (SA B) 26 (0, 0)) :: (ga, .cells (SA A) 26 (0, 0)) :: boxes w s a b vv tn ad L cap) wc))
      case first =>
        refine wp_region_noPanic ?_
        refine wp_region_held_drew (S := HB w ((gc, .cells (SA C) 26 (0, 0)) :: (gb, .cells (SA B) 26 (0, 0)) :: (ga, .cells (SA A) 26 (0, 0)) :: boxes w s a b vv tn ad L cap)) (by kernel_rfl) HB6.out.drew (fun hHeld => ?_)
        refine takeSec 0 69 (.tmp 13) (gc) C hC.1 rfl (by kernel_rfl) (by kernel_rfl) (by kernel_rfl) rfl rfl rfl (by rfl) (fun _ _ _ h => h) hHeld (fun _ h => h.get (by simp)) ?_
        simp only [List.setIfInBounds_toArray, List.set_cons_zero, List.set_cons_succ]
        refine takeVal 1 70 (.int .i64 P) rfl (by kernel_rfl) (by kernel_rfl) (by kernel_rfl) rfl (by rfl) (fun _ _ _ h => h) hHeld (fun _ hw' => rfl) ?_
        simp only [List.setIfInBounds_toArray, List.set_cons_zero, List.set_cons_succ]
        refine takeVal 2 71 (.int .i64 W) rfl (by kernel_rfl) (by kernel_rfl) (by kernel_rfl) rfl (by rfl) (fun _ _ _ h => h) hHeld (fun _ hw' => rfl) ?_
        simp only [List.setIfInBounds_toArray, List.set_cons_zero, List.set_cons_succ]
        refine takeVal 3 72 (.pointer (some ⟨w.heap.size + 1, 2, none⟩)) rfl (by kernel_rfl) (by kernel_rfl) (by kernel_rfl) rfl (by rfl) (fun _ _ _ h => h) hHeld (fun _ hw' => by go_simp) ?_
        simp only [List.setIfInBounds_toArray, List.set_cons_zero, List.set_cons_succ]
        refine takeVal 4 73 (.int .i64 vv) rfl (by kernel_rfl) (by kernel_rfl) (by kernel_rfl) rfl (by rfl) (fun _ _ _ h => h) hHeld (fun _ hw' => by have hcv := two_cell hw' (List.mem_cons_of_mem _ (List.mem_cons_of_mem _ (List.mem_cons_of_mem _ (two_mem w s a b vv tn ad L cap)))); go_simp) ?_
        simp only [List.setIfInBounds_toArray, List.set_cons_zero, List.set_cons_succ]
        refine takeVal 5 74 (.int .i64 W) rfl (by kernel_rfl) (by kernel_rfl) (by kernel_rfl) rfl (by rfl) (fun _ _ _ h => h) hHeld (fun _ hw' => rfl) ?_
        simp only [List.setIfInBounds_toArray, List.set_cons_zero, List.set_cons_succ]
        refine step2 6 11 (by kernel_rfl) ?_ ?_
        · refine stCall 6 75 21 #[.int .i64 vv, .int .i64 W] _ rfl rfl (by rfl) (by go_simp) (HVL.out _) ?_
          rintro e w' ⟨rfl, rfl⟩
          refine ⟨_, rfl, hHeld, ?_⟩
          simp only [List.setIfInBounds_toArray, List.set_cons_zero, List.set_cons_succ]
          refine step2 7 11 (by kernel_rfl) ?_ ?_
          · refine stCall 7 76 22 #[.agg (SA C), .int .i64 P, .int .i64 W, .int .i64 N] _ rfl rfl (by rfl) (by go_simp) (HS2.out _) ?_
            rintro e wT ⟨rfl, hbT⟩
            refine ⟨_, rfl, hHeld.call hbT, ?_⟩
            have hHeld := hHeld.call hbT
            simp only [List.setIfInBounds_toArray, List.set_cons_zero, List.set_cons_succ]
            clear hbT
            refine takeVal 8 68 (.tuple #[.agg (SA D), .int .i64 0]) rfl (by kernel_rfl) (by kernel_rfl) (by kernel_rfl) rfl (by rfl) (fun _ _ _ h => h) hHeld (fun _ hw' => rfl) ?_
            simp only [List.setIfInBounds_toArray, List.set_cons_zero, List.set_cons_succ]
            refine takeVal 9 77 (.agg (SA D)) rfl (by kernel_rfl) (by kernel_rfl) (by kernel_rfl) rfl (by rfl) (fun _ _ _ h => h) hHeld (fun _ hw' => by go_simp) ?_
            simp only [List.setIfInBounds_toArray, List.set_cons_zero, List.set_cons_succ]
            refine takeVal 10 78 (.int .i64 0) rfl (by kernel_rfl) (by kernel_rfl) (by kernel_rfl) rfl (by rfl) (fun _ _ _ h => h) hHeld (fun _ hw' => by go_simp) ?_
            simp only [List.setIfInBounds_toArray, List.set_cons_zero, List.set_cons_succ]
            refine step1 11 (by kernel_rfl) ?_
            · refine stAlloc 11 15 rfl rfl (by rfl) (by go_simp) ⟨(hHeld.alloc _).tail, ?_⟩
              have hBa := hHeld.alloc (.cells (SA Zs) 26)
              have hBaold := hHeld.old.size
              have hBane := hHeld.fresh
              have hHeld := hBa.tail
              simp only [List.setIfInBounds_toArray, List.set_cons_zero, List.set_cons_succ]
              refine step1 12 (by kernel_rfl) ?_
              refine stStore 12 rfl rfl (by rfl) _ _ rfl _ rfl D rfl hD.1 Zs Zs_len (hBa.get (by simp)) (fun wS hwS => ?_)
              have hB5 := hBa.write hwS hBaold hBane
              refine ⟨hB5.tail, ?_⟩
              have hHeld := hB5.tail
              refine takeVal 13 16 (.int .i64 0) rfl (by kernel_rfl) (by kernel_rfl) (by kernel_rfl) rfl (by rfl) (fun _ _ _ h => h) hHeld (fun _ hw' => rfl) ?_
              simp only [List.setIfInBounds_toArray, List.set_cons_zero, List.set_cons_succ]
              refine wpAnyH_done (by kernel_rfl) ?_ _
              refine NoPanic.normal ?_
              go_wp2_with fail
              go_meet
              case rel => exact ⟨_, rfl, rfl, hid hB5⟩
          · refine stAlloc 11 15 rfl rfl (by rfl) (by go_simp) ⟨(hHeld.alloc _).tail, ?_⟩
            have hBa := hHeld.alloc (.cells (SA Zs) 26)
            have hBaold := hHeld.old.size
            have hBane := hHeld.fresh
            have hHeld := hBa.tail
            simp only [List.setIfInBounds_toArray, List.set_cons_zero, List.set_cons_succ]
            refine step1 7 (by kernel_rfl) ?_
            · refine stCall 7 76 22 #[.agg (SA C), .int .i64 P, .int .i64 W, .int .i64 N] _ rfl rfl (by rfl) (by go_simp) (HS2.out _) ?_
              rintro e wT ⟨rfl, hbT⟩
              refine ⟨_, rfl, hHeld.call hbT, ?_⟩
              have hHeld := hHeld.call hbT
              have hBa := hBa.call hbT
              simp only [List.setIfInBounds_toArray, List.set_cons_zero, List.set_cons_succ]
              clear hbT
              refine takeVal 8 68 (.tuple #[.agg (SA D), .int .i64 0]) rfl (by kernel_rfl) (by kernel_rfl) (by kernel_rfl) rfl (by rfl) (fun _ _ _ h => h) hHeld (fun _ hw' => rfl) ?_
              simp only [List.setIfInBounds_toArray, List.set_cons_zero, List.set_cons_succ]
              refine takeVal 9 77 (.agg (SA D)) rfl (by kernel_rfl) (by kernel_rfl) (by kernel_rfl) rfl (by rfl) (fun _ _ _ h => h) hHeld (fun _ hw' => by go_simp) ?_
              simp only [List.setIfInBounds_toArray, List.set_cons_zero, List.set_cons_succ]
              refine takeVal 10 78 (.int .i64 0) rfl (by kernel_rfl) (by kernel_rfl) (by kernel_rfl) rfl (by rfl) (fun _ _ _ h => h) hHeld (fun _ hw' => by go_simp) ?_
              simp only [List.setIfInBounds_toArray, List.set_cons_zero, List.set_cons_succ]
              refine step1 12 (by kernel_rfl) ?_
              refine stStore 12 rfl rfl (by rfl) _ _ rfl _ rfl D rfl hD.1 Zs Zs_len (hBa.get (by simp)) (fun wS hwS => ?_)
              have hB5 := hBa.write hwS hBaold hBane
              refine ⟨hB5.tail, ?_⟩
              have hHeld := hB5.tail
              refine takeVal 13 16 (.int .i64 0) rfl (by kernel_rfl) (by kernel_rfl) (by kernel_rfl) rfl (by rfl) (fun _ _ _ h => h) hHeld (fun _ hw' => rfl) ?_
              simp only [List.setIfInBounds_toArray, List.set_cons_zero, List.set_cons_succ]
              refine wpAnyH_done (by kernel_rfl) ?_ _
              refine NoPanic.normal ?_
              go_wp2_with fail
              go_meet
              case rel => exact ⟨_, rfl, rfl, hid hB5⟩
        · refine stAlloc 11 15 rfl rfl (by rfl) (by go_simp) ⟨(hHeld.alloc _).tail, ?_⟩
          have hBa := hHeld.alloc (.cells (SA Zs) 26)
          have hBaold := hHeld.old.size
          have hBane := hHeld.fresh
          have hHeld := hBa.tail
          simp only [List.setIfInBounds_toArray, List.set_cons_zero, List.set_cons_succ]
          refine step1 6 (by kernel_rfl) ?_
          · refine stCall 6 75 21 #[.int .i64 vv, .int .i64 W] _ rfl rfl (by rfl) (by go_simp) (HVL.out _) ?_
            rintro e w' ⟨rfl, rfl⟩
            refine ⟨_, rfl, hHeld, ?_⟩
            simp only [List.setIfInBounds_toArray, List.set_cons_zero, List.set_cons_succ]
            refine step1 7 (by kernel_rfl) ?_
            · refine stCall 7 76 22 #[.agg (SA C), .int .i64 P, .int .i64 W, .int .i64 N] _ rfl rfl (by rfl) (by go_simp) (HS2.out _) ?_
              rintro e wT ⟨rfl, hbT⟩
              refine ⟨_, rfl, hHeld.call hbT, ?_⟩
              have hHeld := hHeld.call hbT
              have hBa := hBa.call hbT
              simp only [List.setIfInBounds_toArray, List.set_cons_zero, List.set_cons_succ]
              clear hbT
              refine takeVal 8 68 (.tuple #[.agg (SA D), .int .i64 0]) rfl (by kernel_rfl) (by kernel_rfl) (by kernel_rfl) rfl (by rfl) (fun _ _ _ h => h) hHeld (fun _ hw' => rfl) ?_
              simp only [List.setIfInBounds_toArray, List.set_cons_zero, List.set_cons_succ]
              refine takeVal 9 77 (.agg (SA D)) rfl (by kernel_rfl) (by kernel_rfl) (by kernel_rfl) rfl (by rfl) (fun _ _ _ h => h) hHeld (fun _ hw' => by go_simp) ?_
              simp only [List.setIfInBounds_toArray, List.set_cons_zero, List.set_cons_succ]
              refine takeVal 10 78 (.int .i64 0) rfl (by kernel_rfl) (by kernel_rfl) (by kernel_rfl) rfl (by rfl) (fun _ _ _ h => h) hHeld (fun _ hw' => by go_simp) ?_
              simp only [List.setIfInBounds_toArray, List.set_cons_zero, List.set_cons_succ]
              refine step1 12 (by kernel_rfl) ?_
              refine stStore 12 rfl rfl (by rfl) _ _ rfl _ rfl D rfl hD.1 Zs Zs_len (hBa.get (by simp)) (fun wS hwS => ?_)
              have hB5 := hBa.write hwS hBaold hBane
              refine ⟨hB5.tail, ?_⟩
              have hHeld := hB5.tail
              refine takeVal 13 16 (.int .i64 0) rfl (by kernel_rfl) (by kernel_rfl) (by kernel_rfl) rfl (by rfl) (fun _ _ _ h => h) hHeld (fun _ hw' => rfl) ?_
              simp only [List.setIfInBounds_toArray, List.set_cons_zero, List.set_cons_succ]
              refine wpAnyH_done (by kernel_rfl) ?_ _
              refine NoPanic.normal ?_
              go_wp2_with fail
              go_meet
              case rel => exact ⟨_, rfl, rfl, hid hB5⟩
      case rest =>
        obtain ⟨gd, rfl, rfl, HB7⟩ := hcut
        clear HB6 HS2
        go_wp2_with (refine load_sec rfl _ rfl gb rfl B hB.1 (HB7.out.get (by simp)) ?_)
        refine (HPB.out _ HB7.out.old).mono ?_
        rintro e w8 ⟨rfl, hb8⟩
        have HB8 := hid (HB7.out.call hb8)
        clear hb8 HB7 HPB
        have g8 := HB8.out.old.size
        have hqB := eq_sec B B hB.1 hB.1
        rw [decide_eq_true rfl] at hqB
        by_cases c : P + W ≤ (T : Int) ∨ (T : Int) + (M : Int) ≤ P
        · have hbd := HBD.out c
          subst hbd
          rcases c with c | c
          · go_wp2_with (first | (refine store_sec rfl _ _ rfl w8.heap.size rfl B rfl hB.1 Zs Zs_len (heap_alloc_new _ _) ?_; intro w9 hw9; have HB9 := hid ((HB8.out.alloc _).write hw9 g8 HB8.out.fresh); clear hw9) | refine load_sec_g _ rfl w8.heap.size rfl B hB.1 (HB9.out.get (by simp)) (by rfl) ?_ | refine load_sec_g _ rfl gb rfl B hB.1 (HB9.out.get (by simp)) (by rfl) ?_ | refine load_sec_g _ rfl gd rfl B hB.1 (HB9.out.get (by simp)) (by rfl) ?_ | (go_at_call 9; refine (known_any _).mono ?_; rintro e w10 ⟨rfl, hb10⟩))
            go_ret
            exact ⟨rfl, (HB9.out.call hb10).old⟩
          · by_cases c' : P + W ≤ (T : Int)
            · go_wp2_with (first | (refine store_sec rfl _ _ rfl w8.heap.size rfl B rfl hB.1 Zs Zs_len (heap_alloc_new _ _) ?_; intro w9 hw9; have HB9 := hid ((HB8.out.alloc _).write hw9 g8 HB8.out.fresh); clear hw9) | refine load_sec_g _ rfl w8.heap.size rfl B hB.1 (HB9.out.get (by simp)) (by rfl) ?_ | refine load_sec_g _ rfl gb rfl B hB.1 (HB9.out.get (by simp)) (by rfl) ?_ | refine load_sec_g _ rfl gd rfl B hB.1 (HB9.out.get (by simp)) (by rfl) ?_ | (go_at_call 9; refine (known_any _).mono ?_; rintro e w10 ⟨rfl, hb10⟩))
              go_ret
              exact ⟨rfl, (HB9.out.call hb10).old⟩
            · go_wp2_with (first | (refine store_sec rfl _ _ rfl w8.heap.size rfl B rfl hB.1 Zs Zs_len (heap_alloc_new _ _) ?_; intro w9 hw9; have HB9 := hid ((HB8.out.alloc _).write hw9 g8 HB8.out.fresh); clear hw9) | refine load_sec_g _ rfl w8.heap.size rfl B hB.1 (HB9.out.get (by simp)) (by rfl) ?_ | refine load_sec_g _ rfl gb rfl B hB.1 (HB9.out.get (by simp)) (by rfl) ?_ | refine load_sec_g _ rfl gd rfl B hB.1 (HB9.out.get (by simp)) (by rfl) ?_ | (go_at_call 9; refine (known_any _).mono ?_; rintro e w10 ⟨rfl, hb10⟩))
              go_ret
              exact ⟨rfl, (HB9.out.call hb10).old⟩
        · have c1 : ¬ P + W ≤ (T : Int) := fun h => c (.inl h)
          have c2 : ¬ (T : Int) + (M : Int) ≤ P := fun h => c (.inr h)
          clear c
          go_wp2_with (first | (refine store_sec rfl _ _ rfl w8.heap.size rfl B rfl hB.1 Zs Zs_len (heap_alloc_new _ _) ?_; intro w9 hw9; have HB9 := hid ((HB8.out.alloc _).write hw9 g8 HB8.out.fresh); clear hw9) | refine load_sec_g _ rfl w8.heap.size rfl B hB.1 (HB9.out.get (by simp)) (by rfl) ?_ | refine load_sec_g _ rfl gb rfl B hB.1 (HB9.out.get (by simp)) (by rfl) ?_)
          clear HB8 hqB
          go_loopw [19] (fun i wr => ∃ k m : Nat, k ≤ M ∧ i = .int .i64 k ∧ w9.drewN m = wr) (fun i _ => M - (intOf i).toNat)
          case atStart => exact ⟨0, 0, by omega, rfl, rfl⟩
          case round =>
            obtain ⟨k, m, hk, rfl, rfl⟩ := hrel
            by_cases hlt : k < M
            · rcases HZ.out with he | ⟨bd, od, rfl, hbd, hcd⟩
              · have := hzl.out; rw [he] at this; simp at this; omega
              · have hcB := sec_cell (HB9.out.get (g := gb) (o := .cells (SA B) 26 (0, 0)) (by simp)) (T + k) (by rw [hB.1]; omega)
                rw [HBk.out k hlt] at hcB
                have hcD := hcd k (by rw [hzl.out]; exact hlt)
                rw [← HB9.out.old.cell (p := ⟨bd, od + k, none⟩) hbd] at hcD
                have hi0 : (0 : Int) ≤ (T : Int) + (k : Int) := by omega
                have hi1 : (T : Int) + (k : Int) < 128 := by omega
                have hi2 : (k : Int) < (M : Int) := by omega
                have hwr : IntKind.i64.wrap ((T : Int) + (k : Int)) = (T : Int) + (k : Int) := by rw [IntKind.wrap_i64]; omega
                have htn : ((T : Int) + (k : Int)).toNat = T + k := by omega
                clear hcd
                go_wp2_with fail
                go_quiet (fail)
                rw [World.drewN_drewN]
                go_wp2_with fail
                exact ⟨⟨k + 1, m + nq, by omega, by go_num, rfl⟩, by simp [intOf]; omega⟩
            · have HBA := hid (HB9.out.drewN (n := m))
              generalize w9.drewN m = wA at *
              have hcv := two_cell HBA.out (List.mem_cons_of_mem _ (List.mem_cons_of_mem _ (List.mem_cons_of_mem _ (List.mem_cons_of_mem _ (List.mem_cons_of_mem _ (two_mem w s a b vv tn ad L cap))))))
              clear HB9 hcv
              go_wp2_with (refine load_sec rfl _ rfl gd rfl D hD.1 (HBA.out.get (by simp)) ?_)
              refine (HGD.out _).mono ?_
              rintro e wB ⟨rfl, hbB⟩
              have HBB := hid (HBA.out.call hbB)
              have hcv := two_cell HBB.out (List.mem_cons_of_mem _ (List.mem_cons_of_mem _ (List.mem_cons_of_mem _ (List.mem_cons_of_mem _ (List.mem_cons_of_mem _ (two_mem w s a b vv tn ad L cap))))))
              clear hbB HBA
              go_wp2_with (first | (go_at_call 21; refine (HVL.out _).mono ?_; rintro e w' ⟨rfl, rfl⟩) | (go_at_call 9; refine (known_any _).mono ?_; rintro e w10 ⟨rfl, hb10⟩))
              go_ret
              exact ⟨rfl, (HBB.out.call hb10).old⟩

end Go.Proofs.Ytibneoajkbblaaa
