/-
  A step on the desk: Copy, New, From.
-/
import Derived.Test.YtcgchdcbbiahnaaStep2
namespace Go.Proofs.Ytcgchdcbbiahnaa
open Go.RowKit

theorem desk_setP (s : DS) (t : Nat) (ht : t < 3) (p : Nat) : (deskC s).setIfInBounds t (.pointer (some ⟨p, 0, none⟩)) = deskC { s with P := upd s.P t p } := by
  match t, ht with
  | 0, _ => simp [deskC, upd, ptr]
  | 1, _ => simp [deskC, upd, ptr]
  | 2, _ => simp [deskC, upd, ptr]
theorem desk_setR (s : DS) (t : Nat) (ht : t < 3) (p : Nat) : (deskC s).setIfInBounds (3 + t) (.pointer (some ⟨p, 0, none⟩)) = deskC { s with R := upd s.R t p } := by
  match t, ht with
  | 0, _ => simp [deskC, upd, ptr]
  | 1, _ => simp [deskC, upd, ptr]
  | 2, _ => simp [deskC, upd, ptr]
section
variable {ops : Array Oper} {Q : Exit → Act → World → Prop} {S : World → Prop} {fuel : Nat} {listed : Array Bool} {a : Act} {w : World}
theorem stCell (i : Nat) (w' : World) {o : Oper} (hop : ops[i]? = some o) (hd : o.dst = none) (hw : Region.wanted o (yielded ops a.tmps) = true)
    (hrun : (execOp a.eval o).run Try.prog w = .ok .skip w')
    (h : S w' ∧ wpAnyH Try.prog .any ops Q S fuel (listed.setIfInBounds i true) a w') : St ops Q S fuel listed a w i := by
  refine wpOp_step hop (fun K hK => ?_)
  rw [if_pos hw]
  unfold Oper.wp
  rw [hrun]
  refine hK _ _ ⟨h.1, ?_⟩
  unfold Act.put
  rw [hd]
  exact h.2
end
theorem apx {w : World} {x p g : Nat} (hp : w.heap.size ≤ p) (hg : w.heap.size ≤ g) (hx : x < w.heap.size) : p ∉ [x] ∧ g ∉ [x] := by
  constructor <;> simp <;> omega
theorem xx (x : Nat) : ∀ k, k ∈ (([] ++ [x]) ++ []) ++ [x] → k ∈ [x] := by
  intro k hk
  simpa using hk

set_option maxRecDepth 100000 in
set_option maxHeartbeats 4000000 in
theorem step_copy {w0 : World} {x j : Nat} {s : DS} (on tt N : Int) (ad : Option Addr) (L cap : Nat) (w : World) (h : DInv w0 w x s j) (hon : I64 on) (hto : I64 tt) :
    Calls Try.prog 25 #[.pointer (some ⟨x, 0, none⟩), .agg #[.int .i64 5, .int .i64 on, .int .i64 tt, .int .i64 N, .slice ad L cap]] w fun e w' => e = .returned (.bool true) ∧ ∃ s', DInv w0 w' x s' (j + 1) := by
  have hz := zero_sec
  have hgd := guard_sec
  have hk0 := pickN_bd on (show (1 : Int) ≤ 3 by decide)
  have ht0 := pickN_bd tt (show (1 : Int) ≤ 3 by decide)
  obtain ⟨k, hk⟩ := Int.eq_ofNat_of_zero_le hk0.1
  obtain ⟨t, ht⟩ := Int.eq_ofNat_of_zero_le ht0.1
  have hk3 : k < 3 := by omega
  have ht3 : t < 3 := by omega
  have hkl : (k : Int) < 3 := by omega
  have htl : (t : Int) < 3 := by omega
  have HKE := hid hk
  have HTE := hid ht
  clear hk0 ht0 hk ht
  have HI0 := hid (h.call (Below.refl_call w (.cells #[.int .i64 5, .int .i64 on, .int .i64 tt, .int .i64 N, .slice ad L cap] 54)))
  have HO0 := hid (heap_alloc_new w (.cells #[.int .i64 5, .int .i64 on, .int .i64 tt, .int .i64 N, .slice ad L cap] 54))
  have y0 := cell_of_row _ _ 0 _ _ _ HO0.out
  have y1 := cell_of_row _ _ 1 _ _ _ HO0.out
  have y2 := cell_of_row _ _ 2 _ _ _ HO0.out
  have y3 := cell_of_row _ _ 3 _ _ _ HO0.out
  have y4 := cell_of_row _ _ 4 _ _ _ HO0.out
  simp only [List.getElem?_toArray, List.getElem?_cons_zero, List.getElem?_cons_succ] at y0 y1 y2 y3 y4
  have c1 := HI0.out.cP k hk3
  have c2 := HI0.out.cR k hk3
  clear h
  go_enter Try.func25, Try.ntmps25
  go_upto_region 22 with (first | (go_at_call 24; refine (pick_any _ _ _ (by first | exact hon | exact hto) (by decide) (by decide)).mono ?_; rintro e w5 ⟨rfl, rfl⟩; first | rw [HKE.out] | rw [HTE.out]) | (go_at_call 32; refine (copy_any _ (HI0.out.isd k hk3)).mono ?_; rintro e wA ⟨p, g, rfl, hp, hg, hdA, hbA⟩; have HIA := hid (HI0.out.call hbA); have HDA := hid hdA; have HBA := hid hbA; have HPA := hid hp; have HGA := hid hg; have cPt := HIA.out.cP t ht3; have fPt := HIA.out.fz t; clear hdA hbA hp hg))
  have HX1 : Hid ((wA.setCell ⟨x, t, none⟩ (.pointer (some ⟨p, 0, none⟩))).heap[x]? = some (.cells (deskC { s with P := upd s.P t p }) 50 (0, 0))) := by
    show _ = _
    rw [heap_setCell_same wA x t _ 50 _ HIA.out.desk, desk_setP s t ht3]
  have HM1 := hid ((Mod.of_below HBA.out).trans (Mod.set (w := wA) (g := x) (j := t) (v := .pointer (some ⟨p, 0, none⟩))))
  have HXL : Hid (x < (w.alloc (.cells #[.int .i64 5, .int .i64 on, .int .i64 tt, .int .i64 N, .slice ad L cap] 54)).heap.size) := slt HI0.out.desk
  have HQk := hid ((HIA.out.isq k hk3).keep (Mod.set (w := wA) (g := x) (j := t) (v := .pointer (some ⟨p, 0, none⟩))) (by simpa using (tne HIA.out.desk (HIA.out.isq k hk3).me (by decide)).symm) (by simpa using (tne HIA.out.desk (HIA.out.isq k hk3).row (by decide)).symm))
  have HDB := hid (HDA.out.keep (Mod.set (w := wA) (g := x) (j := t) (v := .pointer (some ⟨p, 0, none⟩))) (apx HPA.out HGA.out HXL.out).1 (apx HPA.out HGA.out HXL.out).2)
  have HOB := hid (HM1.out.to HI0.out.old HI0.out.old.size (by simpa using HI0.out.bx))
  generalize hw1 : w.alloc (.cells #[.int .i64 5, .int .i64 on, .int .i64 tt, .int .i64 N, .slice ad L cap] 54) = w1 at *
  generalize w.heap.size = o0 at *
  clear hw1
  generalize wA.setCell ⟨x, t, none⟩ (.pointer (some ⟨p, 0, none⟩)) = wB at *
  refine wp_region_noPanic ?_
  refine wp_region_held_drew (S := fun _ => True) (by kernel_rfl) trivial (fun hHeld => ?_)
  have HQd := hid HQk.out.drew
  have HDd := hid HDB.out.drew
  replace HX1 : Hid (wB.drew.heap[x]? = some (.cells (deskC { s with P := upd s.P t p }) 50 (0, 0))) := HX1
  replace HM1 := hid HM1.out.drew
  have HSZ : Hid (w1.heap.size ≤ wB.drew.heap.size) := hid HM1.out.size
  clear HQk HDB
  generalize wB.drew = wd at *
  refine takeVal 0 148 (.pointer (some ⟨x, 0, none⟩)) rfl (by kernel_rfl) (by kernel_rfl) (by kernel_rfl) rfl (by rfl) (fun _ _ _ h => h) hHeld (fun _ hw' => rfl) ?_
  simp only [List.setIfInBounds_toArray, List.set_cons_zero, List.set_cons_succ]
  refine takeVal 1 149 (.int .i64 (t : Int)) rfl (by kernel_rfl) (by kernel_rfl) (by kernel_rfl) rfl (by rfl) (fun _ _ _ h => h) hHeld (fun _ hw' => rfl) ?_
  simp only [List.setIfInBounds_toArray, List.set_cons_zero, List.set_cons_succ]
  refine takeVal 2 150 (.pointer (some ⟨x, 0, none⟩)) rfl (by kernel_rfl) (by kernel_rfl) (by kernel_rfl) rfl (by rfl) (fun _ _ _ h => h) hHeld (fun _ hw' => rfl) ?_
  simp only [List.setIfInBounds_toArray, List.set_cons_zero, List.set_cons_succ]
  refine takeVal 3 151 (.int .i64 (k : Int)) rfl (by kernel_rfl) (by kernel_rfl) (by kernel_rfl) rfl (by rfl) (fun _ _ _ h => h) hHeld (fun _ hw' => rfl) ?_
  simp only [List.setIfInBounds_toArray, List.set_cons_zero, List.set_cons_succ]
  refine takeVal 4 152 (.pointer (some ⟨x, 0, none⟩)) rfl (by kernel_rfl) (by kernel_rfl) (by kernel_rfl) rfl (by rfl) (fun _ _ _ h => h) hHeld (fun _ hw' => by go_simp) ?_
  simp only [List.setIfInBounds_toArray, List.set_cons_zero, List.set_cons_succ]
  refine takeVal 5 153 (.pointer (some ⟨x, 3, none⟩)) rfl (by kernel_rfl) (by kernel_rfl) (by kernel_rfl) rfl (by rfl) (fun _ _ _ h => h) hHeld (fun _ hw' => by go_simp) ?_
  simp only [List.setIfInBounds_toArray, List.set_cons_zero, List.set_cons_succ]
  refine takeVal 6 154 (.pointer (some ⟨x, 3 + k, none⟩)) rfl (by kernel_rfl) (by kernel_rfl) (by kernel_rfl) rfl (by rfl) (fun _ _ _ h => h) hHeld (fun _ hw' => by go_simp) ?_
  simp only [List.setIfInBounds_toArray, List.set_cons_zero, List.set_cons_succ]
  refine takeVal 9 157 (.pointer (some ⟨x, 0, none⟩)) rfl (by kernel_rfl) (by kernel_rfl) (by kernel_rfl) rfl (by rfl) (fun _ _ _ h => h) hHeld (fun _ hw' => by go_simp) ?_
  simp only [List.setIfInBounds_toArray, List.set_cons_zero, List.set_cons_succ]
  refine takeVal 10 158 (.pointer (some ⟨x, 3, none⟩)) rfl (by kernel_rfl) (by kernel_rfl) (by kernel_rfl) rfl (by rfl) (fun _ _ _ h => h) hHeld (fun _ hw' => by go_simp) ?_
  simp only [List.setIfInBounds_toArray, List.set_cons_zero, List.set_cons_succ]
  refine step1 7 (by kernel_rfl) ?_
  refine stVal 7 155 (.pointer (some ⟨s.R k, 0, none⟩)) rfl rfl (by rfl) (by have hc := desk_cR HX1.out k hk3; go_simp) trivial ?_
  simp only [List.setIfInBounds_toArray, List.set_cons_zero, List.set_cons_succ]
  refine step1 8 (by kernel_rfl) ?_
  refine stCall 8 156 39 #[.pointer (some ⟨s.R k, 0, none⟩)] _ rfl rfl (by rfl) (by go_simp) (rcopy_any _ HQd.out) ?_
  rintro e wC ⟨r, kk, cc, XX, rfl, hr, hkk, hqC, hbC⟩
  refine ⟨_, rfl, trivial, ?_⟩
  have hxC := (hbC.block x (slt HX1.out)).trans HX1.out
  simp only [List.setIfInBounds_toArray, List.set_cons_zero, List.set_cons_succ]
  refine takeVal 11 159 (.pointer (some ⟨x, 3 + t, none⟩)) rfl (by kernel_rfl) (by kernel_rfl) (by kernel_rfl) rfl (by rfl) (fun _ _ _ h => h) hHeld (fun _ hw' => by go_simp) ?_
  simp only [List.setIfInBounds_toArray, List.set_cons_zero, List.set_cons_succ]
  refine step1 12 (by kernel_rfl) ?_
  have cRt := desk_cR hxC t ht3
  have fRt := frozen_of_row wC x (3 + t) _ _ hxC
  have hXe : (wC.setCell ⟨x, 3 + t, none⟩ (.pointer (some ⟨r, 0, none⟩))).heap[x]? = some (.cells (deskC { s with P := upd s.P t p, R := upd s.R t r }) 50 (0, 0)) := by
    rw [heap_setCell_same wC x (3 + t) _ 50 _ hxC, desk_setR _ t ht3]
  have hMe := (HM1.out.trans (Mod.of_below hbC)).trans (Mod.set (w := wC) (g := x) (j := 3 + t) (v := .pointer (some ⟨r, 0, none⟩)))
  have hDe := (HDd.out.call hbC).keep (Mod.set (w := wC) (g := x) (j := 3 + t) (v := .pointer (some ⟨r, 0, none⟩))) (apx HPA.out HGA.out HXL.out).1 (apx HPA.out HGA.out HXL.out).2
  have hQe := hqC.keep (Mod.set (w := wC) (g := x) (j := 3 + t) (v := .pointer (some ⟨r, 0, none⟩))) (apx hr hkk (slt HX1.out)).1 (apx hr hkk (slt HX1.out)).2
  have hgk : g ≠ kk := Nat.ne_of_lt (Nat.lt_of_lt_of_le (slt HDd.out.row) hkk)
  refine stCell 12 (wC.setCell ⟨x, 3 + t, none⟩ (.pointer (some ⟨r, 0, none⟩))) rfl rfl (by rfl) (by go_simp) ⟨trivial, ?_⟩
  refine wpAnyH_done (by kernel_rfl) ?_ _
  refine NoPanic.normal ?_
  have HFin := hid (HI0.out.replace t ht3 (hMe.mono (fun y hy _ => xx x y hy)) hXe hDe hQe (HI0.out.bd k hk3) HPA.out HGA.out (Nat.le_trans HSZ.out hr) (Nat.le_trans HSZ.out hkk) hgk)
  clear hMe hXe hDe hQe hgk hr hkk hqC hbC hxC cRt fRt
  go_wp2_with fail
  go_ret
  exact ⟨rfl, _, HFin.out.mono (by omega)⟩

set_option maxRecDepth 100000 in
set_option maxHeartbeats 4000000 in
theorem step_newbad {w0 : World} {x j : Nat} {s : DS} (on tt N : Int) (ad : Option Addr) (L cap : Nat) (w : World) (h : DInv w0 w x s j) (hon : I64 on) (hto : I64 tt) (hbad : ¬ (1 ≤ N ∧ N ≤ 4096)) :
    Calls Try.prog 25 #[.pointer (some ⟨x, 0, none⟩), .agg #[.int .i64 7, .int .i64 on, .int .i64 tt, .int .i64 N, .slice ad L cap]] w fun e w' => e = .returned (.bool true) ∧ ∃ s', DInv w0 w' x s' (j + 1) := by
  have hz := zero_sec
  have hgd := guard_sec
  have hk0 := pickN_bd on (show (1 : Int) ≤ 3 by decide)
  have ht0 := pickN_bd tt (show (1 : Int) ≤ 3 by decide)
  obtain ⟨k, hk⟩ := Int.eq_ofNat_of_zero_le hk0.1
  obtain ⟨t, ht⟩ := Int.eq_ofNat_of_zero_le ht0.1
  have hk3 : k < 3 := by omega
  have ht3 : t < 3 := by omega
  have hkl : (k : Int) < 3 := by omega
  have htl : (t : Int) < 3 := by omega
  have HKE := hid hk
  have HTE := hid ht
  clear hk0 ht0 hk ht
  have HI0 := hid (h.call (Below.refl_call w (.cells #[.int .i64 7, .int .i64 on, .int .i64 tt, .int .i64 N, .slice ad L cap] 54)))
  have HO0 := hid (heap_alloc_new w (.cells #[.int .i64 7, .int .i64 on, .int .i64 tt, .int .i64 N, .slice ad L cap] 54))
  have y0 := cell_of_row _ _ 0 _ _ _ HO0.out
  have y1 := cell_of_row _ _ 1 _ _ _ HO0.out
  have y2 := cell_of_row _ _ 2 _ _ _ HO0.out
  have y3 := cell_of_row _ _ 3 _ _ _ HO0.out
  have y4 := cell_of_row _ _ 4 _ _ _ HO0.out
  simp only [List.getElem?_toArray, List.getElem?_cons_zero, List.getElem?_cons_succ] at y0 y1 y2 y3 y4
  have c1 := HI0.out.cP k hk3
  have c2 := HI0.out.cR k hk3
  clear h
  go_enter Try.func25, Try.ntmps25
  have HNb := hid fun w => new_bad N w hbad
  have HRb := hid fun w => rnew_bad N w hbad
  clear hbad
  go_wp2_with (first | (go_at_call 24; refine (pick_any _ _ _ (by first | exact hon | exact hto) (by decide) (by decide)).mono ?_; rintro e w5 ⟨rfl, rfl⟩; first | rw [HKE.out] | rw [HTE.out]) | (go_at_call 10; refine (HNb.out _).mono ?_; rintro e wA ⟨rfl, rfl⟩) | (go_at_call 11; refine (HRb.out _).mono ?_; rintro e wA ⟨rfl, rfl⟩))
  go_ret
  exact ⟨rfl, s, HI0.out.mono (by omega)⟩

set_option maxRecDepth 100000 in
set_option maxHeartbeats 4000000 in
theorem step_newok {w0 : World} {x j : Nat} {s : DS} (on tt N : Int) (ad : Option Addr) (L cap : Nat) (w : World) (h : DInv w0 w x s j) (hon : I64 on) (hto : I64 tt) (n : Nat) (hn : N = n) (h0 : 1 ≤ n) (h1 : n ≤ 4096) :
    Calls Try.prog 25 #[.pointer (some ⟨x, 0, none⟩), .agg #[.int .i64 7, .int .i64 on, .int .i64 tt, .int .i64 N, .slice ad L cap]] w fun e w' => e = .returned (.bool true) ∧ ∃ s', DInv w0 w' x s' (j + 1) := by
  have hz := zero_sec
  have hgd := guard_sec
  have hk0 := pickN_bd on (show (1 : Int) ≤ 3 by decide)
  have ht0 := pickN_bd tt (show (1 : Int) ≤ 3 by decide)
  obtain ⟨k, hk⟩ := Int.eq_ofNat_of_zero_le hk0.1
  obtain ⟨t, ht⟩ := Int.eq_ofNat_of_zero_le ht0.1
  have hk3 : k < 3 := by omega
  have ht3 : t < 3 := by omega
  have hkl : (k : Int) < 3 := by omega
  have htl : (t : Int) < 3 := by omega
  have HKE := hid hk
  have HTE := hid ht
  clear hk0 ht0 hk ht
  have HI0 := hid (h.call (Below.refl_call w (.cells #[.int .i64 7, .int .i64 on, .int .i64 tt, .int .i64 N, .slice ad L cap] 54)))
  have HO0 := hid (heap_alloc_new w (.cells #[.int .i64 7, .int .i64 on, .int .i64 tt, .int .i64 N, .slice ad L cap] 54))
  have y0 := cell_of_row _ _ 0 _ _ _ HO0.out
  have y1 := cell_of_row _ _ 1 _ _ _ HO0.out
  have y2 := cell_of_row _ _ 2 _ _ _ HO0.out
  have y3 := cell_of_row _ _ 3 _ _ _ HO0.out
  have y4 := cell_of_row _ _ 4 _ _ _ HO0.out
  simp only [List.getElem?_toArray, List.getElem?_cons_zero, List.getElem?_cons_succ] at y0 y1 y2 y3 y4
  have c1 := HI0.out.cP k hk3
  have c2 := HI0.out.cR k hk3
  clear h
  go_enter Try.func25, Try.ntmps25
  subst hn
  have HNo := hid fun w => new_ok n w h0 h1
  have HRo := hid fun w => rnew_ok n w h0 h1
  clear h0 h1
  go_wp2_with (first | (go_at_call 24; refine (pick_any _ _ _ (by first | exact hon | exact hto) (by decide) (by decide)).mono ?_; rintro e w5 ⟨rfl, rfl⟩; first | rw [HKE.out] | rw [HTE.out]) | (go_at_call 11; refine (HRo.out _).mono ?_; rintro e wB ⟨r, kk, rfl, hr, hkk, hqB, hbB⟩; have HIB := hid (HIA.out.call hbB); have HDB := hid (HDA.out.call hbB); obtain ⟨k2, cc, XX, hv, hQ⟩ := IsQ.of_isR hqB; cases hv; have HQB := hid hQ; have HMB := hid ((Mod.of_below HBA.out).trans (Mod.of_below hbB)); have HRB := hid (Nat.le_trans HBA.out.size hr); have HKB := hid (Nat.le_trans HBA.out.size hkk); have HGK : Hid (g ≠ kk) := Nat.ne_of_lt (Nat.lt_of_lt_of_le (slt HDA.out.row) hkk); have cPt := HIB.out.cP t ht3; have fPt := HIB.out.fz t; have cRt := HIB.out.cR t ht3; have fRt := HIB.out.fz (3 + t); clear hqB hbB hr hkk hQ) | (go_at_call 10; refine (HNo.out _).mono ?_; rintro e wA ⟨p, g, rfl, hp, hg, hdA, hbA⟩; have y3A := (hbA.cell (p := ⟨w.heap.size, 3, none⟩) (slt HO0.out)).trans y3; have HIA := hid (HI0.out.call hbA); have HDA := hid hdA; have HBA := hid hbA; have HPA := hid hp; have HGA := hid hg; clear hdA hbA hp hg))
  have HXe : Hid (((wB.setCell ⟨x, t, none⟩ (.pointer (some ⟨p, 0, none⟩))).setCell ⟨x, 3 + t, none⟩ (.pointer (some ⟨r, 0, none⟩))).heap[x]? = some (.cells (deskC { s with P := upd s.P t p, R := upd s.R t r }) 50 (0, 0))) := by
    show _ = _
    have h1 : (wB.setCell ⟨x, t, none⟩ (.pointer (some ⟨p, 0, none⟩))).heap[x]? = some (.cells (deskC { s with P := upd s.P t p }) 50 (0, 0)) := by
      rw [heap_setCell_same wB x t _ 50 _ HIB.out.desk, desk_setP s t ht3]
    rw [heap_setCell_same _ x (3 + t) _ 50 _ h1, desk_setR _ t ht3]
  have hM1 := Mod.set (w := wB) (g := x) (j := t) (v := .pointer (some ⟨p, 0, none⟩))
  have hM2 := Mod.set (w := wB.setCell ⟨x, t, none⟩ (.pointer (some ⟨p, 0, none⟩))) (g := x) (j := 3 + t) (v := .pointer (some ⟨r, 0, none⟩))
  have hXL := slt HI0.out.desk
  have hdE := (HDB.out.keep hM1 (apx HPA.out HGA.out hXL).1 (apx HPA.out HGA.out hXL).2).keep hM2 (apx HPA.out HGA.out hXL).1 (apx HPA.out HGA.out hXL).2
  have hqE := (HQB.out.keep hM1 (apx HRB.out HKB.out hXL).1 (apx HRB.out HKB.out hXL).2).keep hM2 (apx HRB.out HKB.out hXL).1 (apx HRB.out HKB.out hXL).2
  have hME := (HMB.out.trans hM1).trans hM2
  go_ret
  exact ⟨rfl, _, (HI0.out.replace t ht3 (hME.mono (fun y hy _ => by simpa using hy)) HXe.out hdE hqE ⟨Int.le_refl _, by show (0 : Int) ≤ _; omega, Int.le_refl _, by show (0 : Int) ≤ _; omega⟩ HPA.out HGA.out HRB.out HKB.out HGK.out).mono (by omega)⟩

set_option maxRecDepth 100000 in
set_option maxHeartbeats 4000000 in
theorem step_from {w0 : World} {x j : Nat} {s : DS} (on tt N : Int) (ad : Option Addr) (L cap : Nat) (w : World) (h : DInv w0 w x s j) (hon : I64 on) (hto : I64 tt) :
    Calls Try.prog 25 #[.pointer (some ⟨x, 0, none⟩), .agg #[.int .i64 8, .int .i64 on, .int .i64 tt, .int .i64 N, .slice ad L cap]] w fun e w' => e = .returned (.bool true) ∧ ∃ s', DInv w0 w' x s' (j + 1) := by
  have hz := zero_sec
  have hgd := guard_sec
  have hk0 := pickN_bd on (show (1 : Int) ≤ 3 by decide)
  have ht0 := pickN_bd tt (show (1 : Int) ≤ 3 by decide)
  obtain ⟨k, hk⟩ := Int.eq_ofNat_of_zero_le hk0.1
  obtain ⟨t, ht⟩ := Int.eq_ofNat_of_zero_le ht0.1
  have hk3 : k < 3 := by omega
  have ht3 : t < 3 := by omega
  have hkl : (k : Int) < 3 := by omega
  have htl : (t : Int) < 3 := by omega
  have HKE := hid hk
  have HTE := hid ht
  clear hk0 ht0 hk ht
  have HI0 := hid (h.call (Below.refl_call w (.cells #[.int .i64 8, .int .i64 on, .int .i64 tt, .int .i64 N, .slice ad L cap] 54)))
  have HO0 := hid (heap_alloc_new w (.cells #[.int .i64 8, .int .i64 on, .int .i64 tt, .int .i64 N, .slice ad L cap] 54))
  have y0 := cell_of_row _ _ 0 _ _ _ HO0.out
  have y1 := cell_of_row _ _ 1 _ _ _ HO0.out
  have y2 := cell_of_row _ _ 2 _ _ _ HO0.out
  have y3 := cell_of_row _ _ 3 _ _ _ HO0.out
  have y4 := cell_of_row _ _ 4 _ _ _ HO0.out
  simp only [List.getElem?_toArray, List.getElem?_cons_zero, List.getElem?_cons_succ] at y0 y1 y2 y3 y4
  have c1 := HI0.out.cP k hk3
  have c2 := HI0.out.cR k hk3
  clear h
  go_enter Try.func25, Try.ntmps25
  have HDk := hid (HI0.out.isd k hk3)
  have hn0 := HDk.out.pos
  have hn1 := HDk.out.top
  have q0 := (HI0.out.isq k hk3).c0
  go_wp2_with (first | (go_at_call 24; refine (pick_any _ _ _ (by first | exact hon | exact hto) (by decide) (by decide)).mono ?_; rintro e w5 ⟨rfl, rfl⟩; first | rw [HKE.out] | rw [HTE.out]) | (go_at_call 21; refine (rfrom_ok (s.N k) _ _ _ (s.D k).S _ hn0 hn1 HDk.out.len (rowX_bytes (HIA.out.isq k hk3).row)).mono ?_; rintro e wB ⟨r, kk, rfl, hr, hkk, hqB, hbB⟩; have HIB := hid (HIA.out.call hbB); have HDB := hid (HDA.out.call hbB); obtain ⟨k2, cc, XX, hv, hQ⟩ := IsQ.of_isR hqB; cases hv; have HQB := hid hQ; have HMB := hid ((Mod.of_below HBA.out).trans (Mod.of_below hbB)); have HRB := hid (Nat.le_trans HBA.out.size hr); have HKB := hid (Nat.le_trans HBA.out.size hkk); have HGK : Hid (g ≠ kk) := Nat.ne_of_lt (Nat.lt_of_lt_of_le (slt HDA.out.row) hkk); have cPt := HIB.out.cP t ht3; have fPt := HIB.out.fz t; have cRt := HIB.out.cR t ht3; have fRt := HIB.out.fz (3 + t); clear hqB hbB hr hkk hQ) | (go_at_call 20; refine (from_ok (s.N k) _ _ (s.D k).S _ hn0 hn1 HDk.out.len HIm.out).mono ?_; rintro e wA ⟨p, g, rfl, hp, hg, hdA, hbA⟩; have HIA := hid (HII.out.call hbA); have HDA := hid hdA; have HBA := hid (HBI.out.trans (hbA.mono HBI.out.size)); have HPA := hid (Nat.le_trans HBI.out.size hp); have HGA := hid (Nat.le_trans HBI.out.size hg); have cRk := HIA.out.cR k hk3; have qA := (HIA.out.isq k hk3).c0; clear hdA hbA hp hg) | (go_at_call 12; refine (image_any _ HDk.out).mono ?_; rintro e wI ⟨qi, rfl, hqi, hri, hbI⟩; have HII := hid (HI0.out.call hbI); have HIm := hid (row_bytes hri); have HBI := hid hbI; clear hqi hri hbI))
  have HXe : Hid (((wB.setCell ⟨x, t, none⟩ (.pointer (some ⟨p, 0, none⟩))).setCell ⟨x, 3 + t, none⟩ (.pointer (some ⟨r, 0, none⟩))).heap[x]? = some (.cells (deskC { s with P := upd s.P t p, R := upd s.R t r }) 50 (0, 0))) := by
    show _ = _
    have h1 : (wB.setCell ⟨x, t, none⟩ (.pointer (some ⟨p, 0, none⟩))).heap[x]? = some (.cells (deskC { s with P := upd s.P t p }) 50 (0, 0)) := by
      rw [heap_setCell_same wB x t _ 50 _ HIB.out.desk, desk_setP s t ht3]
    rw [heap_setCell_same _ x (3 + t) _ 50 _ h1, desk_setR _ t ht3]
  have hM1 := Mod.set (w := wB) (g := x) (j := t) (v := .pointer (some ⟨p, 0, none⟩))
  have hM2 := Mod.set (w := wB.setCell ⟨x, t, none⟩ (.pointer (some ⟨p, 0, none⟩))) (g := x) (j := 3 + t) (v := .pointer (some ⟨r, 0, none⟩))
  have hXL := slt HI0.out.desk
  have hdE := (HDB.out.keep hM1 (apx HPA.out HGA.out hXL).1 (apx HPA.out HGA.out hXL).2).keep hM2 (apx HPA.out HGA.out hXL).1 (apx HPA.out HGA.out hXL).2
  have hqE := (HQB.out.keep hM1 (apx HRB.out HKB.out hXL).1 (apx HRB.out HKB.out hXL).2).keep hM2 (apx HRB.out HKB.out hXL).1 (apx HRB.out HKB.out hXL).2
  have hME := (HMB.out.trans hM1).trans hM2
  go_ret
  exact ⟨rfl, _, (HI0.out.replace t ht3 (hME.mono (fun y hy _ => by simpa using hy)) HXe.out hdE hqE ⟨Int.le_refl _, by show (0 : Int) ≤ _; omega, Int.le_refl _, by show (0 : Int) ≤ _; omega⟩ HPA.out HGA.out HRB.out HKB.out HGK.out).mono (by omega)⟩

end Go.Proofs.Ytcgchdcbbiahnaa
