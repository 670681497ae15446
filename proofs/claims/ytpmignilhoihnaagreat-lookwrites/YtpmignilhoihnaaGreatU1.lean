/-
  An inode of the image: is it sound?
-/
import Derived.Test.YtpmignilhoihnaaGreatT2
namespace Go.Proofs.YtpmignilhoihnaaGreat
open Go.RowKit Go.Shelf

theorem guardI : Tryz.prog.eqGuardType Tryz.prog.depth 51 = false := by kernel_rfl
/-- What a sound inode is like. -/
theorem sound_bd {M : Int} {im : Img} {i : Int} (h : (soundZ M im i).2 = true) : 1 ≤ i ∧ i ≤ M ∧ ((soundZ M im i).1.getD 0 0 ≠ 0) ∧ ∀ j, j < 18 → 0 ≤ (soundZ M im i).1.getD j 0 ∧ (soundZ M im i).1.getD j 0 ≤ most.getD j 0 := by
  unfold soundZ at h ⊢
  by_cases hi : 1 ≤ i ∧ i ≤ M
  · rw [if_pos hi] at h ⊢
    simp only [Bool.and_eq_true, decide_eq_true_eq] at h
    refine ⟨hi.1, hi.2, h.2, fun j hj => ?_⟩
    simp only
    unfold rdIno at h ⊢
    by_cases hb : inoB (zTo (secI im i) 18) = true ∧ inoS (zTo (secI im i) 18) = secI im i
    · rw [if_pos hb] at h ⊢
      have h0 := h.2
      simp only at h0 ⊢
      have hB := hb.1
      unfold inoB at hB
      rw [if_neg h0] at hB
      simp only [Bool.and_eq_true] at hB
      exact allB_of hB.1 j hj
    · rw [if_neg hb] at h
      cases h.1
  · rw [if_neg hi] at h
    cases h
theorem soundZ_len (M : Int) (im : Img) (i : Int) : (soundZ M im i).1.length = 18 := by
  unfold soundZ
  split
  · exact rdIno_len (zTo_len _ _)
  · exact Zi_len

set_option maxRecDepth 100000 in
set_option maxHeartbeats 1000000 in
theorem sound_any {c : LC} (i : Int) (w : World) (h : IsP w c) :
    Calls Tryz.prog 23 #[LP c, .int .i64 i] w fun e w' => e = .returned (.tuple #[.agg (NA (soundZ c.M c.im i).1), .bool (soundZ c.M c.im i).2]) ∧ Chg w w' No := by
  have hzi := zero_inode
  have hbi := build_inode
  have hA := Chg.alloc w (.cells (NA Zi) 51) No
  have HA := hid hA
  have HN := hid (heap_alloc_new w (.cells (NA Zi) 51))
  have hPA := h.call hA
  have c1 := hPA.c1
  have c2 := hPA.c2
  have HH := hid h
  have HPA := hid hPA
  clear h hPA hA
  unfold LP
  by_cases h1 : 1 ≤ i
  · by_cases h2 : i ≤ c.M
    · have HS : Hid (soundZ c.M c.im i = ((rdIno (zTo (secI c.im i) 18) (secI c.im i)).1, decide ((rdIno (zTo (secI c.im i) 18) (secI c.im i)).2 = 0) && decide ((rdIno (zTo (secI c.im i) 18) (secI c.im i)).1.getD 0 0 ≠ 0))) := hid (by unfold soundZ; rw [if_pos ⟨h1, h2⟩])
      obtain ⟨k, rfl⟩ : ∃ k : Nat, i = (k : Int) := ⟨i.toNat, by omega⟩
      have hkN : k < c.N := by have := HH.out.m2; omega
      have i1 : (k : Int) < (c.N : Int) := by omega
      have i0 : (0 : Int) ≤ (k : Int) := by omega
      obtain ⟨b, o, hia, hb, hr⟩ : ∃ b o, c.ia = some ⟨b, o, none⟩ ∧ b < (w.alloc (.cells (NA Zi) 51)).heap.size ∧ ∀ (j : Nat) s, c.im[j]? = some s → (w.alloc (.cells (NA Zi) 51)).rangeAt b (o + j * 128) (s.map (Value.int .u8)) := by
        rcases HPA.out.ci.2 with e | e
        · have h1 := HPA.out.il; have h2 := HPA.out.n1; rw [e] at h1; simp at h1; omega
        · exact e
      rw [hia] at c2
      have hrk := hr k _ (getD_at (by rw [HPA.out.il]; exact hkN))
      have hsec := HPA.out.ci.secI (k : Int)
      have HRK := hid hrk
      have HSL := hid hsec.1
      have hRI := readInode_any (secI c.im (k : Int)) hsec (w.alloc (.cells (NA Zi) 51))
      have HRL : Hid ((rdIno (zTo (secI c.im (k : Int)) 18) (secI c.im (k : Int))).1.length = 18) := hid (rdIno_len (zTo_len _ _))
      rw [HS.out]
      generalize rdIno (zTo (secI c.im (k : Int)) 18) (secI c.im (k : Int)) = r at *
      generalize secI c.im (k : Int) = sk at *
      clear hr hrk hsec hia HS
      go_enter Tryz.func23, Tryz.ntmps23
      go_upto_region 4 with (first
        | (refine load_mid 33 _ rfl b (o + k * 128) rfl _ _ HRK.out Tryz.underlying33 rfl (by rw [sz26, List.length_map, HSL.out]) (by rfl) ?_)
        | (go_at_call 43; go_must (refine hRI.mono ?_; rintro e w1 ⟨rfl, hb1⟩))
        | (refine store_R rfl 51 _ _ rfl w1.heap.size (NA r.1) rfl rfl 51 _ (heap_alloc_new _ _) (by rw [szI, NA_size, HRL.out]) (by rw [NA_size, NA_size, Zi_len, HRL.out]) (NA_one _) ?_; intro w2 hw2)
        | fail)
      have hg6 := hw2.here
      have hA1 : Chg (w.alloc (.cells (NA Zi) 51)) w2 No := ((Chg.of_below hb1 No).trans (Chg.alloc w1 (.cells (NA Zi) 51) No) (c := No) (fun _ _ e => e) (fun _ _ e => e)).trans (kt_new hw2) (fun _ _ e => e) (fun j hj e => by have := hb1.size; omega)
      have HN2 := hid (hA1.keep HN.out (fun e => e))
      have HC2 := hid (HA.out.trans hA1 (c := No) (fun _ _ e => e) (fun _ _ e => e))
      have HG6 := hid hg6
      have HNE : Hid (w1.heap.size ≠ w.heap.size) := hid (by have := hb1.size; simp at this; omega)
      obtain ⟨g6, hg6e⟩ : ∃ y, y = w1.heap.size := ⟨_, rfl⟩
      rw [← hg6e] at HG6 HNE
      rw [← hg6e]
      clear hg6 hw2 hb1 hA1 hg6e hRI c1 c2
      have HK := hid (row_cell HG6.out 0 (by rw [HRL.out]; decide))
      obtain ⟨rz, re⟩ := r
      simp only at *
      obtain ⟨K, hkk⟩ : ∃ y, y = rz.getD 0 0 := ⟨_, rfl⟩
      rw [← hkk] at HK
      have HKK := hid hkk
      clear hkk
      refine wp_region_noPanic ?_
      refine wp_region_held_drew (S := fun w' => Chg w2 w' (· = w.heap.size)) (by kernel_rfl) (Chg.refl _ _).drew (fun hHeld => ?_)
      have hK6 := fun (W : World) (hW : Chg w2 W (· = w.heap.size)) => cell_keep HK.out hW (slt HG6.out) HNE.out
      by_cases he : re = 0
      · have hre : re = 0 := he
        subst hre
        refine takeR 0 31 51 (.tmp 6) g6 51 (NA rz) _ rfl (by kernel_rfl) (by kernel_rfl) (by kernel_rfl) rfl rfl rfl Tryz.underlying51 rfl (by rw [szI, NA_size, HRL.out]) (by rfl) (fun _ _ _ h => h) hHeld (fun W' hw' => hw'.keep HG6.out HNE.out) ?_
        simp only [List.setIfInBounds_toArray, List.set_cons_zero, List.set_cons_succ]
        refine takeVal 1 32 (.int .i64 0) rfl (by kernel_rfl) (by kernel_rfl) (by kernel_rfl) rfl (by rfl) (fun _ _ _ h => h) hHeld (fun W' hw' => rfl) ?_
        simp only [List.setIfInBounds_toArray, List.set_cons_zero, List.set_cons_succ]
        refine takeVal 2 33 (.bool true) rfl (by kernel_rfl) (by kernel_rfl) (by kernel_rfl) rfl (by rfl) (fun _ _ _ h => h) hHeld (fun W' hw' => by go_simp) ?_
        simp only [List.setIfInBounds_toArray, List.set_cons_zero, List.set_cons_succ]
        refine takeVal 3 34 (.bool true) rfl (by kernel_rfl) (by kernel_rfl) (by kernel_rfl) rfl (by rfl) (fun _ _ _ h => h) hHeld (fun W' hw' => rfl) ?_
        simp only [List.setIfInBounds_toArray, List.set_cons_zero, List.set_cons_succ]
        refine takeVal 4 35 (.pointer (some ⟨g6, 0, none⟩)) rfl (by kernel_rfl) (by kernel_rfl) (by kernel_rfl) rfl (by rfl) (fun _ _ _ h => h) hHeld (fun W' hw' => by go_simp) ?_
        simp only [List.setIfInBounds_toArray, List.set_cons_zero, List.set_cons_succ]
        refine takeVal 5 36 (.int .i64 K) rfl (by kernel_rfl) (by kernel_rfl) (by kernel_rfl) rfl (by rfl) (fun _ _ _ h => h) hHeld (fun W' hw' => by have hc := hK6 W' hw'; go_simp) ?_
        simp only [List.setIfInBounds_toArray, List.set_cons_zero, List.set_cons_succ]
        refine takeVal 6 37 (.bool (K != 0)) rfl (by kernel_rfl) (by kernel_rfl) (by kernel_rfl) rfl (by rfl) (fun _ _ _ h => h) hHeld (fun W' hw' => by go_simp) ?_
        simp only [List.setIfInBounds_toArray, List.set_cons_zero, List.set_cons_succ]
        refine takeVal 7 38 (.bool (K != 0)) rfl (by kernel_rfl) (by kernel_rfl) (by kernel_rfl) rfl (by rfl) (fun _ _ _ h => h) hHeld (fun W' hw' => rfl) ?_
        simp only [List.setIfInBounds_toArray, List.set_cons_zero, List.set_cons_succ]
        refine step1 8 (by kernel_rfl) ?_
        refine stStoreR 8 51 (.tmp 4) (.tmp 31) w.heap.size (NA rz) 51 (NA Zi) rfl rfl (by rfl) rfl rfl rfl (HN2.out) (by rw [szI, NA_size, HRL.out]) (by rw [NA_size, NA_size, Zi_len, HRL.out]) (NA_one _) ?_
        intro w5 hw5
        have h5 := hHeld.trans (kt_new hw5) (c := (· = w.heap.size)) (fun _ _ e => e) (fun _ _ e => e)
        refine ⟨h5, ?_⟩
        refine takeVal 9 5 (.bool (K != 0)) rfl (by kernel_rfl) (by kernel_rfl) (by kernel_rfl) rfl (by rfl) (fun _ _ _ h => h) h5 (fun W' hw' => rfl) ?_
        simp only [List.setIfInBounds_toArray, List.set_cons_zero, List.set_cons_succ]
        refine wpAnyH_done (by kernel_rfl) ?_ _
        refine NoPanic.normal ?_
        go_wp2_with fail
        refine bodyPost_ret (v := .tuple #[.agg (NA rz), .bool (K != 0)]) (results_R Tryz.results23 _ _ w.heap.size _ 51 _ _ Tryz.underlying51 rfl (by rw [szI, NA_size, HRL.out]) rfl rfl hw5.here) rfl ⟨by rw [HKK.out, List.getD_eq_getElem?_getD]; by_cases hk : rz[0]?.getD 0 = 0 <;> simp [hk], (HC2.out.trans (Chg.refl w2 No).drew (c := No) (fun _ _ e => e) (fun _ _ e => e)).trans (kt_new hw5) (fun _ _ e => e) (fun j hj e => by omega)⟩
      · have hre : (re == 0) = false := by simpa using he
        refine takeR 0 31 51 (.tmp 6) g6 51 (NA rz) _ rfl (by kernel_rfl) (by kernel_rfl) (by kernel_rfl) rfl rfl rfl Tryz.underlying51 rfl (by rw [szI, NA_size, HRL.out]) (by rfl) (fun _ _ _ h => h) hHeld (fun W' hw' => hw'.keep HG6.out HNE.out) ?_
        simp only [List.setIfInBounds_toArray, List.set_cons_zero, List.set_cons_succ]
        refine takeVal 1 32 (.int .i64 re) rfl (by kernel_rfl) (by kernel_rfl) (by kernel_rfl) rfl (by rfl) (fun _ _ _ h => h) hHeld (fun W' hw' => rfl) ?_
        simp only [List.setIfInBounds_toArray, List.set_cons_zero, List.set_cons_succ]
        refine takeVal 2 33 (.bool false) rfl (by kernel_rfl) (by kernel_rfl) (by kernel_rfl) rfl (by rfl) (fun _ _ _ h => h) hHeld (fun W' hw' => by go_simp) ?_
        simp only [List.setIfInBounds_toArray, List.set_cons_zero, List.set_cons_succ]
        refine takeVal 3 34 (.bool false) rfl (by kernel_rfl) (by kernel_rfl) (by kernel_rfl) rfl (by rfl) (fun _ _ _ h => h) hHeld (fun W' hw' => rfl) ?_
        simp only [List.setIfInBounds_toArray, List.set_cons_zero, List.set_cons_succ]
        refine takeNot 4 35 rfl (by kernel_rfl) (by kernel_rfl) (by kernel_rfl) rfl (by rfl) (fun _ _ _ h => h) hHeld ?_
        simp only [List.setIfInBounds_toArray, List.set_cons_zero, List.set_cons_succ]
        refine takeNot 5 36 rfl (by kernel_rfl) (by kernel_rfl) (by kernel_rfl) rfl (by rfl) (fun _ _ _ h => h) hHeld ?_
        simp only [List.setIfInBounds_toArray, List.set_cons_zero, List.set_cons_succ]
        refine takeNot 6 37 rfl (by kernel_rfl) (by kernel_rfl) (by kernel_rfl) rfl (by rfl) (fun _ _ _ h => h) hHeld ?_
        simp only [List.setIfInBounds_toArray, List.set_cons_zero, List.set_cons_succ]
        refine takeVal 7 38 (.bool false) rfl (by kernel_rfl) (by kernel_rfl) (by kernel_rfl) rfl (by rfl) (fun _ _ _ h => h) hHeld (fun W' hw' => rfl) ?_
        simp only [List.setIfInBounds_toArray, List.set_cons_zero, List.set_cons_succ]
        refine step1 8 (by kernel_rfl) ?_
        refine stStoreR 8 51 (.tmp 4) (.tmp 31) w.heap.size (NA rz) 51 (NA Zi) rfl rfl (by rfl) rfl rfl rfl (HN2.out) (by rw [szI, NA_size, HRL.out]) (by rw [NA_size, NA_size, Zi_len, HRL.out]) (NA_one _) ?_
        intro w5 hw5
        have h5 := hHeld.trans (kt_new hw5) (c := (· = w.heap.size)) (fun _ _ e => e) (fun _ _ e => e)
        refine ⟨h5, ?_⟩
        refine takeVal 9 5 (.bool false) rfl (by kernel_rfl) (by kernel_rfl) (by kernel_rfl) rfl (by rfl) (fun _ _ _ h => h) h5 (fun W' hw' => rfl) ?_
        simp only [List.setIfInBounds_toArray, List.set_cons_zero, List.set_cons_succ]
        refine wpAnyH_done (by kernel_rfl) ?_ _
        refine NoPanic.normal ?_
        go_wp2_with fail
        refine bodyPost_ret (v := .tuple #[.agg (NA rz), .bool false]) (results_R Tryz.results23 _ _ w.heap.size _ 51 _ _ Tryz.underlying51 rfl (by rw [szI, NA_size, HRL.out]) rfl rfl hw5.here) rfl ⟨by simp, (HC2.out.trans (Chg.refl w2 No).drew (c := No) (fun _ _ e => e) (fun _ _ e => e)).trans (kt_new hw5) (fun _ _ e => e) (fun j hj e => by omega)⟩
    · have HS : Hid (soundZ c.M c.im i = (Zi, false)) := hid (by unfold soundZ; rw [if_neg (by omega)])
      rw [HS.out]
      go_enter Tryz.func23, Tryz.ntmps23
      go_wp2_with (first
        | (refine store_R rfl 51 _ _ rfl w.heap.size (NA Zi) rfl rfl 51 _ HN.out (by rw [szI, NA_size, Zi_len]) rfl (NA_one _) ?_; intro w2 hw2)
        | fail)
      refine bodyPost_ret (v := .tuple #[.agg (NA Zi), .bool false]) (results_R Tryz.results23 _ _ w.heap.size _ 51 _ _ Tryz.underlying51 rfl (by rw [szI, NA_size, Zi_len]) rfl rfl hw2.here) rfl ⟨rfl, HA.out.trans (kt_new hw2) (fun _ _ e => e) (fun j hj e => by omega)⟩
  · have HS : Hid (soundZ c.M c.im i = (Zi, false)) := hid (by unfold soundZ; rw [if_neg (by omega)])
    rw [HS.out]
    go_enter Tryz.func23, Tryz.ntmps23
    go_wp2_with (first
      | (refine store_R rfl 51 _ _ rfl w.heap.size (NA Zi) rfl rfl 51 _ HN.out (by rw [szI, NA_size, Zi_len]) rfl (NA_one _) ?_; intro w2 hw2)
      | fail)
    refine bodyPost_ret (v := .tuple #[.agg (NA Zi), .bool false]) (results_R Tryz.results23 _ _ w.heap.size _ 51 _ _ Tryz.underlying51 rfl (by rw [szI, NA_size, Zi_len]) rfl rfl hw2.here) rfl ⟨rfl, HA.out.trans (kt_new hw2) (fun _ _ e => e) (fun j hj e => by omega)⟩

end Go.Proofs.YtpmignilhoihnaaGreat
