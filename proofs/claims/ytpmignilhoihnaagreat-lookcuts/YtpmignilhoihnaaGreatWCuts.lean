/-
  LookCuts: cut off behind any of the writes, and looked at anew: the same.
-/
import Derived.Test.YtpmignilhoihnaaGreatJC
import Derived.Test.YtpmignilhoihnaaGreatY3
namespace Go.Proofs.YtpmignilhoihnaaGreat
open Go.RowKit Go.Shelf

theorem Chg.aside {w w1 w2 : World} {g : Nat} (h : Chg w w1 No) (k : Chg w1 w2 (fun j => j = g)) (hg : w.heap.size ≤ g) : Chg w w2 No := h.trans k (fun _ _ e => e) (fun j hj e => by omega)
theorem write_few (M : Nat) (im : Img) (s : LS) : (writeI M im s).length ≤ im.length * 3 := by
  rw [writeI_rows, List.length_append, List.length_append]
  have h0 := keysL_len im.length fun x => decide (wrKind M im s.wt s.wp x = 0)
  have h1 := keysL_len im.length fun x => decide (wrKind M im s.wt s.wp x = 1)
  have h2 := keysL_len im.length fun x => decide (wrKind M im s.wt s.wp x = 2)
  unfold rowL
  omega
theorem getD_in {l : List Int} {i : Nat} (h : i < l.length) : l.getD i 0 ∈ l := by
  rw [List.getD_eq_getElem?_getD, List.getElem?_eq_getElem h]
  exact List.getElem_mem h
theorem take_step {l : List Int} {i : Nat} (h : i < l.length) : l.take (i + 1) = l.take i ++ [l.getD i 0] := by
  rw [List.take_succ_eq_append_getElem h, List.getD_eq_getElem?_getD, List.getElem?_eq_getElem h]
  rfl

/-- The look behind some of the writes. -/
structure LkD (w : World) (im : Img) (M k gw : Nat) (a1 a2 a3 : Option Addr) : Prop where
  wt : WtAt w gw (lookL M im).wt
  l1 : LAt w a1 ((writeI M im (lookL M im)).drop k)
  l2 : LAt w a2 (inodesI M (lookL M im))
  l3 : LAt w a3 (blocksI im (lookL M im))
theorem LkD.call {w w' : World} {im : Img} {M k gw : Nat} {a1 a2 a3 : Option Addr} (h : LkD w im M k gw a1 a2 a3) (hc : Chg w w' No) : LkD w' im M k gw a1 a2 a3 := ⟨h.wt.keep hc (fun e => e), h.l1.call hc, h.l2.call hc, h.l3.call hc⟩
theorem look_cut {w0 w1 : World} {im : Img} {M gw s1 : Nat} {a1 a2 a3 : Option Addr} (h : LkC w0 w1 im M gw s1 a1 a2 a3) (g c k : Nat) (w : World) (hw : WtAt w g (cutI M im k)) :
    Calls Tryz.prog 10 #[.slice (some ⟨g, 0, none⟩) im.length c] w fun e w' => Chg w w' No ∧ ∃ gx wc s1 s2 s3 b1 b2 b3, e = .returned (.tuple #[.agg #[.slice (some ⟨gx, 0, none⟩) im.length wc, .slice b1 ((writeI M im (lookL M im)).drop k).length s1, .slice b2 (inodesI M (lookL M im)).length s2, .slice b3 (blocksI im (lookL M im)).length s3], .int .i64 0]) ∧ LkD w' im M k gx b1 b2 b3 := by
  obtain ⟨r1, r2⟩ := cut_look (by have := h.ml; omega) h.sec h.root k
  have hsup := cut_sup h.root k
  have hq := look_c (some ⟨g, 0, none⟩) c (cutI M im k) w (ImgAt.of_wt hw)
  rw [cutI_len] at hq
  refine hq.mono ?_
  rintro e w' ⟨hc, ⟨hn, _⟩ | ⟨M', gx, wc, t1, t2, t3, b1, b2, b3, rfl, hx⟩⟩
  · rw [hsup] at hn
    have := hn h.sup
    rw [← h.hM, r1] at this
    cases this
  · obtain rfl : M' = M := by rw [hx.hM, hsup, ← h.hM]
    have e1 := hx.wt
    have e2 := hx.l1
    have e3 := hx.l2
    have e4 := hx.l3
    have hb : blocksI (cutI M' im k) (lookL M' im) = blocksI im (lookL M' im) := by unfold blocksI; rw [cutI_len]
    rw [r2] at e1 e2 e3 e4 ⊢
    rw [cut_write] at e2 ⊢
    rw [hb] at e4 ⊢
    exact ⟨hc, gx, wc, t1, t2, t3, b1, b2, b3, rfl, e1, e2, e3, e4⟩

set_option maxHeartbeats 4000000 in
set_option maxRecDepth 100000 in
theorem cuts_walk (ia : Option Addr) (ic : Nat) (im : Img) (cut : Int) (W : World) (h : ImgAt W ia im) (hn : im.length ≤ 9223372036854775807) (hcut : I64 cut) :
    Calls Tryz.prog 7 #[.slice ia im.length ic, .int .i64 cut] W fun e w' => e = .returned (.bool true) ∧ Below W.heap.size W w' := by
  have hzr := zero_rep
  have hK := known_any W
  have HI := hid h
  have HCut := hid hcut
  have HLk := hid (fun W' hW => look_c ia ic im W' hW)
  obtain ⟨n, hnn⟩ : ∃ y, y = im.length := ⟨_, rfl⟩
  have HNN := hid hnn
  rw [← hnn] at HLk hn ⊢
  clear h hnn hcut
  go_enter Tryz.func7, Tryz.ntmps7
  go_upto_region 4 with (first
    | (go_at_call 9; go_must (refine hK.mono ?_; rintro e w1 ⟨rfl, hc1⟩; have hLk := HLk.out w1 (HI.out.keep hc1 (fun _ _ e => e))))
    | fail)
  have HC1 := hid hc1
  clear hc1 hK
  go_upto_region 5 with (first
    | (go_at_call 10; go_must (refine hLk.mono ?_; rintro e w2 ⟨hc2, ⟨_, E, hE0, rfl⟩ | ⟨M, gw, wc, s1, s2, s3, a1, a2, a3, rfl, hX⟩⟩))
    | (refine store_R rfl 26 _ _ rfl w2.heap.size nil4 rfl rfl 26 _ (heap_alloc_new _ _) szRep rfl nil4_one ?_; intro w3 hw3)
    | (refine store_R rfl 26 _ _ rfl w2.heap.size #[.slice (some ⟨gw, 0, none⟩) n wc, .slice a1 (writeI M im (lookL M im)).length s1, .slice a2 (inodesI M (lookL M im)).length s2, .slice a3 (blocksI im (lookL M im)).length s3] rfl rfl 26 _ (heap_alloc_new _ _) szRep rfl (rep_one _ _ _ rfl rfl rfl) ?_; intro w3 hw3)
    | fail)
  · have h03 : Chg W w3 No := ((HC1.out.tr hc2).tr (Chg.alloc w2 _ No)).trans (kt_new hw3) (fun _ _ e => e) (fun j hj e => by have := (HC1.out.tr hc2).size; omega)
    have HC3 := hid h03
    clear h03 hw3 hc2 hLk
    rcases hE0 with rfl | rfl
    · go_wp2_with fail
      go_ret
      exact ⟨rfl, HC3.out.below⟩
    · go_wp2_with fail
      go_ret
      exact ⟨rfl, HC3.out.below⟩
  · have h23 : Chg w2 w3 No := (Chg.alloc w2 _ No).trans (kt_new hw3) (fun _ _ e => e) (fun j hj e => by omega)
    have HC3 : Hid (Chg W w3 No) := hid ((HC1.out.tr hc2).tr h23)
    have HX := hid hX
    have HWt := hid (hX.wt.keep h23 (fun e => e))
    have H1 := hid (hX.l1.call h23)
    have H2 := hid (hX.l2.call h23)
    have H3 := hid (hX.l3.call h23)
    have HG3 := hid hw3.here
    obtain ⟨g4, hg4⟩ : ∃ y, y = w2.heap.size := ⟨_, rfl⟩
    rw [← hg4] at HG3 ⊢
    obtain ⟨Wl, hWl⟩ : ∃ y, y = writeI M im (lookL M im) := ⟨_, rfl⟩
    obtain ⟨Il, hIl⟩ : ∃ y, y = inodesI M (lookL M im) := ⟨_, rfl⟩
    obtain ⟨Bl, hBl⟩ : ∃ y, y = blocksI im (lookL M im) := ⟨_, rfl⟩
    have HWl := hid hWl
    have HIl := hid hIl
    have HBl := hid hBl
    rw [← hWl] at HG3 H1 ⊢
    rw [← hIl] at HG3 H2 ⊢
    rw [← hBl] at HG3 H3 ⊢
    have hw1 : Wl.length ≤ 12288 := by rw [hWl]; have := write_few M im (lookL M im); have := hX.n2; omega
    have hl1 := hX.n1
    have hl2 := hX.n2
    rw [← HNN.out] at hl1 hl2
    obtain ⟨wl, hwl⟩ : ∃ y, y = Wl.length := ⟨_, rfl⟩
    obtain ⟨il, hil⟩ : ∃ y, y = Il.length := ⟨_, rfl⟩
    obtain ⟨bl, hbl⟩ : ∃ y, y = Bl.length := ⟨_, rfl⟩
    have HwL := hid hwl
    have HiL := hid hil
    have HbL := hid hbl
    rw [← hwl] at HG3 hw1 ⊢
    rw [← hil] at HG3 ⊢
    rw [← hbl] at HG3 ⊢
    have HQ : Hid (∀ (W' : World) (_hW : Chg w3 W' No), W'.cell? ⟨g4, 0, none⟩ = some (.slice (some ⟨gw, 0, none⟩) n wc) ∧ W'.cell? ⟨g4, 1, none⟩ = some (.slice a1 wl s1) ∧ W'.cell? ⟨g4, 2, none⟩ = some (.slice a2 il s2) ∧ W'.cell? ⟨g4, 3, none⟩ = some (.slice a3 bl s3)) := hid (fun W' hW => by
      have h0 := hW.keep HG3.out (fun e => e)
      exact ⟨(cell_of_row _ _ _ _ _ _ h0).trans rfl, (cell_of_row _ _ _ _ _ _ h0).trans rfl, (cell_of_row _ _ _ _ _ _ h0).trans rfl, (cell_of_row _ _ _ _ _ _ h0).trans rfl⟩)
    obtain ⟨q0, q1, _, _⟩ := HQ.out w3 (Chg.refl _ _)
    have hPk := fun w => pick_any cut ((wl : Int) + 1) w HCut.out (by omega) (by omega)
    obtain ⟨pk, hpk⟩ : ∃ y : Nat, (y : Int) = pickN cut ((wl : Int) + 1) := ⟨(pickN cut ((wl : Int) + 1)).toNat, by have := pickN_bd cut (n := (wl : Int) + 1) (by omega); omega⟩
    have hpb : pk ≤ wl := by have := pickN_bd cut (n := (wl : Int) + 1) (by omega); omega
    rw [← hpk] at hPk
    clear hpk hX h23 hw3 hg4 hc2 hLk hWl hIl hBl hwl hil hbl
    obtain ⟨b, o, hia, hI3⟩ : ∃ b o, ia = some ⟨b, o, none⟩ ∧ ImgAt w3 (some ⟨b, o, none⟩) im := by
      have hI := HI.out.keep HC3.out (fun _ _ e => e)
      obtain ⟨b, o, e, _⟩ := img_range hI (by rw [← HNN.out]; omega)
      rw [e] at hI
      exact ⟨b, o, e, hI⟩
    subst hia
    have HI3 := hid hI3
    clear hI3 HI
    go_upto_region 9 with (first
      | (go_at_call 18; go_must (refine (hPk _).mono ?_; rintro e w4 ⟨rfl, hw4⟩; obtain rfl : w3 = w4 := hw4.symm))
      | (refine wp_appImg rfl _ _ rfl w3.heap.size w3.heap.size b o ic im rfl (by rw [← HNN.out]; rfl) (heap_alloc_new _ _) (Nat.le_refl _) (HI3.out.keep (Chg.alloc w3 _ No) (fun _ _ e => e)) (by rw [← HNN.out]; omega) (by rw [← HNN.out]; omega) ?_; intro gN cN w5 hgN hwN hcN)
      | fail)
    rw [← HNN.out]
    have HC5 : Hid (Chg w3 w5 No) := hid ((Chg.alloc w3 _ No).aside hcN (Nat.le_refl _))
    have h4n : g4 < w3.heap.size := slt HG3.out
    have hgn : gw < w3.heap.size := HWt.out.lt
    have HQ5 : Hid (∀ (W' : World) (_hW : Chg w5 W' (fun j => j = gN)), W'.cell? ⟨g4, 0, none⟩ = some (.slice (some ⟨gw, 0, none⟩) n wc) ∧ W'.cell? ⟨g4, 1, none⟩ = some (.slice a1 wl s1)) := hid (fun W' hW => by
      have h0 := hW.keep (HC5.out.keep HG3.out (fun e => e)) (by omega)
      exact ⟨(cell_of_row _ _ _ _ _ _ h0).trans rfl, (cell_of_row _ _ _ _ _ _ h0).trans rfl⟩)
    have HL5 : Hid (∀ k, k < wl → ∃ ga, a1 = some ⟨ga, 0, none⟩ ∧ ∀ (W' : World) (_hW : Chg w5 W' (fun j => j = gN)), W'.cell? ⟨ga, k, none⟩ = some (.int .i64 (Wl.getD k 0))) := hid (fun k hk => by
      rw [HwL.out] at hk
      rcases H1.out with e | ⟨ga, e, ⟨A, hA⟩, hc⟩
      · rw [e] at hk; simp at hk
      · refine ⟨ga, e, fun W' hW => ?_⟩
        have hl := slt hA
        exact cell_keep (cell_keep (hc k hk) HC5.out hl (fun e => e)) hW (Nat.lt_of_lt_of_le hl HC5.out.size) (by omega))
    have HR5 : Hid (∀ (W' : World) (_hW : Chg w5 W' (fun j => j = gN)) (j : Nat) (_hj : j < n), W'.rangeAt gw (j * 128) ((secI (lookL M im).wt (j : Int)).map (Value.int .u8))) := hid (fun W' hW j hj => ((HWt.out.keep HC5.out (fun e => e)).keep hW (by omega)).range (by rw [HX.out.tl, ← HNN.out]; exact hj))
    have HTs : Hid (∀ j, IsSec (secI (lookL M im).wt j)) := hid (fun j => HWt.out.sec j)
    have HMl : Hid (∀ k, k < wl → ∃ m : Nat, Wl.getD k 0 = (m : Int) ∧ m < n) := hid (fun k hk => by
      have hm : Wl.getD k 0 ∈ Wl := getD_in (by rw [← HwL.out]; exact hk)
      rw [HWl.out] at hm
      obtain ⟨h0, h1, _⟩ := write_in.1 hm
      rw [← HWl.out, ← HNN.out] at h1
      rw [← HWl.out] at h0
      exact ⟨(Wl.getD k 0).toNat, by omega, by omega⟩)
    obtain ⟨T, hT⟩ : ∃ y, y = (lookL M im).wt := ⟨_, rfl⟩
    have HT := hid hT
    rw [← hT] at HR5 HTs
    clear hT q0 q1 hPk
    have HN5 : Hid (WtAt w5 gN (wroteI T (Wl.take 0) im)) := hid hwN
    have HgN := hid hgN
    clear hwN hcN hgN
    go_wp2_with fail
    go_loopw [10] (fun x wr => ∃ k : Nat, x = .int .i64 k ∧ k ≤ pk ∧ Hid (WtAt wr gN (wroteI T (Wl.take k) im)) ∧ Hid (Chg w5 wr (fun j => j = gN))) (fun x _ => pk - (intOf x).toNat)
    case atStart => exact ⟨0, rfl, by omega, HN5, hid (Chg.refl _ _)⟩
    case round =>
      clear HN5
      obtain ⟨k, rfl, hk, HNk, HCk⟩ := hrel
      by_cases hlt : k < pk
      · have hki : (k : Int) < (pk : Int) := by omega
        have hk0 : (0 : Int) ≤ (k : Int) := by omega
        have hkw : (k : Int) < (wl : Int) := by omega
        obtain ⟨q0, q1⟩ := HQ5.out wr HCk.out
        obtain ⟨ga, ha1, hga⟩ := HL5.out k (by omega)
        subst ha1
        obtain ⟨m, hm, hmn⟩ := HMl.out k (by omega)
        rw [hm] at hga
        have c1 := hga wr HCk.out
        have m0 : ¬ (m : Int) < 0 := by omega
        have m1 : ¬ (m : Int) ≥ (n : Int) := by omega
        have m2 : (0 : Int) ≤ (m : Int) := by omega
        have m3 : (m : Int) < (n : Int) := by omega
        obtain ⟨tk, htk⟩ : ∃ y, y = secI T (m : Int) := ⟨_, rfl⟩
        have hR2 := fun W' (hW : Chg wr W' (fun j => j = gN)) => HR5.out W' (HCk.out.trans hW (fun _ _ e => e) (fun _ _ e => e)) m hmn
        have hQ0 := fun W' (hW : Chg wr W' (fun j => j = gN)) => (HQ5.out W' (HCk.out.trans hW (fun _ _ e => e) (fun _ _ e => e))).1
        have hQ1 := fun W' (hW : Chg wr W' (fun j => j = gN)) => (HQ5.out W' (HCk.out.trans hW (fun _ _ e => e) (fun _ _ e => e))).2
        have hA1 := fun W' (hW : Chg wr W' (fun j => j = gN)) => hga W' (HCk.out.trans hW (fun _ _ e => e) (fun _ _ e => e))
        rw [← htk] at hR2
        have HTS : Hid (IsSec tk) := hid (by rw [htk]; exact HTs.out _)
        have HNx : Hid ((wroteI T (Wl.take k) im).set m tk = wroteI T (Wl.take (k + 1)) im) := hid (by
          rw [take_step (by rw [← HwL.out]; omega), wroteI_append, hm, htk]
          rfl)
        clear hga htk hm hlt
        go_upto_region 14 with fail
        refine wp_region_noPanic ?_
        refine wp_region_held_drew (S := fun w' => Chg wr w' (fun j => j = gN)) (by kernel_rfl) (Chg.refl _ _).drew (fun hHeld => ?_)
        refine takeVal 0 66 (.slice (some ⟨gN, 0, none⟩) n cN) rfl (by kernel_rfl) (by kernel_rfl) (by kernel_rfl) rfl (by rfl) (fun _ _ _ h => h) hHeld (fun _ hw' => rfl) ?_
        simp only [List.setIfInBounds_toArray, List.set_cons_zero, List.set_cons_succ]
        refine takeVal 1 67 (.pointer (some ⟨g4, 1, none⟩)) rfl (by kernel_rfl) (by kernel_rfl) (by kernel_rfl) rfl (by rfl) (fun _ _ _ h => h) hHeld (fun _ hw' => by clear hR2 hQ0 hQ1 hA1; go_simp) ?_
        simp only [List.setIfInBounds_toArray, List.set_cons_zero, List.set_cons_succ]
        refine takeVal 2 68 (.slice (some ⟨ga, 0, none⟩) wl s1) rfl (by kernel_rfl) (by kernel_rfl) (by kernel_rfl) rfl (by rfl) (fun _ _ _ h => h) hHeld (fun _ hw' => by have hc := hQ1 _ hw'; clear hR2 hQ0 hQ1 hA1; go_simp) ?_
        simp only [List.setIfInBounds_toArray, List.set_cons_zero, List.set_cons_succ]
        refine takeVal 3 69 (.int .i64 (k : Int)) rfl (by kernel_rfl) (by kernel_rfl) (by kernel_rfl) rfl (by rfl) (fun _ _ _ h => h) hHeld (fun _ hw' => rfl) ?_
        simp only [List.setIfInBounds_toArray, List.set_cons_zero, List.set_cons_succ]
        refine takeVal 4 70 (.pointer (some ⟨ga, k, none⟩)) rfl (by kernel_rfl) (by kernel_rfl) (by kernel_rfl) rfl (by rfl) (fun _ _ _ h => h) hHeld (fun _ hw' => by clear hR2 hQ0 hQ1 hA1; go_simp) ?_
        simp only [List.setIfInBounds_toArray, List.set_cons_zero, List.set_cons_succ]
        refine takeVal 5 71 (.int .i64 (m : Int)) rfl (by kernel_rfl) (by kernel_rfl) (by kernel_rfl) rfl (by rfl) (fun _ _ _ h => h) hHeld (fun _ hw' => by have hc := hA1 _ hw'; clear hR2 hQ0 hQ1 hA1; go_simp) ?_
        simp only [List.setIfInBounds_toArray, List.set_cons_zero, List.set_cons_succ]
        refine takeVal 6 72 (.pointer (some ⟨g4, 0, none⟩)) rfl (by kernel_rfl) (by kernel_rfl) (by kernel_rfl) rfl (by rfl) (fun _ _ _ h => h) hHeld (fun _ hw' => by clear hR2 hQ0 hQ1 hA1; go_simp) ?_
        simp only [List.setIfInBounds_toArray, List.set_cons_zero, List.set_cons_succ]
        refine takeVal 7 73 (.slice (some ⟨gw, 0, none⟩) n wc) rfl (by kernel_rfl) (by kernel_rfl) (by kernel_rfl) rfl (by rfl) (fun _ _ _ h => h) hHeld (fun _ hw' => by have hc := hQ0 _ hw'; clear hR2 hQ0 hQ1 hA1; go_simp) ?_
        simp only [List.setIfInBounds_toArray, List.set_cons_zero, List.set_cons_succ]
        refine takeVal 8 74 (.pointer (some ⟨g4, 1, none⟩)) rfl (by kernel_rfl) (by kernel_rfl) (by kernel_rfl) rfl (by rfl) (fun _ _ _ h => h) hHeld (fun _ hw' => by clear hR2 hQ0 hQ1 hA1; go_simp) ?_
        simp only [List.setIfInBounds_toArray, List.set_cons_zero, List.set_cons_succ]
        refine takeVal 9 75 (.slice (some ⟨ga, 0, none⟩) wl s1) rfl (by kernel_rfl) (by kernel_rfl) (by kernel_rfl) rfl (by rfl) (fun _ _ _ h => h) hHeld (fun _ hw' => by have hc := hQ1 _ hw'; clear hR2 hQ0 hQ1 hA1; go_simp) ?_
        simp only [List.setIfInBounds_toArray, List.set_cons_zero, List.set_cons_succ]
        refine takeVal 10 76 (.int .i64 (k : Int)) rfl (by kernel_rfl) (by kernel_rfl) (by kernel_rfl) rfl (by rfl) (fun _ _ _ h => h) hHeld (fun _ hw' => rfl) ?_
        simp only [List.setIfInBounds_toArray, List.set_cons_zero, List.set_cons_succ]
        refine takeVal 11 77 (.pointer (some ⟨ga, k, none⟩)) rfl (by kernel_rfl) (by kernel_rfl) (by kernel_rfl) rfl (by rfl) (fun _ _ _ h => h) hHeld (fun _ hw' => by clear hR2 hQ0 hQ1 hA1; go_simp) ?_
        simp only [List.setIfInBounds_toArray, List.set_cons_zero, List.set_cons_succ]
        refine takeVal 12 78 (.int .i64 (m : Int)) rfl (by kernel_rfl) (by kernel_rfl) (by kernel_rfl) rfl (by rfl) (fun _ _ _ h => h) hHeld (fun _ hw' => by have hc := hA1 _ hw'; clear hR2 hQ0 hQ1 hA1; go_simp) ?_
        simp only [List.setIfInBounds_toArray, List.set_cons_zero, List.set_cons_succ]
        refine takeVal 13 79 (.pointer (some ⟨gw, m * 128, none⟩)) rfl (by kernel_rfl) (by kernel_rfl) (by kernel_rfl) rfl (by rfl) (fun _ _ _ h => h) hHeld (fun _ hw' => by clear hR2 hQ0 hQ1 hA1; go_simp) ?_
        simp only [List.setIfInBounds_toArray, List.set_cons_zero, List.set_cons_succ]
        refine takeMid 14 80 (.tmp 79) gw (m * 128) tk HTS.out.1 rfl (by kernel_rfl) (by kernel_rfl) (by kernel_rfl) rfl rfl rfl (by rfl) (fun _ _ _ h => h) hHeld (fun _ hw' => hR2 _ hw') ?_
        simp only [List.setIfInBounds_toArray, List.set_cons_zero, List.set_cons_succ]
        refine takeVal 15 81 (.pointer (some ⟨gN, m * 128, none⟩)) rfl (by kernel_rfl) (by kernel_rfl) (by kernel_rfl) rfl (by rfl) (fun _ _ _ h => h) hHeld (fun _ hw' => by clear hR2 hQ0 hQ1 hA1; go_simp) ?_
        simp only [List.setIfInBounds_toArray, List.set_cons_zero, List.set_cons_succ]
        refine step1 16 (by kernel_rfl) ?_
        refine stStoreW 16 (.tmp 81) (.tmp 80) gN m tk (wroteI T (Wl.take k) im) rfl rfl (by rfl) rfl rfl rfl HTS.out (HNk.out.keep (Chg.refl wr No).drew (fun e => e)) (by rw [wroteI_len, ← HNN.out]; exact hmn) ?_
        intro w7 hw7 hc7 hz7
        have hS7 := hHeld.trans hc7 (c := fun j => j = gN) (fun _ _ e => e) (fun _ _ e => e)
        refine ⟨hS7, ?_⟩
        refine wpAnyH_done (by kernel_rfl) ?_ _
        refine NoPanic.normal ?_
        have HC6 : Hid (Chg w5 w7 (fun j => j = gN)) := hid (HCk.out.trans hS7 (fun _ _ e => e) (fun _ _ e => e))
        have HN6 : Hid (WtAt w7 gN (wroteI T (Wl.take (k + 1)) im)) := hid (by rw [← HNx.out]; exact hw7)
        clear hS7 hw7 hz7 hR2 hQ0 hQ1 hA1 q0 q1 c1
        go_wp2_with fail
        exact ⟨⟨k + 1, by go_num, by omega, HN6, HC6⟩, by simp [intOf]; omega⟩
      · have hki : ¬ (k : Int) < (pk : Int) := by omega
        obtain rfl : k = pk := by omega
        have HNc : Hid (WtAt wr gN (cutI M im k)) := hid (by
          have := HNk.out
          rw [HT.out, HWl.out] at this
          exact this)
        have hL2 := look_cut HX.out gN cN k wr HNc.out
        obtain ⟨dl, hdl0⟩ : ∃ y, y = (Wl.drop k).length := ⟨_, rfl⟩
        have hdl : (Wl.drop k).length = wl - k := by rw [List.length_drop, HwL.out]
        rw [← HNN.out, ← HWl.out, ← HIl.out, ← HBl.out, ← hdl0, ← HiL.out, ← HbL.out] at hL2
        have HDl : Hid (dl = wl - k) := hid (hdl0.trans hdl)
        have HDL := hid hdl
        clear hdl hdl0
        have H3r : Hid (Chg w3 wr No) := hid (HC5.out.aside HCk.out HgN.out)
        clear hk HNk
        go_upto_region 16 with (first
          | (go_at_call 10; go_must (refine hL2.mono ?_; rintro e w8 ⟨hc8, gx, xc, t1, t2, t3, b1, b2, b3, rfl, hx8⟩))
          | (refine store_R rfl 26 _ _ rfl w8.heap.size #[.slice (some ⟨gx, 0, none⟩) n xc, .slice b1 dl t1, .slice b2 il t2, .slice b3 bl t3] rfl rfl 26 _ (heap_alloc_new _ _) szRep rfl (rep_one _ _ _ rfl rfl rfl) ?_; intro w9 hw9)
          | fail)
        have h89 : Chg w8 w9 No := (Chg.alloc w8 _ No).trans (kt_new hw9) (fun _ _ e => e) (fun j hj e => by omega)
        have H39 : Hid (Chg w3 w9 No) := hid ((H3r.out.tr hc8).tr h89)
        have HX8 := hid (hx8.call h89)
        have HG9 := hid hw9.here
        obtain ⟨g9, hg9⟩ : ∃ y, y = w8.heap.size := ⟨_, rfl⟩
        rw [← hg9] at HG9 ⊢
        clear hw9 h89 hc8 hx8 hg9 hL2
        have hl4 := rest_at (c := s1) H1.out (by rw [HWl.out]; exact HX.out.c1) k (by rw [← HwL.out]; exact hpb)
        obtain ⟨a4, ha4⟩ : ∃ y, y = (if s1 = k then a1 else Option.map (fun x => x.add k) a1) := ⟨_, rfl⟩
        rw [← ha4] at hl4
        have HA4 := hid ha4
        have hp4 : (k : Int) ≤ (wl : Int) := by omega
        clear ha4
        rw [HDl.out] at HG9 ⊢
        have HP : Hid (∀ (W' : World) (_hW : Chg w9 W' No), W'.cell? ⟨g9, 0, none⟩ = some (.slice (some ⟨gx, 0, none⟩) n xc) ∧ W'.cell? ⟨g9, 1, none⟩ = some (.slice b1 (wl - k) t1) ∧ W'.cell? ⟨g9, 2, none⟩ = some (.slice b2 il t2) ∧ W'.cell? ⟨g9, 3, none⟩ = some (.slice b3 bl t3)) := hid (fun W' hW => by
          have h0 := hW.keep HG9.out (fun e => e)
          exact ⟨(cell_of_row _ _ _ _ _ _ h0).trans rfl, (cell_of_row _ _ _ _ _ _ h0).trans rfl, (cell_of_row _ _ _ _ _ _ h0).trans rfl, (cell_of_row _ _ _ _ _ _ h0).trans rfl⟩)
        have hP0 := fun W' (hW : Chg w9 W' No) => (HP.out W' hW).1
        have hP1 := fun W' (hW : Chg w9 W' No) => (HP.out W' hW).2.1
        have hP2 := fun W' (hW : Chg w9 W' No) => (HP.out W' hW).2.2.1
        have hP3 := fun W' (hW : Chg w9 W' No) => (HP.out W' hW).2.2.2
        have hQ0 := fun W' (hW : Chg w9 W' No) => (HQ.out W' (H39.out.tr hW)).1
        have hQ1 := fun W' (hW : Chg w9 W' No) => (HQ.out W' (H39.out.tr hW)).2.1
        have hQ2 := fun W' (hW : Chg w9 W' No) => (HQ.out W' (H39.out.tr hW)).2.2.1
        have hQ3 := fun W' (hW : Chg w9 W' No) => (HQ.out W' (H39.out.tr hW)).2.2.2
        have HS0 : Hid (∀ (W' : World) (_hW : Chg w9 W' No), Calls Tryz.prog 13 #[.slice (some ⟨gx, 0, none⟩) n xc, .slice (some ⟨gw, 0, none⟩) n wc] W' fun e w' => e = .returned (.bool true) ∧ Chg W' w' No) := hid (fun W' hW => by
          have hq := secs_same (lookL M im).wt (some ⟨gx, 0, none⟩) (some ⟨gw, 0, none⟩) xc wc W' (by rw [HX.out.tl]; have := HX.out.n2; omega) (ImgAt.of_wt (HX8.out.wt.keep hW (fun e => e))) (ImgAt.of_wt (HWt.out.keep (H39.out.tr hW) (fun e => e)))
          rw [HX.out.tl, ← HNN.out] at hq
          exact hq)
        have HS1 : Hid (∀ (W' : World) (_hW : Chg w9 W' No), Calls Tryz.prog 17 #[.slice b1 (wl - k) t1, .slice a4 (wl - k) (s1 - k)] W' fun e w' => e = .returned (.bool true) ∧ Chg W' w' No) := hid (fun W' hW => by
          have hq := ints_like (Wl.drop k) b1 a4 t1 (s1 - k) W' (by rw [HDL.out]; omega) ((LatO.of (by rw [HWl.out]; exact HX8.out.l1)).call hW) (hl4.call (H39.out.tr hW))
          rw [HDL.out] at hq
          exact hq)
        have HS2 : Hid (∀ (W' : World) (_hW : Chg w9 W' No), Calls Tryz.prog 17 #[.slice b2 il t2, .slice a2 il s2] W' fun e w' => e = .returned (.bool true) ∧ Chg W' w' No) := hid (fun W' hW => by
          have hq := ints_like Il b2 a2 t2 s2 W' (by rw [HIl.out]; have := keysL_len (M + 1) fun x => ((lookL M im).tk x).isSome; have := HX.out.ml; have := HX.out.n2; unfold inodesI; omega) ((LatO.of (by rw [HIl.out]; exact HX8.out.l2)).call hW) ((LatO.of H2.out).call (H39.out.tr hW))
          rw [← HiL.out] at hq
          exact hq)
        have HS3 : Hid (∀ (W' : World) (_hW : Chg w9 W' No), Calls Tryz.prog 17 #[.slice b3 bl t3, .slice a3 bl s3] W' fun e w' => e = .returned (.bool true) ∧ Chg W' w' No) := hid (fun W' hW => by
          have hq := ints_like Bl b3 a3 t3 s3 W' (by rw [HBl.out]; have := keysL_len im.length (lookL M im).cl; have := HX.out.n2; unfold blocksI; omega) ((LatO.of (by rw [HBl.out]; exact HX8.out.l3)).call hW) ((LatO.of H3.out).call (H39.out.tr hW))
          rw [← HbL.out] at hq
          exact hq)
        clear hl4
        refine wp_region_noPanic ?_
        refine wp_region_held_drew (S := fun w' => Chg w9 w' No) (by kernel_rfl) (Chg.refl _ _).drew (fun hHeld => ?_)
        refine takeVal 0 87 (.bool true) rfl (by kernel_rfl) (by kernel_rfl) (by kernel_rfl) rfl (by rfl) (fun _ _ _ h => h) hHeld (fun _ hw' => rfl) ?_
        simp only [List.setIfInBounds_toArray, List.set_cons_zero, List.set_cons_succ]
        refine takeVal 1 88 (.bool true) rfl (by kernel_rfl) (by kernel_rfl) (by kernel_rfl) rfl (by rfl) (fun _ _ _ h => h) hHeld (fun _ hw' => rfl) ?_
        simp only [List.setIfInBounds_toArray, List.set_cons_zero, List.set_cons_succ]
        refine takeVal 2 89 (.int .i64 0) rfl (by kernel_rfl) (by kernel_rfl) (by kernel_rfl) rfl (by rfl) (fun _ _ _ h => h) hHeld (fun _ hw' => rfl) ?_
        simp only [List.setIfInBounds_toArray, List.set_cons_zero, List.set_cons_succ]
        refine takeVal 3 90 (.bool true) rfl (by kernel_rfl) (by kernel_rfl) (by kernel_rfl) rfl (by rfl) (fun _ _ _ h => h) hHeld (fun _ hw' => by clear hP0 hP1 hP2 hP3 hQ0 hQ1 hQ2 hQ3; go_simp) ?_
        simp only [List.setIfInBounds_toArray, List.set_cons_zero, List.set_cons_succ]
        refine takeVal 4 91 (.bool true) rfl (by kernel_rfl) (by kernel_rfl) (by kernel_rfl) rfl (by rfl) (fun _ _ _ h => h) hHeld (fun _ hw' => rfl) ?_
        simp only [List.setIfInBounds_toArray, List.set_cons_zero, List.set_cons_succ]
        refine takeVal 5 92 (.bool true) rfl (by kernel_rfl) (by kernel_rfl) (by kernel_rfl) rfl (by rfl) (fun _ _ _ h => h) hHeld (fun _ hw' => rfl) ?_
        simp only [List.setIfInBounds_toArray, List.set_cons_zero, List.set_cons_succ]
        refine takeVal 6 93 (.pointer (some ⟨g9, 0, none⟩)) rfl (by kernel_rfl) (by kernel_rfl) (by kernel_rfl) rfl (by rfl) (fun _ _ _ h => h) hHeld (fun _ hw' => by clear hP0 hP1 hP2 hP3 hQ0 hQ1 hQ2 hQ3; go_simp) ?_
        simp only [List.setIfInBounds_toArray, List.set_cons_zero, List.set_cons_succ]
        refine takeVal 7 94 (.slice (some ⟨gx, 0, none⟩) n xc) rfl (by kernel_rfl) (by kernel_rfl) (by kernel_rfl) rfl (by rfl) (fun _ _ _ h => h) hHeld (fun _ hw' => by have hc := hP0 _ hw'; clear hP0 hP1 hP2 hP3 hQ0 hQ1 hQ2 hQ3; go_simp) ?_
        simp only [List.setIfInBounds_toArray, List.set_cons_zero, List.set_cons_succ]
        refine takeVal 8 95 (.pointer (some ⟨g4, 0, none⟩)) rfl (by kernel_rfl) (by kernel_rfl) (by kernel_rfl) rfl (by rfl) (fun _ _ _ h => h) hHeld (fun _ hw' => by clear hP0 hP1 hP2 hP3 hQ0 hQ1 hQ2 hQ3; go_simp) ?_
        simp only [List.setIfInBounds_toArray, List.set_cons_zero, List.set_cons_succ]
        refine takeVal 9 96 (.slice (some ⟨gw, 0, none⟩) n wc) rfl (by kernel_rfl) (by kernel_rfl) (by kernel_rfl) rfl (by rfl) (fun _ _ _ h => h) hHeld (fun _ hw' => by have hc := hQ0 _ hw'; clear hP0 hP1 hP2 hP3 hQ0 hQ1 hQ2 hQ3; go_simp) ?_
        simp only [List.setIfInBounds_toArray, List.set_cons_zero, List.set_cons_succ]
        refine step1 10 (by kernel_rfl) ?_
        refine stCall 10 97 13 #[.slice (some ⟨gx, 0, none⟩) n xc, .slice (some ⟨gw, 0, none⟩) n wc] _ rfl rfl (by rfl) (by clear hP0 hP1 hP2 hP3 hQ0 hQ1 hQ2 hQ3; go_simp) (HS0.out _ hHeld) ?_
        rintro e w10 ⟨rfl, hcc⟩
        refine ⟨_, rfl, hHeld.tr hcc, ?_⟩
        replace hHeld := hHeld.tr hcc
        clear hcc
        simp only [List.setIfInBounds_toArray, List.set_cons_zero, List.set_cons_succ]
        refine takeVal 11 98 (.bool true) rfl (by kernel_rfl) (by kernel_rfl) (by kernel_rfl) rfl (by rfl) (fun _ _ _ h => h) hHeld (fun _ hw' => rfl) ?_
        simp only [List.setIfInBounds_toArray, List.set_cons_zero, List.set_cons_succ]
        refine takeVal 12 99 (.bool true) rfl (by kernel_rfl) (by kernel_rfl) (by kernel_rfl) rfl (by rfl) (fun _ _ _ h => h) hHeld (fun _ hw' => rfl) ?_
        simp only [List.setIfInBounds_toArray, List.set_cons_zero, List.set_cons_succ]
        refine takeVal 13 100 (.pointer (some ⟨g9, 1, none⟩)) rfl (by kernel_rfl) (by kernel_rfl) (by kernel_rfl) rfl (by rfl) (fun _ _ _ h => h) hHeld (fun _ hw' => by clear hP0 hP1 hP2 hP3 hQ0 hQ1 hQ2 hQ3; go_simp) ?_
        simp only [List.setIfInBounds_toArray, List.set_cons_zero, List.set_cons_succ]
        refine takeVal 14 101 (.slice b1 (wl - k) t1) rfl (by kernel_rfl) (by kernel_rfl) (by kernel_rfl) rfl (by rfl) (fun _ _ _ h => h) hHeld (fun _ hw' => by have hc := hP1 _ hw'; clear hP0 hP1 hP2 hP3 hQ0 hQ1 hQ2 hQ3; go_simp) ?_
        simp only [List.setIfInBounds_toArray, List.set_cons_zero, List.set_cons_succ]
        refine takeVal 15 102 (.pointer (some ⟨g4, 1, none⟩)) rfl (by kernel_rfl) (by kernel_rfl) (by kernel_rfl) rfl (by rfl) (fun _ _ _ h => h) hHeld (fun _ hw' => by clear hP0 hP1 hP2 hP3 hQ0 hQ1 hQ2 hQ3; go_simp) ?_
        simp only [List.setIfInBounds_toArray, List.set_cons_zero, List.set_cons_succ]
        refine takeVal 16 103 (.slice a1 wl s1) rfl (by kernel_rfl) (by kernel_rfl) (by kernel_rfl) rfl (by rfl) (fun _ _ _ h => h) hHeld (fun _ hw' => by have hc := hQ1 _ hw'; clear hP0 hP1 hP2 hP3 hQ0 hQ1 hQ2 hQ3; go_simp) ?_
        simp only [List.setIfInBounds_toArray, List.set_cons_zero, List.set_cons_succ]
        refine takeVal 17 104 (.int .i64 (k : Int)) rfl (by kernel_rfl) (by kernel_rfl) (by kernel_rfl) rfl (by rfl) (fun _ _ _ h => h) hHeld (fun _ hw' => rfl) ?_
        simp only [List.setIfInBounds_toArray, List.set_cons_zero, List.set_cons_succ]
        refine takeVal 18 105 (.slice a4 (wl - k) (s1 - k)) rfl (by kernel_rfl) (by kernel_rfl) (by kernel_rfl) rfl (by rfl) (fun _ _ _ h => h) hHeld (fun _ hw' => by have h4 := HA4.out; clear hP0 hP1 hP2 hP3 hQ0 hQ1 hQ2 hQ3; subst h4; go_simp) ?_
        simp only [List.setIfInBounds_toArray, List.set_cons_zero, List.set_cons_succ]
        refine step1 19 (by kernel_rfl) ?_
        refine stCall 19 106 17 #[.slice b1 (wl - k) t1, .slice a4 (wl - k) (s1 - k)] _ rfl rfl (by rfl) (by clear hP0 hP1 hP2 hP3 hQ0 hQ1 hQ2 hQ3; go_simp) (HS1.out _ hHeld) ?_
        rintro e w11 ⟨rfl, hcc⟩
        refine ⟨_, rfl, hHeld.tr hcc, ?_⟩
        replace hHeld := hHeld.tr hcc
        clear hcc
        simp only [List.setIfInBounds_toArray, List.set_cons_zero, List.set_cons_succ]
        refine takeVal 20 107 (.bool true) rfl (by kernel_rfl) (by kernel_rfl) (by kernel_rfl) rfl (by rfl) (fun _ _ _ h => h) hHeld (fun _ hw' => rfl) ?_
        simp only [List.setIfInBounds_toArray, List.set_cons_zero, List.set_cons_succ]
        refine takeVal 21 108 (.bool true) rfl (by kernel_rfl) (by kernel_rfl) (by kernel_rfl) rfl (by rfl) (fun _ _ _ h => h) hHeld (fun _ hw' => rfl) ?_
        simp only [List.setIfInBounds_toArray, List.set_cons_zero, List.set_cons_succ]
        refine takeVal 22 109 (.pointer (some ⟨g9, 2, none⟩)) rfl (by kernel_rfl) (by kernel_rfl) (by kernel_rfl) rfl (by rfl) (fun _ _ _ h => h) hHeld (fun _ hw' => by clear hP0 hP1 hP2 hP3 hQ0 hQ1 hQ2 hQ3; go_simp) ?_
        simp only [List.setIfInBounds_toArray, List.set_cons_zero, List.set_cons_succ]
        refine takeVal 23 110 (.slice b2 il t2) rfl (by kernel_rfl) (by kernel_rfl) (by kernel_rfl) rfl (by rfl) (fun _ _ _ h => h) hHeld (fun _ hw' => by have hc := hP2 _ hw'; clear hP0 hP1 hP2 hP3 hQ0 hQ1 hQ2 hQ3; go_simp) ?_
        simp only [List.setIfInBounds_toArray, List.set_cons_zero, List.set_cons_succ]
        refine takeVal 24 111 (.pointer (some ⟨g4, 2, none⟩)) rfl (by kernel_rfl) (by kernel_rfl) (by kernel_rfl) rfl (by rfl) (fun _ _ _ h => h) hHeld (fun _ hw' => by clear hP0 hP1 hP2 hP3 hQ0 hQ1 hQ2 hQ3; go_simp) ?_
        simp only [List.setIfInBounds_toArray, List.set_cons_zero, List.set_cons_succ]
        refine takeVal 25 112 (.slice a2 il s2) rfl (by kernel_rfl) (by kernel_rfl) (by kernel_rfl) rfl (by rfl) (fun _ _ _ h => h) hHeld (fun _ hw' => by have hc := hQ2 _ hw'; clear hP0 hP1 hP2 hP3 hQ0 hQ1 hQ2 hQ3; go_simp) ?_
        simp only [List.setIfInBounds_toArray, List.set_cons_zero, List.set_cons_succ]
        refine step1 26 (by kernel_rfl) ?_
        refine stCall 26 113 17 #[.slice b2 il t2, .slice a2 il s2] _ rfl rfl (by rfl) (by clear hP0 hP1 hP2 hP3 hQ0 hQ1 hQ2 hQ3; go_simp) (HS2.out _ hHeld) ?_
        rintro e w12 ⟨rfl, hcc⟩
        refine ⟨_, rfl, hHeld.tr hcc, ?_⟩
        replace hHeld := hHeld.tr hcc
        clear hcc
        simp only [List.setIfInBounds_toArray, List.set_cons_zero, List.set_cons_succ]
        refine takeVal 27 114 (.bool true) rfl (by kernel_rfl) (by kernel_rfl) (by kernel_rfl) rfl (by rfl) (fun _ _ _ h => h) hHeld (fun _ hw' => rfl) ?_
        simp only [List.setIfInBounds_toArray, List.set_cons_zero, List.set_cons_succ]
        refine takeVal 28 115 (.bool true) rfl (by kernel_rfl) (by kernel_rfl) (by kernel_rfl) rfl (by rfl) (fun _ _ _ h => h) hHeld (fun _ hw' => rfl) ?_
        simp only [List.setIfInBounds_toArray, List.set_cons_zero, List.set_cons_succ]
        refine takeVal 29 116 (.pointer (some ⟨g9, 3, none⟩)) rfl (by kernel_rfl) (by kernel_rfl) (by kernel_rfl) rfl (by rfl) (fun _ _ _ h => h) hHeld (fun _ hw' => by clear hP0 hP1 hP2 hP3 hQ0 hQ1 hQ2 hQ3; go_simp) ?_
        simp only [List.setIfInBounds_toArray, List.set_cons_zero, List.set_cons_succ]
        refine takeVal 30 117 (.slice b3 bl t3) rfl (by kernel_rfl) (by kernel_rfl) (by kernel_rfl) rfl (by rfl) (fun _ _ _ h => h) hHeld (fun _ hw' => by have hc := hP3 _ hw'; clear hP0 hP1 hP2 hP3 hQ0 hQ1 hQ2 hQ3; go_simp) ?_
        simp only [List.setIfInBounds_toArray, List.set_cons_zero, List.set_cons_succ]
        refine takeVal 31 118 (.pointer (some ⟨g4, 3, none⟩)) rfl (by kernel_rfl) (by kernel_rfl) (by kernel_rfl) rfl (by rfl) (fun _ _ _ h => h) hHeld (fun _ hw' => by clear hP0 hP1 hP2 hP3 hQ0 hQ1 hQ2 hQ3; go_simp) ?_
        simp only [List.setIfInBounds_toArray, List.set_cons_zero, List.set_cons_succ]
        refine takeVal 32 119 (.slice a3 bl s3) rfl (by kernel_rfl) (by kernel_rfl) (by kernel_rfl) rfl (by rfl) (fun _ _ _ h => h) hHeld (fun _ hw' => by have hc := hQ3 _ hw'; clear hP0 hP1 hP2 hP3 hQ0 hQ1 hQ2 hQ3; go_simp) ?_
        simp only [List.setIfInBounds_toArray, List.set_cons_zero, List.set_cons_succ]
        refine step1 33 (by kernel_rfl) ?_
        refine stCall 33 120 17 #[.slice b3 bl t3, .slice a3 bl s3] _ rfl rfl (by rfl) (by clear hP0 hP1 hP2 hP3 hQ0 hQ1 hQ2 hQ3; go_simp) (HS3.out _ hHeld) ?_
        rintro e w13 ⟨rfl, hcc⟩
        refine ⟨_, rfl, hHeld.tr hcc, ?_⟩
        replace hHeld := hHeld.tr hcc
        clear hcc
        simp only [List.setIfInBounds_toArray, List.set_cons_zero, List.set_cons_succ]
        refine takeVal 34 121 (.bool true) rfl (by kernel_rfl) (by kernel_rfl) (by kernel_rfl) rfl (by rfl) (fun _ _ _ h => h) hHeld (fun _ hw' => rfl) ?_
        simp only [List.setIfInBounds_toArray, List.set_cons_zero, List.set_cons_succ]
        refine takeVal 35 4 (.bool true) rfl (by kernel_rfl) (by kernel_rfl) (by kernel_rfl) rfl (by rfl) (fun _ _ _ h => h) hHeld (fun _ hw' => rfl) ?_
        simp only [List.setIfInBounds_toArray, List.set_cons_zero, List.set_cons_succ]
        refine wpAnyH_done (by kernel_rfl) ?_ _
        refine NoPanic.normal ?_
        have HCf : Hid (Chg W w13 No) := hid (HC3.out.tr (H39.out.tr hHeld))
        clear hHeld hP0 hP1 hP2 hP3 hQ0 hQ1 hQ2 hQ3
        go_wp2_with fail
        go_ret
        exact ⟨rfl, HCf.out.below⟩

end Go.Proofs.YtpmignilhoihnaaGreat
